/-
  A slice of transactions among the arguments: it reads as a list of transactions, each with its own slice of events.
  Conditions: none beyond those that each theorem states.
-/
import Derived.Test.YtkeaibngofbkhaaGrMem
namespace Go.Proofs.Ytkeaibngofbkhaa
open Go.ChangeShapes Go.WideShapes Go.ChangeAt Go.RowKit Go.Joins Go.Deep

section
variable {H : Type} {enc : TypeId × Value → H} {w : World} {base : Nat} {r : Reach} {b0 : Nat}
/-- Four cells that read as a transaction are a transaction's. -/
theorem cells_tx {fuel : Nat} {cs : List Value} {x : DataW H × List MemPlace} (h : DataW.trod enc Try.prog w base (fun _ => true) true fuel 26 cs = some x) : ∃ y : Gr.Tx × Value, cs = txC y ∧ Evs w y.2 y.1.ops := by
  obtain ⟨xs, n, _, _, hlen, hl, hg⟩ := DataW.trod_struct Try.underlying26 h
  have h4 : cs.length = 4 := hlen.trans (by kernel_rfl)
  match cs, h4 with
  | [c0, c1, c2, c3], _ =>
    have ci : Try.prog.cellsOf 3 = 1 := by kernel_rfl
    have cb : Try.prog.cellsOf 4 = 1 := by kernel_rfl
    have cl : Try.prog.cellsOf 22 = 1 := by kernel_rfl
    have g0 : DataW.trod enc Try.prog w base (fun _ => true) true n 3 (([c0, c1, c2, c3].drop 0).take (Try.prog.cellsOf 3)) = xs[0]? := hg 0 _ rfl
    have g1 : DataW.trod enc Try.prog w base (fun _ => true) true n 4 (([c0, c1, c2, c3].drop 1).take (Try.prog.cellsOf 4)) = xs[1]? := hg 1 _ rfl
    have g2 : DataW.trod enc Try.prog w base (fun _ => true) true n 3 (([c0, c1, c2, c3].drop 2).take (Try.prog.cellsOf 3)) = xs[2]? := hg 2 _ rfl
    have g3 : DataW.trod enc Try.prog w base (fun _ => true) true n 22 (([c0, c1, c2, c3].drop 3).take (Try.prog.cellsOf 22)) = xs[3]? := hg 3 _ rfl
    simp only [ci, cb, cl, List.drop_zero, List.drop_succ_cons, List.take_succ_cons, List.take_zero] at g0 g1 g2 g3
    have hx : xs.length = 4 := hl
    rw [List.getElem?_eq_getElem (by omega)] at g0 g1 g2 g3
    obtain ⟨z0, e0, _⟩ := DataW.trod_int Try.underlying3 g0
    obtain ⟨z1, e1, _⟩ := DataW.trod_bool Try.underlying4 g1
    obtain ⟨z2, e2, _⟩ := DataW.trod_int Try.underlying3 g2
    obtain ⟨A, m, c, e3, l, he, _⟩ := cells_evs Try.underlying22 g3
    cases e0
    cases e1
    cases e2
    cases e3
    exact ⟨(⟨z0, z1, z2, l⟩, .slice A m c), rfl, he⟩

/-- A slice of transactions among the arguments. -/
theorem arg_txs {t : TypeId} {v : Value} {d : DataW H} {ps : List MemPlace} (ht : Try.prog.underlying t = some (.slice 26)) (hval : Value.okWide Try.prog w r b0 t v) (h : DataW.Trod enc Try.prog w base (fun _ => true) true t v d ps) :
    ∃ l : List Gr.Tx, Txs w v l := by
  obtain ⟨a0, len0, cap0, rfl⟩ := okWide_slice ht hval
  obtain ⟨fuel, hf⟩ := h
  have ce : Try.prog.cellsOf 26 = 4 := by kernel_rfl
  rcases open_slice ht hf with ⟨hcs, _⟩ | ⟨a, len, cap, m, n, D, Pl, hcs, _, hl, hm, hmm, _, hi⟩
  · simp [Value.cells] at hcs
    obtain ⟨rfl, rfl, rfl⟩ := hcs
    exact ⟨[], Txs.nil _ _⟩
  · simp [Value.cells] at hcs
    obtain ⟨rfl, rfl, rfl⟩ := hcs
    simp only [if_true] at hmm
    have hall : ∀ k, k < len0 → ∃ y : Gr.Tx × Value, (∀ j, j < 4 → w.cell? (a.add (k * 4 + j)) = (txC y)[j]?) ∧ Evs w y.2 y.1.ops := fun k hk => by
      obtain ⟨cs', hc, ht'⟩ := hi k (by omega)
      rw [ce] at hc
      obtain ⟨y, rfl, hev⟩ := cells_tx ht'
      obtain ⟨_, _, hat⟩ := World.cells?_some hc
      exact ⟨y, fun j hj => by rw [← Go.Deep.add_add]; exact hat j hj, hev⟩
    have hinh : Inhabited (Gr.Tx × Value) := ⟨(⟨0, false, 0, []⟩, .slice none 0 0)⟩
    obtain ⟨f, hfn⟩ := choose_lt hall
    have hlen : ((List.range len0).map f).length = len0 := by simp
    refine ⟨((List.range len0).map f).map (·.1), (List.range len0).map f, rfl, ?_, fun x hx => ?_⟩
    · rw [hlen]
      refine ⟨by rw [four_len txC_len, hlen], some a, cap0, rfl, hl, fun h => (by cases h), fun hn => ⟨a, rfl, ?_, fun j u hu => ?_⟩⟩
      · have h0 := (hfn 0 hn).1 0 (by omega)
        rw [Nat.zero_mul, Nat.zero_add, add_zero'] at h0
        exact World.block_lt_of_cell? w a (u := .int .i64 (f 0).1.session) h0
      · have hj : j < len0 * 4 := by
          have := (List.getElem?_eq_some_iff.1 hu).1
          rw [four_len txC_len, hlen] at this
          exact this
        have hk : j / 4 < len0 := by omega
        have e1 : j / 4 * 4 + j % 4 = j := by omega
        have h1 := four_at txC_len ((List.range len0).map f) (j / 4) (by rw [hlen]; exact hk) (j % 4) (by omega)
        rw [e1, hu] at h1
        have h2 := (hfn (j / 4) hk).1 (j % 4) (by omega)
        rw [e1] at h2
        rw [h2, h1]
        simp
    · obtain ⟨k, hk, rfl⟩ := List.mem_map.1 hx
      exact (hfn k (List.mem_range.1 hk)).2
end
end Go.Proofs.Ytkeaibngofbkhaa
