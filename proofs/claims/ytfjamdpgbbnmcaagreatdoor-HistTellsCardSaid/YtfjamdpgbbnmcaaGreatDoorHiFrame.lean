/-
  A history among the arguments: it reads as a list of transactions, each with its own rows of keys and of reads.
  Conditions: none beyond those that each theorem states.
-/
import Derived.Test.YtfjamdpgbbnmcaaGreatDoorSoAll
import Derived.Test.YtfjamdpgbbnmcaaGreatDoorGrAll
set_option maxRecDepth 4000
namespace Go.Proofs.YtfjamdpgbbnmcaaGreatDoor
open Go.ChangeShapes Go.WideShapes Go.ChangeAt Go.RowKit Go.Joins Go.Deep

section
variable {H : Type} {enc : TypeId × Value → H} {w : World} {base : Nat} {r : Reach} {b0 : Nat}
/-- One cell that reads as an integer is an integer's. -/
theorem cells_n {fuel : Nat} {cs : List Value} {x : DataW H × List MemPlace} (h : DataW.trod enc Tryz.prog w base (fun _ => true) true fuel 3 cs = some x) : ∃ y : Int, cs = nC y ∧ True := by
  obtain ⟨z, e, _⟩ := DataW.trod_int Tryz.underlying3 h
  exact ⟨z, e, trivial⟩
/-- Two cells that read as a read are a read's. -/
theorem cells_take {fuel : Nat} {cs : List Value} {x : DataW H × List MemPlace} (h : DataW.trod enc Tryz.prog w base (fun _ => true) true fuel 40 cs = some x) : ∃ y : Int × Int, cs = itC y ∧ True := by
  obtain ⟨xs, n, _, _, hlen, hl, hg⟩ := DataW.trod_struct Tryz.underlying40 h
  have h2 : cs.length = 2 := hlen.trans (by kernel_rfl)
  match cs, h2 with
  | [c0, c1], _ =>
    have ci : Tryz.prog.cellsOf 3 = 1 := by kernel_rfl
    have g0 : DataW.trod enc Tryz.prog w base (fun _ => true) true n 3 (([c0, c1].drop 0).take (Tryz.prog.cellsOf 3)) = xs[0]? := hg 0 _ rfl
    have g1 : DataW.trod enc Tryz.prog w base (fun _ => true) true n 3 (([c0, c1].drop 1).take (Tryz.prog.cellsOf 3)) = xs[1]? := hg 1 _ rfl
    simp only [ci, List.drop_zero, List.drop_succ_cons, List.take_succ_cons, List.take_zero] at g0 g1
    have hx : xs.length = 2 := hl
    rw [List.getElem?_eq_getElem (by omega)] at g0 g1
    obtain ⟨z0, e0, _⟩ := DataW.trod_int Tryz.underlying3 g0
    obtain ⟨z1, e1, _⟩ := DataW.trod_int Tryz.underlying3 g1
    cases e0
    cases e1
    exact ⟨(z0, z1), rfl, trivial⟩
/-- Three cells that read as a transaction of a history are one's. -/
theorem cells_txn {fuel : Nat} {cs : List Value} {x : DataW H × List MemPlace} (h : DataW.trod enc Tryz.prog w base (fun _ => true) true fuel 38 cs = some x) : ∃ y : So.Txn × Value × Value, cs = txnC y ∧ (Ns w y.2.1 y.1.writes ∧ Its w y.2.2 y.1.reads) := by
  obtain ⟨xs, n, _, _, hlen, hl, hg⟩ := DataW.trod_struct Tryz.underlying38 h
  have h3 : cs.length = 3 := hlen.trans (by kernel_rfl)
  match cs, h3 with
  | [c0, c1, c2], _ =>
    have ci : Tryz.prog.cellsOf 3 = 1 := by kernel_rfl
    have cn : Tryz.prog.cellsOf 35 = 1 := by kernel_rfl
    have ct : Tryz.prog.cellsOf 36 = 1 := by kernel_rfl
    have g0 : DataW.trod enc Tryz.prog w base (fun _ => true) true n 3 (([c0, c1, c2].drop 0).take (Tryz.prog.cellsOf 3)) = xs[0]? := hg 0 _ rfl
    have g1 : DataW.trod enc Tryz.prog w base (fun _ => true) true n 35 (([c0, c1, c2].drop 1).take (Tryz.prog.cellsOf 35)) = xs[1]? := hg 1 _ rfl
    have g2 : DataW.trod enc Tryz.prog w base (fun _ => true) true n 36 (([c0, c1, c2].drop 2).take (Tryz.prog.cellsOf 36)) = xs[2]? := hg 2 _ rfl
    simp only [ci, cn, ct, List.drop_zero, List.drop_succ_cons, List.take_succ_cons, List.take_zero] at g0 g1 g2
    have hx : xs.length = 3 := hl
    rw [List.getElem?_eq_getElem (by omega)] at g0 g1 g2
    obtain ⟨z0, e0, _⟩ := DataW.trod_int Tryz.underlying3 g0
    obtain ⟨A1, m1, c1', e1, l1, h1, _⟩ := cells_rows nC_len (by omega) (fun _ => True) (by kernel_rfl) Tryz.underlying35 (fun _ _ _ h => cells_n h) g1
    obtain ⟨A2, m2, c2', e2, l2, h2, _⟩ := cells_rows itC_len (by omega) (fun _ => True) (by kernel_rfl) Tryz.underlying36 (fun _ _ _ h => cells_take h) g2
    cases e0
    cases e1
    cases e2
    exact ⟨(⟨z0, l1, l2⟩, .slice A1 m1 c1', .slice A2 m2 c2'), rfl, h1, h2⟩
/-- A row of such. -/
theorem cells_txns {fuel : Nat} {cs : List Value} {x : DataW H × List MemPlace} (h : DataW.trod enc Tryz.prog w base (fun _ => true) true fuel 22 cs = some x) : ∃ (v : Value) (l : List So.Txn), cs = [v] ∧ Txns w v l := by
  have hinh : Inhabited (So.Txn × Value × Value) := ⟨(⟨0, [], []⟩, .slice none 0 0, .slice none 0 0)⟩
  obtain ⟨A, m, c, e, l, h1, _, h3⟩ := cells_rows txnC_len (by omega) (fun y : So.Txn × Value × Value => Ns w y.2.1 y.1.writes ∧ Its w y.2.2 y.1.reads) (by kernel_rfl) Tryz.underlying22 (fun _ _ _ h => cells_txn h) h
  exact ⟨_, l.map (·.1), e, l, rfl, h1, h3⟩
/-- A history among the arguments. -/
theorem arg_hist {v : Value} {d : DataW H} {ps : List MemPlace} (hval : Value.okWide Tryz.prog w r b0 24 v) (h : DataW.Trod enc Tryz.prog w base (fun _ => true) true 24 v d ps) : ∃ (u : Value) (l : List So.Txn), v = .agg #[u] ∧ Txns w u l := by
  obtain ⟨cs, rfl, hsz⟩ := okWide_struct Tryz.underlying24 hval
  obtain ⟨fuel, hf⟩ := h
  obtain ⟨xs, n, _, _, hlen, hl, hg⟩ := DataW.trod_struct Tryz.underlying24 hf
  have hc : cs.toList.length = 1 := hlen.trans (by kernel_rfl)
  obtain ⟨cl⟩ := cs
  match cl, hc with
  | [c0], _ =>
    have ct : Tryz.prog.cellsOf 22 = 1 := by kernel_rfl
    have g0 : DataW.trod enc Tryz.prog w base (fun _ => true) true n 22 (([c0].drop 0).take (Tryz.prog.cellsOf 22)) = xs[0]? := hg 0 _ rfl
    simp only [ct, List.drop_zero, List.take_succ_cons, List.take_zero] at g0
    have hx : xs.length = 1 := hl
    rw [List.getElem?_eq_getElem (by omega)] at g0
    obtain ⟨u, l, e, ht⟩ := cells_txns g0
    cases e
    exact ⟨_, l, rfl, ht⟩
end
end Go.Proofs.YtfjamdpgbbnmcaaGreatDoor
