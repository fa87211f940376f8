/-
  A graph among the arguments: a number, and a row of sets.
  Conditions: none beyond those that each theorem states.
-/
import Derived.Test.YtcpiaddohiokkaaLow
import Derived.Test.YtcpiaddohiokkaaGfMem
import Derived.Test.YtcpiaddohiokkaaBiAll
import Derived.Lib.SmallJoins
set_option maxRecDepth 4000
namespace Go.Proofs.Ytcpiaddohiokkaa
open Go.ChangeShapes Go.WideShapes Go.ChangeAt Go.RowKit Go.Joins Go.Deep

section
variable {H : Type} {enc : TypeId × Value → H} {w : World} {base : Nat} {r : Reach} {b0 : Nat}
theorem gf_set {fuel : Nat} {cs : List Value} {x : DataW H × List MemPlace} (h : DataW.trod enc Try.prog w base (fun _ => true) true fuel 49 cs = some x) : ∃ y : Nat, cs = uC y ∧ y < 18446744073709551616 := by
  obtain ⟨z, e, _, hw⟩ := DataW.trod_int Try.underlying49 h
  obtain ⟨m, rfl, hm⟩ := u64_wf hw
  exact ⟨m, e, hm⟩
theorem arg_graph {v : Value} {d : DataW H} {ps : List MemPlace} (hval : Value.okWide Try.prog w r b0 24 v) (h : DataW.Trod enc Try.prog w base (fun _ => true) true 24 v d ps) : ∃ (n : Int) (u : Value) (l : List Nat), v = .agg #[.int .i64 n, u] ∧ Us w u l ∧ ∀ x ∈ l, x < 18446744073709551616 := by
  obtain ⟨cs, rfl, hsz⟩ := okWide_struct Try.underlying24 hval
  obtain ⟨fuel, hf⟩ := h
  obtain ⟨xs, n, _, _, hlen, hl, hg⟩ := DataW.trod_struct Try.underlying24 hf
  have hc : cs.toList.length = 2 := hlen.trans (by kernel_rfl)
  obtain ⟨cl⟩ := cs
  match cl, hc with
  | [c0, c1], _ =>
    have ci : Try.prog.cellsOf 3 = 1 := by kernel_rfl
    have cu : Try.prog.cellsOf 22 = 1 := by kernel_rfl
    have g0 : DataW.trod enc Try.prog w base (fun _ => true) true n 3 (([c0, c1].drop 0).take (Try.prog.cellsOf 3)) = xs[0]? := hg 0 _ rfl
    have g1 : DataW.trod enc Try.prog w base (fun _ => true) true n 22 (([c0, c1].drop 1).take (Try.prog.cellsOf 22)) = xs[1]? := hg 1 _ rfl
    simp only [ci, cu, List.drop_zero, List.drop_succ_cons, List.take_succ_cons, List.take_zero] at g0 g1
    have hx : xs.length = 2 := hl
    rw [List.getElem?_eq_getElem (by omega)] at g0 g1
    obtain ⟨z0, e0, _⟩ := DataW.trod_int Try.underlying3 g0
    obtain ⟨A1, m1, c1', e1, l, h1, _, h3⟩ := cells_rows uC_len (by omega) (fun y : Nat => y < 18446744073709551616) (by kernel_rfl) Try.underlying22 (fun _ _ _ h => gf_set h) g1
    cases e0
    cases e1
    exact ⟨z0, _, l, rfl, h1, h3⟩
end
end Go.Proofs.Ytcpiaddohiokkaa
