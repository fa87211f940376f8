/-
  Arguments of layer 11's laws: rows of numbers, of calls (a kind and a number each) and of choices.
  Conditions: none beyond those that each theorem states.
  (This program has not all of these functions: st_op, st_ops are left out here.)
-/
import Derived.Test.YtahacjfeopjbaaaLow
import Derived.Test.YtahacjfeopjbaaaStAll
import Derived.Lib.SmallJoins
set_option maxRecDepth 4000
namespace Go.Proofs.Ytahacjfeopjbaaa
open Go.ChangeShapes Go.WideShapes Go.ChangeAt Go.RowKit Go.Joins Go.Deep

section
variable {H : Type} {enc : TypeId × Value → H} {w : World} {base : Nat} {r : Reach} {b0 : Nat}
theorem st_one {fuel : Nat} {cs : List Value} {x : DataW H × List MemPlace} (h : DataW.trod enc Try.prog w base (fun _ => true) true fuel 3 cs = some x) : ∃ y : Int, cs = nC y ∧ True := by
  obtain ⟨z, e, _⟩ := DataW.trod_int Try.underlying3 h
  exact ⟨z, e, trivial⟩
/-- Three cells that read as a choice are a choice's. -/
theorem st_tri {fuel : Nat} {cs : List Value} {x : DataW H × List MemPlace} (h : DataW.trod enc Try.prog w base (fun _ => true) true fuel 38 cs = some x) : ∃ y : Int × Int × Int, cs = triC y ∧ True := by
  obtain ⟨xs, n, _, _, hlen, hl, hg⟩ := DataW.trod_struct Try.underlying38 h
  have h3 : cs.length = 3 := hlen.trans (by kernel_rfl)
  match cs, h3 with
  | [c0, c1, c2], _ =>
    have ci : Try.prog.cellsOf 3 = 1 := by kernel_rfl
    have g0 : DataW.trod enc Try.prog w base (fun _ => true) true n 3 (([c0, c1, c2].drop 0).take (Try.prog.cellsOf 3)) = xs[0]? := hg 0 _ rfl
    have g1 : DataW.trod enc Try.prog w base (fun _ => true) true n 3 (([c0, c1, c2].drop 1).take (Try.prog.cellsOf 3)) = xs[1]? := hg 1 _ rfl
    have g2 : DataW.trod enc Try.prog w base (fun _ => true) true n 3 (([c0, c1, c2].drop 2).take (Try.prog.cellsOf 3)) = xs[2]? := hg 2 _ rfl
    simp only [ci, List.drop_zero, List.drop_succ_cons, List.take_succ_cons, List.take_zero] at g0 g1 g2
    have hx : xs.length = 3 := hl
    rw [List.getElem?_eq_getElem (by omega)] at g0 g1 g2
    obtain ⟨z0, e0, _⟩ := DataW.trod_int Try.underlying3 g0
    obtain ⟨z1, e1, _⟩ := DataW.trod_int Try.underlying3 g1
    obtain ⟨z2, e2, _⟩ := DataW.trod_int Try.underlying3 g2
    cases e0
    cases e1
    cases e2
    exact ⟨(z0, z1, z2), rfl, trivial⟩
theorem st_nums {v : Value} {d : DataW H} {ps : List MemPlace} (hval : Value.okWide Try.prog w r b0 46 v) (h : DataW.Trod enc Try.prog w base (fun _ => true) true 46 v d ps) : ∃ l : List Int, Ns w v l := by
  obtain ⟨l, h1, _, _⟩ := arg_rows nC_len (by omega) (fun _ => True) (by kernel_rfl) Try.underlying46 (fun _ _ _ h => st_one h) hval h
  exact ⟨l, h1⟩
theorem st_tris {v : Value} {d : DataW H} {ps : List MemPlace} (hval : Value.okWide Try.prog w r b0 25 v) (h : DataW.Trod enc Try.prog w base (fun _ => true) true 25 v d ps) : ∃ l : List (Int × Int × Int), Tris w v l := by
  obtain ⟨l, h1, _, _⟩ := arg_rows triC_len (by omega) (fun _ => True) (by kernel_rfl) Try.underlying25 (fun _ _ _ h => st_tri h) hval h
  exact ⟨l, h1⟩
end
end Go.Proofs.Ytahacjfeopjbaaa
