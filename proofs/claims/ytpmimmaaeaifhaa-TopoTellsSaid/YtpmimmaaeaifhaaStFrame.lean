/-
  Arguments of layer 11's laws: rows of numbers, of calls (a kind and a number each) and of choices.
  Conditions: none beyond those that each theorem states.
  (This program has not all of these functions: st_op, st_tri, st_ops, st_tris are left out here.)
-/
import Derived.Test.YtpmimmaaeaifhaaLow
import Derived.Test.YtpmimmaaeaifhaaStAll
import Derived.Lib.SmallJoins
set_option maxRecDepth 4000
namespace Go.Proofs.Ytpmimmaaeaifhaa
open Go.ChangeShapes Go.WideShapes Go.ChangeAt Go.RowKit Go.Joins Go.Deep

section
variable {H : Type} {enc : TypeId × Value → H} {w : World} {base : Nat} {r : Reach} {b0 : Nat}
theorem st_one {fuel : Nat} {cs : List Value} {x : DataW H × List MemPlace} (h : DataW.trod enc Try.prog w base (fun _ => true) true fuel 3 cs = some x) : ∃ y : Int, cs = nC y ∧ True := by
  obtain ⟨z, e, _⟩ := DataW.trod_int Try.underlying3 h
  exact ⟨z, e, trivial⟩
theorem st_nums {v : Value} {d : DataW H} {ps : List MemPlace} (hval : Value.okWide Try.prog w r b0 25 v) (h : DataW.Trod enc Try.prog w base (fun _ => true) true 25 v d ps) : ∃ l : List Int, Ns w v l := by
  obtain ⟨l, h1, _, _⟩ := arg_rows nC_len (by omega) (fun _ => True) (by kernel_rfl) Try.underlying25 (fun _ _ _ h => st_one h) hval h
  exact ⟨l, h1⟩
end
end Go.Proofs.Ytpmimmaaeaifhaa
