/-
  What num.Take and num.Whole answer, for every text that a string may hold and every place: Nm.takeR and Nm.wholeR; nothing in memory turns.
  Conditions: a string's length is at most the model's greatest.
  (This program has not all of these functions: take_at, whole_at are left out here.)
-/
import Derived.Test.YtkeaibngofbkhaaNumWalkA
namespace Go.Proofs.Ytkeaibngofbkhaa
open Go.RowKit

theorem ret3 {k : IntKind} {a b c a' b' c' : Int} (r : Int × Int × Int) (h : r = (a, b, c)) (h1 : a' = a) (h2 : b' = b) (h3 : c' = c) :
    Ending.returned (.tuple #[.int k a', .int k b', .int k c']) = .returned (.tuple #[.int k r.1, .int k r.2.1, .int k r.2.2]) := by rw [h, h1, h2, h3]
theorem ret2 {k : IntKind} {a b a' b' : Int} (r : Int × Int) (h : r = (a, b)) (h1 : a' = a) (h2 : b' = b) :
    Ending.returned (.tuple #[.int k a', .int k b']) = .returned (.tuple #[.int k r.1, .int k r.2]) := by rw [h, h1, h2]

end Go.Proofs.Ytkeaibngofbkhaa
