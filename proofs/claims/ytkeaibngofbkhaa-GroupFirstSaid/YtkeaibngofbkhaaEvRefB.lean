/-
  What the reference's Parse of layer 3 answers: Ev.parseR; what was in memory stays as it was.
  Conditions: a line has at most 2^32 bytes.
  (This program has not all of these functions: results_rev, end_rev, end_rev_drew, rEvParse_at are left out here.)
-/
import Derived.Test.YtkeaibngofbkhaaEvRefA
import Derived.Test.YtkeaibngofbkhaaEvWalkC
import Derived.Test.YtkeaibngofbkhaaLnRefW
namespace Go.Proofs.Ytkeaibngofbkhaa
open Go.RowKit

/-- The kind that the reference has found among the first k words: -1 if none. -/
def seenK (x : List UInt8) (k : Nat) : Int := if Ev.kindI x < k then (Ev.kindI x : Int) else -1

end Go.Proofs.Ytkeaibngofbkhaa
