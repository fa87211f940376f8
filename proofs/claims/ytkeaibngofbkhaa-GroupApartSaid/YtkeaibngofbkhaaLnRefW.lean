/-
  What the reference's sign and Words of layer 2 answer: Ln.sign and Ln.wordsR; what was in memory stays as it was.
  Conditions: a line has at most 2^32 bytes.
  (This program has not all of these functions: rsign_at, rWords_at are left out here.)
-/
import Derived.Test.YtkeaibngofbkhaaLnWalkC
namespace Go.Proofs.Ytkeaibngofbkhaa
open Go.RowKit

/-- What the reference's Words holds at the head of each round: the words that have ended; the next one begins here. -/
def RWordsRel (w : World) (s : List UInt8) (v b : Value) (wr : World) : Prop :=
  ∃ (k : Nat) (d : List (List UInt8)), k ≤ s.length ∧ b = .int .i64 k ∧ d.length ≤ k ∧ Ln.wrun (s.take k) = some (d, []) ∧ wr.ownsRow w.heap.size 9 1 v d.length (d.map strV) ∧ Below w.heap.size w wr

end Go.Proofs.Ytkeaibngofbkhaa
