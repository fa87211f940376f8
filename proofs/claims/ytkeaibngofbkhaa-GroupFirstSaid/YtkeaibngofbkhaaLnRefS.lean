/-
  What the reference's Split of layer 2 answers: Ln.splitR; what was in memory stays as it was.
  Conditions: a text that is split has at most 2^32 bytes.
  (This program has not all of these functions: rSplit_at is left out here.)
-/
import Derived.Test.YtkeaibngofbkhaaLnWalkB
import Derived.Test.YtkeaibngofbkhaaLnWalkC
namespace Go.Proofs.Ytkeaibngofbkhaa
open Go.RowKit

/-- What the reference's Split holds at the head of each round. -/
def RSplitRel (w : World) (s : List UInt8) (v b i : Value) (wr : World) : Prop :=
  ∃ (k j : Nat) (d : List (List UInt8)), k ≤ s.length ∧ j ≤ k ∧ b = .int .i64 j ∧ i = .int .i64 k ∧ (s.take k).drop j = Ln.rest (s.take k) ∧ d = Ln.full (s.take k) ∧ wr.ownsRow w.heap.size 9 1 v d.length (d.map strV) ∧ Below w.heap.size w wr

end Go.Proofs.Ytkeaibngofbkhaa
