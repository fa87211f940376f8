/-
  What line.Join answers, for every row of texts: Ln.joinR; what was in memory stays as it was.
  Conditions: all texts together are of at most 2^46 bytes.
  (This program has not all of these functions: join_at is left out here.)
-/
import Derived.Test.YtkeaibngofbkhaaLnWalkA
namespace Go.Proofs.Ytkeaibngofbkhaa
open Go.RowKit

theorem byte_info : (Try.prog.info? 5).map (fun i => (i.zero, i.size, i.bytes)) = some (some (.int .u8 0), 1, 1) := by kernel_rfl

/-- What Join's loop holds at the head of each round. -/
def JoinRel (w : World) (l : List (List UInt8)) (t i : Value) (wr : World) : Prop :=
  ∃ k : Nat, k ≤ l.length ∧ i = .int .i64 k ∧ Ln.anyNl (l.take k) = false ∧ wr.ownsRow w.heap.size 5 1 t (Ln.joinS (l.take k)).length (byV (Ln.joinS (l.take k))) ∧ Below w.heap.size w wr

theorem join_take (l : List (List UInt8)) (k : Nat) (hk : k < l.length) : Ln.joinS (l.take (k + 1)) = Ln.joinS (l.take k) ++ (l[k] ++ [10]) := by
  rw [List.take_succ_eq_append_getElem hk, Ln.joinS_snoc]
theorem join_le (l : List (List UInt8)) (k : Nat) : (Ln.joinS (l.take k)).length ≤ (Ln.joinS l).length := by
  conv => rhs; rw [← List.take_append_drop k l, Ln.joinS_append, List.length_append]
  omega

end Go.Proofs.Ytkeaibngofbkhaa
