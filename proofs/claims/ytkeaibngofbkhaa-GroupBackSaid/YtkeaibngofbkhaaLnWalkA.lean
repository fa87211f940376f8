/-
  What line.Split answers, for every text that a string may hold: Ln.splitR; what was in memory stays as it was.
  Conditions: a string's length is at most the model's greatest.
  (This program has not all of these functions: split_at is left out here.)
-/
import Derived.Test.YtkeaibngofbkhaaLnLib
import Derived.Test.YtkeaibngofbkhaaLnOwn
namespace Go.Proofs.Ytkeaibngofbkhaa
open Go.RowKit

/-- A text of whole lines that is not empty has a first line. -/
theorem first_line (x : List UInt8) (h : Ln.shut x = true) (hn : x ≠ []) : ∃ a r, x = a ++ 10 :: r ∧ (10 : UInt8) ∉ a ∧ Ln.shut r = true ∧ Ln.full x = a :: Ln.full r := by
  have hm : (10 : UInt8) ∈ x := by
    induction x using Ln.snocRec with
    | nil => exact absurd rfl hn
    | snoc x b _ => rw [Ln.shut_snoc] at h; simp at h; simp [h]
  obtain ⟨a, r, rfl, ha⟩ := cut_at x 10 hm
  have hl := Ln.run_line a r ha
  exact ⟨a, r, rfl, ha, (Ln.shut_iff r).2 (by rw [← hl.2]; exact (Ln.shut_iff _).1 h), hl.1⟩

/-- What Split's loop holds at the head of each round: what is left, and the lines that were cut off. -/
def SplitRel (w : World) (s : List UInt8) (t v : Value) (wr : World) : Prop :=
  ∃ (x : List UInt8) (d : List (List UInt8)), t = .string (Ln.bs x) ∧ Ln.shut x = true ∧ x.length ≤ s.length ∧ Ln.full s = d ++ Ln.full x ∧ wr.ownsRow w.heap.size 9 1 v d.length (d.map strV) ∧ Below w.heap.size w wr

end Go.Proofs.Ytkeaibngofbkhaa
