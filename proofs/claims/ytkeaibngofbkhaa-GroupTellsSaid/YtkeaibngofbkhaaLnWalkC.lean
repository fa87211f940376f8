/-
  What line.isOfWord and line.Words answer, for every text that a string may hold: Ln.sign and Ln.wordsR; what was in memory stays as it was.
  Conditions: a string's length is at most the model's greatest.
  (This program has not all of these functions: ofWord_at, words_at are left out here.)
-/
import Derived.Test.YtkeaibngofbkhaaLnOwn
namespace Go.Proofs.Ytkeaibngofbkhaa
open Go.RowKit

theorem bs_cut (s : List UInt8) (a b : Nat) : (Ln.bs s).extract a b = Ln.bs ((s.take b).drop a) := by
  rw [← Ln.bs_of (ByteArray.extract _ _ _), Lib.extract_data, Ln.bs_data, List.drop_take]
theorem bs_from (s : List UInt8) (a : Nat) : (Ln.bs s).extract a (Ln.bs s).size = Ln.bs (s.drop a) := by
  rw [bs_cut, Ln.bs_size, List.take_length]
theorem drop_more (s : List UInt8) (j k : Nat) (hj : j ≤ k) (hk : k < s.length) : (s.take (k + 1)).drop j = (s.take k).drop j ++ [s[k]] := by
  rw [List.take_succ_eq_append_getElem hk, List.drop_append_of_le_length (by simp; omega)]
theorem drop_none (s : List UInt8) (k : Nat) : (s.take k).drop k = [] := by simp
theorem drop_some (s : List UInt8) (j k : Nat) (hj : j < k) (hk : k ≤ s.length) : (s.take k).drop j ≠ [] := by
  intro h
  have := congrArg List.length h
  simp at this
  omega

/-- What Words' loop holds at the head of each round: the words that have ended, and where the last one began. -/
def WordsRel (w : World) (s : List UInt8) (v b i : Value) (wr : World) : Prop :=
  ∃ (k j : Nat) (d : List (List UInt8)), k ≤ s.length ∧ j ≤ k ∧ b = .int .i64 j ∧ i = .int .i64 k ∧ d.length ≤ 7 ∧ Ln.wrun (s.take k) = some (d, (s.take k).drop j) ∧ wr.ownsRow w.heap.size 9 1 v d.length (d.map strV) ∧ Below w.heap.size w wr

end Go.Proofs.Ytkeaibngofbkhaa
