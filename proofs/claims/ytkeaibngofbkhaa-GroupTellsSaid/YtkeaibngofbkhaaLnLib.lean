/-
  What the library's functions that package line calls answer, at the one byte 10 as the second text: HasSuffix, Count, Index, Contains, Cut; nothing in memory turns.
  Conditions: a string's length is at most the model's greatest.
  (This program has not all of these functions: count_run, index_run, hasSuffix_nl, count_nl, indexByte_at, liteIndex_at, index_call, contains_nl, liteCut_at, cut_call are left out here.)
-/
import Derived.Test.YtkeaibngofbkhaaProg
import Derived.Test.YtkeaibngofbkhaaMem
import Derived.Lib.Slices
import Derived.Lib.Walk
import Derived.Lib.Bytealg
namespace Go.Proofs.Ytkeaibngofbkhaa
open Go.RowKit

theorem index_no (l : List UInt8) (c : UInt8) (h : c ∉ l) : Lib.indexByte l c = -1 := by
  induction l with
  | nil => rfl
  | cons b l ih =>
    have hb : (b == c) = false := by
      rw [beq_eq_false_iff_ne]; exact fun e => h (by simp [e])
    unfold Lib.indexByte
    rw [ih (fun hx => h (List.mem_cons_of_mem _ hx))]
    simp [hb]
theorem index_at (a r : List UInt8) (c : UInt8) (h : c ∉ a) : Lib.indexByte (a ++ c :: r) c = a.length := by
  induction a with
  | nil => simp [Lib.indexByte]
  | cons b a ih =>
    have hb : (b == c) = false := by
      rw [beq_eq_false_iff_ne]; exact fun e => h (by simp [e])
    rw [List.cons_append]
    unfold Lib.indexByte
    rw [ih (fun hx => h (List.mem_cons_of_mem _ hx))]
    have h1 : (((a.length : Nat) : Int) == -1) = false := by rw [beq_eq_false_iff_ne]; omega
    simp [hb, h1]
theorem cut_at (l : List UInt8) (c : UInt8) (h : c ∈ l) : ∃ a r, l = a ++ c :: r ∧ c ∉ a := by
  induction l with
  | nil => cases h
  | cons b l ih =>
    by_cases hb : b = c
    · exact ⟨[], l, by simp [hb], by simp⟩
    · rcases List.mem_cons.1 h with h | h
      · exact absurd h.symm hb
      · obtain ⟨a, r, e, hn⟩ := ih h
        exact ⟨b :: a, r, by simp [e], by simp [hn]; exact fun e => hb e.symm⟩
theorem index_has (l : List UInt8) (c : UInt8) : decide (0 ≤ Lib.indexByte l c) = l.contains c := by
  by_cases h : c ∈ l
  · obtain ⟨a, r, rfl, hn⟩ := cut_at l c h
    rw [index_at a r c hn]
    simp
  · rw [index_no l c h]
    simp [h]

/-- The last byte of a text, as a text. -/
theorem last_cut (t : List UInt8) (b : UInt8) : (Ln.bs (t ++ [b])).extract t.length (Ln.bs (t ++ [b])).size = Ln.bs [b] := by
  rw [← Ln.bs_of (ByteArray.extract _ _ _), Lib.extract_data, Ln.bs_data, Ln.bs_size]
  simp

end Go.Proofs.Ytkeaibngofbkhaa
