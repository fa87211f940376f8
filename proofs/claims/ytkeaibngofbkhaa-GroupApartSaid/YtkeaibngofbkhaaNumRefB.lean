/-
  What the reference's Take and Whole of layer 1 answer, for every input: Nm.takeR and Nm.wholeR.
  Conditions: a string's length is at most the model's greatest.
  (This program has not all of these functions: rTake_at, rWhole_at are left out here.)
-/
import Derived.Test.YtkeaibngofbkhaaNumRefA
namespace Go.Proofs.Ytkeaibngofbkhaa
open Go.RowKit

/-- What the first loop has found, when it ends at k: the digits from n on are those up to k. -/
theorem lead_found (s : ByteArray) (n k : Nat) (hnk : n ≤ k) (hk : k ≤ s.size) (h : ∀ j (hj : j < s.size), n ≤ j → j < k → Nm.isDig s[j] = true) (he : ∀ hk' : k < s.size, Nm.isDig s[k] = false) :
    Nm.lead (s.data.toList.drop n) = (s.data.toList.drop n).take (k - n) := by
  have hl : s.data.toList.length = s.size := by simp
  refine Nm.lead_of _ _ (by simp; omega) (fun j hj hjk => ?_) (fun hk' => ?_)
  · rw [List.getElem_drop]
    simp at hj
    exact h (n + j) (by omega) (by omega) (by omega)
  · rw [List.getElem_drop]
    simp at hk'
    have e : n + (k - n) = k := by omega
    have := he (by omega)
    simp only [e]
    exact this

theorem drop_at (s : ByteArray) (n i : Nat) (hni : n ≤ i) (hi : i < s.size) : ∃ h : i - n < (s.data.toList.drop n).length, (s.data.toList.drop n)[i - n] = s[i] := by
  refine ⟨by simp; omega, ?_⟩
  rw [List.getElem_drop]
  have e : n + (i - n) = i := by omega
  simp only [e]
  rfl

end Go.Proofs.Ytkeaibngofbkhaa
