/-
  What num.leadingDigits and num.value answer, for every text that a string may hold: the digits ahead, and their value, or that it is above 2147483647.
  Conditions: a string's length is at most the model's greatest.
  (This program has not all of these functions: lead_at, value_at are left out here.)
-/
import Derived.Test.YtkeaibngofbkhaaProg
import Derived.Test.YtkeaibngofbkhaaNumPlain
import Derived.Test.YtkeaibngofbkhaaBase
namespace Go.Proofs.Ytkeaibngofbkhaa
open Go.RowKit


theorem lead_cut (s : ByteArray) (k : Nat) (hk : k ≤ s.size) (h : ∀ j (hj : j < s.size), j < k → Nm.isDig s[j] = true) (he : ∀ hk' : k < s.size, Nm.isDig s[k] = false) :
    s.extract 0 k = ⟨(Nm.lead s.data.toList).toArray⟩ := by
  have hl : s.data.toList.length = s.size := by simp
  rw [Nm.lead_of s.data.toList k (by omega) (fun j hj hjk => h j (by omega) hjk) (fun hk' => he (by omega))]
  apply ByteArray.ext
  apply Array.toList_inj.1
  rw [Lib.extract_data]
  simp

end Go.Proofs.Ytkeaibngofbkhaa
