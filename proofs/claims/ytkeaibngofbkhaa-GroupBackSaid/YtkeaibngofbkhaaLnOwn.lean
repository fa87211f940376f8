/-
  What line.ownText answers: the text itself, in memory of its own; what was in memory stays as it was.
  Conditions: none.
  (This program has not all of these functions: own_at is left out here.)
-/
import Derived.Test.YtkeaibngofbkhaaProg
import Derived.Test.YtkeaibngofbkhaaMem
import Derived.Laws.IdiomStrings
import Derived.Laws.BytesArg
namespace Go.Proofs.Ytkeaibngofbkhaa
open Go.RowKit

theorem bytesRow_at (s : ByteArray) (c i : Nat) (h : i < s.size) : (bytesRow s c)[i]? = some (.int .u8 (s[i].toNat : Int)) := by
  have h' : i < s.data.size := h
  rw [bytesRow, Array.getElem?_append_left (by simpa using h'), Array.getElem?_map, Array.getElem?_eq_getElem h']
  rfl

theorem str_info : (Try.prog.info? 9).map (fun i => (i.zero, i.size, i.bytes)) = some (some (.string ByteArray.empty), 1, 16) := by kernel_rfl

/-- A text is empty, or it is not: in the walk's own words. -/
theorem bs_empty (s : List UInt8) (h : s = []) : (Ln.bs s).toList = [] := by rw [Lib.toList_data, Ln.bs_data]; exact h
theorem bs_some (s : List UInt8) (h : s ≠ []) : (Ln.bs s).toList.isEmpty = false ∧ ¬ (Ln.bs s).toList = [] := by
  rw [Lib.toList_data, Ln.bs_data]
  exact ⟨by cases s with | nil => exact absurd rfl h | cons _ _ => rfl, h⟩
end Go.Proofs.Ytkeaibngofbkhaa
