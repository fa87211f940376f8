/-
  What line.ownText answers: the text itself, in memory of its own; what was in memory stays as it was.
  Conditions: none.
-/
import Derived.Test.YtpicoccpgpmfhaaDoorProg
import Derived.Test.YtpicoccpgpmfhaaDoorMem
import Derived.Laws.IdiomStrings
import Derived.Laws.BytesArg
namespace Go.Proofs.YtpicoccpgpmfhaaDoor
open Go.RowKit

theorem bytesRow_at (s : ByteArray) (c i : Nat) (h : i < s.size) : (bytesRow s c)[i]? = some (.int .u8 (s[i].toNat : Int)) := by
  have h' : i < s.data.size := h
  rw [bytesRow, Array.getElem?_append_left (by simpa using h'), Array.getElem?_map, Array.getElem?_eq_getElem h']
  rfl

theorem own_at (s : ByteArray) (w : World) :
    Calls Tryd.prog 26 #[.string s] w fun e w' => e = .returned (.string s) ∧ Below w.heap.size w w' := by
  have h1 := run_bytes_of_string (P := Tryd.prog) w 9 62 5 s Tryd.underlying9 Tryd.underlying62 Tryd.underlying5
  generalize grownCap w s.size 0 5 = cap at h1
  generalize hW : w.drew.alloc (.cells (bytesRow s cap) 5 ((bytesRow s cap).size, (bytesRow s cap).size + 1)) = W at h1
  have hb : Below w.heap.size w W := by rw [← hW]; exact ((Below.refl _ _).drew).alloc (by exact Nat.le_refl _) _
  have h2 : (convert 62 9 (.slice (some ⟨w.heap.size, 0, none⟩) s.size cap)).run Tryd.prog W = .ok (.string s) W := by
    have := run_convert_bytes_arg (P := Tryd.prog) W 62 5 Tryd.underlying62 Tryd.underlying5 w.heap.size 0 s.size cap (s.data.toList.map fun x => (x.toNat : Int)) (by simp) (fun i hi => by
      rw [cell_of_row W w.heap.size (0 + i) (bytesRow s cap) 5 ((bytesRow s cap).size, (bytesRow s cap).size + 1) (by rw [← hW]; exact heap_alloc_new w.drew _)]
      rw [Nat.zero_add, bytesRow_at s cap i hi]
      simp [List.getD, hi]
      rfl) 9 Tryd.underlying9
    rw [this]
    rw [nums_text, Ln.bs_of]
  have HB := Lib.hid hb
  have HW := Lib.hid hW
  clear hb hW
  go_enter Tryd.func26, Tryd.ntmps26
  go_wp2
  go_ret
  exact ⟨rfl, HB.out⟩

theorem str_info : (Tryd.prog.info? 9).map (fun i => (i.zero, i.size, i.bytes)) = some (some (.string ByteArray.empty), 1, 16) := by kernel_rfl

/-- A text is empty, or it is not: in the walk's own words. -/
theorem bs_empty (s : List UInt8) (h : s = []) : (Ln.bs s).toList = [] := by rw [Lib.toList_data, Ln.bs_data]; exact h
theorem bs_some (s : List UInt8) (h : s ≠ []) : (Ln.bs s).toList.isEmpty = false ∧ ¬ (Ln.bs s).toList = [] := by
  rw [Lib.toList_data, Ln.bs_data]
  exact ⟨by cases s with | nil => exact absurd rfl h | cons _ _ => rfl, h⟩
end Go.Proofs.YtpicoccpgpmfhaaDoor
