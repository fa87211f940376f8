/-
  What the reference's Digit, Is, digits, Show, Take and Whole of layer 1 answer, for every input: Nm.isDig, Nm.isNum, Nm.digs, Nm.showS and Nm.showE, Nm.takeR, Nm.wholeR.
  Conditions: a string's length is at most the model's greatest; digits: a number from 0 to 2147483647.
  (This program has not all of these functions: rDigit_at, rdigits_small, rdigits_at, rShow_at are left out here.)
-/
import Derived.Test.YtkeaibngofbkhaaNumWalkB
import Derived.Laws.BytesArg
namespace Go.Proofs.Ytkeaibngofbkhaa
open Go.RowKit

theorem rIs_at (n : Int) (w : World) :
    Calls Try.prog 21 #[.int .i64 n] w fun e w' => e = .returned (.bool (Nm.isNum n)) ∧ w = w' := by
  by_cases h : 0 ≤ n
  · have HR := Lib.hid (show Nm.isNum n = decide (n ≤ 2147483647) by simp [Nm.isNum, h])
    go_enter Try.func21, Try.ntmps21
    go_wp2
    go_ret
    exact ⟨ret_bool (by rw [HR.out]), rfl⟩
  · have HR := Lib.hid (show Nm.isNum n = false by simp [Nm.isNum, h])
    go_enter Try.func21, Try.ntmps21
    go_wp2
    go_ret
    exact ⟨ret_bool (by rw [HR.out]), rfl⟩

/-- One byte, as a text. -/
theorem one_text (c : UInt8) (v : Int) (hv : v = (c.toNat : Int)) (w : World) :
    (convert 57 9 (.slice (some ⟨w.heap.size, 0, none⟩) 1 1)).run Try.prog (w.alloc (.cells #[.int .u8 v] 5)) = .ok (.string ⟨[c].toArray⟩) (w.alloc (.cells #[.int .u8 v] 5)) := by
  subst hv
  have := run_convert_bytes_arg (P := Try.prog) (w.alloc (.cells #[.int .u8 (c.toNat : Int)] 5)) 57 5 Try.underlying57 Try.underlying5 w.heap.size 0 1 1 [(c.toNat : Int)] rfl (fun i hi => by
    obtain rfl : i = 0 := by omega
    rw [cell_of_row _ _ _ #[.int .u8 (c.toNat : Int)] 5 (0, 0) (heap_alloc_new w _)]
    rfl) 9 Try.underlying9
  rw [this]
  congr 2
  simp [strOfNums]

end Go.Proofs.Ytkeaibngofbkhaa
