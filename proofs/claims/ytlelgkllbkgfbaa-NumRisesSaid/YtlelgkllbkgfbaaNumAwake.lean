/-
  The laws' live example of layer 1 holds: awake answers true; what was in memory stays as it was.
  Conditions: none.
-/
import Derived.Test.YtlelgkllbkgfbaaNumWalkC
import Derived.Test.YtlelgkllbkgfbaaNumRefB
namespace Go.Proofs.Ytlelgkllbkgfbaa
open Go.RowKit

theorem show70 : Nm.showS 70 = [55, 48] ∧ Nm.showE 70 = 0 := by
  constructor
  · rw [Nm.showS, if_pos (by decide)]
    rw [show (70 : Int).toNat = 70 from rfl, Nm.digs_big 70 (by omega), Nm.digs_small (70 / 10) (by omega)]
    decide
  · decide
theorem showMinus : Nm.showS (-1) = [] ∧ Nm.showE (-1) = 1 := by
  constructor
  · rw [Nm.showS, if_neg (by decide)]
  · decide
theorem take70 : Nm.takeR [97, 55, 48, 98] 1 = (70, 3, 0) := by decide
theorem take007 : Nm.takeR [48, 48, 55] 0 = (0, 0, 2) := by decide
theorem whole0 : Nm.wholeR [48] = (0, 0) := by decide

theorem awake_at (w : World) : Calls Try.prog 7 #[] w fun e w' => e = .returned (.bool true) ∧ Grown w w' := by
  go_enter Try.func7, Try.ntmps7
  go_wp2_with fail
  refine (show_any 70 w).mono ?_
  rintro e w1 ⟨rfl, hg1⟩
  rw [show70.1, show70.2]
  have H1 := Lib.hid hg1
  clear hg1
  go_wp2_with fail
  refine (take_at _ 1 w1 (by decide)).mono ?_
  rintro e w' ⟨rfl, rfl⟩
  rw [take70]
  go_wp2_with fail
  refine (take_at _ 0 w1 (by decide)).mono ?_
  rintro e w' ⟨rfl, rfl⟩
  rw [take007]
  go_wp2_with fail
  refine (show_any (-1) w1).mono ?_
  rintro e w2 ⟨rfl, hg2⟩
  rw [showMinus.1, showMinus.2]
  have H2 := Lib.hid hg2
  clear hg2
  go_wp2_with fail
  refine (whole_at _ w2 (by decide)).mono ?_
  rintro e w' ⟨rfl, rfl⟩
  rw [whole0]
  go_wp2_with fail
  go_ret
  exact ⟨rfl, grown_trans H1.out H2.out⟩
end Go.Proofs.Ytlelgkllbkgfbaa
