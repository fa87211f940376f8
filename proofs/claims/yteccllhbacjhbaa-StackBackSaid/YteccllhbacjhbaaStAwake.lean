/-
  The laws' live example of layer 11 holds: awake answers true; what was in memory stays as it was.
  Conditions: none.
-/
import Derived.Test.YteccllhbacjhbaaStWalkA
import Derived.Test.YteccllhbacjhbaaSoRef
set_option maxRecDepth 4000
namespace Go.Proofs.Yteccllhbacjhbaa
open Go.RowKit

set_option maxHeartbeats 2000000 in
theorem stAwake_at (w : World) : Calls Try.prog 7 #[] w (RetBool w true) := by
  go_enter Try.func7, Try.ntmps7
  go_wp2_with fail
  refine (stInts_at 2 _).mono ?_
  rintro e w1 ⟨rfl, hs, hb⟩
  have B1 := Lib.hid hb
  have S1 := Lib.hid hs
  clear hs hb
  go_wp2_with fail
  refine (stPush_yes 5 _ S1.out (by simp) (by simp)).mono ?_
  rintro e w2 ⟨rfl, r2, hs, -, ht⟩
  have B2 := Lib.hid (S1.out.still B1.out (Nat.le_refl _) ht)
  have S2 := Lib.hid hs
  clear hs ht S1 B1
  go_wp2_with fail
  refine (stPush_yes 6 _ S2.out (by simp) (by simp)).mono ?_
  rintro e w3 ⟨rfl, r3, hs, -, ht⟩
  have B3 := Lib.hid (S2.out.still B2.out (Nat.le_refl _) ht)
  have S3 := Lib.hid hs
  clear hs ht S2 B2
  go_wp2_with fail
  refine (stPush_no 7 _ S3.out (by simp)).mono ?_
  rintro e w4 ⟨rfl, hs, ht⟩
  have B4 := Lib.hid (S3.out.still B3.out (Nat.le_refl _) ht)
  have S4 := Lib.hid hs
  clear hs ht S3 B3
  go_wp2_with fail
  refine (stPop_some _ S4.out 1 rfl (by omega) 6 rfl).mono ?_
  rintro e w5 ⟨rfl, hs, ht⟩
  have B5 := Lib.hid (S4.out.still B4.out (Nat.le_refl _) ht)
  have S5 := Lib.hid hs
  clear hs ht S4 B4
  go_wp2_with fail
  refine (stTop_some _ S5.out 0 rfl (by omega) 5 rfl).mono ?_
  rintro e w6 ⟨rfl, rfl⟩
  go_wp2_with fail
  refine (stLen_at _ S5.out).mono ?_
  rintro e w7 ⟨rfl, rfl⟩
  go_wp2_with fail
  go_ret
  exact ⟨rfl, B5.out⟩
end Go.Proofs.Yteccllhbacjhbaa
