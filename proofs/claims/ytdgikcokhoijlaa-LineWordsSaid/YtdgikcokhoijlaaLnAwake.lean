/-
  The laws' live example of layer 2 holds: awake answers true; what was in memory stays as it was.
  Conditions: none.
-/
import Derived.Test.YtdgikcokhoijlaaLnRefB
namespace Go.Proofs.Ytdgikcokhoijlaa
open Go.RowKit

theorem split_ex : Ln.splitR [97, 10, 10] = ([[97], []], 0) := by decide
theorem split_ex2 : Ln.splitR [97] = ([], 2) := by decide
theorem words_ex : Ln.wordsR [114, 101, 97, 100, 32, 49, 32, 50, 32, 48] = ([[114, 101, 97, 100], [49], [50], [48]], 0) := by decide
theorem words_ex2 : Ln.wordsR [97, 32, 32, 98] = ([], 2) := by decide
theorem join_ex : Ln.joinR [[97], []] = ([97, 10, 10], 0) := by decide

theorem lineAwake_at (w : World) : Calls Try.prog 7 #[] w (RetBool w true) := by
  go_enter Try.func7, Try.ntmps7
  go_wp2_with fail
  refine (split_at [97, 10, 10] w (by decide)).mono ?_
  rintro e w1 ⟨v1, rfl, hs1, hb1⟩
  rw [split_ex] at hs1 ⊢
  have S1 := Lib.hid hs1
  have B1 := Lib.hid hb1
  clear hs1 hb1
  go_wp2_with fail
  refine (words_at [114, 101, 97, 100, 32, 49, 32, 50, 32, 48] w1 (by decide)).mono ?_
  rintro e w2 ⟨v2, rfl, hs2, hb2⟩
  rw [words_ex] at hs2 ⊢
  have S2 := Lib.hid hs2
  have B2 := Lib.hid hb2
  clear hs2 hb2
  go_wp2_with fail
  refine (join_at [[97], []] _ _ (lit_strs w2 9 [[97], []] (by decide)) (by decide)).mono ?_
  rintro e w3 ⟨rfl, hb3⟩
  rw [join_ex]
  have hjx : (Ln.bs [97, 10, 10]).toList = [97, 10, 10] := by rw [Lib.toList_data, Ln.bs_data]
  have B3 := Lib.hid (below_all ((Below.refl _ w2).alloc (Nat.le_refl _) _) hb3)
  clear hb3
  go_wp2_with fail
  refine (words_at [97, 32, 32, 98] w3 (by decide)).mono ?_
  rintro e w4 ⟨v4, rfl, hs4, hb4⟩
  rw [words_ex2] at hs4 ⊢
  have B4 := Lib.hid hb4
  clear hs4 hb4
  go_wp2_with fail
  refine (split_at [97] w4 (by decide)).mono ?_
  rintro e w5 ⟨v5, rfl, hs5, hb5⟩
  rw [split_ex2] at hs5 ⊢
  have B5 := Lib.hid hb5
  clear hs5 hb5
  go_wp2_with fail
  refine (rSame_at [[97], []] [[97], []] _ _ _ (S1.out.below (below_all B2.out (below_all B3.out (below_all B4.out (below_all B5.out ((Below.refl _ w5).alloc (Nat.le_refl _) _)))))) (lit_strs w5 9 [[97], []] (by decide)) (by decide) (by decide)).mono ?_
  rintro e w6 ⟨rfl, hb6⟩
  have B6 := Lib.hid (below_all ((Below.refl _ w5).alloc (Nat.le_refl _) _) hb6)
  clear hb6
  go_wp2_with fail
  refine (rSame_at [[114, 101, 97, 100], [49], [50], [48]] [[114, 101, 97, 100], [49], [50], [48]] _ _ _ (S2.out.below (below_all B3.out (below_all B4.out (below_all B5.out (below_all B6.out ((Below.refl _ w6).alloc (Nat.le_refl _) _)))))) (lit_strs w6 9 [[114, 101, 97, 100], [49], [50], [48]] (by decide)) (by decide) (by decide)).mono ?_
  rintro e w7 ⟨rfl, hb7⟩
  have B7 := Lib.hid (below_all ((Below.refl _ w6).alloc (Nat.le_refl _) _) hb7)
  clear hb7
  go_wp2_with fail
  go_ret
  exact ⟨rfl, below_all B1.out (below_all B2.out (below_all B3.out (below_all B4.out (below_all B5.out (below_all B6.out B7.out)))))⟩
end Go.Proofs.Ytdgikcokhoijlaa
