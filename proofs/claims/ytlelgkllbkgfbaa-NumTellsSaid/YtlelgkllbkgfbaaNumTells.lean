/-
  NumTells answers true for every int, every text and every place: Show, Take and Whole are the document's.
  Conditions: a string's length is at most the model's greatest.
-/
import Derived.Test.YtlelgkllbkgfbaaNumAwake
namespace Go.Proofs.Ytlelgkllbkgfbaa
open Go.RowKit

theorem lawNumTells (a0 : Int) (a1 : ByteArray) (a2 : Int) (m1 : a1.size ≤ maxLen) (w : World) :
    Calls Try.prog 3 #[.int .i64 a0, .string a1, .int .i64 a2] w fun e w' => e = .returned (.bool true) ∧ Grown w w' := by
  have M := Lib.hid m1
  unfold maxLen at m1
  by_cases hs : 2000 < a1.size
  · go_enter Try.func3, Try.ntmps3
    go_wp2_with fail
    refine (awake_at w).mono ?_
    rintro e w1 ⟨rfl, hg1⟩
    have H1 := Lib.hid hg1
    clear hg1
    go_wp2_with fail
    go_ret
    exact ⟨rfl, H1.out⟩
  have hl1 : a1.size ≤ 2000 := by omega
  clear hs m1
  go_enter Try.func3, Try.ntmps3
  go_wp2_with fail
  refine (awake_at w).mono ?_
  rintro e wa ⟨rfl, hg1⟩
  have H1 := Lib.hid hg1
  clear hg1
  go_wp2_with fail
  refine (show_any a0 _).mono ?_
  rintro e wb ⟨rfl, hg2⟩
  have H2 := Lib.hid hg2
  clear hg2
  go_wp2_with fail
  refine (rShow_at a0 _).mono ?_
  rintro e wc ⟨rfl, hg3⟩
  have H3 := Lib.hid hg3
  clear hg3
  generalize (⟨(Nm.showS a0).toArray⟩ : ByteArray) = S
  generalize Nm.showE a0 = E
  go_wp2_with fail
  refine (take_at a1 a2 _ M.out).mono ?_
  rintro e w' ⟨rfl, rfl⟩
  go_wp2_with fail
  refine (rTake_at a1 a2 _ (by omega)).mono ?_
  rintro e w' ⟨rfl, rfl⟩
  generalize Nm.takeR a1.data.toList a2 = r
  obtain ⟨x, y, z⟩ := r
  go_wp2_with fail
  refine (whole_at a1 _ M.out).mono ?_
  rintro e w' ⟨rfl, rfl⟩
  go_wp2_with fail
  refine (rWhole_at a1 _ (by omega)).mono ?_
  rintro e w' ⟨rfl, rfl⟩
  generalize Nm.wholeR a1.data.toList = r
  obtain ⟨p, q⟩ := r
  go_wp2_with fail
  go_ret
  exact ⟨rfl, grown_trans H1.out (grown_trans H2.out H3.out)⟩
end Go.Proofs.Ytlelgkllbkgfbaa
