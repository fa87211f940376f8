/-
  The law BitsTell: any numbers' set, any set's numbers, its least one, and how many, what it is with and without one, and whether one is in it, are the document's.
  Conditions: the set is below 2^64; the library's table for the lowest bit holds what its text says.
-/
import Derived.Test.YtchllbjbicomcaaDoorBiAwake
import Derived.Test.YtchllbjbicomcaaDoorBiRefA
set_option maxRecDepth 4000
namespace Go.Proofs.YtchllbjbicomcaaDoor
open Go.RowKit

set_option maxHeartbeats 4000000 in
theorem lawBitsTell (l : List Int) (u : Value) (s : Nat) (i : Int) (w : World) (hT : TZ w) (hu : Ns w u l) (hs : s < 18446744073709551616) : Calls Tryd.prog 3 #[u, .int .u64 s, .int .i64 i] w (RetBool w true) := by
  obtain ⟨A, c, rfl, -⟩ := hu.spelled
  have HU := Lib.hid hu
  have HT := Lib.hid hT
  have F1 := Lib.hid (fun w => biWith_at s i w hs)
  have F2 := Lib.hid (fun w => rWith10_at s i w hs)
  have F3 := Lib.hid (fun w => biWithout_at s i w hs)
  have F4 := Lib.hid (fun w => rWithout10_at s i w hs)
  have F5 := Lib.hid (fun w => biHas_at s i w hs)
  have F6 := Lib.hid (fun w => rHas10_at s i w hs)
  have F7 := Lib.hid (fun w => biCount_at s w hs)
  have F8 := Lib.hid (fun w => biLeast_at s w hs)
  have F9 := Lib.hid (fun w => rLeast_at s w hs)
  have F10 := Lib.hid (fun w => biList_at s w hs)
  have F11 := Lib.hid (fun w => rList_at s w hs)
  have hlen := Bi.list_len s
  clear hu hT
  generalize Bi.withN s i = a1 at *
  generalize Bi.without s i = a2 at *
  generalize Bi.has s i = a3 at *
  generalize Bi.least s = a4 at *
  generalize Bi.list s = ls at *
  go_enter Tryd.func3, Tryd.ntmps3
  go_wp2_with fail
  refine (biAwake_at _ HT.out).mono ?_
  rintro e w1 ⟨rfl, hb1⟩
  have B1 := Lib.hid hb1
  have U1 := Lib.hid (HU.out.below hb1)
  have T1 := Lib.hid (HT.out.below hb1)
  clear hb1 HU
  by_cases h200 : 200 < l.length
  · go_wp2_with fail
    go_ret
    exact ⟨rfl, B1.out⟩
  · have F12 := Lib.hid (biOf_at l _ w1 U1.out (by omega))
    have F13 := Lib.hid (rOf_at l _ w1 U1.out (by omega))
    generalize Bi.ofR l = r at *
    obtain ⟨r1, r2⟩ := r
    dsimp only at F12 F13
    go_wp2_with fail
    refine F12.out.mono ?_
    rintro e w2 ⟨rfl, rfl⟩
    go_wp2_with fail
    refine F13.out.mono ?_
    rintro e w3 ⟨rfl, rfl⟩
    go_wp2_with fail
    refine (F11.out _).mono ?_
    rintro e w4 ⟨v4, rfl, ho4, hb4⟩
    have N4 := Lib.hid (nums_own ho4)
    have B4 := Lib.hid (below_all B1.out hb4)
    obtain ⟨A4, c4, rfl⟩ := own_form ho4
    clear ho4 hb4
    go_wp2_with fail
    refine (F10.out _).mono ?_
    rintro e w5 ⟨v5, rfl, ho5, hb5⟩
    have N5 := Lib.hid (nums_own ho5)
    have M5 := Lib.hid (N4.out.below hb5)
    have B5 := Lib.hid (below_all B4.out hb5)
    obtain ⟨A5, c5, rfl⟩ := own_form ho5
    clear ho5 hb5
    go_wp2_with fail
    refine (rInts_at (Bi.nums ls) _ _ _ N5.out M5.out (by rw [Bi.nums_len]; omega)).mono ?_
    rintro e w6 ⟨rfl, hb6⟩
    have B6 := Lib.hid (below_all B5.out hb6)
    clear hb6
    go_wp2_with fail
    refine (F8.out _ (HT.out.below B6.out)).mono ?_
    rintro e w7 ⟨rfl, rfl⟩
    go_wp2_with fail
    refine (F9.out _).mono ?_
    rintro e w8 ⟨rfl, hb8⟩
    have B8 := Lib.hid (below_all B6.out hb8)
    clear hb8
    go_wp2_with fail
    refine (F7.out _).mono ?_
    rintro e w9 ⟨rfl, rfl⟩
    go_wp2_with fail
    refine (F1.out _).mono ?_
    rintro e w10 ⟨rfl, rfl⟩
    go_wp2_with fail
    refine (F2.out _).mono ?_
    rintro e w11 ⟨rfl, rfl⟩
    go_wp2_with fail
    refine (F3.out _).mono ?_
    rintro e w12 ⟨rfl, rfl⟩
    go_wp2_with fail
    refine (F4.out _).mono ?_
    rintro e w13 ⟨rfl, rfl⟩
    go_wp2_with fail
    refine (F5.out _).mono ?_
    rintro e w14 ⟨rfl, rfl⟩
    go_wp2_with fail
    refine (F6.out _).mono ?_
    rintro e w15 ⟨rfl, rfl⟩
    go_wp2_with fail
    go_ret
    exact ⟨rfl, B8.out⟩
end Go.Proofs.YtchllbjbicomcaaDoor
