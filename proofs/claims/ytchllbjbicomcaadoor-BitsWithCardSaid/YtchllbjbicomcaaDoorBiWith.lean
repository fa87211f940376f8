/-
  The law BitsWith: with a number, and without it, a set is what it was without it; without it, and with it, what it was with it.
  Conditions: the set is below 2^64; the library's table for the lowest bit holds what its text says.
-/
import Derived.Test.YtchllbjbicomcaaDoorBiAwake
set_option maxRecDepth 4000
namespace Go.Proofs.YtchllbjbicomcaaDoor
open Go.RowKit

theorem Bi.ok_no {i : Int} (h : Bi.ok i = false) : (decide (i < 0) = true) ∨ (decide (i < 0) = false ∧ decide (63 < i) = true) := by
  by_cases h0 : i < 0
  · exact .inl (decide_eq_true h0)
  · refine .inr ⟨decide_eq_false h0, decide_eq_true ?_⟩
    by_cases h1 : 63 < i
    · exact h1
    · have : Bi.ok i = true := Bi.ok_iff.2 (by omega)
      rw [this] at h
      cases h
theorem Bi.ok_yes {i : Int} (h : Bi.ok i = true) : decide (i < 0) = false ∧ decide (63 < i) = false := by
  have := Bi.ok_iff.1 h
  exact ⟨decide_eq_false (by omega), decide_eq_false (by omega)⟩
theorem Bi.without_small {s : Nat} (hs : s < 18446744073709551616) (i : Int) : Bi.without s i < 18446744073709551616 := Nat.lt_of_le_of_lt (Bi.without_le s i) hs

set_option maxHeartbeats 4000000 in
theorem lawBitsWith (s : Nat) (i k : Int) (w : World) (hT : TZ w) (hs : s < 18446744073709551616) : Calls Tryd.prog 6 #[.int .u64 s, .int .i64 i, .int .i64 k] w (RetBool w true) := by
  have hwi := Bi.with_zero_lt hs i
  have hwk := Bi.with_zero_lt hs k
  have hoi := Bi.without_small hs i
  have E1 := Lib.hid (Bi.without_with s i)
  have E2 := Lib.hid (Bi.with_without s i)
  have E3 := Lib.hid (Bi.with_comm s k i)
  have F1 := Lib.hid (fun w => biWith_at s i w hs)
  have F2 := Lib.hid (fun w => biWithout_at (Bi.withN s i) i w hwi)
  have F3 := Lib.hid (fun w => biWithout_at s i w hs)
  have F4 := Lib.hid (fun w => biWith_at (Bi.without s i) i w hoi)
  have F5 := Lib.hid (fun w => biWith_at (Bi.withN s i) k w hwi)
  have F6 := Lib.hid (fun w => biWith_at s k w hs)
  have F7 := Lib.hid (fun w => biWith_at (Bi.withN s k) i w hwk)
  rw [E1.out] at F2
  rw [E2.out] at F4
  rw [E3.out] at F7
  clear E1 E2 E3
  go_enter Tryd.func6, Tryd.ntmps6
  go_wp2_with fail
  refine (biAwake_at _ hT).mono ?_
  rintro e w1 ⟨rfl, hb1⟩
  have B1 := Lib.hid hb1
  clear hb1 hT
  go_wp2_with fail
  refine (F1.out _).mono ?_
  rintro e w2 ⟨rfl, rfl⟩
  go_wp2_with fail
  refine (F2.out _).mono ?_
  rintro e w3 ⟨rfl, rfl⟩
  go_wp2_with fail
  refine (F3.out _).mono ?_
  rintro e w4 ⟨rfl, rfl⟩
  go_wp2_with fail
  refine (F4.out _).mono ?_
  rintro e w5 ⟨rfl, rfl⟩
  go_wp2_with fail
  refine (F1.out _).mono ?_
  rintro e w6 ⟨rfl, rfl⟩
  go_wp2_with fail
  refine (F5.out _).mono ?_
  rintro e w7 ⟨rfl, rfl⟩
  go_wp2_with fail
  refine (F3.out _).mono ?_
  rintro e w8 ⟨rfl, rfl⟩
  go_wp2_with fail
  refine (F1.out _).mono ?_
  rintro e w9 ⟨rfl, rfl⟩
  go_wp2_with fail
  refine (F6.out _).mono ?_
  rintro e w10 ⟨rfl, rfl⟩
  go_wp2_with fail
  refine (F7.out _).mono ?_
  rintro e w11 ⟨rfl, rfl⟩
  cases ho : Bi.ok i with
  | false =>
    have ea : Bi.without s i = s := Bi.without_no (Bi.has_no ho)
    have eb : Bi.withN s i = s := Bi.with_no ho
    rw [ea, eb]
    rcases Bi.ok_no ho with h0 | ⟨h0, h1⟩
    · go_wp2_with fail
      go_ret
      exact ⟨rfl, B1.out⟩
    · go_wp2_with fail
      go_ret
      exact ⟨rfl, B1.out⟩
  | true =>
    obtain ⟨h0, h1⟩ := Bi.ok_yes ho
    have F8 := Lib.hid (fun w => biCount_at s w hs)
    have F9 := Lib.hid (fun w => biHas_at (Bi.withN s i) i w hwi)
    have F10 := Lib.hid (fun w => biHas_at (Bi.without s i) i w hoi)
    have F11 := Lib.hid (fun w => biCount_at (Bi.withN s i) w hwi)
    have F12 := Lib.hid (fun w => biCount_at (Bi.without s i) w hoi)
    rw [Bi.has_with ho] at F9
    rw [Bi.has_without] at F10
    have hc := Bi.count_with (s := s) ho
    have hn := Bi.count_same (s := s) (i := i)
    have hl := Bi.list_len (Bi.withN s i)
    generalize Bi.withN s i = b at *
    generalize Bi.without s i = a at *
    generalize (Bi.list s).length = n at *
    generalize (Bi.list b).length = nb at *
    generalize (Bi.list a).length = na at *
    subst hc
    have hw : wrap64 ((na : Int) + 1) = ((na + 1 : Nat) : Int) := by unfold wrap64; omega
    go_wp2_with fail
    refine (F8.out _).mono ?_
    rintro e w12 ⟨rfl, rfl⟩
    go_wp2_with fail
    refine (F9.out _).mono ?_
    rintro e w13 ⟨rfl, rfl⟩
    go_wp2_with fail
    refine (F10.out _).mono ?_
    rintro e w14 ⟨rfl, rfl⟩
    go_wp2_with fail
    refine (F11.out _).mono ?_
    rintro e w15 ⟨rfl, rfl⟩
    go_wp2_with fail
    refine (F12.out _).mono ?_
    rintro e w16 ⟨rfl, rfl⟩
    go_wp2_with fail
    refine (F12.out _).mono ?_
    rintro e w17 ⟨rfl, rfl⟩
    by_cases hq : n = na
    · subst hq
      go_wp2_with fail
      go_ret
      exact ⟨rfl, B1.out⟩
    · have hq2 : n = na + 1 := by omega
      subst hq2
      have hne : (((na + 1 : Nat) : Int) == ((na : Nat) : Int)) = false := by rw [beq_eq_false_iff_ne]; omega
      go_wp2_with fail
      refine (F11.out _).mono ?_
      rintro e w18 ⟨rfl, rfl⟩
      go_wp2_with fail
      go_ret
      exact ⟨rfl, B1.out⟩
end Go.Proofs.YtchllbjbicomcaaDoor
