/-
  What bits' functions of one set answer, and the library's two that they call: only, Has, With, Without, Sub, the lowest bit, how many bits are set, Least, Count; what was in memory stays as it was.
  Conditions: sets are below 2^64; for the lowest bit, the library's table holds what its text says.
-/
import Derived.Test.YtchllbjbicomcaaDoorBiMem
import Derived.Laws.Bits64b
import Derived.Laws.BitsAllLaws
set_option maxRecDepth 4000
namespace Go.Proofs.YtchllbjbicomcaaDoor
open Go.RowKit

theorem Bi.wrap_pow {k : Nat} (h : k < 64) : IntKind.u64.wrap ((2 : Int) ^ k) = ((2 ^ k : Nat) : Int) := by
  have h1 : (2 : Int) ^ k = ((2 ^ k : Nat) : Int) := by simp
  have h2 := Bi.pow_lt h
  rw [h1, IntKind.wrap_u64]
  generalize 2 ^ k = p at *
  omega
theorem biOnly_at (i : Int) (w : World) : Calls Tryd.prog 26 #[.int .i64 i] w fun e w' => e = .returned (.int .u64 (Bi.one i : Nat)) ∧ w' = w := by
  by_cases h0 : i < 0
  · rw [Bi.one_no (by cases h : Bi.ok i with
      | false => rfl
      | true => have := Bi.ok_iff.1 h; omega)]
    have hd : decide (i < 0) = true := decide_eq_true h0
    go_enter Tryd.func26, Tryd.ntmps26
    go_wp2
    go_ret
    exact ⟨rfl, rfl⟩
  · have hd : decide (i < 0) = false := decide_eq_false h0
    obtain ⟨k, rfl⟩ : ∃ k : Nat, i = (k : Int) := ⟨i.toNat, by omega⟩
    by_cases h1 : k < 64
    · rw [Bi.one_nat h1]
      have hd1 : decide ((64 : Int) ≤ (k : Int)) = false := decide_eq_false (by omega)
      go_enter Tryd.func26, Tryd.ntmps26
      go_wp2
      go_ret
      exact ⟨congrArg (fun x => Ending.returned (.int .u64 x)) (Bi.wrap_pow h1), rfl⟩
    · rw [Bi.one_no (by cases h : Bi.ok (k : Int) with
        | false => rfl
        | true => have := Bi.ok_iff.1 h; omega)]
      have hd1 : decide ((64 : Int) ≤ (k : Int)) = true := decide_eq_true (by omega)
      go_enter Tryd.func26, Tryd.ntmps26
      go_wp2
      go_ret
      exact ⟨rfl, rfl⟩

theorem biHas_at (s : Nat) (i : Int) (w : World) (hs : s < 18446744073709551616) : Calls Tryd.prog 20 #[.int .u64 s, .int .i64 i] w fun e w' => e = .returned (.bool (Bi.has s i)) ∧ w' = w := by
  have key : ((bits .and .u64 (s : Int) ((Bi.one i : Nat) : Int)) != 0) = Bi.has s i := by rw [bits_and_u64_nat _ _ hs (Bi.one_lt i), Bi.and_one]
  go_enter Tryd.func20, Tryd.ntmps20
  go_wp2_with fail
  refine (biOnly_at i _).mono ?_
  rintro e w1 ⟨rfl, rfl⟩
  go_wp2_with fail
  go_ret
  exact ⟨rfl, rfl⟩
theorem biWith_at (s : Nat) (i : Int) (w : World) (hs : s < 18446744073709551616) : Calls Tryd.prog 16 #[.int .u64 s, .int .i64 i] w fun e w' => e = .returned (.int .u64 (Bi.withN s i : Nat)) ∧ w' = w := by
  have key : bits .or .u64 (s : Int) ((Bi.one i : Nat) : Int) = (Bi.withN s i : Nat) := by rw [bits_or_u64_nat _ _ hs (Bi.one_lt i), Bi.or_one]
  go_enter Tryd.func16, Tryd.ntmps16
  go_wp2_with fail
  refine (biOnly_at i _).mono ?_
  rintro e w1 ⟨rfl, rfl⟩
  go_wp2_with fail
  go_ret
  exact ⟨rfl, rfl⟩
theorem biWithout_at (s : Nat) (i : Int) (w : World) (hs : s < 18446744073709551616) : Calls Tryd.prog 18 #[.int .u64 s, .int .i64 i] w fun e w' => e = .returned (.int .u64 (Bi.without s i : Nat)) ∧ w' = w := by
  have key : bits .andNot .u64 (s : Int) ((Bi.one i : Nat) : Int) = (Bi.without s i : Nat) := by rw [u64_andNot_nat _ _ hs (Bi.one_lt i), Bi.clear_one hs]
  go_enter Tryd.func18, Tryd.ntmps18
  go_wp2_with fail
  refine (biOnly_at i _).mono ?_
  rintro e w1 ⟨rfl, rfl⟩
  go_wp2_with fail
  go_ret
  exact ⟨rfl, rfl⟩
theorem biSub_at (a b : Nat) (w : World) (ha : a < 18446744073709551616) (hb : b < 18446744073709551616) : Calls Tryd.prog 23 #[.int .u64 a, .int .u64 b] w fun e w' => e = .returned (.bool (Bi.sub a b)) ∧ w' = w := by
  have key : ((bits .andNot .u64 (a : Int) (b : Int)) == 0) = Bi.sub a b := by rw [u64_andNot_nat _ _ ha hb, Bi.clear_sub ha hb]
  go_enter Tryd.func23, Tryd.ntmps23
  go_wp2_with fail
  go_ret
  exact ⟨rfl, rfl⟩

/-! The library's two. -/
theorem and_mask (x m : Nat) (z k : Int) (hx : x < 18446744073709551616) (hm : m < 18446744073709551616) (hz : z = (x : Int)) (hk : k = (m : Int)) : bits .and .u64 z k = ((x &&& m : Nat) : Int) := by
  rw [hz, hk]
  exact bits_and_u64_nat _ _ hx hm
/-- Where the table is read for a set that is not empty, as Go's expression spells the place; and what lies there. -/
theorem Bi.place {x : Nat} (h0 : x ≠ 0) (hx : x < 18446744073709551616) : ∃ n c : Nat, n < 64 ∧ c < 64 ∧ Bi.least x = (c : Int) ∧ Lib.deBruijn64tab.getD n 0 = c ∧
    IntKind.u64.wrap (bits .and .u64 (x : Int) (IntKind.u64.wrap (-(x : Int))) * 285870213051353865) / 288230376151711744 = (n : Int) := by
  have hb := Lib.lowest_bit 64 x h0 hx
  have ht := Lib.deBruijn64_at _ hb.2
  have hand := and_mask x (18446744073709551616 - x) (x : Int) (IntKind.u64.wrap (-(x : Int))) hx (by omega) rfl (by rw [IntKind.wrap_u64]; omega)
  rw [hb.1] at hand
  refine ⟨_, _, ht.1, hb.2, Bi.least_ctz h0 hx, ht.2, ?_⟩
  rw [hand, IntKind.wrap_u64]
  generalize 2 ^ Lib.ctz 64 x = p
  omega
theorem tz64_at (x : Nat) (w : World) (hx : x < 18446744073709551616) (hT : TZ w) (h0 : x ≠ 0) : Calls Tryd.prog 28 #[.int .u64 x] w fun e w' => e = .returned (.int .i64 (Bi.least x)) ∧ w' = w := by
  have hd : ((x : Int) == 0) = false := by rw [beq_eq_false_iff_ne]; omega
  obtain ⟨n, c, hn, hc, hl, hg, hp⟩ := Bi.place h0 hx
  have hr := hT n hn
  rw [hg] at hr
  rw [hl]
  clear hT hl hg h0
  go_enter Tryd.func28, Tryd.ntmps28
  go_wp2_with (rw [hp])
  go_ret
  exact ⟨rfl, rfl⟩
theorem ones64_core (x x1 x2 x3 x4 x5 x6 : Nat) (w : World)
    (k1 : IntKind.u64.wrap (bits .and .u64 ((x : Int) / 2) 6148914691236517205 + bits .and .u64 (x : Int) 6148914691236517205) = (x1 : Int))
    (k2 : IntKind.u64.wrap (bits .and .u64 ((x1 : Int) / 4) 3689348814741910323 + bits .and .u64 (x1 : Int) 3689348814741910323) = (x2 : Int))
    (k3 : bits .and .u64 (IntKind.u64.wrap ((x2 : Int) / 16 + (x2 : Int))) 1085102592571150095 = (x3 : Int))
    (k4 : IntKind.u64.wrap ((x3 : Int) + (x3 : Int) / 256) = (x4 : Int))
    (k5 : IntKind.u64.wrap ((x4 : Int) + (x4 : Int) / 65536) = (x5 : Int))
    (k6 : IntKind.u64.wrap ((x5 : Int) + (x5 : Int) / 4294967296) = (x6 : Int))
    (k7 : bits .and .i64 (wrap64 (x6 : Int)) 127 = ((x6 % 128 : Nat) : Int)) : Calls Tryd.prog 29 #[.int .u64 x] w fun e w' => e = .returned (.int .i64 (x6 % 128 : Nat)) ∧ w' = w := by
  go_enter Tryd.func29, Tryd.ntmps29
  go_wp2_with (simp only [k1, k2, k3, k4, k5, k6, k7])
  go_ret
  exact ⟨rfl, rfl⟩
theorem mask_i64 (y : Nat) (hy : y < 9223372036854775808) : bits .and .i64 (wrap64 (y : Int)) 127 = ((y % 128 : Nat) : Int) := by
  have e : wrap64 (y : Int) = (y : Int) := by unfold wrap64; omega
  rw [e]
  have h := bits_mask .i64 63 (by decide) (fun n h0 h1 => by rw [IntKind.wrap_i64]; omega) 7 (by decide) (y : Int) (by omega) (by omega)
  simp only [Int.reducePow, Int.reduceSub] at h
  rw [h]
  omega
theorem ones64_at (x : Nat) (w : World) (hx : x < 18446744073709551616) : Calls Tryd.prog 29 #[.int .u64 x] w fun e w' => e = .returned (.int .i64 (Bi.ones 64 x : Nat)) ∧ w' = w := by
  obtain ⟨m1, m2, m3⟩ := Bi.masks
  obtain ⟨x1, e1⟩ : ∃ x1, x1 = Bi.halves 8 x := ⟨_, rfl⟩
  obtain ⟨x2, e2⟩ : ∃ x2, x2 = Bi.quarters 8 x1 := ⟨_, rfl⟩
  obtain ⟨x3, e3⟩ : ∃ x3, x3 = Bi.eighths 8 x2 := ⟨_, rfl⟩
  obtain ⟨a1, a2, a3, a4⟩ := Bi.added x x3 (by rw [e3, e2, e1]; rfl)
  have hle : ∀ a b : Nat, a &&& b ≤ b := fun a b => Nat.and_le_right
  rw [← a1]
  clear a1
  rw [Bi.halves, m1] at e1
  rw [Bi.quarters, m2] at e2
  rw [Bi.eighths, m3] at e3
  have b1 := hle (x / 2) 6148914691236517205
  have b2 := hle x 6148914691236517205
  have h1 : x1 < 18446744073709551616 := by omega
  have b3 := hle (x1 / 4) 3689348814741910323
  have b4 := hle x1 3689348814741910323
  have h2 : x2 ≤ 7378697629483820646 := by omega
  have b5 := hle (x2 / 16 + x2) 1085102592571150095
  have h3 : x3 ≤ 1085102592571150095 := by omega
  have q1 : bits .and .u64 ((x : Int) / 2) 6148914691236517205 = ((x / 2 &&& 6148914691236517205 : Nat) : Int) := and_mask (x / 2) 6148914691236517205 _ _ (by omega) (by omega) (by omega) rfl
  have q2 : bits .and .u64 (x : Int) 6148914691236517205 = ((x &&& 6148914691236517205 : Nat) : Int) := and_mask x 6148914691236517205 _ _ hx (by omega) rfl rfl
  have q3 : bits .and .u64 ((x1 : Int) / 4) 3689348814741910323 = ((x1 / 4 &&& 3689348814741910323 : Nat) : Int) := and_mask (x1 / 4) 3689348814741910323 _ _ (by omega) (by omega) (by omega) rfl
  have q4 : bits .and .u64 (x1 : Int) 3689348814741910323 = ((x1 &&& 3689348814741910323 : Nat) : Int) := and_mask x1 3689348814741910323 _ _ h1 (by omega) rfl rfl
  have q5 : bits .and .u64 (IntKind.u64.wrap ((x2 : Int) / 16 + (x2 : Int))) 1085102592571150095 = ((x2 / 16 + x2 &&& 1085102592571150095 : Nat) : Int) := and_mask (x2 / 16 + x2) 1085102592571150095 _ _ (by omega) (by omega) (by rw [IntKind.wrap_u64]; omega) rfl
  refine ones64_core x x1 x2 x3 (x3 + x3 / 256) (x3 + x3 / 256 + (x3 + x3 / 256) / 65536) _ w ?_ ?_ (by rw [q5, e3]) ?_ ?_ ?_ (mask_i64 _ a4)
  · rw [q1, q2, IntKind.wrap_u64]; omega
  · rw [q3, q4, IntKind.wrap_u64]; omega
  · rw [IntKind.wrap_u64]; omega
  · rw [IntKind.wrap_u64]; omega
  · rw [IntKind.wrap_u64]; omega

theorem biLeast_at (s : Nat) (w : World) (hs : s < 18446744073709551616) (hT : TZ w) : Calls Tryd.prog 13 #[.int .u64 s] w fun e w' => e = .returned (.int .i64 (Bi.least s)) ∧ w' = w := by
  by_cases h0 : s = 0
  · subst h0
    rw [Bi.least_nil Bi.list_zero]
    go_enter Tryd.func13, Tryd.ntmps13
    go_wp2
    go_ret
    exact ⟨rfl, rfl⟩
  · have hd : ((s : Int) == 0) = false := by simp; omega
    go_enter Tryd.func13, Tryd.ntmps13
    go_wp2_with fail
    refine (tz64_at s _ hs hT h0).mono ?_
    rintro e w1 ⟨rfl, rfl⟩
    go_wp2_with fail
    go_ret
    exact ⟨rfl, rfl⟩
theorem biCount_at (s : Nat) (w : World) (hs : s < 18446744073709551616) : Calls Tryd.prog 15 #[.int .u64 s] w fun e w' => e = .returned (.int .i64 ((Bi.list s).length : Nat)) ∧ w' = w := by
  rw [Bi.list_ones]
  go_enter Tryd.func15, Tryd.ntmps15
  go_wp2_with fail
  refine (ones64_at s _ hs).mono ?_
  rintro e w1 ⟨rfl, rfl⟩
  go_wp2_with fail
  go_ret
  exact ⟨rfl, rfl⟩
end Go.Proofs.YtchllbjbicomcaaDoor
