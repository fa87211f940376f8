/-
  EventWords answers true for every three ints: a write's line is its kind's word and its three numbers in digits; too great a session, or key, is told so, and a number with a 0 ahead too.
  Conditions: the variable that lists the kinds' words holds them.
-/
import Derived.Test.YtpgpiinobphpoaaDoorEvAwake
namespace Go.Proofs.YtpgpiinobphpoaaDoor
open Go.RowKit

theorem lawEventWords (a b c : Int) (w : World) (hK : KW w) : Calls Tryd.prog 6 #[.int .i64 a, .int .i64 b, .int .i64 c] w (RetBool w true) := by
  have K0 := Lib.hid hK
  clear hK
  go_enter Tryd.func6, Tryd.ntmps6
  go_wp2_with fail
  refine (evAwake_at _ K0.out).mono ?_
  rintro e w1 ⟨rfl, hb1⟩
  have K1 := Lib.hid (K0.out.below hb1)
  have B1 := Lib.hid hb1
  clear hb1 K0
  go_wp2_with fail
  refine (show_any a _).mono ?_
  rintro e w2 ⟨rfl, hb2⟩
  have K2 := Lib.hid (K1.out.below hb2)
  have B2 := Lib.hid (below_all B1.out hb2)
  clear hb2 K1
  rw [show (⟨(Nm.showS a).toArray⟩ : ByteArray) = Ln.bs (Nm.showS a) from rfl]
  go_wp2_with fail
  refine (show_any b _).mono ?_
  rintro e w3 ⟨rfl, hb3⟩
  have K3 := Lib.hid (K2.out.below hb3)
  have B3 := Lib.hid (below_all B2.out hb3)
  clear hb3 K2
  rw [show (⟨(Nm.showS b).toArray⟩ : ByteArray) = Ln.bs (Nm.showS b) from rfl]
  go_wp2_with fail
  refine (show_any c _).mono ?_
  rintro e w4 ⟨rfl, hb4⟩
  have K4 := Lib.hid (K3.out.below hb4)
  have B4 := Lib.hid (below_all B3.out hb4)
  clear hb4 K3
  rw [show (⟨(Nm.showS c).toArray⟩ : ByteArray) = Ln.bs (Nm.showS c) from rfl]
  by_cases hall : Nm.isNum a = true ∧ Nm.isNum b = true ∧ Nm.isNum c = true
  · obtain ⟨ha, hb, hc⟩ := hall
    have HL := Lib.hid (Ev.write_line a b c ha hb hc)
    have HZ := Lib.hid (Ev.write_zero a b c ha hb hc)
    rw [show Nm.showE a = 0 from if_pos ha, show Nm.showE b = 0 from if_pos hb, show Nm.showE c = 0 from if_pos hc]
    have la := Ev.showS_len a
    have lb := Ev.showS_len b
    have lc := Ev.showS_len c
    clear ha hb hc
    generalize Nm.showS a = A at *
    generalize Nm.showS b = B at *
    generalize Nm.showS c = C at *
    have HT1 : Hid ((⟨#[119, 114, 105, 116, 101, 32]⟩ : ByteArray) ++ Ln.bs A ++ ⟨#[32]⟩ ++ Ln.bs B ++ ⟨#[32]⟩ ++ Ln.bs C = Ln.bs (Ev.writeL A B C)) := by
      rw [Hid, Ev.writeL, ← bs_add, ← bs_add, ← bs_add, ← bs_add, ← bs_add]
      rfl
    have HT2 : Hid ((⟨#[119, 114, 105, 116, 101, 32]⟩ : ByteArray) ++ Ln.bs A ++ ⟨#[32, 48]⟩ ++ Ln.bs B ++ ⟨#[32]⟩ ++ Ln.bs C = Ln.bs (Ev.writeL A (48 :: B) C)) := by
      rw [Hid, show Ev.writeL A (48 :: B) C = [119, 114, 105, 116, 101, 32] ++ A ++ [32, 48] ++ B ++ [32] ++ C from by simp [Ev.writeL], ← bs_add, ← bs_add, ← bs_add, ← bs_add, ← bs_add]
      rfl
    have HN1 : Hid ((Ev.writeL A B C).length ≤ maxLen) := by rw [Hid, Ev.writeL]; simp [maxLen]; omega
    have HN2 : Hid ((Ev.writeL A (48 :: B) C).length ≤ maxLen) := by rw [Hid, Ev.writeL]; simp [maxLen]; omega
    have za : (Ln.bs A).size = A.length := Ln.bs_size A
    have zb : (Ln.bs B).size = B.length := Ln.bs_size B
    have zc : (Ln.bs C).size = C.length := Ln.bs_size C
    have v1 : ¬ 9223372036854775807 < 6 + (Ln.bs A).size := by omega
    have v2 : ¬ 9223372036854775807 < 6 + (Ln.bs A).size + 1 := by omega
    have v3 : ¬ 9223372036854775807 < 6 + (Ln.bs A).size + 1 + (Ln.bs B).size := by omega
    have v4 : ¬ 9223372036854775807 < 6 + (Ln.bs A).size + 1 + (Ln.bs B).size + 1 := by omega
    have v5 : ¬ 9223372036854775807 < 6 + (Ln.bs A).size + 1 + (Ln.bs B).size + 1 + (Ln.bs C).size := by omega
    have v6 : ¬ 9223372036854775807 < 6 + (Ln.bs A).size + 2 := by omega
    have v7 : ¬ 9223372036854775807 < 6 + (Ln.bs A).size + 2 + (Ln.bs B).size := by omega
    have v8 : ¬ 9223372036854775807 < 6 + (Ln.bs A).size + 2 + (Ln.bs B).size + 1 := by omega
    have v9 : ¬ 9223372036854775807 < 6 + (Ln.bs A).size + 2 + (Ln.bs B).size + 1 + (Ln.bs C).size := by omega
    clear za zb zc la lb lc
    go_wp2_with fail
    rw [HT1.out]
    refine (evParse_at _ _ HN1.out K4.out).mono ?_
    rintro e w5 ⟨rfl, hb5⟩
    rw [HL.out]
    have B5 := Lib.hid (below_all B4.out hb5)
    have K5 := Lib.hid (K4.out.below hb5)
    clear hb5 K4
    by_cases hm : 8 ≤ a ∨ 16 ≤ b
    · rw [if_pos hm]
      unfold evV Ev.zero
      dsimp only
      have K6 := Lib.hid (K5.out.below (alloc_below w5 (.cells #[.int .i64 0, .int .i64 0, .int .i64 0, .int .i64 0] 23)))
      have E6 := Lib.hid (EvAt.new w5 Ev.zero 23)
      have key : decide (8 ≤ a) = true ∨ decide (8 ≤ a) = false ∧ decide (16 ≤ b) = true := by
        simp only [decide_eq_true_eq, decide_eq_false_iff_not]; omega
      clear hm
      go_wp2_with fail
      rw [HT2.out]
      refine (evParse_at _ _ HN2.out K6.out).mono ?_
      rintro e w7 ⟨rfl, hb7⟩
      rw [HZ.out]
      unfold evV Ev.zero
      dsimp only
      have E7 := Lib.hid ((E6.out.below hb7).below (alloc_below w7 (.cells #[.int .i64 0, .int .i64 0, .int .i64 0, .int .i64 0] 23)))
      have B7 := Lib.hid (below_all (below_all B5.out (below_new hb7)) (alloc_below w7 (.cells #[.int .i64 0, .int .i64 0, .int .i64 0, .int .i64 0] 23)))
      clear hb7
      have x0 := E7.out.c0
      have x1 := E7.out.c1
      have x2 := E7.out.c2
      have x3 := E7.out.c3
      unfold Ev.zero at x0 x1 x2 x3
      dsimp only at x0 x1 x2 x3
      rcases key with q1 | ⟨q1, q2⟩
      all_goals
        go_wp2_with fail
        go_ret
        exact ⟨rfl, B7.out⟩
    · rw [if_neg hm]
      unfold evV
      dsimp only
      have K6 := Lib.hid (K5.out.below (alloc_below w5 (.cells #[.int .i64 2, .int .i64 a, .int .i64 b, .int .i64 c] 23)))
      have E6 := Lib.hid (EvAt.new w5 ⟨2, a, b, c⟩ 23)
      have q1 : decide (8 ≤ a) = false := by simp; omega
      have q2 : decide (16 ≤ b) = false := by simp; omega
      clear hm
      go_wp2_with fail
      rw [HT2.out]
      refine (evParse_at _ _ HN2.out K6.out).mono ?_
      rintro e w7 ⟨rfl, hb7⟩
      rw [HZ.out]
      unfold evV Ev.zero
      dsimp only
      have E7 := Lib.hid ((E6.out.below hb7).below (alloc_below w7 (.cells #[.int .i64 0, .int .i64 0, .int .i64 0, .int .i64 0] 23)))
      have B7 := Lib.hid (below_all (below_all B5.out (below_new hb7)) (alloc_below w7 (.cells #[.int .i64 0, .int .i64 0, .int .i64 0, .int .i64 0] 23)))
      clear hb7
      have x0 := E7.out.c0
      have x1 := E7.out.c1
      have x2 := E7.out.c2
      have x3 := E7.out.c3
      dsimp only at x0 x1 x2 x3
      go_wp2_with fail
      go_ret
      exact ⟨rfl, B7.out⟩
  · have HR := Lib.hid (Ev.right_write a b c hall)
    have hE : ∀ n, Nm.showE n = if Nm.isNum n = true then 0 else 1 := fun _ => rfl
    have key : (Nm.showE a != 0) = true ∨ (Nm.showE a != 0) = false ∧ ((Nm.showE b != 0) = true ∨ (Nm.showE b != 0) = false ∧ (Nm.showE c != 0) = true) := by
      rw [hE, hE, hE]
      by_cases h1 : Nm.isNum a = true
      · by_cases h2 : Nm.isNum b = true
        · by_cases h3 : Nm.isNum c = true
          · exact absurd ⟨h1, h2, h3⟩ hall
          · simp [h1, h2, h3]
        · simp [h1, h2]
      · simp [h1]
    generalize Nm.showE a = qa at *
    generalize Nm.showE b = qb at *
    generalize Nm.showE c = qc at *
    generalize Ln.bs (Nm.showS a) = sa
    generalize Ln.bs (Nm.showS b) = sb
    generalize Ln.bs (Nm.showS c) = sc
    clear hall hE
    rcases key with k1 | ⟨k1, k2 | ⟨k2, k3⟩⟩
    all_goals
      go_wp2_with fail
      refine (evRight_at ⟨2, a, b, c⟩ _).mono ?_
      rintro e w5 ⟨rfl, hb5⟩
      rw [HR.out]
      have B5 := Lib.hid (below_all B4.out hb5)
      clear hb5
      go_wp2_with fail
      go_ret
      exact ⟨rfl, B5.out⟩
end Go.Proofs.YtpgpiinobphpoaaDoor
