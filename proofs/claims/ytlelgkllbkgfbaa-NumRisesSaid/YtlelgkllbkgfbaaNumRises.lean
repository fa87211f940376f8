/-
  NumRises answers true for every two ints: more digits are more; of as many the text that is ahead is less.
  Conditions: none.
-/
import Derived.Test.YtlelgkllbkgfbaaNumAwake
namespace Go.Proofs.Ytlelgkllbkgfbaa
open Go.RowKit

/-- Digits of one length are in the order of their values. -/
theorem less_val (l m : List UInt8) (hl : ∀ c ∈ l, Nm.isDig c = true) (hm : ∀ c ∈ m, Nm.isDig c = true) (h : l.length = m.length) : Op.bytesLess l m = decide (Nm.val l < Nm.val m) := by
  induction l generalizing m with
  | nil =>
    obtain rfl : m = [] := List.eq_nil_of_length_eq_zero h.symm
    simp [Op.bytesLess, Nm.val]
  | cons a x ih =>
    rcases m with _ | ⟨b, y⟩
    · simp at h
    have hxy : x.length = y.length := by simpa using h
    have i1 := ih y (fun c hc => hl c (by simp [hc])) (fun c hc => hm c (by simp [hc])) hxy
    have a1 := (Nm.isDig_iff a).1 (hl a (by simp))
    have b1 := (Nm.isDig_iff b).1 (hm b (by simp))
    have v1 := Nm.val_lt x (fun c hc => hl c (by simp [hc]))
    have v2 := Nm.val_lt y (fun c hc => hm c (by simp [hc]))
    rw [Op.bytesLess, i1, Nm.val_cons, Nm.val_cons, hxy]
    rw [hxy] at v1
    generalize 10 ^ y.length = p at *
    rcases Nat.lt_trichotomy a.toNat b.toNat with hlt | heq | hgt
    · have e1 : decide (a < b) = true := decide_eq_true (UInt8.lt_iff_toNat_lt.2 hlt)
      rw [e1, Bool.true_or]
      symm
      apply decide_eq_true
      have : (a.toNat - 48 + 1) * p ≤ (b.toNat - 48) * p := Nat.mul_le_mul_right _ (by omega)
      rw [Nat.add_mul] at this
      omega
    · obtain rfl : a = b := UInt8.toNat.inj heq
      simp
    · have e1 : decide (a < b) = false := decide_eq_false (fun hh => by have := UInt8.lt_iff_toNat_lt.1 hh; omega)
      have e2 : (a == b) = false := beq_eq_false_iff_ne.2 (fun hh => by subst hh; omega)
      rw [e1, e2, Bool.false_or, Bool.false_and]
      symm
      apply decide_eq_false
      have : (b.toNat - 48 + 1) * p ≤ (a.toNat - 48) * p := Nat.mul_le_mul_right _ (by omega)
      rw [Nat.add_mul] at this
      omega

/-- Numbers rise as their digits do. -/
theorem rises (a b : Nat) : (decide ((Nm.digs a).length < (Nm.digs b).length) || (decide ((Nm.digs a).length = (Nm.digs b).length) && Op.bytesLess (Nm.digs a) (Nm.digs b))) = decide (a < b) := by
  rcases Nat.lt_trichotomy (Nm.digs a).length (Nm.digs b).length with h | h | h
  · have := Nm.less_of_len a b h
    simp [h, this]
  · rw [less_val _ _ (Nm.digs_all a) (Nm.digs_all b) h, Nm.val_digs, Nm.val_digs]
    simp [h]
  · have := Nm.less_of_len b a h
    have h1 : ¬ (Nm.digs a).length < (Nm.digs b).length := by omega
    have h2 : ¬ (Nm.digs a).length = (Nm.digs b).length := by omega
    have h3 : ¬ a < b := by omega
    simp [h1, h2, h3]

theorem lawNumRises (a0 a1 : Int) (w : World) :
    Calls Try.prog 6 #[.int .i64 a0, .int .i64 a1] w fun e w' => e = .returned (.bool true) ∧ Grown w w' := by
  by_cases ha : Nm.isNum a0 = true
  · by_cases hb : Nm.isNum a1 = true
    · obtain ⟨h0, h1⟩ := (Nm.isNum_iff a0).1 ha
      obtain ⟨h2, h3⟩ := (Nm.isNum_iff a1).1 hb
      obtain ⟨a, rfl⟩ := Int.eq_ofNat_of_zero_le h0
      obtain ⟨b, rfl⟩ := Int.eq_ofNat_of_zero_le h2
      have HR := Lib.hid (rises a b)
      have L1 := Nm.digs_len10 a (by omega)
      have L2 := Nm.digs_len10 b (by omega)
      clear ha hb h0 h2
      go_enter Try.func6, Try.ntmps6
      go_wp2_with fail
      refine (awake_at w).mono ?_
      rintro e w1 ⟨rfl, hg1⟩
      have H1 := Lib.hid hg1
      clear hg1
      go_wp2_with fail
      refine (show_at a _ (by omega)).mono ?_
      rintro e w2 ⟨rfl, hg2⟩
      have H2 := Lib.hid hg2
      clear hg2
      have e1 : (⟨(Nm.digs a).toArray⟩ : ByteArray).size = (Nm.digs a).length := rfl
      have t1 : (⟨(Nm.digs a).toArray⟩ : ByteArray).toList = Nm.digs a := by rw [Lib.toList_data]
      generalize (⟨(Nm.digs a).toArray⟩ : ByteArray) = S at *
      have E1 := Lib.hid e1
      have T1 := Lib.hid t1
      clear e1 t1
      go_wp2_with fail
      refine (show_at b _ (by omega)).mono ?_
      rintro e w3 ⟨rfl, hg3⟩
      have H3 := Lib.hid hg3
      clear hg3
      have e2 : (⟨(Nm.digs b).toArray⟩ : ByteArray).size = (Nm.digs b).length := rfl
      have t2 : (⟨(Nm.digs b).toArray⟩ : ByteArray).toList = Nm.digs b := by rw [Lib.toList_data]
      generalize (⟨(Nm.digs b).toArray⟩ : ByteArray) = T at *
      have E2 := Lib.hid e2
      have T2 := Lib.hid t2
      clear e2 t2
      go_wp2_with fail
      all_goals go_ret
      all_goals
        refine ⟨ret_bool ?_, grown_trans H1.out (grown_trans H2.out H3.out)⟩
        have h := HR.out
        rw [← E1.out, ← E2.out, ← T1.out, ← T2.out] at h
      · have e : S.size = T.size := by omega
        rw [beq_iff_eq, ← h]
        simp [e]
      · have e1 : ¬ S.size = T.size := by omega
        have e2 : ¬ S.size < T.size := by omega
        rw [beq_iff_eq, ← h]
        simp [e1, e2]
      · have e2 : S.size < T.size := by omega
        rw [← h]
        simp [e2]
    · obtain ⟨h0, h1⟩ := (Nm.isNum_iff a0).1 ha
      have h2 : a1 < 0 ∨ 2147483647 < a1 := by rw [Nm.isNum_iff] at hb; omega
      clear ha hb
      rcases h2 with h2 | h2
      all_goals
        have h4 : ¬ a0 < 0 := by omega
        have h5 : ¬ 2147483647 < a0 := by omega
        have h6 : a1 < 0 ∨ 2147483647 < a1 := by omega
        have H6 := Lib.hid h6
        clear h6
        go_enter Try.func6, Try.ntmps6
        go_wp2_with fail
        refine (awake_at w).mono ?_
        rintro e w1 ⟨rfl, hg1⟩
        have H1 := Lib.hid hg1
        clear hg1
        go_wp2_with fail
        refine (show_any a0 _).mono ?_
        rintro e w2 ⟨rfl, hg2⟩
        have H2 := Lib.hid hg2
        clear hg2
        rw [show Nm.showE a0 = 0 by rw [Nm.showE, if_pos ((Nm.isNum_iff a0).2 ⟨h0, h1⟩)]]
        go_wp2_with fail
        refine (show_no a1 _ H6.out).mono ?_
        rintro e w3 ⟨rfl, rfl⟩
        go_wp2_with fail
        go_ret
        exact ⟨rfl, grown_trans H1.out H2.out⟩
  · have h2 : a0 < 0 ∨ 2147483647 < a0 := by rw [Nm.isNum_iff] at ha; omega
    clear ha
    rcases h2 with h2 | h2
    all_goals
      have h6 : a0 < 0 ∨ 2147483647 < a0 := by omega
      have H6 := Lib.hid h6
      clear h6
      go_enter Try.func6, Try.ntmps6
      go_wp2_with fail
      refine (awake_at w).mono ?_
      rintro e w1 ⟨rfl, hg1⟩
      have H1 := Lib.hid hg1
      clear hg1
      go_wp2_with fail
      refine (show_no a0 _ H6.out).mono ?_
      rintro e w3 ⟨rfl, rfl⟩
      go_wp2_with fail
      refine (show_any a1 _).mono ?_
      rintro e w2 ⟨rfl, hg2⟩
      have H2 := Lib.hid hg2
      clear hg2
      go_wp2_with fail
      all_goals go_ret
      all_goals exact ⟨rfl, grown_trans H1.out H2.out⟩
end Go.Proofs.Ytlelgkllbkgfbaa
