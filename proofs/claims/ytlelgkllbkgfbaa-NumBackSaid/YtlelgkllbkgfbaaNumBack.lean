/-
  NumBack answers true for every int and every two texts: what is shown is taken, whatever stands around it, if no digit stands behind it.
  Conditions: a string's length is at most the model's greatest.
-/
import Derived.Test.YtlelgkllbkgfbaaNumAwake
namespace Go.Proofs.Ytlelgkllbkgfbaa
open Go.RowKit

theorem digs_form (n : Nat) : ¬ (Nm.digs n = [] ∨ ((Nm.digs n).head? = some 48 ∧ 1 < (Nm.digs n).length)) := by
  rintro (h | ⟨h, h'⟩)
  · exact Nm.digs_ne n h
  · rcases Nat.eq_zero_or_pos n with e | e
    · subst e
      rw [Nm.digs_small 0 (by omega)] at h'
      simp at h'
    · obtain ⟨c, r, e1, e2⟩ := Nm.digs_head n e
      rw [e1] at h
      simp at h
      exact e2 h

/-- What is shown is taken, whatever stands around it, if no digit stands behind it. -/
theorem back_text (f b : List UInt8) (n : Nat) (hn : n ≤ 2147483647) (hb : ∀ c r, b = c :: r → Nm.isDig c = false) :
    Nm.takeR (f ++ Nm.digs n ++ b) (f.length : Int) = ((n : Int), (f.length : Int) + ((Nm.digs n).length : Int), 0) := by
  have hl : Nm.lead ((f ++ Nm.digs n ++ b).drop f.length) = Nm.digs n := by
    rw [List.append_assoc, List.drop_left]
    exact Nm.lead_append _ _ (Nm.digs_all n) hb
  have h := Nm.takeR_ok (f ++ Nm.digs n ++ b) f.length (by simp) (by rw [hl]; exact digs_form n) (by rw [hl, Nm.val_digs]; exact hn)
  rw [hl, Nm.val_digs] at h
  exact h

theorem whole_text (n : Nat) (hn : n ≤ 2147483647) : Nm.wholeR (Nm.digs n) = ((n : Int), 0) := by
  have h := back_text [] [] n hn (fun _ _ h => by cases h)
  simp only [List.nil_append, List.append_nil, List.length_nil] at h
  have h' : Nm.takeR (Nm.digs n) 0 = ((n : Int), ((0 : Nat) : Int) + ((Nm.digs n).length : Int), 0) := h
  rw [Nm.wholeR, h']
  simp

theorem lawNumBack (a0 : Int) (a1 a2 : ByteArray) (m1 : a1.size ≤ maxLen) (m2 : a2.size ≤ maxLen) (w : World) :
    Calls Try.prog 4 #[.int .i64 a0, .string a1, .string a2] w fun e w' => e = .returned (.bool true) ∧ Grown w w' := by
  unfold maxLen at m1 m2
  by_cases hs : 1000 < a1.size
  · go_enter Try.func4, Try.ntmps4
    go_wp2_with fail
    refine (awake_at w).mono ?_
    rintro e w1 ⟨rfl, hg1⟩
    have H1 := Lib.hid hg1
    clear hg1
    go_wp2_with fail
    go_ret
    exact ⟨rfl, H1.out⟩
  by_cases hs2 : 1000 < a2.size
  · go_enter Try.func4, Try.ntmps4
    go_wp2_with fail
    refine (awake_at w).mono ?_
    rintro e w1 ⟨rfl, hg1⟩
    have H1 := Lib.hid hg1
    clear hg1
    go_wp2_with fail
    go_ret
    exact ⟨rfl, H1.out⟩
  have hl1 : a1.size ≤ 1000 := by omega
  have hl2 : a2.size ≤ 1000 := by omega
  clear hs hs2 m1 m2
  by_cases ha : Nm.isNum a0 = true
  · obtain ⟨h0, h1⟩ := (Nm.isNum_iff a0).1 ha
    obtain ⟨n, rfl⟩ := Int.eq_ofNat_of_zero_le h0
    have L1 := Nm.digs_len10 n (by omega)
    have HW := Lib.hid (whole_text n (by omega))
    have HB := Lib.hid (fun hb => back_text a1.data.toList a2.data.toList n (by omega) hb)
    clear ha h0
    go_enter Try.func4, Try.ntmps4
    go_wp2_with fail
    refine (awake_at w).mono ?_
    rintro e wa ⟨rfl, hg1⟩
    have H1 := Lib.hid hg1
    clear hg1
    go_wp2_with fail
    refine (show_at n _ (by omega)).mono ?_
    rintro e w2 ⟨rfl, hg2⟩
    have H2 := Lib.hid hg2
    clear hg2
    have e1 : (⟨(Nm.digs n).toArray⟩ : ByteArray).size = (Nm.digs n).length := rfl
    have t1 : (⟨(Nm.digs n).toArray⟩ : ByteArray).data.toList = Nm.digs n := by simp
    generalize (⟨(Nm.digs n).toArray⟩ : ByteArray) = S at *
    have E1 := Lib.hid e1
    have T1 := Lib.hid t1
    have hS : S.size ≤ 10 := by rw [e1]; exact L1
    clear e1 t1
    go_wp2_with fail
    refine (whole_at S _ (by unfold maxLen; omega)).mono ?_
    rintro e w' ⟨rfl, rfl⟩
    rw [T1.out, HW.out]
    have HTR : Hid ((∀ c r, a2.data.toList = c :: r → Nm.isDig c = false) → Nm.takeR (a1 ++ S ++ a2).data.toList (a1.size : Int) = ((n : Int), (a1.size : Int) + (S.size : Int), 0)) := by
      intro hb
      have h := HB.out hb
      rw [← T1.out] at h
      simpa using h
    have hsz : (a1 ++ S ++ a2).size ≤ maxLen := by unfold maxLen; simp; omega
    have HSZ := Lib.hid hsz
    clear hsz
    by_cases hz : a2.size = 0
    · have HN : Hid (∀ c r, a2.data.toList = c :: r → Nm.isDig c = false) := fun c r h => by
        have h1 : a2.data.toList.length = a2.size := by simp
        rw [h, hz] at h1
        simp at h1
      have hz2 : ¬ (0 : Int) < (a2.size : Int) := by omega
      have HZ := Lib.hid hz
      clear hz
      go_wp2_with fail
      refine (take_at (a1 ++ S ++ a2) _ _ HSZ.out).mono ?_
      rintro e w' ⟨rfl, rfl⟩
      rw [HTR.out HN.out]
      go_wp2_with fail
      go_ret
      exact ⟨rfl, grown_trans H1.out H2.out⟩
    · have hz0 : 0 < a2.size := by omega
      have HG := Lib.hid (rDigit_at a2[0])
      go_wp2_with fail
      refine (HG.out _).mono ?_
      rintro e w' ⟨rfl, rfl⟩
      by_cases hd : Nm.isDig a2[0] = true
      · rw [hd]
        go_wp2_with fail
        go_ret
        exact ⟨rfl, grown_trans H1.out H2.out⟩
      · rw [show Nm.isDig a2[0] = false by simpa using hd]
        go_wp2_with fail
        have HN : Hid (∀ c r, a2.data.toList = c :: r → Nm.isDig c = false) := fun c r h => by
          have h1 : a2.data.toList[0]'(by rw [h]; simp) = a2[0] := rfl
          simp only [h, List.getElem_cons_zero] at h1
          rw [h1]
          simpa using hd
        clear hd
        refine (take_at (a1 ++ S ++ a2) _ _ HSZ.out).mono ?_
        rintro e w' ⟨rfl, rfl⟩
        rw [HTR.out HN.out]
        go_wp2_with fail
        go_ret
        exact ⟨rfl, grown_trans H1.out H2.out⟩
  · have h2 : a0 < 0 ∨ 2147483647 < a0 := by rw [Nm.isNum_iff] at ha; omega
    clear ha
    have H6 := Lib.hid h2
    rcases h2 with h2 | h2
    all_goals
      go_enter Try.func4, Try.ntmps4
      go_wp2_with fail
      refine (awake_at w).mono ?_
      rintro e w1 ⟨rfl, hg1⟩
      have H1 := Lib.hid hg1
      clear hg1
      go_wp2_with fail
      refine (show_no a0 _ H6.out).mono ?_
      rintro e w3 ⟨rfl, rfl⟩
      go_wp2_with fail
      go_ret
      exact ⟨rfl, H1.out⟩
end Go.Proofs.Ytlelgkllbkgfbaa
