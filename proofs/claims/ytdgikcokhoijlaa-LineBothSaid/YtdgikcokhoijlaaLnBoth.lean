/-
  LineBoth answers true for every two texts: the lines of both, one behind the other, are those of the first and then those of the second.
  Conditions: a string's length is at most the model's greatest.
-/
import Derived.Test.YtdgikcokhoijlaaLnAwake
namespace Go.Proofs.Ytdgikcokhoijlaa
open Go.RowKit

set_option maxHeartbeats 1000000 in
theorem lawLineBoth (s t : List UInt8) (w : World) (hs : s.length ≤ maxLen) (ht : t.length ≤ maxLen) :
    Calls Try.prog 5 #[.string (Ln.bs s), .string (Ln.bs t)] w (RetBool w true) := by
  obtain ⟨i0, hi0, hz0, hz1, hz2⟩ := info_parts str_info
  have I0 := Lib.hid hi0
  have I1 := Lib.hid hz0
  have I2 := Lib.hid hz1
  have I3 := Lib.hid hz2
  clear hi0 hz0 hz1 hz2
  have HM := Lib.hid hs
  have HM2 := Lib.hid ht
  unfold maxLen at hs ht
  have hz1 : (Ln.bs s).size ≤ s.length := by rw [Ln.bs_size]; exact Nat.le_refl _
  have hz2 : s.length ≤ (Ln.bs s).size := by rw [Ln.bs_size]; exact Nat.le_refl _
  have hz3 : (Ln.bs t).size ≤ t.length := by rw [Ln.bs_size]; exact Nat.le_refl _
  have hz4 : t.length ≤ (Ln.bs t).size := by rw [Ln.bs_size]; exact Nat.le_refl _
  go_enter Try.func5, Try.ntmps5
  go_wp2_with fail
  refine (lineAwake_at w).mono ?_
  rintro e w1 ⟨rfl, hb1⟩
  have B1 := Lib.hid hb1
  clear hb1
  by_cases h3 : 2000 < s.length
  · have hd : decide ((2000 : Int) < ((Ln.bs s).size : Int)) = true := by simp; omega
    go_wp2_with fail
    go_ret
    exact ⟨rfl, B1.out⟩
  have hd : decide ((2000 : Int) < ((Ln.bs s).size : Int)) = false := by simp; omega
  by_cases h4 : 2000 < t.length
  · have hd2 : decide ((2000 : Int) < ((Ln.bs t).size : Int)) = true := by simp; omega
    go_wp2_with fail
    go_ret
    exact ⟨rfl, B1.out⟩
  have hd2 : decide ((2000 : Int) < ((Ln.bs t).size : Int)) = false := by simp; omega
  go_wp2_with fail
  refine (split_at s w1 HM.out).mono ?_
  rintro e w2 ⟨v2, rfl, hs2, hb2⟩
  have B2 := Lib.hid (below_all B1.out hb2)
  have S2 := Lib.hid hs2
  clear hs2 hb2
  go_wp2_with fail
  refine (split_at t w2 HM2.out).mono ?_
  rintro e w3 ⟨v3, rfl, hs3, hb3⟩
  have B3 := Lib.hid (below_all B2.out hb3)
  have S3 := Lib.hid hs3
  have S23 := Lib.hid (S2.out.below hb3)
  clear hs3 hb3
  by_cases hq : (Ln.splitR s).2 = 0
  · by_cases hr : (Ln.splitR t).2 = 0
    · have HB := Lib.hid (Ln.split_both s t hq hr)
      have hla := Ln.splitR_len s
      have hlb := Ln.splitR_len t
      rw [hq, hr]
      clear hq hr
      obtain ⟨a, ha⟩ : ∃ a, a = (Ln.splitR s).1 := ⟨_, rfl⟩
      obtain ⟨b, hb⟩ : ∃ b, b = (Ln.splitR t).1 := ⟨_, rfl⟩
      rw [← ha, ← hb] at HB
      rw [← ha] at S2 S23 hla
      rw [← hb] at S3 hlb
      clear ha hb
      obtain ⟨A, c, rfl, _⟩ := S23.out.form
      obtain ⟨A', c', rfl, _⟩ := S3.out.form
      have hzz : ¬ 9223372036854775807 < (Ln.bs s).size + (Ln.bs t).size := by omega
      have hadd := bs_add s t
      go_wp2_with fail
      refine (split_at (s ++ t) w3 (by rw [List.length_append]; unfold maxLen; omega)).mono ?_
      rintro e w4 ⟨v4, rfl, hs4, hb4⟩
      rw [HB.out] at hs4 ⊢
      by_cases h400 : 400 < a.length + b.length
      · rw [if_pos h400] at hs4 ⊢
        obtain ⟨A4, c4, rfl⟩ := hs4.none_ rfl
        have h5 : decide ((400 : Int) < (a.length : Int) + (b.length : Int)) = true := by simp; omega
        have B4 := Lib.hid (below_all B3.out hb4)
        clear hs4 hb4 hadd
        go_wp2_with fail
        go_ret
        exact ⟨rfl, B4.out⟩
      · rw [if_neg h400] at hs4 ⊢
        have h5 : decide ((400 : Int) < (a.length : Int) + (b.length : Int)) = false := by simp; omega
        have B4 := Lib.hid (below_all B3.out hb4)
        have S4 := Lib.hid hs4
        have S24 := Lib.hid (S23.out.below hb4)
        have S34 := Lib.hid (S3.out.below hb4)
        clear hs4 hb4 hadd
        go_wp2_with (first
          | (at_builtin; refine wpList_append_sl _ rfl (.tmp 67) (.tmp 68) 22 rfl w4.heap.size 9 i0 _ 1 16 Try.underlying22 I0.out I1.out I2.out I3.out rfl (by decide) (.slice none 0 0) 0 [] rfl (World.ownsRow_nil _ _ _ _) _ a.length (a.map strV) rfl S24.out (all_strs a) (by simp only [maxLen]; omega) (by omega) (Nat.le_refl _) ?_; intro v5 w5 hown hgrow hat; have O5 := Lib.hid (show w5.ownsRow w4.heap.size 9 1 v5 a.length (a.map strV) from by simpa using hown); have B5 := Lib.hid (show Below w4.heap.size w4 w5 from (Below.refl _ w4).grown hgrow (Nat.le_refl _) (by simp [Value.ownBlock])); have S35 := Lib.hid (S34.out.below B5.out); have S45 := Lib.hid (S4.out.below B5.out); clear hown hgrow hat)
          | (at_builtin; refine wpList_append_sl _ rfl (.tmp 70) (.tmp 71) 22 rfl w4.heap.size 9 i0 _ 1 16 Try.underlying22 I0.out I1.out I2.out I3.out rfl (by decide) v5 a.length (a.map strV) rfl O5.out _ b.length (b.map strV) rfl S35.out (all_strs b) (by simp only [maxLen]; omega) (by omega) B5.out.size ?_; intro v6 w6 hown hgrow hat; have O6 := Lib.hid (show Strs w6 v6 (a ++ b) from Sl.own (by rw [List.length_append, List.map_append]; exact hown)); have B6 := Lib.hid (below_append B5.out B5.out.size O5.out hgrow); clear hown hgrow hat))
        refine (rSame_at _ _ v4 v6 w6 (S4.out.below B6.out) O6.out (by rw [List.length_append]; omega) (by rw [List.length_append]; omega)).mono ?_
        rintro e w7 ⟨rfl, hb7⟩
        rw [decide_eq_true rfl]
        have B7 := Lib.hid (below_all B4.out (below_all B6.out hb7))
        clear hb7
        go_wp2_with fail
        go_ret
        exact ⟨rfl, B7.out⟩
    · have hrb : ((Ln.splitR t).2 != 0) = true := by simpa using hr
      rw [hq]
      generalize (Ln.splitR t).2 = q at *
      obtain ⟨A, c, rfl, _⟩ := S23.out.form
      obtain ⟨n, hn⟩ : ∃ n, n = (Ln.splitR s).1.length := ⟨_, rfl⟩
      rw [← hn]
      clear hr hn hq
      go_wp2_with fail
      · go_ret
        exact ⟨rfl, B3.out⟩
      · go_ret
        exact ⟨rfl, B3.out⟩
  · obtain ⟨A, c, rfl⟩ := S2.out.none_ (Ln.splitR_err s hq)
    have hqb : ((Ln.splitR s).2 != 0) = true := by simpa using hq
    generalize (Ln.splitR s).2 = q at *
    generalize (Ln.splitR t).2 = q' at *
    clear hq
    go_wp2_with fail
    go_ret
    exact ⟨rfl, B3.out⟩
end Go.Proofs.Ytdgikcokhoijlaa
