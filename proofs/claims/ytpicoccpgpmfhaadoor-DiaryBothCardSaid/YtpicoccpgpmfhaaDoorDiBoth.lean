/-
  DiaryBoth answers true for every two texts: two texts of events, one behind the other, are both events, if they are not too many.
  Conditions: the variable that lists the kinds' words holds them; a string's length is at most the model's greatest.
-/
import Derived.Test.YtpicoccpgpmfhaaDoorDiAwake
namespace Go.Proofs.YtpicoccpgpmfhaaDoor
open Go.RowKit

set_option maxHeartbeats 1000000 in
theorem lawDiaryBoth (s t : List UInt8) (w : World) (hK : KW w) (hs : s.length ≤ maxLen) (ht : t.length ≤ maxLen) : Calls Tryd.prog 6 #[.string (Ln.bs s), .string (Ln.bs t)] w (RetBool w true) := by
  obtain ⟨i0, hi0, hz0, hz1, hz2⟩ := info_parts ev_info
  have I0 := Lib.hid hi0
  have I1 := Lib.hid hz0
  have I2 := Lib.hid hz1
  have I3 := Lib.hid hz2
  clear hi0 hz0 hz1 hz2
  have K0 := Lib.hid hK
  have HM := Lib.hid hs
  have HM2 := Lib.hid ht
  have hz1 : (Ln.bs s).size = s.length := Ln.bs_size s
  have hz2 : (Ln.bs t).size = t.length := Ln.bs_size t
  clear hK hs ht
  go_enter Tryd.func6, Tryd.ntmps6
  go_wp2_with fail
  refine (diAwake_at w K0.out).mono ?_
  rintro e w1 ⟨rfl, hb1⟩
  have K1 := Lib.hid (K0.out.below hb1)
  have B1 := Lib.hid hb1
  clear hb1 K0
  by_cases h3 : 2000 < s.length
  · have hd : decide ((2000 : Int) < ((Ln.bs s).size : Int)) = true := by simp; omega
    clear h3 hz1 hz2
    go_wp2_with fail
    go_ret
    exact ⟨rfl, B1.out⟩
  have hd : decide ((2000 : Int) < ((Ln.bs s).size : Int)) = false := by simp; omega
  by_cases h4 : 2000 < t.length
  · have hd2 : decide ((2000 : Int) < ((Ln.bs t).size : Int)) = true := by simp; omega
    clear h3 h4 hz1 hz2
    go_wp2_with fail
    go_ret
    exact ⟨rfl, B1.out⟩
  have hd2 : decide ((2000 : Int) < ((Ln.bs t).size : Int)) = false := by simp; omega
  have hzz : ¬ 9223372036854775807 < (Ln.bs s).size + (Ln.bs t).size := by omega
  have HST : Hid ((s ++ t).length ≤ maxLen) := by rw [Hid, List.length_append]; unfold maxLen; omega
  have hadd := bs_add s t
  clear h3 h4 hz1 hz2
  have hla := Di.parse_len s
  have hlb := Di.parse_len t
  have HN : Hid ((Di.parseR s).2.2 ≠ 0 → (Di.parseR s).1 = []) := fun h => Di.parse_none s h
  have HBO := Lib.hid (Di.parse_both s t)
  have HPS := Lib.hid (fun W (h : KW W) => diParse_at s W HM.out h)
  have HPT := Lib.hid (fun W (h : KW W) => diParse_at t W HM2.out h)
  generalize Di.parseR s = r at *
  generalize Di.parseR t = p at *
  obtain ⟨a, at', q⟩ := r
  obtain ⟨b, bt', q'⟩ := p
  dsimp only at *
  go_wp2_with fail
  refine (HPS.out w1 K1.out).mono ?_
  rintro e w2 ⟨v2, rfl, hs2, hb2⟩
  have K2 := Lib.hid (K1.out.below hb2)
  have S2 := Lib.hid hs2
  have B2 := Lib.hid (below_all B1.out hb2)
  clear hb2 hs2 K1 B1
  dsimp only at *
  go_wp2_with fail
  refine (HPT.out w2 K2.out).mono ?_
  rintro e w3 ⟨v3, rfl, hs3, hb3⟩
  have K3 := Lib.hid (K2.out.below hb3)
  have S23 := Lib.hid (S2.out.below hb3)
  have S3 := Lib.hid hs3
  have B3 := Lib.hid (below_all B2.out hb3)
  clear hb3 hs3 K2 B2 S2
  dsimp only at *
  obtain ⟨A, c, rfl, _⟩ := S23.out.form
  obtain ⟨A', c', rfl, _⟩ := S3.out.form
  by_cases hq : q = 0
  · subst hq
    by_cases hr : q' = 0
    · subst hr
      by_cases h400 : 400 < a.length + b.length
      · have h5 : decide ((400 : Int) < (a.length : Int) + (b.length : Int)) = true := by simp; omega
        clear hadd
        go_wp2_with fail
        go_ret
        exact ⟨rfl, B3.out⟩
      · have h5 : decide ((400 : Int) < (a.length : Int) + (b.length : Int)) = false := by simp; omega
        have HB := Lib.hid (HBO.out rfl rfl (by omega))
        clear HBO HN
        go_wp2_with fail
        refine (diParse_at (s ++ t) w3 HST.out K3.out).mono ?_
        rintro e w4 ⟨v4, rfl, hs4, hb4⟩
        rw [HB.out] at hs4 ⊢
        have S4 := Lib.hid hs4
        have S24 := Lib.hid (S23.out.below hb4)
        have S34 := Lib.hid (S3.out.below hb4)
        have B4 := Lib.hid (below_all B3.out hb4)
        clear hs4 hb4 hadd S23 S3 B3
        go_wp2_with (first
          | (at_builtin; refine wpList_append_sl _ rfl (.tmp 68) (.tmp 69) 22 rfl w4.heap.size 35 i0 _ 4 32 Tryd.underlying22 I0.out I1.out I2.out I3.out rfl (by decide) (.slice none 0 0) 0 [] rfl (World.ownsRow_nil _ _ _ _) _ a.length (a.flatMap evCells) rfl S24.out (all_evs a) (by simp only [maxLen]; omega) (by omega) (Nat.le_refl _) ?_; intro v5 w5 hown hgrow hat; have O5 := Lib.hid (show w5.ownsRow w4.heap.size 35 4 v5 a.length (a.flatMap evCells) from by simpa using hown); have B5 := Lib.hid (show Below w4.heap.size w4 w5 from (Below.refl _ w4).grown hgrow (Nat.le_refl _) (by simp [Value.ownBlock])); have S35 := Lib.hid (S34.out.below B5.out); have S45 := Lib.hid (S4.out.below B5.out); clear hown hgrow hat)
          | (at_builtin; refine wpList_append_sl _ rfl (.tmp 71) (.tmp 72) 22 rfl w4.heap.size 35 i0 _ 4 32 Tryd.underlying22 I0.out I1.out I2.out I3.out rfl (by decide) v5 a.length (a.flatMap evCells) rfl O5.out _ b.length (b.flatMap evCells) rfl S35.out (all_evs b) (by simp only [maxLen]; omega) (by omega) B5.out.size ?_; intro v6 w6 hown hgrow hat; have O6 := Lib.hid (show Evs w6 v6 (a ++ b) from Evs.own (by rw [List.length_append, List.flatMap_append]; exact hown)); have B6 := Lib.hid (below_append B5.out B5.out.size O5.out hgrow); clear hown hgrow hat))
        refine (rEvSame_at (a ++ b) (a ++ b) v4 v6 w6 (S4.out.below B6.out) O6.out (by rw [List.length_append]; omega) (by rw [List.length_append]; omega)).mono ?_
        rintro e w7 ⟨rfl, hb7⟩
        rw [decide_eq_true rfl]
        have B7 := Lib.hid (below_all B4.out (below_all B6.out hb7))
        clear hb7
        go_wp2_with fail
        go_ret
        exact ⟨rfl, B7.out⟩
    · have hrb : (q' != 0) = true := by rw [bne_iff_ne]; exact hr
      clear hr hadd
      go_wp2_with fail
      go_ret
      exact ⟨rfl, B3.out⟩
  · have ha : a = [] := HN.out hq
    subst ha
    have hqb : (q != 0) = true := by rw [bne_iff_ne]; exact hq
    clear hq hadd
    go_wp2_with fail
    all_goals
      go_ret
      exact ⟨rfl, B3.out⟩
end Go.Proofs.YtpicoccpgpmfhaaDoor
