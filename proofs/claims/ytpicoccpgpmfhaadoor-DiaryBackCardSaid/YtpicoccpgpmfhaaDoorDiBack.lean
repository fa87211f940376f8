/-
  DiaryBack answers true for every text and every row of events: what is shown is parsed, and what is parsed is shown as it was.
  Conditions: the variable that lists the kinds' words holds them; a string's length is at most the model's greatest.
-/
import Derived.Test.YtpicoccpgpmfhaaDoorDiAwake
namespace Go.Proofs.YtpicoccpgpmfhaaDoor
open Go.RowKit

set_option maxHeartbeats 1000000 in
theorem lawDiaryBack (s : List UInt8) (l : List Ev.Event) (v : Value) (w : World) (hK : KW w) (hs : s.length ≤ maxLen) (hv : Evs w v l) : Calls Tryd.prog 4 #[.string (Ln.bs s), v] w (RetBool w true) := by
  have K0 := Lib.hid hK
  have V0 := Lib.hid hv
  have HM := Lib.hid hs
  have hz : (Ln.bs s).size = s.length := Ln.bs_size s
  obtain ⟨A, c, rfl, _⟩ := hv.form
  clear hK hs hv
  go_enter Tryd.func4, Tryd.ntmps4
  go_wp2_with fail
  refine (diAwake_at w K0.out).mono ?_
  rintro e w1 ⟨rfl, hb1⟩
  have K1 := Lib.hid (K0.out.below hb1)
  have V1 := Lib.hid (V0.out.below hb1)
  have B1 := Lib.hid hb1
  clear hb1 K0 V0
  by_cases h4 : 4000 < s.length
  · have hd : decide ((4000 : Int) < ((Ln.bs s).size : Int)) = true := by simp; omega
    clear h4 hz
    go_wp2_with fail
    go_ret
    exact ⟨rfl, B1.out⟩
  have hd : decide ((4000 : Int) < ((Ln.bs s).size : Int)) = false := by simp; omega
  clear h4 hz
  by_cases h5 : 500 < l.length
  · have hd2 : decide ((500 : Int) < (l.length : Int)) = true := by simp; omega
    go_wp2_with fail
    go_ret
    exact ⟨rfl, B1.out⟩
  have hd2 : decide ((500 : Int) < (l.length : Int)) = false := by simp; omega
  have HL : Hid (l.length ≤ 4294967296) := by rw [Hid]; omega
  have HG : Hid ((Di.parseR s).2.2 = 0 → Di.showR (Di.parseR s).1 = (s, 0)) := fun h => Di.parse_own s h
  have HN : Hid ((Di.parseR s).2.2 ≠ 0 → (Di.parseR s).1 = []) := fun h => Di.parse_none s h
  have HP := Lib.hid (fun W (h : KW W) => diParse_at s W HM.out h)
  generalize Di.parseR s = r at *
  go_wp2_with fail
  refine (diShow_at l _ w1 V1.out K1.out).mono ?_
  rintro e w2 ⟨rfl, hb2⟩
  have K2 := Lib.hid (K1.out.below hb2)
  have V2 := Lib.hid (V1.out.below hb2)
  have B2 := Lib.hid (below_all B1.out hb2)
  clear hb2 K1 V1 B1
  by_cases he : (Di.showR l).2 = 0
  · have HB := Lib.hid (Di.parse_back l he)
    have HT : Hid ((Di.showR l).1.length ≤ maxLen) := by
      have := Di.show_len l
      rw [Hid]; unfold maxLen; omega
    rw [he]
    generalize (Di.showR l).1 = t at *
    clear he
    go_wp2_with fail
    refine (diParse_at t w2 HT.out K2.out).mono ?_
    rintro e w3 ⟨v3, rfl, hs3, hb3⟩
    rw [HB.out] at hs3 ⊢
    have K3 := Lib.hid (K2.out.below hb3)
    have V3 := Lib.hid (V2.out.below hb3)
    have S3 := Lib.hid hs3
    have B3 := Lib.hid (below_all B2.out hb3)
    clear hb3 hs3 K2 V2 B2
    go_wp2_with fail
    refine (rEvSame_at l l _ v3 w3 V3.out S3.out HL.out HL.out).mono ?_
    rintro e w4 ⟨rfl, hb4⟩
    rw [decide_eq_true rfl]
    have K4 := Lib.hid (K3.out.below hb4)
    have B4 := Lib.hid (below_all B3.out hb4)
    clear hb4 K3 B3
    go_wp2_with fail
    refine (HP.out w4 K4.out).mono ?_
    rintro e w5 ⟨v5, rfl, hs5, hb5⟩
    have K5 := Lib.hid (K4.out.below hb5)
    have B5 := Lib.hid (below_all B4.out hb5)
    clear hb5 K4 B4
    by_cases hq : r.2.2 = 0
    · have HQ := Lib.hid (HG.out hq)
      have S5 := Lib.hid hs5
      rw [hq]
      clear hq hs5
      go_wp2_with fail
      refine (diShow_at r.1 v5 w5 S5.out K5.out).mono ?_
      rintro e w6 ⟨rfl, hb6⟩
      rw [HQ.out]
      have B6 := Lib.hid (below_all B5.out hb6)
      clear hb6
      go_wp2_with fail
      go_ret
      exact ⟨rfl, B6.out⟩
    · obtain ⟨A5, c5, rfl⟩ := hs5.none_ (HN.out hq)
      have hqb : (r.2.2 != 0) = true := by rw [bne_iff_ne]; exact hq
      generalize r.2.2 = q at *
      clear hs5 hq
      go_wp2_with fail
      go_ret
      exact ⟨rfl, B5.out⟩
  · have hte := Di.show_none l he
    have heb : ((Di.showR l).2 == 0) = false := by rw [beq_eq_false_iff_ne]; exact he
    rw [hte]
    generalize (Di.showR l).2 = j at *
    have hbe : (Ln.bs []).toList = [] := by rw [Lib.toList_data, Ln.bs_data]
    clear hte he
    go_wp2_with fail
    refine (HP.out w2 K2.out).mono ?_
    rintro e w5 ⟨v5, rfl, hs5, hb5⟩
    have K5 := Lib.hid (K2.out.below hb5)
    have B5 := Lib.hid (below_all B2.out hb5)
    clear hb5 K2 B2
    by_cases hq : r.2.2 = 0
    · have HQ := Lib.hid (HG.out hq)
      have S5 := Lib.hid hs5
      rw [hq]
      clear hq hs5
      go_wp2_with fail
      refine (diShow_at r.1 v5 w5 S5.out K5.out).mono ?_
      rintro e w6 ⟨rfl, hb6⟩
      rw [HQ.out]
      have B6 := Lib.hid (below_all B5.out hb6)
      clear hb6
      go_wp2_with fail
      go_ret
      exact ⟨rfl, B6.out⟩
    · obtain ⟨A5, c5, rfl⟩ := hs5.none_ (HN.out hq)
      have hqb : (r.2.2 != 0) = true := by rw [bne_iff_ne]; exact hq
      generalize r.2.2 = q at *
      clear hs5 hq
      go_wp2_with fail
      go_ret
      exact ⟨rfl, B5.out⟩
end Go.Proofs.YtpicoccpgpmfhaaDoor
