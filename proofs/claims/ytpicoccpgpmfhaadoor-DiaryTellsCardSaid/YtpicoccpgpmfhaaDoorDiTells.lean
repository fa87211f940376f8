/-
  DiaryTells answers true for every text and every row of events: a text's events, or where it is wrong, and how, and events' text, are the document's.
  Conditions: the variable that lists the kinds' words holds them; a string's length is at most the model's greatest.
-/
import Derived.Test.YtpicoccpgpmfhaaDoorDiAwake
namespace Go.Proofs.YtpicoccpgpmfhaaDoor
open Go.RowKit

set_option maxHeartbeats 1000000 in
theorem lawDiaryTells (s : List UInt8) (l : List Ev.Event) (v : Value) (w : World) (hK : KW w) (hs : s.length ≤ maxLen) (hv : Evs w v l) : Calls Tryd.prog 3 #[.string (Ln.bs s), v] w (RetBool w true) := by
  have K0 := Lib.hid hK
  have V0 := Lib.hid hv
  have HM := Lib.hid hs
  have hz : (Ln.bs s).size = s.length := Ln.bs_size s
  obtain ⟨A, c, rfl, _⟩ := hv.form
  clear hK hs hv
  go_enter Tryd.func3, Tryd.ntmps3
  go_wp2_with fail
  refine (diAwake_at w K0.out).mono ?_
  rintro e w1 ⟨rfl, hb1⟩
  have K1 := Lib.hid (K0.out.below hb1)
  have V1 := Lib.hid (V0.out.below hb1)
  have B1 := Lib.hid hb1
  clear hb1 K0 V0
  by_cases h4 : 4000 < s.length
  · have hd : decide ((4000 : Int) < ((Ln.bs s).size : Int)) = true := by simp; omega
    clear h4 hz
    go_wp2_with fail
    go_ret
    exact ⟨rfl, B1.out⟩
  have hd : decide ((4000 : Int) < ((Ln.bs s).size : Int)) = false := by simp; omega
  have HS4 : Hid (s.length ≤ 4294967296) := by rw [Hid]; omega
  clear h4 hz
  by_cases h5 : 500 < l.length
  · have hd2 : decide ((500 : Int) < (l.length : Int)) = true := by simp; omega
    go_wp2_with fail
    go_ret
    exact ⟨rfl, B1.out⟩
  have hd2 : decide ((500 : Int) < (l.length : Int)) = false := by simp; omega
  go_wp2_with fail
  refine (diParse_at s w1 HM.out K1.out).mono ?_
  rintro e w2 ⟨v2, rfl, hs2, hb2⟩
  have HL : Hid ((Di.parseR s).1.length ≤ 4294967296) := by
    have := Di.parse_len s
    rw [Hid]; omega
  have K2 := Lib.hid (K1.out.below hb2)
  have V2 := Lib.hid (V1.out.below hb2)
  have S2 := Lib.hid hs2
  have B2 := Lib.hid (below_all B1.out hb2)
  clear hb2 hs2 K1 V1 B1
  go_wp2_with fail
  refine (rDiParse_at s w2 HS4.out).mono ?_
  rintro e w3 ⟨v3, rfl, hs3, hb3⟩
  generalize Di.parseR s = r at *
  have K3 := Lib.hid (K2.out.below hb3)
  have V3 := Lib.hid (V2.out.below hb3)
  have S3 := Lib.hid (S2.out.below hb3)
  have T3 := Lib.hid hs3
  have B3 := Lib.hid (below_all B2.out hb3)
  clear hb3 hs3 K2 V2 S2 B2
  go_wp2_with fail
  refine (diShow_at l _ w3 V3.out K3.out).mono ?_
  rintro e w4 ⟨rfl, hb4⟩
  have V4 := Lib.hid (V3.out.below hb4)
  have S4 := Lib.hid (S3.out.below hb4)
  have T4 := Lib.hid (T3.out.below hb4)
  have B4 := Lib.hid (below_all B3.out hb4)
  clear hb4 K3 V3 S3 T3 B3
  go_wp2_with fail
  refine (rDiShow_at l _ w4 V4.out).mono ?_
  rintro e w5 ⟨rfl, hb5⟩
  generalize Di.showR l = p at *
  have S5 := Lib.hid (S4.out.below hb5)
  have T5 := Lib.hid (T4.out.below hb5)
  have B5 := Lib.hid (below_all B4.out hb5)
  clear hb5 V4 S4 T4 B4
  go_wp2_with fail
  refine (rEvSame_at r.1 r.1 v2 v3 w5 S5.out T5.out HL.out HL.out).mono ?_
  rintro e w6 ⟨rfl, hb6⟩
  rw [decide_eq_true rfl]
  have B6 := Lib.hid (below_all B5.out hb6)
  clear hb6
  go_wp2_with fail
  go_ret
  exact ⟨rfl, B6.out⟩
end Go.Proofs.YtpicoccpgpmfhaaDoor
