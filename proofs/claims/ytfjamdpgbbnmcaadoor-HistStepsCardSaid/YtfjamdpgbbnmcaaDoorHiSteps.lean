/-
  The walk of HistSteps: it answers true, and what was in memory stays as it was.
  Conditions: the argument is a string; the variable that lists the kinds' words holds them.
-/
import Derived.Test.YtfjamdpgbbnmcaaDoorHiOnly
set_option maxRecDepth 4000
namespace Go.Proofs.YtfjamdpgbbnmcaaDoor
open Go.RowKit

set_option maxHeartbeats 2000000 in
theorem lawHistSteps (s : List UInt8) (w : World) (hK : KW w) (hs : s.length ≤ maxLen) : Calls Tryd.prog 5 #[.string (Ln.bs s)] w (RetBool w true) := by
  have K0 := Lib.hid hK
  have HM := Lib.hid hs
  have hz : (Ln.bs s).size = s.length := Ln.bs_size s
  clear hK hs
  go_enter Tryd.func5, Tryd.ntmps5
  go_wp2_with fail
  refine (hiAwake_at w K0.out).mono ?_
  rintro e w1 ⟨rfl, hb1⟩
  have B1 := Lib.hid hb1
  clear hb1
  by_cases h4 : 4000 < s.length
  · have hd : decide ((4000 : Int) < ((Ln.bs s).size : Int)) = true := by simp; omega
    clear h4 hz
    go_wp2_with fail
    go_ret
    exact ⟨rfl, B1.out⟩
  have hd : decide ((4000 : Int) < ((Ln.bs s).size : Int)) = false := by simp; omega
  clear h4 hz
  go_wp2_with fail
  refine (hParse_at s w1 HM.out (K0.out.below B1.out)).mono ?_
  rintro e w2 ⟨v2, rfl, hs2, hb2⟩
  obtain ⟨A2, c2, rfl, _⟩ := hs2.spelled
  have HYES := Lib.hid (Hi.parse_yes s)
  have HP1 := Lib.hid (Hi.parse_one (s := s))
  have HP2 := Lib.hid (Hi.parse_two (s := s))
  have HP3 := Lib.hid (Hi.parse_three (s := s))
  have HP4 := Lib.hid (Hi.parse_all (s := s))
  have B3 := Lib.hid (below_all B1.out (below_all hb2 (alloc_below w2 (.cells #[.slice A2 (Hi.parseR s).1.length c2] 24))))
  have S3 := Lib.hid (hs2.below (alloc_below w2 (.cells #[.slice A2 (Hi.parseR s).1.length c2] 24)))
  have N3 := Lib.hid (Boxed.new w2 24 (.slice A2 (Hi.parseR s).1.length c2))
  have HWF := Lib.hid (Hi.parsed_wf s)
  have HLN := Lib.hid (Di.parse_len s)
  have HDP := Lib.hid (fun W (h : KW W) => diParse_at s W HM.out h)
  clear hs2 hb2
  generalize Hi.parseR s = r at *
  obtain ⟨h, p, q⟩ := r
  dsimp only at *
  go_wp2_with fail
  generalize w2.alloc (.cells #[.slice A2 h.length c2] 24) = w3 at *
  refine (HDP.out w3 (K0.out.below B3.out)).mono ?_
  rintro e w4 ⟨v4, rfl, hs4, hb4⟩
  obtain ⟨A4, c4, rfl, _⟩ := hs4.spelled
  have B4 := Lib.hid hb4
  have S4 := Lib.hid hs4
  have n4 := (Boxed.later N3.out hb4).cell
  clear hb4 hs4 HDP
  generalize Di.parseR s = d at *
  obtain ⟨l, dp, dq⟩ := d
  dsimp only at *
  by_cases h1 : dq = 0
  rotate_left
  · have hqb : (dq != 0) = true := by rw [bne_iff_ne]; exact h1
    have e := HP1.out h1
    cases e
    clear h1 HP1 HP2 HP3 HP4 HYES
    dsimp only [List.length_nil] at *
    go_wp2_with fail
    go_ret
    exact ⟨rfl, below_all B3.out B4.out⟩
  subst h1
  replace HP2 := Lib.hid (HP2.out rfl)
  replace HP3 := Lib.hid (HP3.out rfl)
  replace HP4 := Lib.hid (HP4.out rfl)
  have HGS := Lib.hid (Hi.group_small l)
  have HGP := Lib.hid (Hi.group_place l)
  clear HP1
  go_wp2_with fail
  refine (group_at l _ w4 S4.out (Nat.le_trans HLN.out (by decide)) HWF.out).mono ?_
  rintro e w5 ⟨v5, rfl, hs5, hb5⟩
  obtain ⟨A5, c5, rfl, _⟩ := hs5.spelled
  have B5 := Lib.hid (below_all B4.out hb5)
  have S5 := Lib.hid hs5
  have n5 := (Boxed.later N3.out B5.out).cell
  clear hb5 hs5 n4
  generalize Gr.groupR l = g at *
  obtain ⟨txs, gp, gq⟩ := g
  dsimp only at *
  have hll := HLN.out
  by_cases h2 : gq = 0
  rotate_left
  · have hqb : (gq != 0) = true := by rw [bne_iff_ne]; exact h2
    have e := HP2.out h2
    have hgp := HGP.out
    cases e
    clear h2 HP2 HP3 HP4 HYES
    dsimp only [List.length_nil] at *
    go_wp2_with fail
    go_ret
    exact ⟨rfl, below_all B3.out B5.out⟩
  subst h2
  replace HP3 := Lib.hid (HP3.out rfl)
  replace HP4 := Lib.hid (HP4.out rfl)
  obtain ⟨hg32, hgs⟩ := HGS.out rfl
  have HOP := Lib.hid hgs
  have HPL := Lib.hid (Hi.hist_place txs)
  clear HP2 HGS hgs HGP
  go_wp2_with fail
  refine (hist_at txs _ w5 S5.out (by omega) (fun t ht => by have := (HOP.out t ht).1; omega)).mono ?_
  rintro e w6 ⟨v6, rfl, hs6, hb6⟩
  obtain ⟨A6, c6, rfl, _⟩ := hs6.spelled
  generalize So.histR txs = r at *
  obtain ⟨ts, hp, hq⟩ := r
  dsimp only at *
  have B7 := Lib.hid (below_all B5.out (below_all hb6 (alloc_below w6 (.cells #[.slice A6 ts.length c6] 24))))
  have S7 := Lib.hid (hs6.below (alloc_below w6 (.cells #[.slice A6 ts.length c6] 24)))
  have T7 := Lib.hid ((S5.out.below hb6).below (alloc_below w6 (.cells #[.slice A6 ts.length c6] 24)))
  have m7 := (Boxed.new w6 24 (.slice A6 ts.length c6)).cell
  have n7 := (Boxed.later N3.out B7.out).cell
  clear hs6 hb6 n5
  by_cases h3 : hq = 0
  · subst h3
    have e := HP4.out rfl
    cases e
    obtain ⟨hr, _, _⟩ := HYES.out rfl
    have HS := Lib.hid (Hi.right_small hr)
    clear hr HYES HP3 HP4 HPL
    go_wp2_with fail
    refine (rSame7_at h _ _ _ (S3.out.below B7.out) S7.out HS.out.1 HS.out.2).mono ?_
    rintro e w8 ⟨rfl, hb8⟩
    have B8 := Lib.hid (below_all B3.out (below_all B7.out hb8))
    clear hb8 n7 m7
    go_wp2_with fail
    go_ret
    exact ⟨rfl, B8.out⟩
  · have hqb : (hq != 0) = true := by rw [bne_iff_ne]; exact h3
    obtain ⟨k, hk, rfl⟩ := HPL.out h3
    have e := HP3.out h3
    rw [Hi.first_at txs k hk] at e
    obtain ⟨ad, u, rfl, _, hT⟩ := txs_at T7.out k hk
    have hfk := (HOP.out _ (List.getElem_mem hk)).2
    obtain ⟨_, _, k2, _⟩ := hT
    generalize txs[k].first = f at *
    cases e
    clear h3 HP3 HP4 HPL HYES HOP
    dsimp only [List.length_nil] at *
    go_wp2_with fail
    go_ret
    exact ⟨rfl, below_all B3.out B7.out⟩
end Go.Proofs.YtfjamdpgbbnmcaaDoor
