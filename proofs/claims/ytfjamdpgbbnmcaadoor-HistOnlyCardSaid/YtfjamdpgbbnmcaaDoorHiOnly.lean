/-
  The walk of HistOnly: it answers true, and what was in memory stays as it was.
  Conditions: the argument is a string; the variable that lists the kinds' words holds them.
-/
import Derived.Test.YtfjamdpgbbnmcaaDoorHiAwake
import Derived.Test.YtfjamdpgbbnmcaaDoorHiFew
set_option maxRecDepth 4000
namespace Go.Proofs.YtfjamdpgbbnmcaaDoor
open Go.RowKit

namespace Hi
theorem right_small {h : List So.Txn} (hr : Right h) : h.length ≤ 4294967296 ∧ ∀ t ∈ h, t.writes.length ≤ 4294967296 ∧ t.reads.length ≤ 4294967296 := by
  refine ⟨by have := hr.1; omega, fun t ht => ?_⟩
  have := right_len hr t ht
  omega
end Hi

set_option maxHeartbeats 1000000 in
theorem lawHistOnly (s : List UInt8) (w : World) (hK : KW w) (hs : s.length ≤ maxLen) : Calls Tryd.prog 4 #[.string (Ln.bs s)] w (RetBool w true) := by
  have K0 := Lib.hid hK
  have HM := Lib.hid hs
  have hz : (Ln.bs s).size = s.length := Ln.bs_size s
  clear hK hs
  go_enter Tryd.func4, Tryd.ntmps4
  go_wp2_with fail
  refine (hiAwake_at w K0.out).mono ?_
  rintro e w1 ⟨rfl, hb1⟩
  have B1 := Lib.hid hb1
  clear hb1
  by_cases h4 : 4000 < s.length
  · have hd : decide ((4000 : Int) < ((Ln.bs s).size : Int)) = true := by simp; omega
    clear h4 hz
    go_wp2_with fail
    go_ret
    exact ⟨rfl, B1.out⟩
  have hd : decide ((4000 : Int) < ((Ln.bs s).size : Int)) = false := by simp; omega
  clear h4 hz
  go_wp2_with fail
  refine (hParse_at s w1 HM.out (K0.out.below B1.out)).mono ?_
  rintro e w2 ⟨v2, rfl, hs2, hb2⟩
  obtain ⟨A2, c2, rfl, _⟩ := hs2.spelled
  have HY := Lib.hid (Hi.parse_yes s)
  have HN := Lib.hid (Hi.parse_nothing s)
  have B3 := Lib.hid (below_all B1.out (below_all hb2 (alloc_below w2 (.cells #[.slice A2 (Hi.parseR s).1.length c2] 24))))
  have S3 := Lib.hid (hs2.below (alloc_below w2 (.cells #[.slice A2 (Hi.parseR s).1.length c2] 24)))
  have N3 := Lib.hid (Boxed.new w2 24 (.slice A2 (Hi.parseR s).1.length c2))
  have n3 := N3.out.cell
  clear hs2 hb2
  generalize Hi.parseR s = r at *
  obtain ⟨h, p, q⟩ := r
  dsimp only at *
  by_cases hq : q = 0
  · subst hq
    obtain ⟨hr, rfl, hsh⟩ := HY.out rfl
    have HS := Lib.hid (Hi.right_small hr)
    have HP := Lib.hid (Hi.parse_show h hr hsh)
    have HL := Lib.hid (Hi.show_short h)
    have HR := Lib.hid hr
    clear HY HN
    go_wp2_with fail
    generalize w2.alloc (.cells #[.slice A2 h.length c2] 24) = w3 at *
    refine (hShow_at h _ w3 S3.out (K0.out.below B3.out) HS.out.2).mono ?_
    rintro e w4 ⟨rfl, hb4⟩
    rw [hsh]
    have B4 := Lib.hid hb4
    clear hb4 n3 hsh hr
    generalize (Hi.showR h).1 = t at *
    go_wp2_with fail
    refine (hParse_at t w4 HL.out (K0.out.below (below_all B3.out B4.out))).mono ?_
    rintro e w5 ⟨v5, rfl, hs5, hb5⟩
    rw [HP.out] at hs5 ⊢
    dsimp only at hs5 ⊢
    obtain ⟨A5, c5, rfl, _⟩ := hs5.spelled
    have B6 := Lib.hid (below_all B4.out (below_all hb5 (alloc_below w5 (.cells #[.slice A5 h.length c5] 24))))
    have S6 := Lib.hid (hs5.below (alloc_below w5 (.cells #[.slice A5 h.length c5] 24)))
    have N6 := Lib.hid (Boxed.new w5 24 (.slice A5 h.length c5))
    have n6 := (Boxed.later N3.out B6.out).cell
    clear hs5 hb5
    go_wp2_with fail
    generalize w5.alloc (.cells #[.slice A5 h.length c5] 24) = w6 at *
    refine (hRight_at h _ w6 (S3.out.below B6.out) HS.out.2).mono ?_
    rintro e w7 ⟨rfl, hb7⟩
    rw [Hi.rightB_yes HR.out]
    have B7 := Lib.hid hb7
    have n7 := (Boxed.later (Boxed.later N3.out B6.out) hb7).cell
    have m7 := (Boxed.later N6.out hb7).cell
    clear hb7 n6
    go_wp2_with fail
    refine (rSame7_at h _ _ _ (S6.out.below B7.out) ((S3.out.below B6.out).below B7.out) HS.out.1 HS.out.2).mono ?_
    rintro e w8 ⟨rfl, hb8⟩
    have B8 := Lib.hid (below_all B3.out (below_all B6.out (below_all B7.out hb8)))
    clear hb8 n7 m7
    go_wp2_with fail
    go_ret
    exact ⟨rfl, B8.out⟩
  · have hqb : (q != 0) = true := by rw [bne_iff_ne]; exact hq
    obtain ⟨rfl, hp⟩ := HN.out hq
    have hpd : decide ((0 : Int) ≤ p) = true := decide_eq_true hp
    clear hq HY HN hp
    dsimp only [List.length_nil] at *
    go_wp2_with fail
    go_ret
    exact ⟨rfl, B3.out⟩
end Go.Proofs.YtfjamdpgbbnmcaaDoor
