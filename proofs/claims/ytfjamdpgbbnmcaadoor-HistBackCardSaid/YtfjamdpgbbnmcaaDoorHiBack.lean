/-
  The walk of HistBack: it answers true, and what was in memory stays as it was.
  Conditions: the argument reads as a history; the variable that lists the kinds' words holds them.
-/
import Derived.Test.YtfjamdpgbbnmcaaDoorHiAwake
import Derived.Test.YtfjamdpgbbnmcaaDoorHiFew
set_option maxRecDepth 4000
namespace Go.Proofs.YtfjamdpgbbnmcaaDoor
open Go.RowKit

set_option maxHeartbeats 1000000 in
theorem lawHistBack (h : List So.Txn) (u : Value) (w : World) (hK : KW w) (hv : Txns w u h) : Calls Tryd.prog 3 #[.agg #[u]] w (RetBool w true) := by
  have B0 := Lib.hid (alloc_below w (.cells #[u] 24))
  have K0 := Lib.hid (hK.below B0.out)
  have V0 := Lib.hid (hv.below B0.out)
  have N0 := Lib.hid (Boxed.new w 24 u)
  obtain ⟨A, c, rfl, _⟩ := hv.spelled
  clear hK hv
  go_enter Tryd.func3, Tryd.ntmps3
  go_wp2_with fail
  generalize w.alloc (.cells #[.slice A h.length c] 24) = w1 at *
  refine (hiAwake_at w1 K0.out).mono ?_
  rintro e w2 ⟨rfl, hb2⟩
  have B2 := Lib.hid hb2
  have n2 := (Boxed.later N0.out hb2).cell
  clear hb2
  go_wp2_with fail
  refine (few8_at h _ w2 (V0.out.below B2.out)).mono ?_
  rintro e w3 ⟨rfl, hb3⟩
  have B3 := Lib.hid (below_all B2.out hb3)
  clear hb3 n2
  cases hf : Hi.fewB h with
  | false =>
    clear hf
    go_wp2_with fail
    go_ret
    exact ⟨rfl, below_all B0.out B3.out⟩
  | true =>
  have HS := Lib.hid (Hi.few_small hf)
  have n3 := (Boxed.later N0.out B3.out).cell
  clear hf
  go_wp2_with fail
  refine (hShow_at h _ w3 (V0.out.below B3.out) (K0.out.below B3.out) HS.out.2.2).mono ?_
  rintro e w4 ⟨rfl, hb4⟩
  have B4 := Lib.hid (below_all B3.out hb4)
  have n4 := (Boxed.later N0.out B4.out).cell
  clear hb4 n3
  have HSH := Lib.hid (Hi.show_short h)
  have HPS := Lib.hid (Hi.parse_show h)
  have HSN := Lib.hid (Hi.show_not h)
  have HSC := Lib.hid (Hi.show_cases h)
  generalize Hi.showR h = r at *
  obtain ⟨s, q⟩ := r
  dsimp only at *
  go_wp2_with fail
  refine (hRight_at h _ w4 (V0.out.below B4.out) HS.out.2.2).mono ?_
  rintro e w5 ⟨rfl, hb5⟩
  have B5 := Lib.hid (below_all B4.out hb5)
  clear hb5 n4
  have hbe : (Ln.bs []).toList = [] := by rw [Lib.toList_data, Ln.bs_data]
  by_cases hr : Hi.Right h
  · rw [Hi.rightB_yes hr]
    rcases HSC.out hr with h0 | h4
    · subst h0
      have HP := Lib.hid (HPS.out hr rfl)
      clear hr hbe
      go_wp2_with fail
      refine (hParse_at s w5 HSH.out (K0.out.below B5.out)).mono ?_
      rintro e w6 ⟨v6, rfl, hs6, hb6⟩
      rw [HP.out] at hs6 ⊢
      dsimp only at hs6 ⊢
      obtain ⟨A6, c6, rfl, _⟩ := hs6.spelled
      have B7 := Lib.hid (below_all B5.out (below_all hb6 (alloc_below w6 (.cells #[.slice A6 h.length c6] 24))))
      have S7 := Lib.hid (hs6.below (alloc_below w6 (.cells #[.slice A6 h.length c6] 24)))
      have n7 := (Boxed.new w6 24 (.slice A6 h.length c6)).cell
      have m7 := (Boxed.later N0.out B7.out).cell
      clear hb6 hs6
      go_wp2_with fail
      refine (rSame7_at h _ _ _ S7.out (V0.out.below B7.out) HS.out.2.1 HS.out.2.2).mono ?_
      rintro e w8 ⟨rfl, hb8⟩
      have B8 := Lib.hid (below_all B0.out (below_all B7.out hb8))
      clear hb8 n7 m7
      go_wp2_with fail
      go_ret
      exact ⟨rfl, B8.out⟩
    · cases h4
      clear hr
      go_wp2_with fail
      go_ret
      exact ⟨rfl, below_all B0.out B5.out⟩
  · have e := HSN.out hr
    rw [Hi.rightB_no hr]
    cases e
    clear hr
    go_wp2_with fail
    go_ret
    exact ⟨rfl, below_all B0.out B5.out⟩
end Go.Proofs.YtfjamdpgbbnmcaaDoor
