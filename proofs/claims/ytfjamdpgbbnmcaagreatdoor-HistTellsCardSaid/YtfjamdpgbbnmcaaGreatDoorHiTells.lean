/-
  The walk of HistTells: it answers true, and what was in memory stays as it was.
  Conditions: the arguments read as a string and a history; the variable that lists the kinds' words holds them.
-/
import Derived.Test.YtfjamdpgbbnmcaaGreatDoorHiAwake
import Derived.Test.YtfjamdpgbbnmcaaGreatDoorHiFew
import Derived.Test.YtfjamdpgbbnmcaaGreatDoorHiRefC
set_option maxRecDepth 4000
namespace Go.Proofs.YtfjamdpgbbnmcaaGreatDoor
open Go.RowKit

namespace Hi
theorem parse_small (s : List UInt8) : (parseR s).1.length ≤ 4294967296 ∧ ∀ t ∈ (parseR s).1, t.writes.length ≤ 4294967296 ∧ t.reads.length ≤ 4294967296 := by
  by_cases hq : (parseR s).2.2 = 0
  · have hr := (parse_yes s hq).1
    refine ⟨by have := hr.1; omega, fun t ht => ?_⟩
    have := right_len hr t ht
    omega
  · rw [(parse_nothing s hq).1]
    exact ⟨by simp, fun t ht => by cases ht⟩
end Hi

set_option maxHeartbeats 2000000 in
theorem lawHistTells (s : List UInt8) (h : List So.Txn) (u : Value) (w : World) (hK : KW w) (hs : s.length ≤ maxLen) (hv : Txns w u h) : Calls Tryz.prog 3 #[.string (Ln.bs s), .agg #[u]] w (RetBool w true) := by
  have HM := Lib.hid hs
  have hz : (Ln.bs s).size = s.length := Ln.bs_size s
  have B0 := Lib.hid (alloc_below w (.cells #[u] 24))
  have K0 := Lib.hid (hK.below B0.out)
  have V0 := Lib.hid (hv.below B0.out)
  have N0 := Lib.hid (Boxed.new w 24 u)
  obtain ⟨A, c, rfl, _⟩ := hv.spelled
  clear hK hv hs
  go_enter Tryz.func3, Tryz.ntmps3
  go_wp2_with fail
  generalize w.alloc (.cells #[.slice A h.length c] 24) = w1 at *
  refine (hiAwake_at w1 K0.out).mono ?_
  rintro e w2 ⟨rfl, hb2⟩
  have B2 := Lib.hid hb2
  have n2 := (Boxed.later N0.out hb2).cell
  clear hb2
  go_wp2_with fail
  refine (few8_at h _ w2 (V0.out.below B2.out)).mono ?_
  rintro e w3 ⟨rfl, hb3⟩
  have B3 := Lib.hid (below_all B2.out hb3)
  have n3 := (Boxed.later N0.out B3.out).cell
  clear hb3 n2
  by_cases h4 : 4000 < s.length
  · have hd : decide ((4000 : Int) < ((Ln.bs s).size : Int)) = true := by simp; omega
    clear h4 hz
    go_wp2_with fail
    go_ret
    exact ⟨rfl, below_all B0.out B3.out⟩
  have hd : decide ((4000 : Int) < ((Ln.bs s).size : Int)) = false := by simp; omega
  have HM2 : Hid (s.length ≤ 4294967296) := by rw [Hid]; omega
  clear h4 hz
  cases hf : Hi.fewB h with
  | false =>
    clear hf
    go_wp2_with fail
    go_ret
    exact ⟨rfl, below_all B0.out B3.out⟩
  | true =>
  have HS := Lib.hid (Hi.few_small hf)
  clear hf
  have HP := Lib.hid (fun W (hk : KW W) => hParse_at s W HM.out hk)
  have HRP := Lib.hid (fun W => rParse8_at s W HM2.out)
  have HPS := Lib.hid (Hi.parse_small s)
  generalize Hi.parseR s = r at *
  obtain ⟨ts, p, q⟩ := r
  go_wp2_with fail
  refine (HP.out w3 (K0.out.below B3.out)).mono ?_
  rintro e w4 ⟨v4, rfl, hs4, hb4⟩
  dsimp only at hs4 ⊢
  obtain ⟨A4, c4, rfl, _⟩ := hs4.spelled
  have B5 := Lib.hid (below_all B3.out (below_all hb4 (alloc_below w4 (.cells #[.slice A4 ts.length c4] 24))))
  have S5 := Lib.hid (hs4.below (alloc_below w4 (.cells #[.slice A4 ts.length c4] 24)))
  have N5 := Lib.hid (Boxed.new w4 24 (.slice A4 ts.length c4))
  clear hs4 hb4 n3
  go_wp2_with fail
  generalize w4.alloc (.cells #[.slice A4 ts.length c4] 24) = w5 at *
  refine (HRP.out w5).mono ?_
  rintro e w6 ⟨v6, rfl, hs6, hb6⟩
  dsimp only at hs6 ⊢
  obtain ⟨A6, c6, rfl, _⟩ := hs6.spelled
  have B7 := Lib.hid (below_all hb6 (alloc_below w6 (.cells #[.slice A6 ts.length c6] 24)))
  have S7 := Lib.hid (hs6.below (alloc_below w6 (.cells #[.slice A6 ts.length c6] 24)))
  have N7 := Lib.hid (Boxed.new w6 24 (.slice A6 ts.length c6))
  have n7 := (Boxed.later (Boxed.later N0.out B5.out) B7.out).cell
  clear hs6 hb6
  have HSH := Lib.hid (fun W (hv : Txns W (.slice A h.length c) h) (hk : KW W) => hShow_at h _ W hv hk HS.out.2.2)
  have HRS := Lib.hid (fun W (hv : Txns W (.slice A h.length c) h) => rShow8_at h _ W hv HS.out.2.2)
  generalize Hi.showR h = sh at *
  obtain ⟨st, sq⟩ := sh
  go_wp2_with fail
  generalize w6.alloc (.cells #[.slice A6 ts.length c6] 24) = w7 at *
  refine (HSH.out w7 ((V0.out.below B5.out).below B7.out) (K0.out.below (below_all B5.out B7.out))).mono ?_
  rintro e w8 ⟨rfl, hb8⟩
  have B8 := Lib.hid (below_all B7.out hb8)
  have n8 := (Boxed.later (Boxed.later N0.out B5.out) B8.out).cell
  have B8' := Lib.hid hb8
  clear hb8 n7
  dsimp only
  go_wp2_with fail
  refine (HRS.out w8 ((V0.out.below B5.out).below B8.out)).mono ?_
  rintro e w9 ⟨rfl, hb9⟩
  have B9 := Lib.hid (below_all B5.out (below_all B8.out hb9))
  have V9 := Lib.hid (V0.out.below B9.out)
  have SA := Lib.hid (S5.out.below (below_all B8.out hb9))
  have SB := Lib.hid (S7.out.below (below_all B8'.out hb9))
  have n9 := (Boxed.later N0.out B9.out).cell
  have a9 := (Boxed.later N5.out (below_all B8.out hb9)).cell
  have b9 := (Boxed.later N7.out (below_all B8'.out hb9)).cell
  clear hb9 n8
  dsimp only
  have qp : (p == p) = true := by simp
  have qq : (q == q) = true := by simp
  have qs : (sq == sq) = true := by simp
  have qr : (Hi.rightB h == Hi.rightB h) = true := by simp
  have D9 := Lib.hid (Below.refl w9.heap.size w9).drew
  have SA1 := Lib.hid (SA.out.below D9.out)
  have SB1 := Lib.hid (SB.out.below D9.out)
  clear S5 N5 S7 N7 V0 N0 HP HRP HSH HRS B8 B8' B7 B5 SA SB
  generalize hrb : Hi.rightB h = rb at *
  have HRB := Lib.hid hrb
  clear hrb
  go_wp2_with fail
  go_region_held3 (fun w' => w'.cell? ⟨w4.heap.size, 0, none⟩ = some (.slice A4 ts.length c4) ∧ w'.cell? ⟨w6.heap.size, 0, none⟩ = some (.slice A6 ts.length c6) ∧ w'.cell? ⟨w.heap.size, 0, none⟩ = some (.slice A h.length c))
    (first | (exact ⟨a9, b9, n9⟩) | (exact ⟨cell_later H10.out a9, cell_later H10.out b9, cell_later H10.out n9⟩) | (exact ⟨cell_later H11.out a9, cell_later H11.out b9, cell_later H11.out n9⟩) | (exact ⟨cell_later H12.out a9, cell_later H12.out b9, cell_later H12.out n9⟩))
    (first
      | (go_at_call 10; (with_reducible refine (rSame7_at ts _ _ _ SA1.out SB1.out HPS.out.1 HPS.out.2).mono ?_); rintro e w10 ⟨rfl, hb10⟩; have H10 := Lib.hid (below_all D9.out hb10); have V10 := Lib.hid (V9.out.below H10.out); clear hb10)
      | (go_at_call 11; (with_reducible refine (hRight_at h _ _ V10.out HS.out.2.2).mono ?_); rintro e w11 ⟨rfl, hb11⟩; rw [HRB.out]; have H11 := Lib.hid (below_all H10.out hb11); have V11 := Lib.hid (V10.out.below hb11); clear hb11)
      | (go_at_call 12; (with_reducible refine (rRight8_at h _ _ V11.out HS.out.2.2).mono ?_); rintro e w12 ⟨rfl, hb12⟩; rw [HRB.out]; have H12 := Lib.hid (below_all H11.out hb12); clear hb12))
  all_goals
    go_wp2_with fail
    go_ret
    exact ⟨rfl, below_all B0.out (below_all B9.out H12.out)⟩
end Go.Proofs.YtfjamdpgbbnmcaaGreatDoor
