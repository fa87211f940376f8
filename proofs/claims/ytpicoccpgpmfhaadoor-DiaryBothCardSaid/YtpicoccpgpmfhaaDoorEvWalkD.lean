/-
  What event.Parse answers, for every text that a string may hold: Ev.parseR; what was in memory stays as it was.
  Conditions: the variable that lists the kinds' words holds them; a string's length is at most the model's greatest.
-/
import Derived.Test.YtpicoccpgpmfhaaDoorEvWalkC
namespace Go.Proofs.YtpicoccpgpmfhaaDoor
open Go.RowKit

set_option maxHeartbeats 1000000 in
theorem evParse_at (s : List UInt8) (w : World) (hs : s.length ≤ maxLen) (hK : KW w) : Calls Tryd.prog 14 #[.string (Ln.bs s)] w (RetEv w (Ev.parseR s)) := by
  have HK := Lib.hid (KW.below hK ((Below.refl _ w).alloc (Nat.le_refl _) (.cells #[.int .i64 0, .int .i64 0, .int .i64 0, .int .i64 0] 35)))
  clear hK
  go_enter Tryd.func14, Tryd.ntmps14
  go_wp2_with fail
  refine (words_at s _ hs).mono ?_
  rintro e w1 ⟨v1, rfl, hs1, hb1⟩
  have HM1 : Hid (Mine w1 w.heap.size) := ⟨(hb1.cell (by simp)).trans (new_cell w _ _ 0 _ rfl), (hb1.cell (by simp)).trans (new_cell w _ _ 1 _ rfl), (hb1.cell (by simp)).trans (new_cell w _ _ 2 _ rfl), (hb1.cell (by simp)).trans (new_cell w _ _ 3 _ rfl), fun k => zeros_frozen hb1 k⟩
  have HK1 := Lib.hid (HK.out.below hb1)
  have HB1 := Lib.hid (below_new hb1)
  clear hb1 HK
  have HBB : Hid (w.heap.size ≤ w.heap.size) := Nat.le_refl _
  have HSM := Lib.hid hs
  obtain ⟨b, hb⟩ : ∃ b, b = w.heap.size := ⟨_, rfl⟩
  rw [← hb] at HM1 ⊢
  have HBB : Hid (w.heap.size ≤ b) := by rw [Hid, hb]; exact Nat.le_refl _
  clear hb hs
  have hz0 := HM1.out.c0
  have hz1 := HM1.out.c1
  have hz2 := HM1.out.c2
  have hz3 := HM1.out.c3
  have hf := HM1.out.f
  by_cases hq : (Ln.wordsR s).2 = 0
  · obtain ⟨hsp, hl1, hall⟩ := Ln.wordsR_is s hq
    have hl8 := Ln.wordsR_len s
    have HP : Hid (Ev.parseR s = if Ev.kindI ((Ln.wordsR s).1.getD 0 []) < 5 ∧ (Ln.wordsR s).1.length = 1 + Ev.many (Ev.kindI ((Ln.wordsR s).1.getD 0 []) : Int) then Ev.ofWords (Ev.kindI ((Ln.wordsR s).1.getD 0 []) : Int) (Ln.wordsR s).1.tail else (Ev.zero, 2)) := by rw [Hid, Ev.parseR, if_neg (by simpa using hq)]
    rw [hq]
    obtain ⟨l, hl⟩ : ∃ l, l = (Ln.wordsR s).1 := ⟨_, rfl⟩
    rw [← hl] at hs1 hl1 hl8 HP hsp
    have HLN : Hid (∀ x ∈ l, x.length ≤ maxLen) := fun x hx => Nat.le_trans (Ln.spaced_word l x hx) (by rw [hsp]; exact HSM.out)
    obtain ⟨x, r, rfl⟩ : ∃ x r, l = x :: r := by
      cases l with
      | nil => simp at hl1
      | cons x r => exact ⟨x, r, rfl⟩
    rw [show (x :: r).getD 0 [] = x from rfl, List.tail_cons] at HP
    obtain ⟨A, c, rfl, hform⟩ := hs1.form
    have hcap : r.length + 1 ≤ c := Sl.cap hs1
    obtain ⟨ad, rfl, hblk, hcell⟩ := hform 0 (by simp)
    have hc0 : w1.cell? ad = some (.string (Ln.bs x)) := by rw [add_zero'] at hcell; exact hcell
    have HF := Lib.hid hform
    have hlen : (x :: r).length = r.length + 1 := rfl
    have hr7 : r.length ≤ 7 := by rw [hlen] at hl8; omega
    rw [hlen]
    clear hs1 hform hcell hl hsp hall hl1 hl8 hlen hq
    go_wp2_with fail
    refine (kindOf_at x _ HK1.out).mono ?_
    rintro e w' ⟨rfl, rfl⟩
    by_cases hk : Ev.kindI x < 5
    · rw [show Ev.kindN x = (Ev.kindI x : Int) from if_pos hk, show Ev.kindB x = true from decide_eq_true hk]
      go_wp2_with fail
      refine (numbersOf_at _ _).mono ?_
      rintro e w' ⟨rfl, rfl⟩
      have hm1 := Ev.many_pos (Ev.kindI x : Int)
      have hm3 := Ev.many_le (Ev.kindI x : Int)
      generalize Ev.kindI x = n at *
      generalize hm : Ev.many (n : Int) = m at *
      by_cases hrm : r.length = m
      · have hqm : (((m : Int) + 1) != 1 + (m : Int)) = false := by rw [bne_eq_false_iff_eq]; omega
        have hc1 : ¬ c = 1 := by omega
        have HP2 : Hid (Ev.parseR s = Ev.ofWords (n : Int) r) := by rw [Hid, HP.out, if_pos ⟨hk, by rw [List.length_cons]; omega⟩]
        have HRM := Lib.hid hrm
        go_wp2_with fail
        clear hrm hqm HP hm hc0 hk hc1 hcap hr7
        go_loopw [43] (fun i wr => ∃ (k : Nat) (a b d : Int), k ≤ m ∧ i = .int .i64 k ∧ wr = w1.alloc (.cells #[.int .i64 a, .int .i64 b, .int .i64 d] 53) ∧ Hid (Ev.bad (r.take k) = 0 ∧ a = (Ev.vals (r.take k)).getD 0 0 ∧ b = (Ev.vals (r.take k)).getD 1 0 ∧ d = (Ev.vals (r.take k)).getD 2 0)) (fun i _ => m - (intOf i).toNat)
        case atStart => exact ⟨0, 0, 0, 0, Nat.zero_le _, rfl, rfl, rfl, rfl, rfl, rfl⟩
        case round =>
          obtain ⟨k, a, y2, d, hkm, rfl, rfl, hst⟩ := hrel
          by_cases hlt : k < m
          · have hkr : k < r.length := by rw [HRM.out]; exact hlt
            obtain ⟨_, e1, _, hcell⟩ := HF.out (k + 1) (by rw [List.length_cons]; omega)
            cases e1
            obtain ⟨y, hy⟩ : ∃ y, y = r[k]'hkr := ⟨_, rfl⟩
            have hcy : w1.cell? ⟨ad.block, ad.off + 1 + k, none⟩ = some (.string (Ln.bs y)) := by
              rw [show (⟨ad.block, ad.off + 1 + k, none⟩ : Addr) = ad.add (k + 1) from by simp [Addr.add]; omega, hcell, hy]
              rfl
            have HYM : Hid (y.length ≤ maxLen) := by rw [hy]; exact HLN.out _ (List.mem_cons_of_mem _ (List.getElem_mem _))
            obtain ⟨hb0, ha0, hb1', hd0⟩ := hst.out
            have HBT := Lib.hid (Ev.bad_take r k hkr hb0)
            have HVT := Lib.hid (Ev.vals_take r k hkr)
            rw [← hy] at HBT HVT
            have HVL : Hid ((Ev.vals (r.take k)).length = k) := by rw [Hid, Ev.vals_len, List.length_take]; omega
            clear hcell hy hb0 ha0 hb1' hd0
            go_wp2_with fail
            refine (whole_at _ _ (by rw [Ln.bs_size]; exact HYM.out)).mono ?_
            rintro e w' ⟨rfl, rfl⟩
            rw [Ln.bs_data]
            by_cases hw : (Nm.wholeR y).2 = 0
            · rw [hw]
              have hst2 := three_put hst.out.2 HVT.out HVL.out
              have HST := Lib.hid (And.intro (HBT.out.1.trans hw) hst2)
              clear hst2 hw
              generalize (Nm.wholeR y).1 = v at *
              obtain rfl | rfl | rfl : k = 0 ∨ k = 1 ∨ k = 2 := by omega
              all_goals
                go_wp2_with fail
                go_roundw
                case rel => exact ⟨_, _, _, _, by omega, by go_num, rfl, HST⟩
                case measure => simp [intOf]; omega
            · have HR : Hid (Ev.parseR s = (Ev.zero, (Nm.wholeR y).2)) := by
                have hb := HBT.out.2 hw
                rw [Hid, HP2.out, Ev.ofWords, hb, if_pos hw]
              generalize (Nm.wholeR y).1 = v at *
              generalize (Nm.wholeR y).2 = q at *
              have hq : (q != 0) = true := by rw [bne_iff_ne]; exact hw
              have HMW := Lib.hid (HM1.out.alloc (.cells #[.int .i64 a, .int .i64 y2, .int .i64 d] 53))
              have HBW := Lib.hid (below_all HB1.out ((Below.refl _ w1).alloc (Nat.le_refl _) (.cells #[.int .i64 a, .int .i64 y2, .int .i64 d] 53)))
              generalize w1.alloc (.cells #[.int .i64 a, .int .i64 y2, .int .i64 d] 53) = W at *
              clear hw hz0 hz1 hz2 hz3 hf hcy hst HBT HVT
              have hz0 := HMW.out.c0
              have hz1 := HMW.out.c1
              have hz2 := HMW.out.c2
              have hz3 := HMW.out.c3
              have hf := HMW.out.f
              go_wp2_with fail
              exact end_ev _ _ HMW.out HBW.out HBB.out 0 0 0 0 q HR.out rfl rfl rfl
          · obtain rfl : k = m := by omega
            have HT : Hid (r.take k = r) := by rw [Hid, List.take_of_length_le (by rw [HRM.out]; exact Nat.le_refl _)]
            obtain ⟨hb0, ha0, hb1', hd0⟩ := hst.out
            rw [HT.out] at hb0 ha0 hb1' hd0
            have HO : Hid (Ev.parseR s = if 8 ≤ a ∨ 16 ≤ y2 then (Ev.zero, 4) else (⟨(n : Int), a, y2, d⟩, 0)) := by
              rw [Hid, HP2.out, Ev.ofWords, hb0, if_neg (by simp), ← ha0, ← hb1']
              split
              · rfl
              · rw [Ev.ofNums, ← ha0, ← hb1', ← hd0]
            have HMW := Lib.hid (HM1.out.alloc (.cells #[.int .i64 a, .int .i64 y2, .int .i64 d] 53))
            have HBW := Lib.hid (below_all HB1.out ((Below.refl _ w1).alloc (Nat.le_refl _) (.cells #[.int .i64 a, .int .i64 y2, .int .i64 d] 53)))
            have hn0 : (w1.alloc (.cells #[.int .i64 a, .int .i64 y2, .int .i64 d] 53)).cell? ⟨w1.heap.size, 0, none⟩ = some (.int .i64 a) := new_cell w1 _ _ 0 _ rfl
            have hn1 : (w1.alloc (.cells #[.int .i64 a, .int .i64 y2, .int .i64 d] 53)).cell? ⟨w1.heap.size, 1, none⟩ = some (.int .i64 y2) := new_cell w1 _ _ 1 _ rfl
            have hn2 : (w1.alloc (.cells #[.int .i64 a, .int .i64 y2, .int .i64 d] 53)).cell? ⟨w1.heap.size, 2, none⟩ = some (.int .i64 d) := new_cell w1 _ _ 2 _ rfl
            generalize w1.alloc (.cells #[.int .i64 a, .int .i64 y2, .int .i64 d] 53) = W at *
            clear hb0 ha0 hb1' hd0 hst hz0 hz1 hz2 hz3 hf
            have HMW2 := Lib.hid (HMW.out.alloc (.cells #[.int .i64 (n : Int), .int .i64 a, .int .i64 y2, .int .i64 d] 35))
            have HBW2 := Lib.hid (below_all HBW.out ((Below.refl _ W).alloc (Nat.le_refl _) (.cells #[.int .i64 (n : Int), .int .i64 a, .int .i64 y2, .int .i64 d] 35)))
            have hz0 := HMW2.out.c0
            have hz1 := HMW2.out.c1
            have hz2 := HMW2.out.c2
            have hz3 := HMW2.out.c3
            have hf := HMW2.out.f
            by_cases h8 : 8 ≤ a
            · have q1 : decide (8 ≤ a) = true := decide_eq_true h8
              have HR : Hid (Ev.parseR s = (Ev.zero, 4)) := by rw [Hid, HO.out, if_pos (.inl h8)]
              clear h8
              go_wp2_with fail
              exact end_ev _ _ HMW2.out HBW2.out HBB.out 0 0 0 0 4 HR.out rfl rfl rfl
            · have q1 : decide (8 ≤ a) = false := decide_eq_false h8
              by_cases h16 : 16 ≤ y2
              · have q2 : decide (16 ≤ y2) = true := decide_eq_true h16
                have HR : Hid (Ev.parseR s = (Ev.zero, 4)) := by rw [Hid, HO.out, if_pos (.inr h16)]
                clear h8 h16
                go_wp2_with fail
                exact end_ev _ _ HMW2.out HBW2.out HBB.out 0 0 0 0 4 HR.out rfl rfl rfl
              · have q2 : decide (16 ≤ y2) = false := decide_eq_false h16
                have HR : Hid (Ev.parseR s = (⟨(n : Int), a, y2, d⟩, 0)) := by rw [Hid, HO.out, if_neg (by omega)]
                clear h8 h16
                go_wp2_with fail
                exact end_ev _ _ HMW2.out HBW2.out HBB.out (n : Int) a y2 d 0 HR.out rfl rfl rfl
      · have HR : Hid (Ev.parseR s = (Ev.zero, 2)) := by rw [Hid, HP.out, if_neg (fun h => hrm (by have := h.2; rw [List.length_cons] at this; omega))]
        have hqm : (((r.length : Int) + 1) != 1 + (m : Int)) = true := by rw [bne_iff_ne]; omega
        clear hrm hm
        go_wp2_with fail
        exact end_ev _ _ HM1.out HB1.out HBB.out 0 0 0 0 2 HR.out rfl rfl rfl
    · have HR : Hid (Ev.parseR s = (Ev.zero, 2)) := by rw [Hid, HP.out, if_neg (fun h => hk h.1)]
      rw [show Ev.kindB x = false from decide_eq_false hk]
      generalize Ev.kindN x = kn
      clear hk
      go_wp2_with fail
      exact end_ev _ _ HM1.out HB1.out HBB.out 0 0 0 0 2 HR.out rfl rfl rfl
  · have HR : Hid (Ev.parseR s = (Ev.zero, 2)) := by rw [Hid, Ev.parseR, if_pos hq]
    have he := Ln.wordsR_err s hq
    rw [he] at hs1 ⊢
    obtain ⟨A, c, rfl⟩ := hs1.none_ rfl
    clear hs1 hq he
    go_wp2_with fail
    exact end_ev _ _ HM1.out HB1.out HBB.out 0 0 0 0 2 HR.out rfl rfl rfl
end Go.Proofs.YtpicoccpgpmfhaaDoor
