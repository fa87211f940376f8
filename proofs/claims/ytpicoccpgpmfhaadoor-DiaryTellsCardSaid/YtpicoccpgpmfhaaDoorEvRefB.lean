/-
  What the reference's Parse of layer 3 answers: Ev.parseR; what was in memory stays as it was.
  Conditions: a line has at most 2^32 bytes.
-/
import Derived.Test.YtpicoccpgpmfhaaDoorEvRefA
import Derived.Test.YtpicoccpgpmfhaaDoorEvWalkC
import Derived.Test.YtpicoccpgpmfhaaDoorLnRefW
namespace Go.Proofs.YtpicoccpgpmfhaaDoor
open Go.RowKit

/-- What the reference's Parse hands back out of its result variable. -/
theorem results_rev (X : World) (b : Nat) (tmps : Array Value) (q a0 a1 a2 a3 : Int) (hp : tmps.getD 2 undef = .pointer (some ⟨b, 0, none⟩)) (hq : tmps.getD 3 undef = .int .i64 q)
    (h0 : X.cell? ⟨b, 0, none⟩ = some (.int .i64 a0)) (h1 : X.cell? ⟨b, 1, none⟩ = some (.int .i64 a1)) (h2 : X.cell? ⟨b, 2, none⟩ = some (.int .i64 a2)) (h3 : X.cell? ⟨b, 3, none⟩ = some (.int .i64 a3)) :
    (results Tryd.f19 tmps).run Tryd.prog X = .ok (.tuple #[evV ⟨a0, a1, a2, a3⟩, .int .i64 q]) X := by
  rw [results_cell_tmp (p := 2) (u := 3) (ty := 35) rfl, hp, hq]
  simp [asAddr, go_sem, h0, h1, h2, h3, evV]
theorem end_rev {w W : World} {b : Nat} {r : Ev.Event × Int} (tmps : Array Value) (ds : List Deferred) (h : Mine W b) (hb : Below w.heap.size w W) (hw : w.heap.size ≤ b) (a0 a1 a2 a3 q : Int) (hr : r = (⟨a0, a1, a2, a3⟩, q))
    (hp : tmps.getD 2 undef = .pointer (some ⟨b, 0, none⟩)) (hq : tmps.getD 3 undef = .int .i64 q) (hd : ds = []) :
    bodyPost Tryd.prog Tryd.f19 (RetEv w r) Exit.ret { tmps := tmps, defers := ds } (put4 W b a0 a1 a2 a3) := by
  subst hd
  obtain ⟨c0, c1, c2, c3⟩ := put4_cells h a0 a1 a2 a3
  refine bodyPost_ret (results_rev _ b _ q a0 a1 a2 a3 hp hq c0 c1 c2 c3) rfl ?_
  exact ⟨by rw [hr], put4_below hb hw _ _ _ _⟩

theorem end_rev_drew {w W : World} {b : Nat} {r : Ev.Event × Int} (tmps : Array Value) (ds : List Deferred) (h : Mine W b) (hb : Below w.heap.size w W) (hw : w.heap.size ≤ b) (a0 a1 a2 a3 q : Int) (hr : r = (⟨a0, a1, a2, a3⟩, q))
    (hp : tmps.getD 2 undef = .pointer (some ⟨b, 0, none⟩)) (hq : tmps.getD 3 undef = .int .i64 q) (hd : ds = []) :
    bodyPost Tryd.prog Tryd.f19 (RetEv w r) Exit.ret { tmps := tmps, defers := ds } (put4 W b a0 a1 a2 a3).drew := by
  subst hd
  obtain ⟨c0, c1, c2, c3⟩ := put4_cells h a0 a1 a2 a3
  have hB := put4_below hb hw a0 a1 a2 a3
  generalize put4 W b a0 a1 a2 a3 = X at *
  have hd : ∀ p, X.drew.cell? p = X.cell? p := fun _ => rfl
  refine bodyPost_ret (results_rev X.drew b tmps q a0 a1 a2 a3 hp hq ((hd _).trans c0) ((hd _).trans c1) ((hd _).trans c2) ((hd _).trans c3)) rfl ?_
  exact ⟨by rw [hr], hB.drew⟩

/-- The kind that the reference has found among the first k words: -1 if none. -/
def seenK (x : List UInt8) (k : Nat) : Int := if Ev.kindI x < k then (Ev.kindI x : Int) else -1

set_option maxHeartbeats 1000000 in
theorem rEvParse_at (s : List UInt8) (w : World) (hs : s.length ≤ 4294967296) : Calls Tryd.prog 19 #[.string (Ln.bs s)] w (RetEv w (Ev.parseR s)) := by
  go_enter Tryd.func19, Tryd.ntmps19
  go_wp2_with fail
  refine (rWords_at s _ hs).mono ?_
  rintro e w1 ⟨v1, rfl, hs1, hb1⟩
  have HM1 : Hid (Mine w1 w.heap.size) := ⟨(hb1.cell (by simp)).trans (new_cell w _ _ 0 _ rfl), (hb1.cell (by simp)).trans (new_cell w _ _ 1 _ rfl), (hb1.cell (by simp)).trans (new_cell w _ _ 2 _ rfl), (hb1.cell (by simp)).trans (new_cell w _ _ 3 _ rfl), fun k => zeros_frozen hb1 k⟩
  have HB1 := Lib.hid (below_new hb1)
  clear hb1
  have HSM := Lib.hid hs
  obtain ⟨b, hb⟩ : ∃ b, b = w.heap.size := ⟨_, rfl⟩
  rw [← hb] at HM1 ⊢
  have HBB : Hid (w.heap.size ≤ b) := by rw [Hid, hb]; exact Nat.le_refl _
  clear hb hs
  have hz0 := HM1.out.c0
  have hz1 := HM1.out.c1
  have hz2 := HM1.out.c2
  have hz3 := HM1.out.c3
  have hf := HM1.out.f
  by_cases hq : (Ln.wordsR s).2 = 0
  · obtain ⟨hsp, hl1, hall⟩ := Ln.wordsR_is s hq
    have hl8 := Ln.wordsR_len s
    have HP : Hid (Ev.parseR s = if Ev.kindI ((Ln.wordsR s).1.getD 0 []) < 5 ∧ (Ln.wordsR s).1.length = 1 + Ev.many (Ev.kindI ((Ln.wordsR s).1.getD 0 []) : Int) then Ev.ofWords (Ev.kindI ((Ln.wordsR s).1.getD 0 []) : Int) (Ln.wordsR s).1.tail else (Ev.zero, 2)) := by rw [Hid, Ev.parseR, if_neg (by simpa using hq)]
    rw [hq]
    obtain ⟨l, hl⟩ : ∃ l, l = (Ln.wordsR s).1 := ⟨_, rfl⟩
    rw [← hl] at hs1 hl1 hl8 HP hsp
    have HLN : Hid (∀ x ∈ l, x.length ≤ 4294967296) := fun x hx => Nat.le_trans (Ln.spaced_word l x hx) (by rw [hsp]; exact HSM.out)
    obtain ⟨x, r, rfl⟩ : ∃ x r, l = x :: r := by
      cases l with
      | nil => simp at hl1
      | cons x r => exact ⟨x, r, rfl⟩
    rw [show (x :: r).getD 0 [] = x from rfl, List.tail_cons] at HP
    obtain ⟨A, c, rfl, hform⟩ := hs1.form
    obtain ⟨ad, rfl, hblk, hcell⟩ := hform 0 (by simp)
    have hc0 : w1.cell? ad = some (.string (Ln.bs x)) := by rw [add_zero'] at hcell; exact hcell
    have HF := Lib.hid hform
    have hlen : (x :: r).length = r.length + 1 := rfl
    have hr7 : r.length ≤ 7 := by rw [hlen] at hl8; omega
    rw [hlen]
    clear hs1 hform hcell hl hsp hall hl1 hl8 hlen hq
    go_wp2_with fail
    go_loop [6, 7] (fun q i => ∃ k : Nat, k ≤ 5 ∧ i = .int .i64 k ∧ q = .int .i64 (seenK x k)) (fun _ i => 5 - (intOf i).toNat)
    case atStart => exact ⟨0, Nat.zero_le _, rfl, by rw [seenK, if_neg (by omega)]⟩
    case round =>
      obtain ⟨k, hk, rfl, rfl⟩ := hrel
      by_cases hlt : k < 5
      · have HW := Lib.hid (Ev.word_iff x k hlt)
        go_wp2_with fail
        refine (rWord_at k hlt _).mono ?_
        rintro e w' ⟨rfl, rfl⟩
        by_cases he : Ev.word k = x
        · have hqq : ((Ln.bs (Ev.word k)).toList == (Ln.bs x).toList) = true := by rw [bs_eqb]; simp [he]
          have HS : Hid (seenK x (k + 1) = (k : Int)) := by rw [Hid, seenK, HW.out.1 he, if_pos (by omega)]
          clear he
          go_wp2_with fail
          go_round
          case rel => exact ⟨k + 1, by omega, by go_num, by rw [HS.out]⟩
          case measure => simp [intOf]; omega
        · have hqq : ((Ln.bs (Ev.word k)).toList == (Ln.bs x).toList) = false := by rw [bs_eqb]; simp [he]
          have HS : Hid (seenK x (k + 1) = seenK x k) := by
            have hne : Ev.kindI x ≠ k := fun h => he (HW.out.2 h)
            rw [Hid, seenK, seenK]
            by_cases h : Ev.kindI x < k
            · rw [if_pos h, if_pos (by omega)]
            · rw [if_neg h, if_neg (by omega)]
          clear he
          generalize seenK x k = q at HS ⊢
          go_wp2_with fail
          go_round
          case rel => exact ⟨k + 1, by omega, by go_num, by rw [HS.out]⟩
          case measure => simp [intOf]; omega
      · obtain rfl : k = 5 := by omega
        by_cases hk5 : Ev.kindI x < 5
        · rw [show seenK x 5 = (Ev.kindI x : Int) from if_pos hk5]
          generalize Ev.kindI x = n at *
          obtain ⟨m, HM, key⟩ : ∃ m : Nat, Hid (Ev.many (n : Int) = m) ∧ (m = 3 ∧ ((n : Int) == 1) = true ∨ m = 3 ∧ ((n : Int) == 1) = false ∧ ((n : Int) == 2) = true ∨ m = 1 ∧ ((n : Int) == 1) = false ∧ ((n : Int) == 2) = false) := by
            refine ⟨_, rfl, ?_⟩
            unfold Ev.many
            by_cases h1 : (n : Int) = 1
            · exact .inl ⟨if_pos ((Ev.hasKey_iff _).2 (.inl h1)), beq_iff_eq.2 h1⟩
            · by_cases h2 : (n : Int) = 2
              · exact .inr (.inl ⟨if_pos ((Ev.hasKey_iff _).2 (.inr h2)), beq_eq_false_iff_ne.2 h1, beq_iff_eq.2 h2⟩)
              · exact .inr (.inr ⟨if_neg (fun h => ((Ev.hasKey_iff _).1 h).elim h1 h2), beq_eq_false_iff_ne.2 h1, beq_eq_false_iff_ne.2 h2⟩)
          by_cases hrm : r.length = m
          · have HP2 : Hid (Ev.parseR s = Ev.ofWords (n : Int) r) := by rw [Hid, HP.out, if_pos ⟨hk5, by rw [List.length_cons, HM.out]; omega⟩]
            have HRM := Lib.hid hrm
            rw [hrm]
            clear hrm hr7 HP hc0 HM
            have q0 : decide ((n : Int) < 0) = false := by simp
            have HC : Hid (∀ (k : Nat) (hk : k < r.length), w1.cell? ⟨ad.block, ad.off + (k + 1), none⟩ = some (.string (Ln.bs (r[k]'hk)))) := fun k hk => by
              obtain ⟨_, e1, _, hcell⟩ := HF.out (k + 1) (by rw [List.length_cons]; omega)
              cases e1
              rw [show (⟨ad.block, ad.off + (k + 1), none⟩ : Addr) = ad.add (k + 1) from by simp [Addr.add]]
              exact hcell
            have HWL : Hid (∀ y ∈ r, (Ln.bs y).size ≤ 9223372036854775806) := fun y hy => by
              have h := HLN.out y (List.mem_cons_of_mem _ hy)
              rw [Ln.bs_size]
              omega
            clear HF HLN hk5 hk hlt
            rcases key with ⟨rfl, k1⟩ | ⟨rfl, k1, k2⟩ | ⟨rfl, k1, k2⟩
            all_goals
              go_wp2_with fail
              go_loopw [11] (fun i wr => ∃ (k : Nat) (a b d : Int), k ≤ r.length ∧ i = .int .i64 ((k : Int) + 1) ∧ wr = w1.alloc (.cells #[.int .i64 a, .int .i64 b, .int .i64 d] 3) ∧ Hid (Ev.bad (r.take k) = 0 ∧ a = (Ev.vals (r.take k)).getD 0 0 ∧ b = (Ev.vals (r.take k)).getD 1 0 ∧ d = (Ev.vals (r.take k)).getD 2 0)) (fun i _ => 4 - (intOf i).toNat)
              case atStart => exact ⟨0, 0, 0, 0, Nat.zero_le _, rfl, rfl, rfl, rfl, rfl, rfl⟩
              case round =>
                obtain ⟨k, a, y2, d, hkm, rfl, rfl, hst⟩ := hrel
                have hr3 := HRM.out
                by_cases hlt : k < r.length
                · obtain ⟨y, hy⟩ : ∃ y, y = r[k]'hlt := ⟨_, rfl⟩
                  have hcy := HC.out k hlt
                  rw [← hy] at hcy
                  have HYM : Hid ((Ln.bs y).size ≤ 9223372036854775806) := HWL.out y (by rw [hy]; exact List.getElem_mem _)
                  obtain ⟨hb0, ha0, hb1', hd0⟩ := hst.out
                  have HBT := Lib.hid (Ev.bad_take r k hlt hb0)
                  have HVT := Lib.hid (Ev.vals_take r k hlt)
                  rw [← hy] at HBT HVT
                  have HVL : Hid ((Ev.vals (r.take k)).length = k) := by rw [Hid, Ev.vals_len, List.length_take]; omega
                  clear hy hb0 ha0 hb1' hd0
                  go_wp2_with fail
                  refine (rWhole_at _ _ HYM.out).mono ?_
                  rintro e w' ⟨rfl, rfl⟩
                  rw [Ln.bs_data]
                  by_cases hw : (Nm.wholeR y).2 = 0
                  · rw [hw]
                    have hst2 := three_put hst.out.2 HVT.out HVL.out
                    have HST := Lib.hid (And.intro (HBT.out.1.trans hw) hst2)
                    clear hst2 hw
                    generalize (Nm.wholeR y).1 = v at *
                    obtain rfl | rfl | rfl : k = 0 ∨ k = 1 ∨ k = 2 := by omega
                    all_goals
                      first
                      | omega
                      | (go_wp2_with fail
                         go_roundw
                         case rel => exact ⟨_, _, _, _, by omega, by go_num, rfl, HST⟩
                         case measure => simp [intOf])
                  · have HR : Hid (Ev.parseR s = (Ev.zero, (Nm.wholeR y).2)) := by
                      have hb := HBT.out.2 hw
                      rw [Hid, HP2.out, Ev.ofWords, hb, if_pos hw]
                    generalize (Nm.wholeR y).1 = v at *
                    generalize (Nm.wholeR y).2 = q at *
                    have hq : (q != 0) = true := by rw [bne_iff_ne]; exact hw
                    have HMW := Lib.hid (HM1.out.alloc (.cells #[.int .i64 a, .int .i64 y2, .int .i64 d] 3))
                    have HBW := Lib.hid (below_all HB1.out ((Below.refl _ w1).alloc (Nat.le_refl _) (.cells #[.int .i64 a, .int .i64 y2, .int .i64 d] 3)))
                    generalize w1.alloc (.cells #[.int .i64 a, .int .i64 y2, .int .i64 d] 3) = W at *
                    clear hw hz0 hz1 hz2 hz3 hf hcy hst HBT HVT
                    have hz0 := HMW.out.c0
                    have hz1 := HMW.out.c1
                    have hz2 := HMW.out.c2
                    have hz3 := HMW.out.c3
                    have hf := HMW.out.f
                    go_wp2_with fail
                    exact end_rev _ _ HMW.out HBW.out HBB.out 0 0 0 0 q HR.out rfl rfl rfl
                · obtain rfl : k = r.length := by omega
                  obtain ⟨hb0, ha0, hb1', hd0⟩ := hst.out
                  rw [List.take_length] at hb0 ha0 hb1' hd0
                  have HO : Hid (Ev.parseR s = if 8 ≤ a ∨ 16 ≤ y2 then (Ev.zero, 4) else (⟨(n : Int), a, y2, d⟩, 0)) := by
                    rw [Hid, HP2.out, Ev.ofWords, hb0, if_neg (by simp), ← ha0, ← hb1']
                    split
                    · rfl
                    · rw [Ev.ofNums, ← ha0, ← hb1', ← hd0]
                  have HMW := Lib.hid (HM1.out.alloc (.cells #[.int .i64 a, .int .i64 y2, .int .i64 d] 3))
                  have HBW := Lib.hid (below_all HB1.out ((Below.refl _ w1).alloc (Nat.le_refl _) (.cells #[.int .i64 a, .int .i64 y2, .int .i64 d] 3)))
                  have hn0 : (w1.alloc (.cells #[.int .i64 a, .int .i64 y2, .int .i64 d] 3)).cell? ⟨w1.heap.size, 0, none⟩ = some (.int .i64 a) := new_cell w1 _ _ 0 _ rfl
                  have hn1 : (w1.alloc (.cells #[.int .i64 a, .int .i64 y2, .int .i64 d] 3)).cell? ⟨w1.heap.size, 1, none⟩ = some (.int .i64 y2) := new_cell w1 _ _ 1 _ rfl
                  have hn2 : (w1.alloc (.cells #[.int .i64 a, .int .i64 y2, .int .i64 d] 3)).cell? ⟨w1.heap.size, 2, none⟩ = some (.int .i64 d) := new_cell w1 _ _ 2 _ rfl
                  generalize w1.alloc (.cells #[.int .i64 a, .int .i64 y2, .int .i64 d] 3) = W at *
                  clear hb0 ha0 hb1' hd0 hst hz0 hz1 hz2 hz3 hf hkm hlt
                  have hz0 := HMW.out.c0
                  have hz1 := HMW.out.c1
                  have hz2 := HMW.out.c2
                  have hz3 := HMW.out.c3
                  have hf := HMW.out.f
                  by_cases h8 : 8 ≤ a
                  · have q1 : decide (7 < a) = true := by simp; omega
                    have HR : Hid (Ev.parseR s = (Ev.zero, 4)) := by rw [Hid, HO.out, if_pos (.inl h8)]
                    clear h8
                    go_wp2_with fail
                    exact end_rev _ _ HMW.out HBW.out HBB.out 0 0 0 0 4 HR.out rfl rfl rfl
                  · have q1 : decide (7 < a) = false := by simp; omega
                    by_cases h16 : 16 ≤ y2
                    · have q2 : decide (15 < y2) = true := by simp; omega
                      have HR : Hid (Ev.parseR s = (Ev.zero, 4)) := by rw [Hid, HO.out, if_pos (.inr h16)]
                      clear h8 h16
                      go_wp2_with fail
                      exact end_rev _ _ HMW.out HBW.out HBB.out 0 0 0 0 4 HR.out rfl rfl rfl
                    · have q2 : decide (15 < y2) = false := by simp; omega
                      have HR : Hid (Ev.parseR s = (⟨(n : Int), a, y2, d⟩, 0)) := by rw [Hid, HO.out, if_neg (by omega)]
                      clear h8 h16
                      go_wp2_with fail
                      go_region
                      go_wp2_with fail
                      exact end_rev_drew _ _ HMW.out HBW.out HBB.out (n : Int) a y2 d 0 HR.out rfl rfl rfl
          · have HR : Hid (Ev.parseR s = (Ev.zero, 2)) := by rw [Hid, HP.out, if_neg (fun h => hrm (by have := h.2; rw [List.length_cons, HM.out] at this; omega))]
            rcases key with ⟨rfl, k1⟩ | ⟨rfl, k1, k2⟩ | ⟨rfl, k1, k2⟩
            · have q2 : (((r.length : Int) + 1) != 4) = true := by rw [bne_iff_ne]; omega
              clear hrm
              go_wp2_with fail
              exact end_rev _ _ HM1.out HB1.out HBB.out 0 0 0 0 2 HR.out rfl rfl rfl
            · have q2 : (((r.length : Int) + 1) != 4) = true := by rw [bne_iff_ne]; omega
              clear hrm
              go_wp2_with fail
              exact end_rev _ _ HM1.out HB1.out HBB.out 0 0 0 0 2 HR.out rfl rfl rfl
            · have q2 : (((r.length : Int) + 1) != 2) = true := by rw [bne_iff_ne]; omega
              clear hrm
              go_wp2_with fail
              exact end_rev _ _ HM1.out HB1.out HBB.out 0 0 0 0 2 HR.out rfl rfl rfl
        · have HR : Hid (Ev.parseR s = (Ev.zero, 2)) := by rw [Hid, HP.out, if_neg (fun h => hk5 h.1)]
          rw [show seenK x 5 = -1 from if_neg hk5]
          clear hk5
          go_wp2_with fail
          exact end_rev _ _ HM1.out HB1.out HBB.out 0 0 0 0 2 HR.out rfl rfl rfl
  · have HR : Hid (Ev.parseR s = (Ev.zero, 2)) := by rw [Hid, Ev.parseR, if_pos hq]
    have he := Ln.wordsR_err s hq
    rw [he] at hs1 ⊢
    obtain ⟨A, c, rfl⟩ := hs1.none_ rfl
    clear hs1 hq he
    go_wp2_with fail
    exact end_rev _ _ HM1.out HB1.out HBB.out 0 0 0 0 2 HR.out rfl rfl rfl
end Go.Proofs.YtpicoccpgpmfhaaDoor
