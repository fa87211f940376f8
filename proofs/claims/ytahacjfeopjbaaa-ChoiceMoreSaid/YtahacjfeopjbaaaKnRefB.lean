/-
  What the reference's Wr of layer 17 answers.
  Conditions: a history that may be.
-/
import Derived.Test.YtahacjfeopjbaaaKnRef
set_option maxRecDepth 4000
namespace Go.Proofs.Ytahacjfeopjbaaa
open Go.RowKit

namespace Kn
open Gf (bit Ok build)
open So (Txn)
theorem readsAt_is {h : List Txn} {t : Nat} (ht : t < h.length) : readsAt h t = h[t].reads := by rw [readsAt, List.getElem?_eq_getElem ht]
/-- Who reads from whom, filled read by read. -/
def wrTo (h : List Txn) (t i a b : Nat) : Bool := (decide (b < t) && wrB h a b) || (decide (b = t) && ((readsAt h t).take i).any fun y => decide (y.2 = (a : Int)))
theorem wrTo_zero {h : List Txn} (hn : h.length ≤ 64) : build h.length (wrTo h 0 0) = Gf.zeros h.length := build_none hn fun x y _ _ => by simp [wrTo]
theorem wrTo_all {h : List Txn} (hn : h.length ≤ 64) : build h.length (wrTo h h.length 0) = wrR h := build_same hn fun x y _ hy => by simp [wrTo, hy]
theorem wrTo_next {h : List Txn} (hn : h.length ≤ 64) {t i : Nat} (hi : (readsAt h t).length ≤ i) : build h.length (wrTo h t i) = build h.length (wrTo h (t + 1) 0) := build_same hn fun a b _ _ => by
  unfold wrTo
  rw [List.take_of_length_le hi]
  by_cases e : b = t
  · subst e
    simp [wrB]
  · have h1 : decide (b < t + 1) = decide (b < t) := by
      by_cases r : b < t
      · rw [decide_eq_true r, decide_eq_true (by omega)]
      · rw [decide_eq_false r, decide_eq_false (by omega)]
    rw [h1]
    simp [e]
theorem any_next {α : Type} (l : List α) (p : α → Bool) (i : Nat) (hi : i < l.length) : (l.take (i + 1)).any p = ((l.take i).any p || p l[i]) := by
  rw [List.take_succ_eq_append_getElem hi, List.any_append]
  simp
theorem wrTo_yes {h : List Txn} {t i x : Nat} (hi : i < (readsAt h t).length) (hx : ((readsAt h t)[i]).2 = (x : Int)) (a b : Nat) : (wrTo h t i a b || (decide (a = x) && decide (b = t))) = wrTo h t (i + 1) a b := by
  unfold wrTo
  rw [any_next _ _ i hi, hx]
  have e : decide ((x : Int) = (a : Int)) = decide (a = x) := by
    by_cases q : a = x
    · rw [q]; simp
    · rw [decide_eq_false q, decide_eq_false (by omega)]
  rw [e]
  cases decide (b < t) && wrB h a b <;> cases decide (b = t) <;> cases decide (a = x) <;> simp
theorem wrTo_no {h : List Txn} (hn : h.length ≤ 64) {t i : Nat} (hi : i < (readsAt h t).length) (hx : ((readsAt h t)[i]).2 < 0) : build h.length (wrTo h t i) = build h.length (wrTo h t (i + 1)) := build_same hn fun a b _ _ => by
  unfold wrTo
  rw [any_next _ _ i hi, decide_eq_false (by omega : ¬ ((readsAt h t)[i]).2 = (a : Int)), Bool.or_false]
end Kn

set_option maxHeartbeats 4000000 in
theorem rWr17_at (h : List So.Txn) (u : Value) (w : World) (hv : Txns w u h) (hr : Hi.Right h) : Calls Try.prog 85 #[.agg #[u]] w (RetR w h.length (Kn.wrR h)) := by
  have HV := Lib.hid hv
  have hn := Kn.len64 hr
  obtain ⟨A0, c0', rfl, hsp⟩ := hv.spelled
  have HSP := Lib.hid hsp
  clear hsp
  have HZ := Lib.hid (Kn.wrTo_zero hn)
  have HE := Lib.hid (Kn.wrTo_all hn)
  have HRD := Lib.hid (fun t (ht : t < h.length) => Kn.readsAt_is ht)
  have HRL : Hid (∀ t (ht : t < h.length), h[t].reads.length ≤ 16) := fun t ht => by
    have h1 := (hr.2 t ht).reads
    have h2 := Ch.sub_len (l := (h[t].reads.map (·.1)).map Int.toNat) (m := List.range 16) (by
      rw [List.Nodup, List.pairwise_map]
      refine h1.2.imp_of_mem fun {a b} ha hb q e => ?_
      have := h1.1 a ha
      have := h1.1 b hb
      omega) (fun x hx => by
      obtain ⟨k, hk, rfl⟩ := List.mem_map.1 hx
      have := h1.1 k hk
      exact List.mem_range.2 (by omega))
    simpa using h2
  have HN : Hid (∀ t (ht : t < h.length), Gf.build h.length (Kn.wrTo h t h[t].reads.length) = Gf.build h.length (Kn.wrTo h (t + 1) 0)) := fun t ht => Kn.wrTo_next hn (by rw [Kn.readsAt_is ht]; exact Nat.le_refl _)
  have HFR : Hid (∀ t i (ht : t < h.length) (hi : i < h[t].reads.length), (h[t].reads[i]).2 = -1 ∨ ∃ x : Nat, (h[t].reads[i]).2 = (x : Int) ∧ x < h.length) := fun t i ht hi => by
    rcases (hr.2 t ht).froms _ (List.getElem_mem hi) with q | ⟨j, hj, q, _, _⟩
    · exact .inl q
    · exact .inr ⟨j, q, hj⟩
  have HY : Hid (∀ (t i x : Nat) (ht : t < h.length) (hi : i < h[t].reads.length), (h[t].reads[i]).2 = (x : Int) → x < h.length → ∀ hl : x < (Gf.build h.length (Kn.wrTo h t i)).length, (Gf.build h.length (Kn.wrTo h t i)).set x (Bi.withN (Gf.build h.length (Kn.wrTo h t i))[x] (t : Int)) = Gf.build h.length (Kn.wrTo h t (i + 1))) := fun t i x ht hi hx hxl hl => by
    rw [Kn.build_with hn _ hxl ht hl]
    have hi' : i < (Kn.readsAt h t).length := by rw [Kn.readsAt_is ht]; exact hi
    exact Kn.build_same hn fun a b _ _ => Kn.wrTo_yes hi' (by simp only [Kn.readsAt_is ht]; exact hx) a b
  have HNO : Hid (∀ t i (ht : t < h.length) (hi : i < h[t].reads.length), (h[t].reads[i]).2 = -1 → Gf.build h.length (Kn.wrTo h t i) = Gf.build h.length (Kn.wrTo h t (i + 1))) := fun t i ht hi hx => Kn.wrTo_no hn (by rw [Kn.readsAt_is ht]; exact hi) (by simp only [Kn.readsAt_is ht]; omega)
  have HLT : Hid (∀ x y, ∀ s ∈ Gf.build h.length (Kn.wrTo h x y), s < 18446744073709551616) := fun x y s hs => (Gf.build_ok hn _).small hs
  have F1 := Lib.hid (fun w => rNew12_at h.length hn w)
  clear hv hr
  go_enter Try.func85, Try.ntmps85
  go_wp2_with fail
  obtain ⟨t0, t1, bw⟩ := kn_one w (.slice A0 h.length c0') rfl
  have T0 := Lib.hid t0
  have T1 := Lib.hid t1
  have BW := Lib.hid bw
  have a0 := t0.cell
  clear t0 t1 bw
  generalize (w.alloc (.cells #[.slice A0 h.length c0'] 24)).alloc (.cells #[.int .i64 0, .slice none 0 0] 30) = W at *
  go_wp2_with fail
  refine (F1.out _).mono ?_
  rintro e w1 ⟨v1, rfl, ho1, hb1⟩
  obtain ⟨A, c, rfl, hmk⟩ := Mk.start (n := h.length) T1.out.lt hb1 ho1
  have HM := Lib.hid hmk
  clear hmk ho1 hb1 a0
  rw [← HZ.out] at HM
  go_wp2_with fail
  generalize w1.alloc (.cells #[.int .i64 (h.length : Int), .slice A h.length c] 30) = w2 at *
  generalize w1.heap.size = o at *
  go_loopw [4, 5, 6] (fun i s5 s6 wr => ∃ x : Nat, x ≤ h.length ∧ i = .int .i64 x ∧ Hid (Mk W wr (w.heap.size + 1) o h.length A c (Gf.build h.length (Kn.wrTo h x 0)))) (fun i _ _ _ => h.length - (intOf i).toNat)
  case atStart => exact ⟨0, Nat.zero_le _, rfl, HM.out⟩
  case round =>
    clear HM
    obtain ⟨t, htl, rfl, HM⟩ := hrel
    obtain ⟨e0, e1⟩ := HM.out.out.cells
    by_cases hlt : t < h.length
    · have HBW := Lib.hid (HM.out.below BW.out (by omega))
      obtain ⟨ad, xv, yv, hA1, hbl, i1, -, iy⟩ := HSP.out t hlt
      subst hA1
      obtain ⟨B, cB, hyv, -⟩ := iy.spelled
      subst hyv
      have HIY := Lib.hid iy
      have a0 := (box_at T0.out HM.out.low (by omega)).cell
      have x2 := (i1.below hbl HBW.out).c2
      have hx1 : (0 : Int) ≤ (t : Int) := Int.natCast_nonneg _
      have hx2 : (t : Int) < (h.length : Int) := by omega
      have hrl := HRL.out t hlt
      have HNX := Lib.hid (HN.out t hlt)
      have HFX := Lib.hid (fun i hi => HFR.out t i hlt hi)
      have HYX := Lib.hid (fun i (x : Nat) hi hx hxl hl => HY.out t i x hlt hi hx hxl hl)
      have HOX := Lib.hid (fun i hi hx => HNO.out t i hlt hi hx)
      generalize (h[t]'hlt).reads = rs at *
      clear i1 iy hbl HBW
      go_wp2_with fail
      clear e0 e1 a0 x2
      go_loopw [6] (fun i wq => ∃ y : Nat, y ≤ rs.length ∧ i = .int .i64 y ∧ Hid (Mk W wq (w.heap.size + 1) o h.length A c (Gf.build h.length (Kn.wrTo h t y)))) (fun i _ => rs.length - (intOf i).toNat)
      case atStart => exact ⟨0, Nat.zero_le _, rfl, HM.out⟩
      case round =>
        clear HM
        obtain ⟨y, hy, rfl, HM⟩ := hrel
        by_cases hlt2 : y < rs.length
        · have HBQ := Lib.hid (HM.out.below BW.out (by omega))
          obtain ⟨B', cB', e, hf⟩ := (HIY.out.below HBQ.out).spelled
          cases e
          obtain ⟨ad2, hB, hbl2, i2⟩ := hf y hlt2
          subst hB
          have y1 := i2.c1
          have hy1 : (0 : Int) ≤ (y : Int) := Int.natCast_nonneg _
          have hy2 : (y : Int) < (rs.length : Int) := by omega
          have HF1 := HFX.out y hlt2
          have HY1 := Lib.hid (fun (x : Nat) hx hxl hl => HYX.out y x hlt2 hx hxl hl)
          have HO1 := Lib.hid (fun hx => HOX.out y hlt2 hx)
          generalize (rs[y]'hlt2).2 = f at *
          clear hf i2 hbl2
          rcases HF1 with hfm | ⟨x, hfx, hxl⟩
          · subst hfm
            have HNX2 := Lib.hid (HO1.out rfl)
            clear HY1 HO1
            go_wp2_with fail
            go_roundw
            case rel => exact ⟨y + 1, by omega, by go_num, by rw [Hid, ← HNX2.out]; exact HM.out⟩
            case measure => simp [intOf]; omega
          · subst hfx
            obtain ⟨g, hA, e2, f2, hput⟩ := HM.out.put x hxl
            have hbl : x < (Gf.build h.length (Kn.wrTo h t y)).length := by rw [Gf.build_len]; exact hxl
            have hnx := HY1.out x rfl hxl hbl
            have F3 := Lib.hid (fun w => rWith10_at ((Gf.build h.length (Kn.wrTo h t y))[x]'hbl) (t : Int) w (HLT.out t y _ (List.getElem_mem hbl)))
            have hm4 := hput (Bi.withN ((Gf.build h.length (Kn.wrTo h t y))[x]'hbl) (t : Int))
            rw [hnx] at hm4
            have HM4 := Lib.hid hm4
            clear hm4 hnx hput HY1 HO1
            obtain ⟨e0, e1⟩ := HM.out.out.cells
            subst hA
            have hx1 : (0 : Int) ≤ (x : Int) := Int.natCast_nonneg _
            have hx2 : (x : Int) < (h.length : Int) := by omega
            have hge : decide ((0 : Int) ≤ (x : Int)) = true := decide_eq_true hx1
            generalize Bi.withN ((Gf.build h.length (Kn.wrTo h t y))[x]'hbl) (t : Int) = s' at *
            generalize (Gf.build h.length (Kn.wrTo h t y))[x]'hbl = s at *
            go_wp2_with fail
            go_region_law (go_simp; go_at_call 45; refine (F3.out _).mono ?_; rintro e w5 ⟨rfl, rfl⟩)
            all_goals
              clear e0 e1 e2 f2 y1
              go_wp2_with fail
              go_roundw
              case rel => exact ⟨y + 1, by omega, by go_num, HM4.out.later (Below.refl _ _).drew⟩
              case measure => simp [intOf]; omega
        · have hyn : y = rs.length := by omega
          subst hyn
          rw [HNX.out] at HM
          go_wp2_with fail
          go_roundw
          case rel => exact ⟨t + 1, by omega, by go_num, HM.out⟩
          case measure => simp [intOf]; omega
    · have hxn : t = h.length := by omega
      subst hxn
      have TR := Lib.hid (two_at T1.out HM.out.low (by omega))
      obtain ⟨r0, r1⟩ := TR.out.cells
      have f0 := TR.out.frozen 0
      have f1 := TR.out.frozen 1
      rw [HE.out] at HM
      go_wp2_with fail
      exact end_r (p := 2) rfl TR.out HM.out.own (by omega) (HM.out.below BW.out (by omega)) (Nat.le_succ _) _ rfl
end Go.Proofs.Ytahacjfeopjbaaa
