/-
  What the reference's Init of layer 17 answers.
  Conditions: a history that may be.
-/
import Derived.Test.YtahacjfeopjbaaaKnRefB
set_option maxRecDepth 4000
namespace Go.Proofs.Ytahacjfeopjbaaa
open Go.RowKit

namespace Kn
open Gf (bit Ok build)
open So (Txn)
/-- Does a read make an edge? -/
def initP (h : List Txn) (t : Nat) (y : Int × Int) (b : Nat) : Bool := Ix.writes h y.1 b && (decide (y.2 = -1) && decide (b ≠ t))
theorem initB_any (h : List Txn) (a b : Nat) : initB h a b = (readsAt h a).any fun y => initP h a y b := by
  unfold initB initP
  by_cases e : a = b
  · subst e
    simp
  · have e2 : b ≠ a := fun q => e q.symm
    rw [decide_eq_true (show a ≠ b from e), Bool.true_and]
    congr 1
    funext y
    rw [decide_eq_true e2, Bool.and_true, Bool.and_comm]
/-- Who reads what was there at first, filled read by read, and transaction by transaction. -/
def initTo (h : List Txn) (t i w a b : Nat) : Bool := (decide (a < t) && initB h a b) || (decide (a = t) && (((readsAt h t).take i).any (fun y => initP h t y b) || (decide (b < w) && (((readsAt h t)[i]?).map fun y => initP h t y b).getD false)))
theorem initTo_zero {h : List Txn} (hn : h.length ≤ 64) : build h.length (initTo h 0 0 0) = Gf.zeros h.length := build_none hn fun x y _ _ => by simp [initTo]
theorem initTo_all {h : List Txn} (hn : h.length ≤ 64) : build h.length (initTo h h.length 0 0) = initR h := build_same hn fun x y hx _ => by
  unfold initTo
  rw [decide_eq_true hx, decide_eq_false (Nat.ne_of_lt hx)]
  simp
theorem initTo_row {h : List Txn} (hn : h.length ≤ 64) {t i : Nat} (hi : (readsAt h t).length ≤ i) : build h.length (initTo h t i 0) = build h.length (initTo h (t + 1) 0 0) := build_same hn fun a b _ _ => by
  unfold initTo
  rw [List.take_of_length_le hi]
  by_cases e : a = t
  · subst e
    rw [← initB_any]
    simp
  · have h1 : decide (a < t + 1) = decide (a < t) := by
      by_cases r : a < t
      · rw [decide_eq_true r, decide_eq_true (by omega)]
      · rw [decide_eq_false r, decide_eq_false (by omega)]
    rw [h1]
    simp [e]
theorem initTo_next {h : List Txn} (hn : h.length ≤ 64) {t i : Nat} (hi : i < (readsAt h t).length) : build h.length (initTo h t i h.length) = build h.length (initTo h t (i + 1) 0) := build_same hn fun a b _ hb => by
  unfold initTo
  rw [any_next _ _ i hi, List.getElem?_eq_getElem hi, decide_eq_true hb]
  simp
theorem initTo_yes {h : List Txn} {t i w : Nat} (hi : i < (readsAt h t).length) (hp : initP h t (readsAt h t)[i] w = true) (a b : Nat) : (initTo h t i w a b || (decide (a = t) && decide (b = w))) = initTo h t i (w + 1) a b := by
  unfold initTo
  rw [List.getElem?_eq_getElem hi]
  by_cases e : a = t
  · subst e
    by_cases q : b = w
    · subst q
      simp [hp]
    · have h1 : decide (b < w + 1) = decide (b < w) := by
        by_cases r : b < w
        · rw [decide_eq_true r, decide_eq_true (by omega)]
        · rw [decide_eq_false r, decide_eq_false (by omega)]
      rw [h1]
      simp [q]
  · simp [e]
theorem initTo_no {h : List Txn} (hn : h.length ≤ 64) {t i w : Nat} (hi : i < (readsAt h t).length) (hp : initP h t (readsAt h t)[i] w = false) : build h.length (initTo h t i w) = build h.length (initTo h t i (w + 1)) := build_same hn fun a b _ _ => by
  unfold initTo
  rw [List.getElem?_eq_getElem hi]
  by_cases e : a = t
  · subst e
    by_cases q : b = w
    · subst q
      simp [hp]
    · have h1 : decide (b < w + 1) = decide (b < w) := by
        by_cases r : b < w
        · rw [decide_eq_true r, decide_eq_true (by omega)]
        · rw [decide_eq_false r, decide_eq_false (by omega)]
      rw [h1]
  · simp [e]
theorem reads_len {h : List Txn} (hr : Hi.Right h) (t : Nat) (ht : t < h.length) : h[t].reads.length ≤ 16 := by
  have h1 := (hr.2 t ht).reads
  have h2 := Ch.sub_len (l := (h[t].reads.map (·.1)).map Int.toNat) (m := List.range 16) (by
    rw [List.Nodup, List.pairwise_map]
    refine h1.2.imp_of_mem fun {a b} ha hb q e => ?_
    have := h1.1 a ha
    have := h1.1 b hb
    omega) (fun x hx => by
    obtain ⟨k, hk, rfl⟩ := List.mem_map.1 hx
    have := h1.1 k hk
    exact List.mem_range.2 (by omega))
  simpa using h2
theorem writes_len {h : List Txn} (hr : Hi.Right h) (t : Nat) (ht : t < h.length) : h[t].writes.length ≤ 16 := by
  have h1 := (hr.2 t ht).writes
  have h2 := Ch.sub_len (l := h[t].writes.map Int.toNat) (m := List.range 16) (by
    rw [List.Nodup, List.pairwise_map]
    refine h1.2.imp_of_mem fun {a b} ha hb q e => ?_
    have := h1.1 a ha
    have := h1.1 b hb
    omega) (fun x hx => by
    obtain ⟨k, hk, rfl⟩ := List.mem_map.1 hx
    have := h1.1 k hk
    exact List.mem_range.2 (by omega))
  simpa using h2
theorem writes_is {h : List Txn} {k : Int} {t : Nat} (ht : t < h.length) : Ix.writes h k t = decide (k ∈ h[t].writes) := by
  rw [Bool.eq_iff_iff, Ix.writes_iff, decide_eq_true_eq]
  exact ⟨fun ⟨_, q⟩ => q, fun q => ⟨ht, q⟩⟩
end Kn

set_option maxHeartbeats 8000000 in
theorem rInit17_at (h : List So.Txn) (u : Value) (w : World) (hv : Txns w u h) (hr : Hi.Right h) : Calls Try.prog 46 #[.agg #[u]] w (RetR w h.length (Kn.initR h)) := by
  have HV := Lib.hid hv
  have hn := Kn.len64 hr
  obtain ⟨A0, c0', rfl, hsp⟩ := hv.spelled
  have HSP := Lib.hid hsp
  clear hsp
  have HZ := Lib.hid (Kn.initTo_zero hn)
  have HE := Lib.hid (Kn.initTo_all hn)
  have HRL := Lib.hid (fun t ht => Kn.reads_len hr t ht)
  have HWL := Lib.hid (fun t ht => Kn.writes_len hr t ht)
  have HN : Hid (∀ t (ht : t < h.length), Gf.build h.length (Kn.initTo h t h[t].reads.length 0) = Gf.build h.length (Kn.initTo h (t + 1) 0 0)) := fun t ht => Kn.initTo_row hn (by rw [Kn.readsAt_is ht]; exact Nat.le_refl _)
  have HNR : Hid (∀ (t i : Nat) (ht : t < h.length) (hi : i < h[t].reads.length), Gf.build h.length (Kn.initTo h t i h.length) = Gf.build h.length (Kn.initTo h t (i + 1) 0)) := fun t i ht hi => Kn.initTo_next hn (by rw [Kn.readsAt_is ht]; exact hi)
  have HPP : Hid (∀ (t i x : Nat) (ht : t < h.length) (hi : i < h[t].reads.length) (hx : x < h.length), Kn.initP h t h[t].reads[i] x = (decide ((h[t].reads[i]).1 ∈ h[x].writes) && (decide ((h[t].reads[i]).2 = -1) && decide (x ≠ t)))) := fun t i x ht hi hx => by
    unfold Kn.initP
    rw [Kn.writes_is hx]
  have HY : Hid (∀ (t i x : Nat) (ht : t < h.length) (hi : i < h[t].reads.length), Kn.initP h t h[t].reads[i] x = true → x < h.length → ∀ hl : t < (Gf.build h.length (Kn.initTo h t i x)).length, (Gf.build h.length (Kn.initTo h t i x)).set t (Bi.withN (Gf.build h.length (Kn.initTo h t i x))[t] (x : Int)) = Gf.build h.length (Kn.initTo h t i (x + 1))) := fun t i x ht hi hx hxl hl => by
    rw [Kn.build_with hn _ ht hxl hl]
    have hi' : i < (Kn.readsAt h t).length := by rw [Kn.readsAt_is ht]; exact hi
    exact Kn.build_same hn fun a b _ _ => Kn.initTo_yes hi' (by simp only [Kn.readsAt_is ht]; exact hx) a b
  have HNO : Hid (∀ (t i x : Nat) (ht : t < h.length) (hi : i < h[t].reads.length), Kn.initP h t h[t].reads[i] x = false → Gf.build h.length (Kn.initTo h t i x) = Gf.build h.length (Kn.initTo h t i (x + 1))) := fun t i x ht hi hx => Kn.initTo_no hn (by rw [Kn.readsAt_is ht]; exact hi) (by simp only [Kn.readsAt_is ht]; exact hx)
  have HLT : Hid (∀ t i x, ∀ s ∈ Gf.build h.length (Kn.initTo h t i x), s < 18446744073709551616) := fun t i x s hs => (Gf.build_ok hn _).small hs
  have F1 := Lib.hid (fun w => rNew12_at h.length hn w)
  clear hv hr
  go_enter Try.func46, Try.ntmps46
  go_wp2_with fail
  obtain ⟨t0, t1, bw⟩ := kn_one w (.slice A0 h.length c0') rfl
  have T0 := Lib.hid t0
  have T1 := Lib.hid t1
  have BW := Lib.hid bw
  have a0 := t0.cell
  clear t0 t1 bw
  generalize (w.alloc (.cells #[.slice A0 h.length c0'] 24)).alloc (.cells #[.int .i64 0, .slice none 0 0] 30) = W at *
  go_wp2_with fail
  refine (F1.out _).mono ?_
  rintro e w1 ⟨v1, rfl, ho1, hb1⟩
  obtain ⟨A, c, rfl, hmk⟩ := Mk.start (n := h.length) T1.out.lt hb1 ho1
  have HM := Lib.hid hmk
  clear hmk ho1 hb1 a0
  rw [← HZ.out] at HM
  go_wp2_with fail
  generalize w1.alloc (.cells #[.int .i64 (h.length : Int), .slice A h.length c] 30) = w2 at *
  generalize w1.heap.size = o at *
  go_loopw [4, 5, 6, 7, 8] (fun i s5 s6 s7 s8 wr => ∃ x : Nat, x ≤ h.length ∧ i = .int .i64 x ∧ Hid (Mk W wr (w.heap.size + 1) o h.length A c (Gf.build h.length (Kn.initTo h x 0 0)))) (fun i _ _ _ _ _ => h.length - (intOf i).toNat)
  case atStart => exact ⟨0, Nat.zero_le _, rfl, HM.out⟩
  case round =>
    clear HM
    obtain ⟨t, htl, rfl, HM⟩ := hrel
    obtain ⟨e0, e1⟩ := HM.out.out.cells
    by_cases hlt : t < h.length
    · have HBW := Lib.hid (HM.out.below BW.out (by omega))
      obtain ⟨ad, xv, yv, hA1, hbl, i1, -, iy⟩ := HSP.out t hlt
      subst hA1
      obtain ⟨B, cB, hyv, -⟩ := iy.spelled
      subst hyv
      have HIY := Lib.hid iy
      have a0 := (box_at T0.out HM.out.low (by omega)).cell
      have x2 := (i1.below hbl HBW.out).c2
      have hx1 : (0 : Int) ≤ (t : Int) := Int.natCast_nonneg _
      have hx2 : (t : Int) < (h.length : Int) := by omega
      have hrl := HRL.out t hlt
      have HNX := Lib.hid (HN.out t hlt)
      have HNRX := Lib.hid (fun i hi => HNR.out t i hlt hi)
      have HPX := Lib.hid (fun i x hi hx => HPP.out t i x hlt hi hx)
      have HYX := Lib.hid (fun i x hi hx hxl hl => HY.out t i x hlt hi hx hxl hl)
      have HOX := Lib.hid (fun i x hi hx => HNO.out t i x hlt hi hx)
      generalize (h[t]'hlt).reads = rs at *
      clear i1 iy hbl HBW
      go_wp2_with fail
      clear e0 e1 a0 x2
      go_loopw [6, 7, 8] (fun i s7 s8 wq => ∃ y : Nat, y ≤ rs.length ∧ i = .int .i64 y ∧ Hid (Mk W wq (w.heap.size + 1) o h.length A c (Gf.build h.length (Kn.initTo h t y 0)))) (fun i _ _ _ => rs.length - (intOf i).toNat)
      case atStart => exact ⟨0, Nat.zero_le _, rfl, HM.out⟩
      case round =>
        clear HM
        obtain ⟨y, hy, rfl, HM⟩ := hrel
        by_cases hlt2 : y < rs.length
        · have hy1 : (0 : Int) ≤ (y : Int) := Int.natCast_nonneg _
          have hy2 : (y : Int) < (rs.length : Int) := by omega
          have HNRY := Lib.hid (HNRX.out y hlt2)
          obtain ⟨B', cB', e, hf⟩ := HIY.out.spelled
          cases e
          obtain ⟨ad2, hB, hbl2, i2⟩ := hf y hlt2
          subst hB
          have HI2 := Lib.hid i2
          have HBL2 := Lib.hid hbl2
          have HPY := Lib.hid (fun x hx => HPX.out y x hlt2 hx)
          have HYY := Lib.hid (fun x hx hxl hl => HYX.out y x hlt2 hx hxl hl)
          have HOY := Lib.hid (fun x hx => HOX.out y x hlt2 hx)
          generalize (rs[y]'hlt2) = rd at *
          clear hf i2 hbl2
          go_wp2_with fail
          go_loopw [7, 8] (fun i s8 wz => ∃ z : Nat, z ≤ h.length ∧ i = .int .i64 z ∧ Hid (Mk W wz (w.heap.size + 1) o h.length A c (Gf.build h.length (Kn.initTo h t y z)))) (fun i _ _ => h.length - (intOf i).toNat)
          case atStart => exact ⟨0, Nat.zero_le _, rfl, HM.out⟩
          case round =>
            clear HM
            obtain ⟨z, hz, rfl, HM⟩ := hrel
            obtain ⟨e0, e1⟩ := HM.out.out.cells
            by_cases hlt3 : z < h.length
            ·
              have HBQ := Lib.hid (HM.out.below BW.out (by omega))
              obtain ⟨ad', xz, yz, hA2, hblz, iz, hnz, hiz⟩ := HSP.out z hlt3
              cases hA2
              obtain ⟨Az, cz, hxz, -⟩ := hnz.spelled
              obtain ⟨Cz, dz, hyz, -⟩ := hiz.spelled
              subst hxz hyz
              have HNZ := Lib.hid hnz
              have HIZ := Lib.hid (iz.below hblz HBQ.out)
              have HKY := Lib.hid (HI2.out.below HBL2.out HBQ.out)
              have HBX := Lib.hid (box_at T0.out HM.out.low (by omega))
              have hwl := HWL.out z hlt3
              have hz1 : (0 : Int) ≤ (z : Int) := Int.natCast_nonneg _
              have hz2 : (z : Int) < (h.length : Int) := by omega
              have HPZ := Lib.hid (HPY.out z hlt3)
              have HYZ := Lib.hid (fun hx hxl hl => HYY.out z hx hxl hl)
              have HOZ := Lib.hid (fun hx => HOY.out z hx)
              have FW := Lib.hid (fun w hx => rWrites8_at (h[z]'hlt3) (.slice Az (h[z]'hlt3).writes.length cz) (.slice Cz (h[z]'hlt3).reads.length dz) rd.1 w hx ⟨_, _, _, rfl⟩ (by omega))
              generalize (h[z]'hlt3) = tz at *
              clear iz hnz hiz hblz
              have HK : Hid (∀ W', Below wr.heap.size wr W' → W'.cell? ⟨w.heap.size, 0, none⟩ = some (.slice (some ad) h.length c0') ∧ W'.cell? (ad.add (z * 3)) = some (.int .i64 tz.session) ∧ W'.cell? ⟨(ad.add (z * 3)).block, (ad.add (z * 3)).off + 1, none⟩ = some (.slice Az tz.writes.length cz) ∧ W'.cell? ⟨(ad.add (z * 3)).block, (ad.add (z * 3)).off + 2, none⟩ = some (.slice Cz tz.reads.length dz) ∧ W'.cell? (ad2.add (y * 2)) = some (.int .i64 rd.1)) := fun W' hb =>
                ⟨st_stays hb HBX.out.cell, st_stays hb HIZ.out.c0, st_stays hb HIZ.out.c1, st_stays hb HIZ.out.c2, st_stays hb HKY.out.c0⟩
              go_wp2_with fail
              obtain ⟨a0, z0, z1', z2', k0⟩ := HK.out _ (Below.refl _ wr)
              have D := Lib.hid (Below.refl wr.heap.size wr).drew
              clear e0 e1
              go_region_held3 (fun W' => W'.cell? ⟨w.heap.size, 0, none⟩ = some (.slice (some ad) h.length c0') ∧ W'.cell? (ad.add (z * 3)) = some (.int .i64 tz.session) ∧ W'.cell? ⟨(ad.add (z * 3)).block, (ad.add (z * 3)).off + 1, none⟩ = some (.slice Az tz.writes.length cz) ∧ W'.cell? ⟨(ad.add (z * 3)).block, (ad.add (z * 3)).off + 2, none⟩ = some (.slice Cz tz.reads.length dz) ∧ W'.cell? (ad2.add (y * 2)) = some (.int .i64 rd.1))
                (first | (exact ⟨a0, z0, z1', z2', k0⟩) | (exact HK.out _ D.out) | (exact HK.out _ Y1.out))
                (first | (go_at_call 74; (with_reducible refine (FW.out _ (HNZ.out.below (below_all HBQ.out D.out))).mono ?_); rintro e w4 ⟨rfl, hz4⟩; have Y1 := Lib.hid (below_all D.out hz4); clear hz4))
              all_goals
                have HM5 := Lib.hid (HM.out.later Y1.out)
                have k1 := st_stays Y1.out HKY.out.c1
                clear a0 z0 z1' z2' k0 D HK HM HBX HIZ HKY HBQ Y1 FW
                obtain ⟨b2, hb2'⟩ : ∃ b2, b2 = (rd.2 == (-1 : Int)) := ⟨_, rfl⟩
                obtain ⟨b3, hb3'⟩ : ∃ b3, b3 = ((z : Int) != (t : Int)) := ⟨_, rfl⟩
                have HB2E : Hid (decide (rd.2 = -1) = (rd.2 == (-1 : Int))) := rfl
                have HB3E : Hid (decide (z ≠ t) = ((z : Int) != (t : Int))) := by
                  rw [Hid, Bool.eq_iff_iff, decide_eq_true_eq, bne_iff_ne]
                  omega
                generalize hbm : decide (rd.1 ∈ tz.writes) = b1 at *
                cases b1 with
                | false =>
                  have hb1 := hbm
                  clear hb2' hb3' HB2E HB3E
                  have hp : Kn.initP h t rd z = false := by rw [HPZ.out, Bool.false_and]
                  have HNX2 := Lib.hid (HOZ.out hp)
                  clear hp HYZ
                  go_wp2_with fail
                  go_roundw
                  case rel => exact ⟨z + 1, by omega, by go_num, by rw [Hid, ← HNX2.out]; exact HM5.out⟩
                  case measure => simp [intOf]; omega
                | true =>
                  have hb1 := hbm
                  cases b2 with
                  | false =>
                    have hb2 : (rd.2 == (-1 : Int)) = false := hb2'.symm
                    clear hb2' hb3'
                    have hp : Kn.initP h t rd z = false := by rw [HPZ.out, HB2E.out, hb2]; rfl
                    have HNX2 := Lib.hid (HOZ.out hp)
                    clear hp HYZ
                    go_wp2_with fail
                    go_roundw
                    case rel => exact ⟨z + 1, by omega, by go_num, by rw [Hid, ← HNX2.out]; exact HM5.out⟩
                    case measure => simp [intOf]; omega
                  | true =>
                    have hb2 : (rd.2 == (-1 : Int)) = true := hb2'.symm
                    cases b3 with
                    | false =>
                      have hb3 : ((z : Int) != (t : Int)) = false := hb3'.symm
                      clear hb2' hb3'
                      have hp : Kn.initP h t rd z = false := by rw [HPZ.out, HB2E.out, HB3E.out, hb2, hb3]; rfl
                      have HNX2 := Lib.hid (HOZ.out hp)
                      clear hp HYZ
                      go_wp2_with fail
                      go_roundw
                      case rel => exact ⟨z + 1, by omega, by go_num, by rw [Hid, ← HNX2.out]; exact HM5.out⟩
                      case measure => simp [intOf]; omega
                    | true =>
                      have hb3 : ((z : Int) != (t : Int)) = true := hb3'.symm
                      clear hb2' hb3'
                      have hp : Kn.initP h t rd z = true := by rw [HPZ.out, HB2E.out, HB3E.out, hb2, hb3]; rfl
                      obtain ⟨g, hA, e2, f2, hput⟩ := HM5.out.put t hlt
                      have hbl : t < (Gf.build h.length (Kn.initTo h t y z)).length := by rw [Gf.build_len]; exact hlt
                      have hnx := HYZ.out hp hlt3 hbl
                      have F3 := Lib.hid (fun w => rWith10_at ((Gf.build h.length (Kn.initTo h t y z))[t]'hbl) (z : Int) w (HLT.out t y z _ (List.getElem_mem hbl)))
                      have hm4 := hput (Bi.withN ((Gf.build h.length (Kn.initTo h t y z))[t]'hbl) (z : Int))
                      rw [hnx] at hm4
                      have HM4 := Lib.hid hm4
                      clear hm4 hnx hput HYZ HOZ hp
                      obtain ⟨e0, e1⟩ := HM5.out.out.cells
                      subst hA
                      generalize Bi.withN ((Gf.build h.length (Kn.initTo h t y z))[t]'hbl) (z : Int) = s' at *
                      generalize (Gf.build h.length (Kn.initTo h t y z))[t]'hbl = s at *
                      go_wp2_with fail
                      go_region_law (go_simp; go_at_call 45; refine (F3.out _).mono ?_; rintro e w5 ⟨rfl, rfl⟩)
                      all_goals
                        clear e0 e1 e2 f2 k1
                        go_wp2_with fail
                        go_roundw
                        case rel => exact ⟨z + 1, by omega, by go_num, HM4.out.later (Below.refl _ _).drew⟩
                        case measure => simp [intOf]; omega
            · have hzn : z = h.length := by omega
              subst hzn
              rw [HNRY.out] at HM
              go_wp2_with fail
              go_roundw
              case rel => exact ⟨y + 1, by omega, by go_num, HM.out⟩
              case measure => simp [intOf]; omega
        · have hyn : y = rs.length := by omega
          subst hyn
          rw [HNX.out] at HM
          go_wp2_with fail
          go_roundw
          case rel => exact ⟨t + 1, by omega, by go_num, HM.out⟩
          case measure => simp [intOf]; omega
    · have hxn : t = h.length := by omega
      subst hxn
      have TR := Lib.hid (two_at T1.out HM.out.low (by omega))
      obtain ⟨r0, r1⟩ := TR.out.cells
      have f0 := TR.out.frozen 0
      have f1 := TR.out.frozen 1
      rw [HE.out] at HM
      go_wp2_with fail
      exact end_r (p := 2) rfl TR.out HM.out.own (by omega) (HM.out.below BW.out (by omega)) (Nat.le_succ _) _ rfl
end Go.Proofs.Ytahacjfeopjbaaa
