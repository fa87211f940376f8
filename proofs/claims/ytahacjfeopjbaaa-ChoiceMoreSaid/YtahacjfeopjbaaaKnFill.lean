/-
  The function literals of layer 17's program that draw: So's, Wr's and Init's.
  Conditions: a history that may be.
-/
import Derived.Test.YtahacjfeopjbaaaKnAdd
import Derived.Test.YtahacjfeopjbaaaKnRefB
import Derived.Test.YtahacjfeopjbaaaKnRefC
import Derived.Test.YtahacjfeopjbaaaIxAll
import Derived.Deep.RegionHeld3
set_option maxRecDepth 4000
namespace Go.Proofs.Ytahacjfeopjbaaa
open Go.RowKit

set_option maxHeartbeats 2000000 in
theorem knSo1_at (h : List So.Txn) (u : Value) (Wd W : World) (base b q : Nat) (hv : Txns Wd u h) (hr : Hi.Right h) (hq : Boxed Wd q 24 u) (hB : Below Wd.heap.size Wd W) (hbb : Wd.heap.size ≤ b) (hbase : base ≤ W.heap.size) (hG : GV W base b h.length (Gf.zeros h.length)) :
    Calls Try.prog 93 #[.func (.func 91) #[] #[.pointer (some ⟨b, 0, none⟩)], .pointer (some ⟨q, 0, none⟩)] W (Drawn W base b h.length (Kn.soR h)) := by
  have HV := Lib.hid hv
  have hn := Kn.len64 hr
  obtain ⟨A0, c0', rfl, hsp⟩ := hv.spelled
  have HSP := Lib.hid hsp
  have HQ := Lib.hid hq
  have HBD := Lib.hid hB
  have HBB := Lib.hid hbb
  have HBS := Lib.hid hbase
  have HZ := Lib.hid (Kn.soTo_zero hn)
  have HE := Lib.hid (Kn.soTo_all hn)
  have HR := Lib.hid (fun x => Kn.soTo_row hn x)
  have HN := Lib.hid (fun x => Kn.soTo_next hn x)
  have HY : Hid (∀ x y, x < h.length → y < h.length → Kn.soB h x y = true → Kn.addE (Gf.build h.length (Kn.soTo h x y)) (x, y) = Gf.build h.length (Kn.soTo h x (y + 1))) := fun x y hx hy hs => by
    rw [Kn.addE_build hn _ hx hy]
    exact Kn.build_same hn fun a b _ _ => Kn.soTo_yes hs a b
  have HNO : Hid (∀ x y, Kn.soB h x y = false → Gf.build h.length (Kn.soTo h x y) = Gf.build h.length (Kn.soTo h x (y + 1))) := fun x y hs => Kn.soTo_no hn hs
  have HSB : Hid (∀ x y (hx : x < h.length) (hy : y < h.length), x < y → Kn.soB h x y = decide (h[y].session = h[x].session)) := fun x y hx hy hxy => by
    unfold Kn.soB
    rw [decide_eq_true hxy, Bool.true_and, List.getElem?_eq_getElem hx, List.getElem?_eq_getElem hy]
    simp [eq_comm]
  rw [← HZ.out] at hG
  rw [← HE.out]
  have HG0 := Lib.hid hG
  have a0 := (hB.cell (p := ⟨q, 0, none⟩) hq.lt).trans hq.cell
  clear hv hr hsp hq hB hbb hbase hG HE
  go_enter Try.func93, Try.ntmps93
  go_wp2_with fail
  clear a0
  go_loopw [9] (fun i wr => ∃ x : Nat, x ≤ h.length ∧ i = .int .i64 x ∧ Hid (GV wr base b h.length (Gf.build h.length (Kn.soTo h x 0))) ∧ Hid (Save b (b + 1) W wr)) (fun i _ => h.length - (intOf i).toNat)
  case atStart => exact ⟨0, Nat.zero_le _, rfl, HG0.out, Save.refl _ _ _⟩
  case round =>
    clear HG0
    obtain ⟨x, hx, rfl, HG, HS⟩ := hrel
    by_cases hlt : x < h.length
    · have HBW := Lib.hid (HBD.out.trans (HS.out.below HBB.out HBD.out.size))
      obtain ⟨ad, xv, yv, hA1, hbl, i1, ix, iy⟩ := HSP.out x hlt
      subst hA1
      obtain ⟨A1, c1, rfl, -⟩ := ix.spelled
      obtain ⟨A2, c2, rfl, -⟩ := iy.spelled
      obtain ⟨e0, e1, e2⟩ := i1.below hbl HBW.out
      rw [HR.out x] at HG
      have HSX := Lib.hid (fun y hy hxy => HSB.out x y hlt hy hxy)
      generalize (h[x]'hlt).session = sx at *
      generalize (h[x]'hlt).writes.length = wl at *
      generalize (h[x]'hlt).reads.length = rl at *
      clear ix iy i1 hbl
      go_wp2_with fail
      have hob := HG.out.lt
      have s0 : (wr.alloc (.cells #[.int .i64 sx, .slice A1 wl c1, .slice A2 rl c2] 65)).cell? ⟨wr.heap.size, 0, none⟩ = some (.int .i64 sx) := new_cell wr _ _ 0 _ rfl
      have HG1 := Lib.hid (HG.out.later (alloc_below wr (.cells #[.int .i64 sx, .slice A1 wl c1, .slice A2 rl c2] 65)))
      have HS1 := Lib.hid (HS.out.trans (Save.of_below (alloc_below wr (.cells #[.int .i64 sx, .slice A1 wl c1, .slice A2 rl c2] 65))))
      have HC1 := Lib.hid s0
      clear HG HS HBW e0 e1 e2 s0
      generalize wr.alloc (.cells #[.int .i64 sx, .slice A1 wl c1, .slice A2 rl c2] 65) = w1 at *
      generalize wr.heap.size = o at *
      go_loopw [5] (fun i wq => ∃ y : Nat, x < y ∧ y ≤ h.length ∧ i = .int .i64 y ∧ Hid (GV wq base b h.length (Gf.build h.length (Kn.soTo h x y))) ∧ Hid (Save b (b + 1) W wq) ∧ Hid (wq.cell? ⟨o, 0, none⟩ = some (.int .i64 sx))) (fun i _ => h.length - (intOf i).toNat)
      case atStart => exact ⟨x + 1, by omega, by omega, by go_num, HG1.out, HS1.out, HC1.out⟩
      case round =>
        clear HG1 HS1 HC1
        obtain ⟨y, hxy, hy, rfl, HG, HS, HC⟩ := hrel
        have HBW := Lib.hid (HBD.out.trans (HS.out.below HBB.out HBD.out.size))
        have a0 := (HBW.out.cell (p := ⟨q, 0, none⟩) HQ.out.lt).trans HQ.out.cell
        by_cases hlt2 : y < h.length
        · obtain ⟨ad', _, _, hA2, hbl, i2, -, -⟩ := HSP.out y hlt2
          cases hA2
          have y0 := (i2.below hbl HBW.out).c0
          have x0 := HC.out
          have hsb := HSX.out y hlt2 hxy
          have HSE : Hid (((h[y]'hlt2).session == sx) = Kn.soB h x y) := by rw [Hid, hsb]; rfl
          have hy1 : (0 : Int) ≤ (y : Int) := Int.natCast_nonneg _
          have hy2 : (y : Int) < (h.length : Int) := by omega
          generalize (h[y]'hlt2).session = sy at *
          clear i2 hsb hbl
          cases hb : Kn.soB h x y with
          | false =>
            have hss : (sy == sx) = false := HSE.out.trans hb
            have HNX := Lib.hid (HNO.out x y hb)
            clear HSE hb
            go_wp2_with fail
            go_quiet (fail)
            have bq := below_drewN (Below.refl wr.heap.size wr) nq
            have HG2 := Lib.hid (HG.out.later bq)
            have HS2 := Lib.hid (HS.out.trans (Save.of_below bq))
            have HC2 := Lib.hid (cell_stays bq HC.out)
            clear a0 x0 y0 HG HS HC bq
            go_wp2_with fail
            go_roundw
            case rel => exact ⟨y + 1, by omega, by omega, by go_num, by rw [Hid, ← HNX.out]; exact HG2.out, HS2.out, HC2.out⟩
            case measure => simp [intOf]; omega
          | true =>
            have hss : (sy == sx) = true := HSE.out.trans hb
            have HNX := Lib.hid (HY.out x y hlt hlt2 hb)
            clear HSE hb
            go_wp2_with fail
            go_quiet (fail)
            have bq := below_drewN (Below.refl wr.heap.size wr) nq
            have HG2 := Lib.hid (HG.out.later bq)
            have HS2 := Lib.hid (HS.out.trans (Save.of_below bq))
            have HC2 := Lib.hid (cell_stays bq HC.out)
            clear a0 x0 y0 HG HS HC bq hss
            generalize wr.drewN nq = w3 at *
            have F := Lib.hid (knAdd_at base b h.length _ x y w3 HG2.out hlt hlt2 (Nat.le_trans HBS.out HS2.out.size))
            rw [HNX.out] at F
            go_wp2_with fail
            refine F.out.mono ?_
            rintro e w5 ⟨rfl, hg5, hs5⟩
            have HG5 := Lib.hid hg5
            have HS5 := Lib.hid (HS2.out.trans hs5)
            have HC5 := Lib.hid (save_cell hs5 (by show o ≠ b; omega) HC2.out)
            clear hg5 hs5 HG2 HS2 HC2 F
            go_wp2_with fail
            go_roundw
            case rel => exact ⟨y + 1, by omega, by omega, by go_num, HG5.out, HS5.out, HC5.out⟩
            case measure => simp [intOf]; omega
        · have hyn : y = h.length := by omega
          subst hyn
          rw [HN.out] at HG
          go_wp2_with fail
          go_roundw
          case rel => exact ⟨x + 1, by omega, by go_num, HG.out, HS.out⟩
          case measure => simp [intOf]; omega
    · have hxn : x = h.length := by omega
      subst hxn
      go_wp2_with fail
      go_end0
      exact ⟨rfl, HG.out, HS.out⟩

set_option maxHeartbeats 2000000 in
theorem knWr1_at (h : List So.Txn) (u : Value) (Wd W : World) (base b q : Nat) (hv : Txns Wd u h) (hr : Hi.Right h) (hq : Boxed Wd q 24 u) (hB : Below Wd.heap.size Wd W) (hbb : Wd.heap.size ≤ b) (hbase : base ≤ W.heap.size) (hG : GV W base b h.length (Gf.zeros h.length)) :
    Calls Try.prog 94 #[.func (.func 91) #[] #[.pointer (some ⟨b, 0, none⟩)], .pointer (some ⟨q, 0, none⟩)] W (Drawn W base b h.length (Kn.wrR h)) := by
  have hn := Kn.len64 hr
  obtain ⟨A0, c0', rfl, hsp⟩ := hv.spelled
  have HSP := Lib.hid hsp
  have HBD := Lib.hid hB
  have HBB := Lib.hid hbb
  have HBS := Lib.hid hbase
  have HZ := Lib.hid (Kn.wrTo_zero hn)
  have HE := Lib.hid (Kn.wrTo_all hn)
  have HRL := Lib.hid (fun t (ht : t < h.length) => Kn.reads_len hr t ht)
  have HN : Hid (∀ t (ht : t < h.length), Gf.build h.length (Kn.wrTo h t h[t].reads.length) = Gf.build h.length (Kn.wrTo h (t + 1) 0)) := fun t ht => Kn.wrTo_next hn (by rw [Kn.readsAt_is ht]; exact Nat.le_refl _)
  have HFR : Hid (∀ t i (ht : t < h.length) (hi : i < h[t].reads.length), (h[t].reads[i]).2 = -1 ∨ ∃ x : Nat, (h[t].reads[i]).2 = (x : Int) ∧ x < h.length) := fun t i ht hi => by
    rcases (hr.2 t ht).froms _ (List.getElem_mem hi) with q | ⟨j, hj, q, _, _⟩
    · exact .inl q
    · exact .inr ⟨j, q, hj⟩
  have HY : Hid (∀ (t i x : Nat) (ht : t < h.length) (hi : i < h[t].reads.length), (h[t].reads[i]).2 = (x : Int) → x < h.length → Kn.addE (Gf.build h.length (Kn.wrTo h t i)) (x, t) = Gf.build h.length (Kn.wrTo h t (i + 1))) := fun t i x ht hi hx hxl => by
    rw [Kn.addE_build hn _ hxl ht]
    have hi' : i < (Kn.readsAt h t).length := by rw [Kn.readsAt_is ht]; exact hi
    exact Kn.build_same hn fun a b _ _ => Kn.wrTo_yes hi' (by simp only [Kn.readsAt_is ht]; exact hx) a b
  have HNO : Hid (∀ t i (ht : t < h.length) (hi : i < h[t].reads.length), (h[t].reads[i]).2 = -1 → Gf.build h.length (Kn.wrTo h t i) = Gf.build h.length (Kn.wrTo h t (i + 1))) := fun t i ht hi hx => Kn.wrTo_no hn (by rw [Kn.readsAt_is ht]; exact hi) (by simp only [Kn.readsAt_is ht]; omega)
  rw [← HZ.out] at hG
  rw [← HE.out]
  have HG0 := Lib.hid hG
  have a0 := (hB.cell (p := ⟨q, 0, none⟩) hq.lt).trans hq.cell
  clear hv hr hsp hq hB hbb hbase hG HE
  go_enter Try.func94, Try.ntmps94
  go_wp2_with fail
  clear a0
  go_loopw [10] (fun i wr => ∃ x : Nat, x ≤ h.length ∧ i = .int .i64 x ∧ Hid (GV wr base b h.length (Gf.build h.length (Kn.wrTo h x 0))) ∧ Hid (Save b (b + 1) W wr)) (fun i _ => h.length - (intOf i).toNat)
  case atStart => exact ⟨0, Nat.zero_le _, rfl, HG0.out, Save.refl _ _ _⟩
  case round =>
    clear HG0
    obtain ⟨t, hx, rfl, HG, HS⟩ := hrel
    by_cases hlt : t < h.length
    · have HBW := Lib.hid (HBD.out.trans (HS.out.below HBB.out HBD.out.size))
      obtain ⟨ad, xv, yv, hA1, hbl, i1, ix, iy⟩ := HSP.out t hlt
      subst hA1
      obtain ⟨A1, c1, rfl, -⟩ := ix.spelled
      obtain ⟨A2, c2, rfl, hit⟩ := iy.spelled
      obtain ⟨e0, e1, e2⟩ := i1.below hbl HBW.out
      have HIT := Lib.hid hit
      have hrl := HRL.out t hlt
      have HNX := Lib.hid (HN.out t hlt)
      have HFX := Lib.hid (fun i hi => HFR.out t i hlt hi)
      have HYX := Lib.hid (fun i (x : Nat) hi hx hxl => HY.out t i x hlt hi hx hxl)
      have HOX := Lib.hid (fun i hi hx => HNO.out t i hlt hi hx)
      generalize (h[t]'hlt).session = sx at *
      generalize (h[t]'hlt).writes.length = wl at *
      generalize (h[t]'hlt).reads = rs at *
      clear ix iy i1 hbl hit
      have HG1 := Lib.hid (HG.out.later (alloc_below wr (.cells #[.int .i64 sx, .slice A1 wl c1, .slice A2 rs.length c2] 65)))
      have HS1 := Lib.hid (HS.out.trans (Save.of_below (alloc_below wr (.cells #[.int .i64 sx, .slice A1 wl c1, .slice A2 rs.length c2] 65))))
      clear HG HS HBW
      go_wp2_with fail
      clear e0 e1 e2
      generalize wr.alloc (.cells #[.int .i64 sx, .slice A1 wl c1, .slice A2 rs.length c2] 65) = w1 at *
      go_loopw [18] (fun i wq => ∃ y : Nat, y ≤ rs.length ∧ i = .int .i64 y ∧ Hid (GV wq base b h.length (Gf.build h.length (Kn.wrTo h t y))) ∧ Hid (Save b (b + 1) W wq)) (fun i _ => rs.length - (intOf i).toNat)
      case atStart => exact ⟨0, Nat.zero_le _, rfl, HG1.out, HS1.out⟩
      case round =>
        clear HG1 HS1
        obtain ⟨y, hy, rfl, HG, HS⟩ := hrel
        by_cases hlt2 : y < rs.length
        · have HBW := Lib.hid (HBD.out.trans (HS.out.below HBB.out HBD.out.size))
          obtain ⟨ad2, hA2, hbl2, i2⟩ := HIT.out y hlt2
          subst hA2
          obtain ⟨y0, y1⟩ := i2.below hbl2 HBW.out
          have hy1 : (0 : Int) ≤ (y : Int) := Int.natCast_nonneg _
          have hy2 : (y : Int) < (rs.length : Int) := by omega
          have HF1 := HFX.out y hlt2
          have HY1 := Lib.hid (fun (x : Nat) hx hxl => HYX.out y x hlt2 hx hxl)
          have HO1 := Lib.hid (fun hx => HOX.out y hlt2 hx)
          generalize (rs[y]'hlt2).2 = f at *
          generalize (rs[y]'hlt2).1 = k at *
          clear i2 hbl2
          have HG1 := Lib.hid (HG.out.later (alloc_below wr (.cells #[.int .i64 k, .int .i64 f] 62)))
          have HS1 := Lib.hid (HS.out.trans (Save.of_below (alloc_below wr (.cells #[.int .i64 k, .int .i64 f] 62))))
          clear HG HS HBW
          rcases HF1 with hfm | ⟨x, hfx, hxl⟩
          · subst hfm
            have HNX2 := Lib.hid (HO1.out rfl)
            clear HY1 HO1
            go_wp2_with fail
            go_roundw
            case rel => exact ⟨y + 1, by omega, by go_num, by rw [Hid, ← HNX2.out]; exact HG1.out, HS1.out⟩
            case measure => simp [intOf]; omega
          · subst hfx
            have hne : ((x : Int) != -1) = true := bne_iff_ne.2 (by omega)
            have HNX2 := Lib.hid (HY1.out x rfl hxl)
            have F := Lib.hid (knAdd_at base b h.length _ x t _ HG1.out hxl hlt (Nat.le_trans HBS.out HS1.out.size))
            rw [HNX2.out] at F
            clear HY1 HO1 HNX2
            go_wp2_with fail
            refine F.out.mono ?_
            rintro e w5 ⟨rfl, hg5, hs5⟩
            have HG5 := Lib.hid hg5
            have HS5 := Lib.hid (HS1.out.trans hs5)
            clear hg5 hs5 HG1 HS1 F y0 y1
            go_wp2_with fail
            go_roundw
            case rel => exact ⟨y + 1, by omega, by go_num, HG5.out, HS5.out⟩
            case measure => simp [intOf]; omega
        · have hyn : y = rs.length := by omega
          subst hyn
          rw [HNX.out] at HG
          go_wp2_with fail
          go_roundw
          case rel => exact ⟨t + 1, by omega, by go_num, HG.out, HS.out⟩
          case measure => simp [intOf]; omega
    · have hxn : t = h.length := by omega
      subst hxn
      go_wp2_with fail
      go_end0
      exact ⟨rfl, HG.out, HS.out⟩

/-- A row of numbers of a call's own lies aside of what was there ahead of the call. -/
theorem own_aside_row {w W : World} {b : Nat} (hlt : b < w.heap.size) {v : Value} {l : List Nat} (ho : W.ownsRow w.heap.size 3 1 v l.length ((ints l).flatMap nC)) :
    ∃ A c, v = .slice A l.length c ∧ ∀ (k : Nat) (hk : k < l.length), ∃ ad : Addr, A = some ad ∧ ∀ W', Save b (b + 1) W W' → W'.cell? (ad.add k) = some (.int .i64 (l[k] : Int)) := by
  obtain ⟨A, c, hv, hh⟩ := (ns_own ho).spelled
  refine ⟨A, c, by rw [hv, ints_len], fun k hk => ?_⟩
  obtain ⟨ad, e, hb, hc⟩ := hh k (by rw [ints_len]; exact hk)
  rw [ints_nth l k hk] at hc
  have hge : w.heap.size ≤ ad.block := (World.ownsRow.lt ho ad.block (by rw [hv, e]; rfl)).1
  exact ⟨ad, e, fun W' hs => save_cell hs (by rw [add_block]; omega) hc⟩

set_option maxHeartbeats 2000000 in
theorem knInit1_at (h : List So.Txn) (u : Value) (Wd W : World) (base b q : Nat) (hv : Txns Wd u h) (hr : Hi.Right h) (hs : Ix.Small h) (hq : Boxed Wd q 24 u) (hB : Below Wd.heap.size Wd W) (hbb : Wd.heap.size ≤ b) (hbase : base ≤ W.heap.size) (hG : GV W base b h.length (Gf.zeros h.length)) :
    Calls Try.prog 63 #[.func (.func 91) #[] #[.pointer (some ⟨b, 0, none⟩)], .pointer (some ⟨q, 0, none⟩)] W (Drawn W base b h.length (Kn.initR h)) := by
  have hn := Kn.len64 hr
  have hrb := Hi.rightB_yes hr
  have HV := Lib.hid hv
  obtain ⟨A0, c0', rfl, -⟩ := hv.spelled
  have HQ := Lib.hid hq
  have HBD := Lib.hid hB
  have HBB := Lib.hid hbb
  have HBS := Lib.hid hbase
  have HE := Lib.hid (Kn.keysTo_all hr)
  have F0 := Lib.hid (fun w hw => keys9_own h (.slice A0 h.length c0') w hw hs)
  rw [Ix.keysA_yes hrb] at F0
  have F1 : Hid (∀ (k : Int) w, Txns w (.slice A0 h.length c0') h → Calls Try.prog 66 #[.agg #[.slice A0 h.length c0'], .int .i64 k, .int .i64 (-1)] w (RetNums w (Ix.readers h k (-1)))) := fun k w hw => by
    have := readers9_at h (.slice A0 h.length c0') k (-1) w hw hs
    rw [Ix.readersA_yes hrb] at this
    exact this
  have F2 : Hid (∀ (k : Int) w, Txns w (.slice A0 h.length c0') h → Calls Try.prog 67 #[.agg #[.slice A0 h.length c0'], .int .i64 k] w (RetNums w (Ix.writers h k))) := fun k w hw => by
    have := writers9_at h (.slice A0 h.length c0') k w hw hs
    rw [Ix.writersA_yes hrb] at this
    exact this
  have HNX := Lib.hid (fun i (hi : i < (Ix.keys h).length) => (congrArg (Kn.addAll (Gf.zeros h.length)) (Kn.keysTo_next h hi)).trans Kn.addAll_app)
  have HKL := Lib.hid (Kn.keys_le h)
  have H16 := Lib.hid (fun i (hi : i < (Ix.keys h).length) => (Ix.mem_keys.1 (List.getElem_mem hi)).1)
  have H64 := Lib.hid hn
  rw [← HE.out]
  have HG0 := Lib.hid hG
  have a0 := (hB.cell (p := ⟨q, 0, none⟩) hq.lt).trans hq.cell
  clear hv hr hs hq hB hbb hbase hG HE hrb hn
  go_enter Try.func63, Try.ntmps63
  go_wp2_with fail
  refine (F0.out _ (HV.out.below HBD.out)).mono ?_
  rintro e w1 ⟨v1, rfl, hn1, hb1⟩
  have HG1 := Lib.hid (HG0.out.later hb1)
  have HS1 := Lib.hid (Save.of_below (a := b) (b := b + 1) hb1)
  obtain ⟨A1, c1, rfl, hk⟩ := own_aside_row HG0.out.lt hn1
  have HK := Lib.hid hk
  have a1 := (hb1.cell (p := ⟨q, 0, none⟩) (by have := HQ.out.lt; have := HBD.out.size; show q < _; omega)).trans a0
  clear hn1 hk hb1 a0 HG0 a1
  go_wp2_with fail
  go_loopw [8] (fun i wr => ∃ x : Nat, x ≤ (Ix.keys h).length ∧ i = .int .i64 x ∧ Hid (GV wr base b h.length (Kn.addAll (Gf.zeros h.length) (Kn.keysTo h x))) ∧ Hid (Save b (b + 1) W wr) ∧ Hid (Save b (b + 1) w1 wr)) (fun i _ => (Ix.keys h).length - (intOf i).toNat)
  case atStart => exact ⟨0, Nat.zero_le _, rfl, HG1.out, HS1.out, Save.refl _ _ _⟩
  case round =>
    clear HG1 HS1
    obtain ⟨x, hx, rfl, HG, HS, HS1⟩ := hrel
    have hkl := HKL.out
    by_cases hlt : x < (Ix.keys h).length
    · obtain ⟨ad, hA, hcell⟩ := HK.out x hlt
      subst hA
      have k0 := hcell wr HS1.out
      have HX := Lib.hid (HNX.out x hlt)
      generalize (Ix.keys h)[x]'hlt = k at *
      have HBW := Lib.hid (HBD.out.trans (HS.out.below HBB.out HBD.out.size))
      have HVW := Lib.hid (HV.out.below HBW.out)
      have hqc : Hid (∀ W', Below wr.heap.size wr W' → W'.cell? ⟨q, 0, none⟩ = some (.slice A0 h.length c0')) := fun W' hb => (hb.cell (p := ⟨q, 0, none⟩) (by have := HQ.out.lt; have := HBW.out.size; show q < _; omega)).trans ((HBW.out.cell (p := ⟨q, 0, none⟩) HQ.out.lt).trans HQ.out.cell)
      have a0 := hqc.out wr (Below.refl _ _)
      have D := Lib.hid (Below.refl wr.heap.size wr).drew
      have FE : Hid (∀ z u v, Below wr.heap.size wr z → Ns z u (ints (Ix.readers h (k : Int) (-1))) → Ns z v (ints (Ix.writers h (k : Int))) → Calls Try.prog 65 #[.func (.func 91) #[] #[.pointer (some ⟨b, 0, none⟩)], u, v] z (Drawn z base b h.length (Kn.addAll (Gf.zeros h.length) (Kn.keysTo h (x + 1))))) := fun z u v hz hu hv => by
        rw [HX.out]
        exact knEach_at base b h.length _ _ _ u v z (HG.out.later hz) hu hv Kn.readers_lt Kn.writers_lt (Nat.le_trans (Kn.readers_le ..) H64.out) (Nat.le_trans (Kn.writers_le ..) H64.out) (Nat.le_trans HBS.out (Nat.le_trans HS.out.size hz.size))
      clear hcell HX
      go_wp2_with fail
      go_region_held3 (fun W' => W'.cell? ⟨q, 0, none⟩ = some (.slice A0 h.length c0'))
        (first | (exact a0) | (exact hqc.out _ D.out) | (exact hqc.out _ Y1.out) | (exact hqc.out _ Y2.out) | (exact save_cell Y3.out (by show q ≠ b; have := HQ.out.lt; have := HBB.out; omega) (hqc.out _ Y2.out)))
        (first
          | (go_at_call 66; (with_reducible refine (F1.out _ _ (HVW.out.below D.out)).mono ?_); rintro e z1 ⟨u1, rfl, hu1, hz⟩; have Y1 := Lib.hid (below_all D.out hz); have U1 := Lib.hid hu1; clear hz hu1)
          | (go_at_call 67; (with_reducible refine (F2.out _ _ (HVW.out.below Y1.out)).mono ?_); rintro e z2 ⟨u2, rfl, hu2, hz⟩; have Y2 := Lib.hid (below_all Y1.out hz); have U2 := Lib.hid hu2; have U12 := Lib.hid (U1.out.below hz); clear hz hu2)
          | (go_at_call 65; (with_reducible refine (FE.out _ _ _ Y2.out U12.out U2.out).mono ?_); rintro e z3 ⟨rfl, hg3, hs3⟩; have Y3 := Lib.hid hs3; have G3 := Lib.hid hg3; clear hg3 hs3))
      have HS3 := Lib.hid ((HS.out.trans (Save.of_below Y2.out)).trans Y3.out)
      have HS4 := Lib.hid ((HS1.out.trans (Save.of_below Y2.out)).trans Y3.out)
      clear a0 k0 HG HS HS1
      go_wp2_with fail
      go_roundw
      case rel => exact ⟨x + 1, by omega, by go_num, G3.out, HS3.out, HS4.out⟩
      case measure => simp [intOf]; omega
    · have hxn : x = (Ix.keys h).length := by omega
      subst hxn
      go_wp2_with fail
      go_end0
      exact ⟨rfl, HG.out, HS.out⟩
end Go.Proofs.Ytahacjfeopjbaaa
