/-
  What the reference's Hist of layer 7 answers: So.histR; what was in memory stays as it was.
  Conditions: a row of ops has at most 2^32 elements.
-/
import Derived.Test.YtodahdnooidmaaaSoRefE
import Derived.Test.YtodahdnooidmaaaSoWalkE
set_option maxRecDepth 4000
namespace Go.Proofs.Ytodahdnooidmaaa
open Go.RowKit

theorem rresults_hist (X : World) (b : Nat) (tmps : Array Value) (x : Value) (n q : Int) (hp : tmps.getD 2 undef = .pointer (some ⟨b, 0, none⟩)) (hn : tmps.getD 3 undef = .int .i64 n) (hq : tmps.getD 4 undef = .int .i64 q) (h0 : X.cell? ⟨b, 0, none⟩ = some x) :
    (results Try.f10 tmps).run Try.prog X = .ok (.tuple #[.agg #[x], .int .i64 n, .int .i64 q]) X := by
  rw [Array.getD_eq_getD_getElem?] at hp hn hq
  simp [results, Try.results10, hp, hn, hq, asAddr, go_sem, h0]
theorem rend_hist {w X : World} {r : List So.Txn × Int × Int} {ts : List So.Txn} {n q : Int} (hr : r = (ts, n, q)) (tmps : Array Value) (b : Nat) (x : Value) (h0 : X.cell? ⟨b, 0, none⟩ = some x) (hx : Txns X x ts) (hb : Below w.heap.size w X)
    (hp : tmps.getD 2 undef = .pointer (some ⟨b, 0, none⟩)) (hn : tmps.getD 3 undef = .int .i64 n) (hq : tmps.getD 4 undef = .int .i64 q) :
    bodyPost Try.prog Try.f10 (RetHist w r) Exit.ret { tmps := tmps, defers := [] } X := by
  refine bodyPost_ret (rresults_hist X b tmps x n q hp hn hq h0) rfl ?_
  subst hr
  exact ⟨x, rfl, hx, hb⟩
theorem rhist_no {w W : World} {r : List So.Txn × Int × Int} {n q : Int} (h : HistRes w W) (hr : r = ([], n, q)) (tmps : Array Value) (hp : tmps.getD 2 undef = .pointer (some ⟨w.heap.size, 0, none⟩)) (hn : tmps.getD 3 undef = .int .i64 n) (hq : tmps.getD 4 undef = .int .i64 q) :
    bodyPost Try.prog Try.f10 (RetHist w r) Exit.ret { tmps := tmps, defers := [] } (W.setCell ⟨w.heap.size, 0, none⟩ (.slice none 0 0)) :=
  rend_hist hr tmps _ _ (one_cell (one_set h.res _)).1 (Txns.nil _ _) (h.below.setCell (Nat.le_refl _) _) hp hn hq
/-- While the history is filled: its variable lies at W's end. -/
structure RHistMid (W wx : World) (l : List Gr.Tx) (k : Nat) (V : Value) (p : List (So.Txn × Value × Value)) : Prop where
  cell : wx.heap[W.heap.size]? = some (.cells #[V] 27 (0, 0))
  own : OwnTxns 41 3 43 wx (W.heap.size + 1) V p
  same : p.map (·.1) = ((l.take k).filter (·.done)).map (So.txnOf l)
  below : Below W.heap.size W wx
section
variable {W wx w3 : World} {l : List Gr.Tx} {k : Nat} {V v' kv rv : Value} {p : List (So.Txn × Value × Value)}
theorem RHistMid.later (h : RHistMid W wx l k V p) (hb : Below wx.heap.size wx w3) : RHistMid W w3 l k V p := ⟨(hb.block _ (lt_of_block h.cell)).trans h.cell, h.own.below hb, h.same, below_all h.below hb⟩
theorem rhist_start (W : World) (l : List Gr.Tx) : RHistMid W (W.alloc (.cells #[.slice none 0 0] 27)) l 0 (.slice none 0 0) [] := ⟨heap_alloc_new _ _, OwnTxns.nil _ _ _ _ _, rfl, alloc_below _ _⟩
theorem RHistMid.skip (h : RHistMid W wx l k V p) (hk : k < l.length) (hd : l[k].done = false) : RHistMid W wx l (k + 1) V p := by
  refine ⟨h.cell, h.own, ?_, h.below⟩
  rw [So.txns_step l k hk, hd, h.same]
  simp
theorem RHistMid.free (h : RHistMid W wx l k V p) (hg : wx.grownBy w3 V.ownBlock) : w3.cell? ⟨W.heap.size, 0, none⟩ = some V ∧ w3.frozen? ⟨W.heap.size, 0, none⟩ = false :=
  one_cell ((hg.block _ (lt_of_block h.cell) (fun e => own_above h.own.row e.symm)).trans h.cell)
theorem RHistMid.more (h : RHistMid W wx l k V p) (hk : k < l.length) (hd : l[k].done = true)
    (hkv : wx.ownsRow (W.heap.size + 1) 3 1 kv (So.txnOf l l[k]).writes.length ((So.txnOf l l[k]).writes.flatMap nC)) (hrv : wx.ownsRow (W.heap.size + 1) 43 2 rv (So.txnOf l l[k]).reads.length ((So.txnOf l l[k]).reads.flatMap itC))
    (hrow : w3.ownsRow (W.heap.size + 1) 41 3 v' (p.length + 1) (p.flatMap txnC ++ txnC (So.txnOf l l[k], kv, rv))) (hg : wx.grownBy w3 V.ownBlock) :
    RHistMid W (w3.setCell ⟨W.heap.size, 0, none⟩ v') l (k + 1) v' (p ++ [(So.txnOf l l[k], kv, rv)]) := by
  have hc := (hg.block _ (lt_of_block h.cell) (fun e => own_above h.own.row e.symm)).trans h.cell
  refine ⟨one_set hc v', (h.own.snoc (by decide) (by decide) hkv hrv hrow hg).set (by show W.heap.size < W.heap.size + 1; omega) _, ?_, ?_⟩
  · rw [So.txns_step l k hk, hd, List.map_append, h.same]
    simp
  · exact (h.below.grown hg h.below.size (fun j hj => by have := (h.own.row.lt j hj).1; omega)).setCell (Nat.le_refl _) _
end
set_option maxHeartbeats 4000000 in
theorem rHist7_at (l : List Gr.Tx) (v : Value) (w : World) (hv : Txs w v l) (hl : l.length ≤ 4294967296) (ho : ∀ t ∈ l, t.ops.length ≤ 4294967296) : Calls Try.prog 10 #[v] w (RetHist w (So.histR l)) := by
  obtain ⟨j0, hi0, hz0, hz1, hz2⟩ := info_parts txn_info
  have J0 := Lib.hid hi0
  have J1 := Lib.hid hz0
  have J2 := Lib.hid hz1
  have J3 := Lib.hid hz2
  clear hi0 hz0 hz1 hz2
  obtain ⟨A, c, rfl, hform⟩ := hv.spelled
  have HF := Lib.hid hform
  have HR0 := Lib.hid (HistRes.start w)
  have HV := Lib.hid hv
  have HO := Lib.hid ho
  obtain ⟨r0, r1⟩ := one_cell HR0.out.res
  clear hv ho hform
  go_enter Try.func10, Try.ntmps10
  by_cases h32 : 32 < l.length
  · have hd : decide ((32 : Int) < (l.length : Int)) = true := by simp; omega
    have HR := Lib.hid (So.hist_many l h32)
    go_wp2_with fail
    exact rend_hist HR.out _ _ _ r0 (Txns.nil _ _) HR0.out.below rfl rfl rfl
  have hd : decide ((32 : Int) < (l.length : Int)) = false := by simp; omega
  have hl32 : l.length ≤ 32 := by omega
  clear h32
  go_wp2_with fail
  go_loopw [5] (fun i wr => ∃ k : Nat, k ≤ l.length ∧ i = .int .i64 k ∧ Hid (∀ j, j < k → So.phase l 0 j = 0) ∧ HistRes w wr) (fun i _ => l.length - (intOf i).toNat)
  case atStart => exact ⟨0, Nat.zero_le _, rfl, (fun j hj => absurd hj (by omega)), HR0.out⟩
  case round =>
    clear HR0 r0 r1
    obtain ⟨k, hk, rfl, hno, hat⟩ := hrel
    have HA := Lib.hid hat
    clear hat
    by_cases hlt : k < l.length
    · obtain ⟨ad, u, rfl, hblk, hT, hU⟩ := HF.out k hlt
      have HBAD := Lib.hid (So.may_bad l k hlt)
      have HGOOD := Lib.hid (So.may_good l k hlt)
      have hol := HO.out _ (List.getElem_mem hlt)
      obtain ⟨t, ht⟩ : ∃ t, t = l[k]'hlt := ⟨_, rfl⟩
      rw [← ht] at hT hU HBAD HGOOD hol
      obtain ⟨Au, cu, rfl, _⟩ := hU.form
      obtain ⟨k0, k1, k2, k3⟩ := hT.below hblk HA.out.below
      have HU := Lib.hid (hU.below HA.out.below)
      clear hT hU ht
      go_wp2_with fail
      refine (rMay_at t _ _ HU.out hol).mono ?_
      rintro e w1 ⟨rfl, hb1⟩
      have HN := Lib.hid (HA.out.later hb1)
      clear hb1 k0 k1 k2 k3
      cases hmay : So.mayT t with
      | true =>
        have HZ := Lib.hid (HGOOD.out hmay)
        clear hmay
        go_wp2_with fail
        go_roundw
        case rel => exact ⟨k + 1, by omega, by go_num, So.next_zero hno.out HZ.out, HN.out⟩
        case measure => simp [intOf]; omega
      | false =>
        have HZ := Lib.hid (HBAD.out (by rw [hmay]; simp))
        have HR : Hid (So.histR l = ([], (k : Int), 1)) := by rw [Hid, So.hist_bad l hl32 0 k (by omega) hlt (fun q hq => absurd hq (by omega)) hno.out (by rw [HZ.out]; decide), HZ.out]
        obtain ⟨r0, r1⟩ := one_cell HN.out.res
        clear hmay
        go_wp2_with fail
        exact rhist_no HN.out HR.out _ rfl rfl rfl
    · have HC0 : Hid (So.Clean l 0) := fun j hj => hno.out j (by omega)
      go_wp2_with fail
      clear hno hk hlt
      obtain ⟨wa, rfl⟩ : ∃ wa, wa = wr := ⟨_, rfl⟩
      rename_i ka
      go_loopw [7] (fun i wr => ∃ k : Nat, k ≤ l.length ∧ i = .int .i64 k ∧ Hid (∀ j, j < k → So.phase l 1 j = 0) ∧ HistRes w wr) (fun i _ => l.length - (intOf i).toNat)
      case atStart => exact ⟨0, Nat.zero_le _, rfl, (fun j hj => absurd hj (by omega)), HA.out⟩
      case round =>
        clear HA
        obtain ⟨k, hk, rfl, hno, hat⟩ := hrel
        have HA := Lib.hid hat
        clear hat
        by_cases hlt : k < l.length
        · have HVW := Lib.hid (HV.out.below HA.out.below)
          by_cases hq : So.phase l 1 k = 0
          · have HQ := Lib.hid hq
            clear hq
            go_wp2_with fail
            refine (rUnlike_at l _ k _ HVW.out hlt hl32 HO.out).mono ?_
            rintro e w1 ⟨rfl, hb1⟩
            rw [HQ.out]
            have HN := Lib.hid (HA.out.later hb1)
            clear hb1
            go_wp2_with fail
            go_roundw
            case rel => exact ⟨k + 1, by omega, by go_num, So.next_zero hno.out HQ.out, HN.out⟩
            case measure => simp [intOf]; omega
          · have hqb : (So.phase l 1 k != 0) = true := by rw [bne_iff_ne]; exact hq
            have HR := Lib.hid (So.hist_bad l hl32 1 k (by omega) hlt (fun q hq' => by
              obtain rfl : q = 0 := by omega
              exact HC0.out) hno.out hq)
            clear hq
            go_wp2_with fail
            refine (rUnlike_at l _ k _ HVW.out hlt hl32 HO.out).mono ?_
            rintro e w1 ⟨rfl, hb1⟩
            have HN := Lib.hid (HA.out.later hb1)
            obtain ⟨r0, r1⟩ := one_cell HN.out.res
            clear hb1
            go_wp2_with fail
            exact rhist_no HN.out HR.out _ rfl rfl rfl
        · have HC1 : Hid (So.Clean l 1) := fun j hj => hno.out j (by omega)
          go_wp2_with fail
          clear hno hk hlt
          obtain ⟨wb, rfl⟩ : ∃ wb, wb = wr := ⟨_, rfl⟩
          go_loopw [9] (fun i wr => ∃ k : Nat, k ≤ l.length ∧ i = .int .i64 k ∧ Hid (∀ j, j < k → So.phase l 2 j = 0) ∧ HistRes w wr) (fun i _ => l.length - (intOf i).toNat)
          case atStart => exact ⟨0, Nat.zero_le _, rfl, (fun j hj => absurd hj (by omega)), HA.out⟩
          case round =>
            clear HA
            obtain ⟨k, hk, rfl, hno, hat⟩ := hrel
            have HA := Lib.hid hat
            clear hat
            by_cases hlt : k < l.length
            · obtain ⟨ad, u, rfl, hblk, hT, hU⟩ := HF.out k hlt
              have HPH := Lib.hid (So.phase_at l 2 k hlt)
              have hol := HO.out _ (List.getElem_mem hlt)
              obtain ⟨t, ht⟩ : ∃ t, t = l[k]'hlt := ⟨_, rfl⟩
              rw [← ht] at hT hU HPH hol
              obtain ⟨Au, cu, rfl, _⟩ := hU.form
              obtain ⟨k0, k1, k2, k3⟩ := hT.below hblk HA.out.below
              have HT := Lib.hid hT
              have HU := Lib.hid (hU.below HA.out.below)
              clear hT hU ht
              go_wp2_with fail
              refine (rLook_at t.ops _ _ HU.out hol).mono ?_
              rintro e w1 ⟨fx, fy, rfl, hx, hy, hb1⟩
              obtain ⟨Ax, cx, rfl, _⟩ := hx.spelled
              obtain ⟨Ay, cy, rfl, _⟩ := hy.spelled
              have HN := Lib.hid ((HA.out.later hb1).later (alloc_below w1 (.cells #[.slice Ax (In.lookR t.ops).1.1.length cx, .slice Ay (In.lookR t.ops).1.2.length cy] 65)))
              obtain ⟨g0, g1, g2, g3⟩ := HT.out.below hblk HN.out.below
              obtain ⟨r0, r1⟩ := one_cell HN.out.res
              clear hx hy hb1 k0 k1 k2 k3
              by_cases hd : t.done = true
              · have HPE : Hid (So.phase l 2 k = (In.lookR t.ops).2.2) := by rw [Hid, HPH.out]; simp [So.phaseT, hd]
                rw [hd] at g1
                by_cases hq : (In.lookR t.ops).2.2 = 0
                · have HPZ : Hid (So.phase l 2 k = 0) := by rw [Hid, HPE.out]; exact hq
                  have hqb : ((In.lookR t.ops).2.2 != 0) = false := by rw [hq]; rfl
                  clear hq hd
                  go_wp2_with fail
                  go_roundw
                  case rel => exact ⟨k + 1, by omega, by go_num, So.next_zero hno.out HPZ.out, HN.out⟩
                  case measure => simp [intOf]; omega
                · have hqb : ((In.lookR t.ops).2.2 != 0) = true := by rw [bne_iff_ne]; exact hq
                  have HR : Hid (So.histR l = ([], (k : Int), (In.lookR t.ops).2.2)) := by
                    rw [Hid, So.hist_bad l hl32 2 k (by omega) hlt (fun q hq' => by
                      obtain rfl | rfl : q = 0 ∨ q = 1 := by omega
                      · exact HC0.out
                      · exact HC1.out) hno.out (by rw [HPE.out]; exact hq), HPE.out]
                  clear hq hd
                  go_wp2_with fail
                  exact rhist_no HN.out HR.out _ rfl rfl rfl
              · have hd' : t.done = false := by simpa using hd
                have HPZ : Hid (So.phase l 2 k = 0) := by rw [Hid, HPH.out]; simp [So.phaseT, hd']
                rw [hd'] at g1
                clear hd hd'
                go_wp2_with fail
                go_roundw
                case rel => exact ⟨k + 1, by omega, by go_num, So.next_zero hno.out HPZ.out, HN.out⟩
                case measure => simp [intOf]; omega
            · have HC2 : Hid (So.Clean l 2) := fun j hj => hno.out j (by omega)
              have HEND := Lib.hid (So.hist_end l hl32 (fun p hp => by
                obtain rfl | rfl | rfl : p = 0 ∨ p = 1 ∨ p = 2 := by omega
                · exact HC0.out
                · exact HC1.out
                · exact HC2.out))
              have HST := Lib.hid (rhist_start wr l)
              go_wp2_with fail
              clear hno hk hlt HC1
              obtain ⟨W, rfl⟩ : ∃ W, W = wr := ⟨_, rfl⟩
              have hwW := lt_of_block HA.out.res
              go_loopw [14] (fun i wr => ∃ (k : Nat) (V : Value) (p : List (So.Txn × Value × Value)), k ≤ l.length ∧ i = .int .i64 k ∧ Hid (∀ j, j < k → So.phase l 3 j = 0) ∧ RHistMid W wr l k V p) (fun i _ => l.length - (intOf i).toNat)
              case atStart => exact ⟨0, _, _, Nat.zero_le _, rfl, (fun j hj => absurd hj (by omega)), HST.out⟩
              case round =>
                clear HST
                obtain ⟨k, V, p, hk, rfl, hno, hmid⟩ := hrel
                have HM := Lib.hid hmid
                obtain ⟨AV, nV, cV, rfl⟩ := own_any hmid.own.row
                obtain ⟨c0, c1⟩ := one_cell hmid.cell
                have HBW := Lib.hid (HA.out.below.trans (hmid.below.mono (Nat.le_of_lt hwW)))
                have HRS : Hid (wr.heap[w.heap.size]? = some (.cells #[.slice none 0 0] 27 (0, 0))) := (hmid.below.block _ hwW).trans HA.out.res
                clear hmid
                by_cases hlt : k < l.length
                · obtain ⟨ad, u, rfl, hblk, hT, hU⟩ := HF.out k hlt
                  have HPH := Lib.hid (So.phase_at l 3 k hlt)
                  have HSK := Lib.hid (fun hd => HM.out.skip hlt hd)
                  have HVW := Lib.hid (HV.out.below HBW.out)
                  have HON := Lib.hid (fun hd => rOne7_at l _ k _ HVW.out hlt hl32 HO.out HC0.out HC2.out hd)
                  have HMO := Lib.hid (fun (wx w3 : World) (v' kv rv : Value) (hm : RHistMid W wx l k (.slice AV nV cV) p) => hm.more (w3 := w3) (v' := v') (kv := kv) (rv := rv) hlt)
                  obtain ⟨t, ht⟩ : ∃ t, t = l[k]'hlt := ⟨_, rfl⟩
                  rw [← ht] at hT hU HPH HSK HON HMO
                  obtain ⟨k0, k1, k2, k3⟩ := hT.below hblk HBW.out
                  clear hT hU ht
                  by_cases hd : t.done = true
                  · have HPE : Hid (So.phase l 3 k = So.readsErr l (In.readsTo t.ops 16)) := by rw [Hid, HPH.out]; simp [So.phaseT, hd]
                    have HONE := Lib.hid (HON.out hd)
                    have HD := Lib.hid hd
                    rw [hd] at k1
                    clear hd HON HSK
                    go_wp2_with fail
                    refine HONE.out.mono ?_
                    rintro e w1 ⟨s, A1, n1, e1, A2, n2, e2, rfl, hrow, hb1⟩
                    have HM1 := Lib.hid (HM.out.later hb1)
                    have HR1 : Hid (w1.heap[w.heap.size]? = some (.cells #[.slice none 0 0] 27 (0, 0))) := (HM1.out.below.block _ hwW).trans HA.out.res
                    have HB1 := Lib.hid (below_all HBW.out hb1)
                    have HSZ := Lib.hid (lt_of_block HM.out.cell)
                    by_cases hq : So.readsErr l (In.readsTo t.ops 16) = 0
                    · have HPZ : Hid (So.phase l 3 k = 0) := by rw [Hid, HPE.out]; exact hq
                      rw [hq]
                      obtain ⟨rfl, hkv, hrv⟩ := hrow hq
                      have hvn := TxnVar.new w1 (So.txnOf l t) (.slice A1 n1 e1) (.slice A2 n2 e2) 41
                      have HKV := Lib.hid (((hkv.mono (base' := W.heap.size + 1) HSZ.out).alloc (.cells #[.int .i64 (So.txnOf l t).session, .slice A1 n1 e1, .slice A2 n2 e2] 41)).alloc (.cells #[.int .i64 (So.txnOf l t).session, .slice A1 n1 e1, .slice A2 n2 e2] 41))
                      have HRV := Lib.hid (((hrv.mono (base' := W.heap.size + 1) HSZ.out).alloc (.cells #[.int .i64 (So.txnOf l t).session, .slice A1 n1 e1, .slice A2 n2 e2] 41)).alloc (.cells #[.int .i64 (So.txnOf l t).session, .slice A1 n1 e1, .slice A2 n2 e2] 41))
                      have HM2 := Lib.hid ((HM1.out.later (alloc_below w1 (.cells #[.int .i64 (So.txnOf l t).session, .slice A1 n1 e1, .slice A2 n2 e2] 41))).later (alloc_below _ (.cells #[.int .i64 (So.txnOf l t).session, .slice A1 n1 e1, .slice A2 n2 e2] 41)))
                      have g0 := (one_cell (HM1.out.later (alloc_below w1 (.cells #[.int .i64 (So.txnOf l t).session, .slice A1 n1 e1, .slice A2 n2 e2] 41))).cell).1
                      have HNT : Hid (∀ j x, (txnC (So.txnOf l t, .slice A1 n1 e1, .slice A2 n2 e2))[j]? = some x → ((w1.alloc (.cells #[.int .i64 (So.txnOf l t).session, .slice A1 n1 e1, .slice A2 n2 e2] 41)).alloc (.cells #[.int .i64 (So.txnOf l t).session, .slice A1 n1 e1, .slice A2 n2 e2] 41)).cell? ((⟨w1.heap.size + 1, 0, none⟩ : Addr).add j) = some x) := by
                        have := new_txn (w1.alloc (.cells #[.int .i64 (So.txnOf l t).session, .slice A1 n1 e1, .slice A2 n2 e2] 41)) (So.txnOf l t) (.slice A1 n1 e1) (.slice A2 n2 e2) 41
                        rw [size_new] at this
                        exact this
                      have hp32 : p.length ≤ 32 := by
                        have e := congrArg List.length HM.out.same
                        rw [List.length_map, List.length_map] at e
                        have := List.length_filter_le (·.done) (l.take k)
                        rw [List.length_take] at this
                        omega
                      have hWS := lt_of_block HM2.out.cell
                      generalize So.txnOf l t = T at *
                      clear hkv hrv hrow hq hb1 c0 c1 k0 k1 k2 k3 hvn
                      go_wp2_with (at_builtin; refine wpList_append_own_at _ rfl _ _ 25 rfl (W.heap.size + 1) 41 j0 _ 3 56 Try.underlying25 J0.out J1.out J2.out J3.out rfl (by decide) _ p.length _ rfl HM2.out.own.row ⟨w1.heap.size + 1, 0, none⟩ 1 1 (txnC (T, .slice A1 n1 e1, .slice A2 n2 e2)) rfl rfl HNT.out (one_txnC _ _ _ _ _ _ _) (by simp only [maxLen]; omega) (by omega) hWS ?_; intro v5 w5 hown5 hgrow5 hnil5 hat5; have HN5 := Lib.hid (HMO.out _ w5 v5 _ _ HM2.out HD.out HKV.out HRV.out hown5 hgrow5); obtain ⟨f0, f1⟩ := HM2.out.free hgrow5; obtain ⟨A5, n5, c5, rfl⟩ := own_any hown5; clear hown5 hgrow5 hnil5 hat5)
                      go_roundw
                      case rel => exact ⟨k + 1, _, _, by omega, by go_num, So.next_zero hno.out HPZ.out, HN5.out⟩
                      case measure => simp [intOf]; omega
                    · have hqb : (So.readsErr l (In.readsTo t.ops 16) != 0) = true := by rw [bne_iff_ne]; exact hq
                      have HR : Hid (So.histR l = ([], (k : Int), So.readsErr l (In.readsTo t.ops 16))) := by rw [Hid, HEND.out, So.end_bad l k hlt hno.out (by rw [HPE.out]; exact hq), HPE.out]
                      have HQR : Hid (HistRes w (w1.alloc (.cells #[.int .i64 s, .slice A1 n1 e1, .slice A2 n2 e2] 41))) := (HistRes.mk HB1.out HR1.out).later (alloc_below _ _)
                      obtain ⟨r0, r1⟩ := one_cell HQR.out.res
                      clear hq hrow hb1 c0 c1 k0 k1 k2 k3
                      go_wp2_with fail
                      exact rhist_no HQR.out HR.out _ rfl rfl rfl
                  · have hd' : t.done = false := by simpa using hd
                    have HPZ : Hid (So.phase l 3 k = 0) := by rw [Hid, HPH.out]; simp [So.phaseT, hd']
                    have HN := Lib.hid (HSK.out hd')
                    rw [hd'] at k1
                    clear hd hd' HON HMO HSK
                    go_wp2_with fail
                    go_roundw
                    case rel => exact ⟨k + 1, _, _, by omega, by go_num, So.next_zero hno.out HPZ.out, HN.out⟩
                    case measure => simp [intOf]; omega
                · have HR : Hid (So.histR l = (So.txns l, 0, 0)) := by rw [Hid, HEND.out, So.end_ok l (fun j hj => hno.out j (by omega))]
                  have HSA : Hid (p.map (·.1) = So.txns l) := by rw [Hid, HM.out.same, List.take_of_length_le (by omega)]; rfl
                  obtain ⟨r0, r1⟩ := one_cell HRS.out
                  go_wp2_with fail
                  refine rend_hist HR.out _ _ _ (one_cell (one_set HRS.out _)).1 ?_ (HBW.out.setCell (Nat.le_refl _) _) rfl rfl rfl
                  have := (HM.out.own.set (a := ⟨w.heap.size, 0, none⟩) (by show w.heap.size < W.heap.size + 1; omega) (.slice AV nV cV)).txns
                  rw [HSA.out] at this
                  exact this
end Go.Proofs.Ytodahdnooidmaaa
