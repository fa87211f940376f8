/-
  InnerSaid answers true for every row of ops: each key whose first op is a read is read, with that value, each that is written has its last write's, and there are no others, in rising order; the ops stay as they were.
  Conditions: none.
-/
import Derived.Test.YtlbpdnaaailpeaaInFront
namespace Go.Proofs.Ytlbpdnaaailpeaa
open Go.RowKit

namespace In
theorem firstSo_rd {l : List Ev.Event} {k : Nat} {n : Int} (h : FirstSo l (k : Int) l.length n) : (n = -1 ∧ rd l k = none) ∨ ∃ f : Nat, ∃ hf : f < l.length, n = (f : Int) ∧ rd l k = if l[f].kind = 1 then some ((k : Int), l[f].value) else none := by
  rcases h with ⟨h1, h2⟩ | ⟨f, h1, _, hf, h3, h4⟩
  · refine .inl ⟨h1, ?_⟩
    have : (l.find? fun e => decide (e.key = (k : Int))) = none := by
      rw [List.find?_eq_none]
      intro e he
      obtain ⟨j, hj, rfl⟩ := List.getElem_of_mem he
      simpa using h2 j hj hj
    rw [rd, this]
  · refine .inr ⟨f, hf, h1, ?_⟩
    have : (l.find? fun e => decide (e.key = (k : Int))) = some l[f] := by
      rw [List.find?_eq_some_iff_getElem]
      exact ⟨by simpa using h3, f, hf, rfl, fun i hi => by simpa using h4 i (by omega) hi⟩
    rw [rd, this]
theorem reads_next_none {l : List Ev.Event} {k : Nat} (h : rd l k = none) : (readsTo l (k + 1)).length = (readsTo l k).length := by rw [readsTo_succ, h]; simp
theorem reads_next_some {l : List Ev.Event} {k : Nat} {y : Int × Int} (h : rd l k = some y) : (readsTo l (k + 1)).length = (readsTo l k).length + 1 := by rw [readsTo_succ, h]; simp
theorem writes_next_none {l : List Ev.Event} {k : Nat} (h : wr l k = none) : (writesTo l (k + 1)).length = (writesTo l k).length := by rw [writesTo_succ, h]; simp
theorem writes_next_some {l : List Ev.Event} {k : Nat} {y : Int × Int} (h : wr l k = some y) : (writesTo l (k + 1)).length = (writesTo l k).length + 1 := by rw [writesTo_succ, h]; simp
theorem at_get {α : Type} {a : List α} {m : Nat} {y : α} (h : a[m]? = some y) : ∃ hm : m < a.length, a[m] = y := List.getElem?_eq_some_iff.1 h
end In
set_option maxHeartbeats 3000000 in
set_option maxRecDepth 4000 in
theorem lawInnerSaid (l : List Ev.Event) (v : Value) (w : World) (hv : Evs w v l) : Calls Try.prog 4 #[v] w (RetBool w true) := by
  obtain ⟨A, c, rfl, _⟩ := hv.spelled
  have V0 := Lib.hid hv
  clear hv
  go_enter Try.func4, Try.ntmps4
  go_wp2_with fail
  refine (inAwake_at _).mono ?_
  rintro e w1 ⟨rfl, hb1⟩
  have V1 := Lib.hid (V0.out.below hb1)
  have B1 := Lib.hid hb1
  clear hb1 V0
  by_cases hl2 : 200 < l.length
  · have hd : decide ((200 : Int) < (l.length : Int)) = true := by simp; omega
    go_wp2_with fail
    go_ret
    exact ⟨rfl, B1.out⟩
  have hd : decide ((200 : Int) < (l.length : Int)) = false := by simp; omega
  have hl : l.length ≤ 4294967296 := by omega
  go_wp2_with fail
  refine (look6_at l _ w1 V1.out hl).mono ?_
  rintro e w2 ⟨x, y, rfl, hx, hy, hb2⟩
  rcases In.look_cases l with hg | ⟨j, hjl, he1, he2⟩
  case inr =>
    have hq : (In.errAt l j != 0) = true := by rw [bne_iff_ne]; exact he1
    rw [In.look_bad l j he2 he1] at hx hy ⊢
    obtain ⟨A1, c1, rfl, _⟩ := hx.spelled
    obtain ⟨A2, c2, rfl, _⟩ := hy.spelled
    have B2 := Lib.hid (below_all B1.out (below_all hb2 (alloc_below w2 (.cells #[.slice A1 0 c1, .slice A2 0 c2] 34))))
    clear hx hy hb2 he1 he2
    dsimp only [List.length_nil]
    have hj0 : (0 : Int) ≤ (j : Int) := by omega
    have hj1 : decide (j < l.length) = true := by simpa using hjl
    go_wp2_with fail
    go_ret
    exact ⟨rfl, B2.out⟩
  rw [In.look_ok l hg] at hx hy ⊢
  dsimp only [In.faceR] at hx hy ⊢
  have hrl := In.reads_len l 16
  have hwl := In.writes_len l 16
  have HRA := Lib.hid (In.reads_at l)
  have HWA := Lib.hid (In.writes_at l)
  obtain ⟨A1, c1, rfl, _⟩ := hx.spelled
  obtain ⟨A2, c2, rfl, _⟩ := hy.spelled
  obtain ⟨rs, hrs⟩ : ∃ rs, rs = In.readsTo l 16 := ⟨_, rfl⟩
  obtain ⟨ws, hws⟩ : ∃ ws, ws = In.writesTo l 16 := ⟨_, rfl⟩
  rw [← hrs] at hx hrl HRA ⊢
  rw [← hws] at hy hwl HWA ⊢
  have HRS := Lib.hid hrs
  have HWS := Lib.hid hws
  clear hrs hws
  obtain ⟨W, hW⟩ : ∃ W, W = w2.alloc (.cells #[.slice A1 rs.length c1, .slice A2 ws.length c2] 34) := ⟨_, rfl⟩
  have HBW : Hid (Below w2.heap.size w2 W) := by rw [hW]; exact alloc_below _ _
  have FW : Hid (W.heap[w2.heap.size]? = some (.cells #[.slice A1 rs.length c1, .slice A2 ws.length c2] 34 (0, 0))) := by rw [hW]; exact heap_alloc_new _ _
  have XW := Lib.hid (hx.below HBW.out)
  have YW := Lib.hid (hy.below HBW.out)
  have VW := Lib.hid (V1.out.below (below_all hb2 HBW.out))
  have BW := Lib.hid (below_all B1.out (below_all hb2 HBW.out))
  clear hx hy hb2 V1 B1 hg
  go_upto_region 9 with fail
  rw [← hW]
  clear hW HBW
  go_wp2_with fail
  go_loopw [7, 8, 9] (fun s7 s8 s9 wx => ∃ k : Nat, k ≤ 16 ∧ s9 = .int .i64 k ∧ s7 = .int .i64 ((In.readsTo l k).length : Int) ∧ s8 = .int .i64 ((In.writesTo l k).length : Int) ∧ Below W.heap.size W wx) (fun _ _ s9 _ => 16 - (intOf s9).toNat)
  case atStart => exact ⟨0, Nat.zero_le _, rfl, rfl, rfl, Below.refl _ _⟩
  case round =>
    obtain ⟨k, hk, rfl, rfl, rfl, hB⟩ := hrel
    have HB := Lib.hid hB
    obtain ⟨m0, m1, _⟩ := two_cells ((hB.block _ (lt_of_block FW.out)).trans FW.out)
    have X1 := Lib.hid (XW.out.below hB)
    have Y1 := Lib.hid (YW.out.below hB)
    have V1 := Lib.hid (VW.out.below hB)
    clear hB
    by_cases hlt : k < 16
    · have hd16 : decide ((k : Int) < 16) = true := by simp; omega
      have hkk : ((k : Int) != (k : Int)) = false := by simp
      have HFX : Hid (∀ (j : Nat) (hj : j < l.length), ∃ ad : Addr, A = some ad ∧ ad.block < wr.heap.size ∧ EvIn wr ad j l[j]) := by
        obtain ⟨_, _, hq, hh⟩ := V1.out.spelled
        cases hq
        exact hh
      have hrk := In.reads_len l k
      have hwk := In.writes_len l k
      have HR1 := Lib.hid (fun y h => In.at_get (HRA.out k hlt y h))
      have HW1 := Lib.hid (fun y h => In.at_get (HWA.out k hlt y h))
      have HRN := Lib.hid (@In.reads_next_none l k)
      have HRM := Lib.hid (fun y (h : In.rd l k = some y) => In.reads_next_some h)
      have HWN := Lib.hid (@In.writes_next_none l k)
      have HWM := Lib.hid (fun y (h : In.wr l k = some y) => In.writes_next_some h)
      generalize (In.readsTo l k).length = rn at *
      generalize (In.writesTo l k).length = wn at *
      go_wp2_with fail
      go_loop [10, 11, 12] (fun s10 s11 s12 => ∃ (i : Nat) (n : Int), i ≤ l.length ∧ s12 = .int .i64 i ∧ s10 = .int .i64 n ∧ Hid (In.FirstSo l (k : Int) i n) ∧ s11 = .int .i64 (In.lastAt 2 (k : Int) l i)) (fun _ _ s12 => l.length - (intOf s12).toNat)
      case atStart => exact ⟨0, -1, Nat.zero_le _, rfl, rfl, In.firstSo_zero _ _, rfl⟩
      case round =>
        obtain ⟨i, n, hi, rfl, rfl, hfirst, rfl⟩ := hrel
        by_cases hli : i < l.length
        · obtain ⟨ad, rfl, hblk, hE⟩ := HFX.out i hli
          have HM := Lib.hid (fun h => In.firstSo_miss hfirst.out hli h)
          have HNW := Lib.hid (fun h h2 => In.firstSo_new (l := l) (key := (k : Int)) (i := i) h hli h2)
          have HLH := Lib.hid (In.lastAt_hit 2 (k : Int) l i hli)
          have HLM := Lib.hid (In.lastAt_miss 2 (k : Int) l i hli)
          generalize l[i]'hli = y at *
          obtain ⟨n0, n1, n2, n3⟩ := hE
          rcases val_parts y.key (k : Int) with ⟨q1, hK⟩ | ⟨q1, hK⟩
          case inr =>
            have hne : Hid (y.key ≠ (k : Int)) := of_eq_false hK.out
            have hnk : Hid (In.isK 2 (k : Int) y = false) := by
              have := hne.out
              simp [Hid, In.isK, this]
            go_wp2_with fail
            go_round
            case rel => exact ⟨i + 1, n, by omega, by go_num, rfl, HM.out hne.out, by rw [HLM.out hnk.out]⟩
            case measure => simp [intOf]; omega
          have heq : Hid (y.key = (k : Int)) := of_eq_true hK.out
          rcases eql_parts y.kind 2 with ⟨q2, hK2⟩ | ⟨q2, hK2⟩
          · have hnk : Hid (In.isK 2 (k : Int) y = false) := by rw [Hid, In.isK, hK2.out]; rfl
            rcases hfirst.out with ⟨rfl, h2⟩ | ⟨f, rfl, h2, h3⟩
            · have HN := Lib.hid (HNW.out h2 heq.out)
              clear h2
              go_wp2_with fail
              go_round
              case rel => exact ⟨i + 1, (i : Int), by omega, by go_num, rfl, HN.out, by rw [HLM.out hnk.out]⟩
              case measure => simp [intOf]; omega
            · have HN : Hid (In.FirstSo l (k : Int) (i + 1) (f : Int)) := .inr ⟨f, rfl, by omega, h3⟩
              have hf0 : ¬ ((f : Int) < 0) := by omega
              clear h3
              go_wp2_with fail
              go_round
              case rel => exact ⟨i + 1, (f : Int), by omega, by go_num, rfl, HN.out, by rw [HLM.out hnk.out]⟩
              case measure => simp [intOf]; omega
          · have hnk : Hid (In.isK 2 (k : Int) y = true) := by rw [Hid, In.isK, hK2.out, decide_eq_true heq.out]; rfl
            rcases hfirst.out with ⟨rfl, h2⟩ | ⟨f, rfl, h2, h3⟩
            · have HN := Lib.hid (HNW.out h2 heq.out)
              clear h2
              go_wp2_with fail
              go_round
              case rel => exact ⟨i + 1, (i : Int), by omega, by go_num, rfl, HN.out, by rw [HLH.out hnk.out]⟩
              case measure => simp [intOf]; omega
            · have HN : Hid (In.FirstSo l (k : Int) (i + 1) (f : Int)) := .inr ⟨f, rfl, by omega, h3⟩
              have hf0 : ¬ ((f : Int) < 0) := by omega
              clear h3
              go_wp2_with fail
              go_round
              case rel => exact ⟨i + 1, (f : Int), by omega, by go_num, rfl, HN.out, by rw [HLH.out hnk.out]⟩
              case measure => simp [intOf]; omega
        · obtain rfl : i = l.length := by omega
          have hwc := In.lastAt_cases 2 (k : Int) l l.length (Nat.le_refl _)
          rw [List.take_length] at hwc
          generalize In.lastAt 2 (k : Int) l l.length = ln at *
          have hrc := In.firstSo_rd hfirst.out
          rcases hrc with ⟨rfl, r2⟩ | ⟨f, hf, rfl, r2⟩
          · have E1 : Hid ((In.readsTo l (k + 1)).length = rn) := HRN.out r2
            clear r2
            rcases hwc with ⟨w2', rfl⟩ | ⟨n3, hn3, w2', rfl⟩
            · have E2 : Hid ((In.writesTo l (k + 1)).length = wn) := HWN.out (by rw [In.wr, w2']; rfl)
              clear w2'
              go_wp2_with fail
              go_roundw
              case rel => exact ⟨k + 1, by omega, by go_num, by rw [E1.out], by rw [E2.out], HB.out⟩
              case measure => simp [intOf]; omega
            · obtain ⟨ad3, hq3, hblk3, hE3⟩ := HFX.out n3 hn3
              obtain ⟨hm3, hy3⟩ := HW1.out _ (show In.wr l k = some ((k : Int), (l[n3]'hn3).value) by rw [In.wr, w2']; rfl)
              have E2 : Hid ((In.writesTo l (k + 1)).length = wn + 1) := HWM.out _ (show In.wr l k = some ((k : Int), (l[n3]'hn3).value) by rw [In.wr, w2']; rfl)
              obtain ⟨_, _, hq4, hform4⟩ := Y1.out.spelled
              cases hq4
              obtain ⟨ad4, rfl, hblk4, hI4⟩ := hform4 wn hm3
              rw [hy3] at hI4
              obtain ⟨j0, j1⟩ := hI4
              obtain rfl := hq3
              generalize l[n3]'hn3 = y3 at *
              obtain ⟨p0, p1, p2, p3⟩ := hE3
              have hv3 : (y3.value != y3.value) = false := by simp
              have hn30 : (0 : Int) ≤ (n3 : Int) := by omega
              clear w2' hform4 hy3
              go_wp2_with fail
              go_quiet (fail)
              go_wp2_with fail
              go_roundw
              case rel => exact ⟨k + 1, by omega, by go_num, by rw [E1.out], by rw [E2.out]; go_num, below_drewN HB.out _⟩
              case measure => simp [intOf]; omega
          · obtain ⟨ad, rfl, hblk, hE⟩ := HFX.out f hf
            have hf0 : (0 : Int) ≤ (f : Int) := by omega
            by_cases hk1 : (l[f]'hf).kind = 1
            · rw [if_pos hk1] at r2
              have q1 : ((l[f]'hf).kind == 1) = true := beq_iff_eq.2 hk1
              have E1 : Hid ((In.readsTo l (k + 1)).length = rn + 1) := HRM.out _ r2
              obtain ⟨hm, hy⟩ := HR1.out _ r2
              obtain ⟨_, _, hq5, hform5⟩ := X1.out.spelled
              cases hq5
              obtain ⟨ad5, rfl, hblk5, hI5⟩ := hform5 rn hm
              rw [hy] at hI5
              obtain ⟨i0, i1⟩ := hI5
              clear r2 hform5 hy hk1
              generalize hyy : l[f]'hf = y at *
              have HYY := Lib.hid hyy
              clear hyy
              obtain ⟨n0, n1, n2, n3'⟩ := hE
              have hvv : (y.value != y.value) = false := by simp
              rcases hwc with ⟨w2', rfl⟩ | ⟨n3, hn3, w2', rfl⟩
              · have E2 : Hid ((In.writesTo l (k + 1)).length = wn) := HWN.out (by rw [In.wr, w2']; rfl)
                clear w2'
                go_wp2_with fail
                go_quiet (fail)
                go_wp2_with fail
                go_roundw
                case rel => exact ⟨k + 1, by omega, by go_num, by rw [E1.out]; go_num, by rw [E2.out], below_drewN HB.out _⟩
                case measure => simp [intOf]; omega
              · obtain ⟨ad3, hq3, hblk3, hE3⟩ := HFX.out n3 hn3
                obtain ⟨hm3, hy3⟩ := HW1.out _ (show In.wr l k = some ((k : Int), (l[n3]'hn3).value) by rw [In.wr, w2']; rfl)
                have E2 : Hid ((In.writesTo l (k + 1)).length = wn + 1) := HWM.out _ (show In.wr l k = some ((k : Int), (l[n3]'hn3).value) by rw [In.wr, w2']; rfl)
                obtain ⟨_, _, hq4, hform4⟩ := Y1.out.spelled
                cases hq4
                obtain ⟨ad4, rfl, hblk4, hI4⟩ := hform4 wn hm3
                rw [hy3] at hI4
                obtain ⟨j0, j1⟩ := hI4
                cases hq3
                generalize l[n3]'hn3 = y3 at *
                obtain ⟨p0, p1, p2, p3⟩ := hE3
                have hv3 : (y3.value != y3.value) = false := by simp
                have hn30 : (0 : Int) ≤ (n3 : Int) := by omega
                clear w2' hform4 hy3
                go_wp2_with fail
                go_quiet (fail)
                go_wp2_with fail
                go_quiet (fail)
                go_wp2_with fail
                go_roundw
                case rel => exact ⟨k + 1, by omega, by go_num, by rw [E1.out]; go_num, by rw [E2.out]; go_num, by first | exact below_drewN HB.out _ | exact below_drewN (below_drewN HB.out _) _⟩
                case measure => simp [intOf]; omega
            · rw [if_neg hk1] at r2
              have q1 : ((l[f]'hf).kind == 1) = false := beq_eq_false_iff_ne.2 hk1
              have E1 : Hid ((In.readsTo l (k + 1)).length = rn) := HRN.out r2
              clear r2 hk1
              generalize hyy : l[f]'hf = y at *
              have HYY := Lib.hid hyy
              clear hyy
              obtain ⟨n0, n1, n2, n3'⟩ := hE
              rcases hwc with ⟨w2', rfl⟩ | ⟨n3, hn3, w2', rfl⟩
              · have E2 : Hid ((In.writesTo l (k + 1)).length = wn) := HWN.out (by rw [In.wr, w2']; rfl)
                clear w2'
                go_wp2_with fail
                go_roundw
                case rel => exact ⟨k + 1, by omega, by go_num, by rw [E1.out], by rw [E2.out], HB.out⟩
                case measure => simp [intOf]; omega
              · obtain ⟨ad3, hq3, hblk3, hE3⟩ := HFX.out n3 hn3
                obtain ⟨hm3, hy3⟩ := HW1.out _ (show In.wr l k = some ((k : Int), (l[n3]'hn3).value) by rw [In.wr, w2']; rfl)
                have E2 : Hid ((In.writesTo l (k + 1)).length = wn + 1) := HWM.out _ (show In.wr l k = some ((k : Int), (l[n3]'hn3).value) by rw [In.wr, w2']; rfl)
                obtain ⟨_, _, hq4, hform4⟩ := Y1.out.spelled
                cases hq4
                obtain ⟨ad4, rfl, hblk4, hI4⟩ := hform4 wn hm3
                rw [hy3] at hI4
                obtain ⟨j0, j1⟩ := hI4
                cases hq3
                generalize l[n3]'hn3 = y3 at *
                obtain ⟨p0, p1, p2, p3⟩ := hE3
                have hv3 : (y3.value != y3.value) = false := by simp
                have hn30 : (0 : Int) ≤ (n3 : Int) := by omega
                clear w2' hform4 hy3
                go_wp2_with fail
                go_quiet (fail)
                go_wp2_with fail
                go_roundw
                case rel => exact ⟨k + 1, by omega, by go_num, by rw [E1.out], by rw [E2.out]; go_num, below_drewN HB.out _⟩
                case measure => simp [intOf]; omega
    · obtain rfl : k = 16 := by omega
      rw [← HRS.out, ← HWS.out]
      have h1 : ((rs.length : Int) == (rs.length : Int)) = true := by simp
      have h2 : ((ws.length : Int) == (ws.length : Int)) = true := by simp
      go_wp2_with fail
      go_ret
      exact ⟨rfl, below_all BW.out HB.out⟩
end Go.Proofs.Ytlbpdnaaailpeaa
