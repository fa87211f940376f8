/-
  The walk of IndexReads: it answers true, and what was in memory stays as it was.
  Conditions: the argument reads as a history.
-/
import Derived.Test.YtehnmpbongabeaaIxPairs
set_option maxRecDepth 4000
namespace Go.Proofs.Ytehnmpbongabeaa
open Go.RowKit

namespace Ix
open So (Txn)
open Hi (Right)
/-- How many readers are told: of the first k keys, and of a key by the first j numbers from -1 on. -/
def toldIn (h : List Txn) (k j : Nat) : Nat := ((List.range j).map fun (i : Nat) => (readers h (k : Int) ((i : Int) - 1)).length).sum
def toldTo (h : List Txn) (k : Nat) : Nat := ((List.range k).map fun (i : Nat) => toldIn h i (h.length + 1)).sum
theorem toldIn_succ (h : List Txn) (k j : Nat) : toldIn h k (j + 1) = toldIn h k j + (readers h (k : Int) ((j : Int) - 1)).length := by
  unfold toldIn
  rw [List.range_succ, List.map_append, List.sum_append]
  simp
theorem toldTo_succ (h : List Txn) (k : Nat) : toldTo h (k + 1) = toldTo h k + toldIn h k (h.length + 1) := by
  unfold toldTo
  rw [List.range_succ, List.map_append, List.sum_append]
  simp
theorem toldIn_le (h : List Txn) (k : Nat) {j n : Nat} (hj : j ≤ n) : toldIn h k j ≤ toldIn h k n := by
  induction n with
  | zero => rw [Nat.le_zero.1 hj]; exact Nat.le_refl _
  | succ n ih =>
    by_cases e : j = n + 1
    · rw [e]; exact Nat.le_refl _
    · rw [toldIn_succ]
      have := ih (by omega)
      omega
theorem toldTo_le (h : List Txn) {k n : Nat} (hk : k ≤ n) : toldTo h k ≤ toldTo h n := by
  induction n with
  | zero => rw [Nat.le_zero.1 hk]; exact Nat.le_refl _
  | succ n ih =>
    by_cases e : k = n + 1
    · rw [e]; exact Nat.le_refl _
    · rw [toldTo_succ]
      have := ih (by omega)
      omega
theorem readsTo_len (h : List Txn) (k : Nat) : (readsTo h k).length = ((List.range k).map fun t => ((h[t]?).map fun x => x.reads.length).getD 0).sum := by
  induction k with
  | zero => rfl
  | succ k ih =>
    rw [readsTo_succ, List.length_append, ih, List.range_succ, List.map_append, List.sum_append]
    congr 1
    unfold readsOf
    rw [List.map_singleton, List.sum_singleton]
    cases h[k]? with
    | none => rfl
    | some x => exact List.length_map _
theorem told_all {h : List Txn} (hr : Right h) : toldTo h 16 = (all h).length := by
  have e := reads_told hr
  rw [← readsTo_len] at e
  refine Eq.trans ?_ e
  unfold toldTo
  refine congrArg List.sum (List.map_congr_left fun k _ => ?_)
  unfold toldIn froms
  rw [List.map_map]
  rfl
theorem told_small {h : List Txn} (hr : Right h) {k j : Nat} (hk : k < 16) (hj : j ≤ h.length + 1) : toldTo h k + toldIn h k j ≤ 512 := by
  have h1 := toldIn_le h k hj
  have h2 := toldTo_le h (show k + 1 ≤ 16 from hk)
  rw [toldTo_succ, told_all hr] at h2
  have h3 := all_len hr
  omega
theorem reads_small {h : List Txn} (hr : Right h) {k : Nat} (hk : k < h.length) {j : Nat} (hj : j ≤ h[k].reads.length) : (readsTo h k).length + j ≤ 512 := by
  have h1 := (readsTo_front h (k + 1) h.length hk).length_le
  rw [readsTo_succ, List.length_append, readsOf_at hk, List.length_map] at h1
  have h2 := all_len hr
  unfold all at h2
  omega
theorem reads_next {h : List Txn} {k : Nat} (hk : k < h.length) : (readsTo h (k + 1)).length = (readsTo h k).length + h[k].reads.length := by rw [readsTo_succ, List.length_append, readsOf_at hk, List.length_map]
theorem from_read {h : List Txn} (hr : Hi.rightB h = true) {k : Nat} (hk : k < h.length) {j : Nat} (hj : j < h[k].reads.length) : fromA h (k : Int) h[k].reads[j].1 = some h[k].reads[j].2 := by
  rw [fromA_yes hr, fromI_nat]
  exact (from_iff ((Hi.rightB_iff h).1 hr)).2 ⟨hk, List.getElem_mem hj⟩
theorem from_reader {h : List Txn} (hr : Hi.rightB h = true) {key f : Int} {i : Nat} (hi : i < (readers h key f).length) : fromA h ((readers h key f)[i] : Int) key = some f := by
  rw [fromA_yes hr, fromI_nat]
  have := List.getElem_mem hi
  unfold readers at this
  exact beq_iff_eq.1 (List.mem_filter.1 this).2
theorem readers_next {h : List Txn} {key f : Int} {i j : Nat} (hi : i < (readers h key f).length) (hj : j < (readers h key f).length) (hij : i < j) : (readers h key f)[i] < (readers h key f)[j] := List.pairwise_iff_getElem.1 (readers_rise h key f) i j hi hj hij
end Ix

set_option maxHeartbeats 4000000 in
theorem lawIndexReads (h : List So.Txn) (u : Value) (w : World) (hv : Txns w u h) : Calls Try.prog 5 #[.agg #[u]] w (RetBool w true) := by
  have B0 := Lib.hid (alloc_below w (.cells #[u] 24))
  have V0 := Lib.hid (hv.below B0.out)
  have N0 := Lib.hid (Boxed.new w 24 u)
  obtain ⟨A, c, rfl, -⟩ := hv.spelled
  clear hv
  go_enter Try.func5, Try.ntmps5
  go_wp2_with fail
  generalize w.alloc (.cells #[.slice A h.length c] 24) = w1 at *
  refine (ixAwake_at w1).mono ?_
  rintro e w2 ⟨rfl, hb2⟩
  have B2 := Lib.hid hb2
  have n2 := (Boxed.later N0.out hb2).cell
  clear hb2
  go_wp2_with fail
  refine (few8_at h _ w2 (V0.out.below B2.out)).mono ?_
  rintro e w3 ⟨rfl, hb3⟩
  have B3 := Lib.hid (below_all B2.out hb3)
  have n3 := (Boxed.later N0.out B3.out).cell
  clear hb3 n2
  cases hf : Hi.fewB h with
  | false =>
    clear hf
    go_wp2_with fail
    go_ret
    exact ⟨rfl, below_all B0.out B3.out⟩
  | true =>
  have HS : Hid (Ix.Small h) := (Hi.few_small hf).2
  clear hf
  go_wp2_with fail
  refine (hRight_at h _ w3 (V0.out.below B3.out) HS.out.2).mono ?_
  rintro e w5 ⟨rfl, hb5⟩
  have B5 := Lib.hid (below_all B3.out hb5)
  clear hb5 n3
  cases hr : Hi.rightB h with
  | false =>
    clear hr
    go_wp2_with fail
    go_ret
    exact ⟨rfl, below_all B0.out B5.out⟩
  | true =>
  have HRB := Lib.hid hr
  have HG : Hid (Hi.Right h) := (Hi.rightB_iff h).1 hr
  have V5 := Lib.hid (V0.out.below B5.out)
  have N5 := Lib.hid (Boxed.later N0.out B5.out)
  have h32 := HG.out.1
  clear hr V0 N0 B2 B3
  go_wp2_with fail
  go_loopw [5, 6] (fun s5 s6 wr => ∃ t : Nat, t ≤ h.length ∧ s6 = .int .i64 t ∧ s5 = .int .i64 ((Ix.readsTo h t).length : Int) ∧ Hid (Below w5.heap.size w5 wr)) (fun _ s6 _ => h.length - (intOf s6).toNat)
  case atStart => exact ⟨0, Nat.zero_le _, rfl, rfl, Below.refl _ _⟩
  case round =>
    obtain ⟨t, ht, rfl, rfl, HB⟩ := hrel
    have n6 := (Boxed.later N5.out HB.out).cell
    by_cases hlt : t < h.length
    · have HSM := Lib.hid (fun j hj => @Ix.reads_small h HG.out t hlt j hj)
      have HNX := Lib.hid (Ix.reads_next hlt)
      have HFR := Lib.hid (fun j hj => @Ix.from_read h HRB.out t hlt j hj)
      have HVT := Lib.hid (fun W (hb : Below w5.heap.size w5 W) => (V5.out.below hb).spelled)
      generalize hrs : h[t].reads = rs at HSM HNX HFR
      have HRS := Lib.hid hrs
      have hrl : rs.length ≤ 512 := by have := HSM.out rs.length (Nat.le_refl _); omega
      clear hrs
      generalize (Ix.readsTo h t).length = q0 at *
      go_wp2_with fail
      go_loopw [5, 7] (fun s5 s7 wr => ∃ j q : Nat, j ≤ rs.length ∧ q ≤ 512 ∧ s7 = .int .i64 j ∧ s5 = .int .i64 (q : Int) ∧ Hid (q = q0 + j) ∧ Hid (Below w5.heap.size w5 wr)) (fun _ s7 _ => rs.length - (intOf s7).toNat)
      case atStart => exact ⟨0, q0, Nat.zero_le _, by have := HSM.out 0 (Nat.zero_le _); omega, rfl, rfl, rfl, HB⟩
      case round =>
        clear HB n6
        obtain ⟨j, q, hj, hq, rfl, rfl, HQ, HB⟩ := hrel
        have n6 := (Boxed.later N5.out HB.out).cell
        obtain ⟨_, _, e6, hform⟩ := HVT.out _ HB.out
        simp only [Value.slice.injEq] at e6
        obtain ⟨rfl, -, rfl⟩ := e6
        obtain ⟨ad, x, y, rfl, hblk, hE, hx, hy⟩ := hform t hlt
        obtain ⟨e0, e1, e2⟩ := hE
        have hti : (t : Int) < (h.length : Int) := by omega
        rw [HRS.out] at hy
        obtain ⟨A2, c2, rfl, hrow⟩ := hy.spelled
        clear hform hx hy e0 e1
        by_cases hjl : j < rs.length
        · obtain ⟨ad2, rfl, hblk2, hI⟩ := hrow j hjl
          obtain ⟨i0, i1⟩ := hI
          have HFO := Lib.hid (HFR.out j hjl)
          generalize rs[j] = z at *
          obtain ⟨k0, f0⟩ := z
          dsimp only at i0 i1 HFO
          have hb1 := alloc_below wr (.cells #[.int .i64 k0, .int .i64 f0] 46)
          have n7 := cell_stays hb1 n6
          have HB1 := Lib.hid (below_all HB.out hb1)
          have y0 : (wr.alloc (.cells #[.int .i64 k0, .int .i64 f0] 46)).cell? ⟨wr.heap.size, 0, none⟩ = some (.int .i64 k0) := new_cell wr _ _ 0 _ rfl
          have y1 : (wr.alloc (.cells #[.int .i64 k0, .int .i64 f0] 46)).cell? ⟨wr.heap.size, 1, none⟩ = some (.int .i64 f0) := new_cell wr _ _ 1 _ rfl
          have hq2 : q + 1 ≤ 512 := by have := HSM.out (j + 1) (by omega); have := HQ.out; omega
          clear hrow hb1
          go_wp2_with fail
          generalize wr.alloc (.cells #[.int .i64 k0, .int .i64 f0] 46) = W1 at *
          refine (from9_at h _ (t : Int) k0 W1 (V5.out.below HB1.out) HS.out).mono ?_
          rintro e w6 ⟨rfl, hb6⟩
          rw [HFO.out]
          dsimp only [Ix.numOf, Option.getD, Option.isSome]
          have HB6 := Lib.hid (below_all HB1.out hb6)
          have y2 := cell_stays hb6 y1
          have hne : (f0 != f0) = false := by simp
          clear hb6 y0 y1 n7
          go_wp2_with fail
          go_roundw
          case rel => exact ⟨j + 1, q + 1, by omega, hq2, by go_num, by go_num, by have := HQ.out; show q + 1 = q0 + (j + 1); omega, HB6⟩
          case measure => simp [intOf]; omega
        · have HQ2 : Hid ((Ix.readsTo h (t + 1)).length = q) := by
            have := HQ.out
            have h2 := HNX.out
            show _ = q
            omega
          go_wp2_with fail
          go_roundw
          case rel => exact ⟨t + 1, by omega, by go_num, by rw [HQ2.out], HB⟩
          case measure => simp [intOf]; omega
    · have hth : t = h.length := by omega
      have hT : (Ix.readsTo h t).length = Ix.toldTo h 16 := by rw [Ix.told_all HG.out, hth]; rfl
      have hT2 : Ix.toldTo h 16 ≤ 512 := by rw [Ix.told_all HG.out]; exact Ix.all_len HG.out
      rw [hT]
      clear hth hT
      go_wp2_with fail
      go_loopw [11, 12] (fun s11 s12 wr => ∃ k q : Nat, k ≤ 16 ∧ q ≤ 512 ∧ s12 = .int .i64 k ∧ s11 = .int .i64 (q : Int) ∧ Hid (q = Ix.toldTo h k) ∧ Hid (Below w5.heap.size w5 wr)) (fun _ s12 _ => 16 - (intOf s12).toNat)
      case atStart => exact ⟨0, 0, Nat.zero_le _, by omega, rfl, rfl, rfl, HB⟩
      case round =>
        clear HB n6
        obtain ⟨k, q, hk, hq, rfl, rfl, HQ, HB⟩ := hrel
        by_cases hlk : k < 16
        · have d0 : decide ((k : Int) < 16) = true := decide_eq_true (by omega)
          have HTS := Lib.hid (fun j hj => @Ix.told_small h HG.out k j hlk hj)
          have HNX := Lib.hid (Ix.toldTo_succ h k)
          go_wp2_with fail
          go_loopw [11, 13] (fun s11 s13 wr => ∃ (j q : Nat) (f : Int), j ≤ h.length + 1 ∧ q ≤ 512 ∧ Hid (f = (j : Int) - 1) ∧ s13 = .int .i64 f ∧ s11 = .int .i64 (q : Int) ∧ Hid (q = Ix.toldTo h k + Ix.toldIn h k j) ∧ Hid (Below w5.heap.size w5 wr)) (fun _ s13 _ => ((h.length : Int) - intOf s13).toNat)
          case atStart => exact ⟨0, q, -1, Nat.zero_le _, hq, by show (-1 : Int) = _; omega, rfl, rfl, by have := HQ.out; show q = _ + 0; omega, HB⟩
          case round =>
            clear HB HQ hq
            obtain ⟨j, q, f, hj, hq, HJ, rfl, rfl, HQ, HB⟩ := hrel
            have n6 := (Boxed.later N5.out HB.out).cell
            by_cases hfl : f < (h.length : Int)
            · have d1 : decide (f < (h.length : Int)) = true := decide_eq_true hfl
              have hfr : -1 ≤ f ∧ f ≤ 32 := by have := HJ.out; omega
              have HRD := Lib.hid (fun W (hw : Txns W (.slice A h.length c) h) => readers9_at h _ (k : Int) f W hw HS.out)
              rw [Ix.readersA_yes HRB.out] at HRD
              have hjn : j + 1 ≤ h.length + 1 := by have := HJ.out; omega
              have HNJ : Hid (Ix.toldIn h k (j + 1) = Ix.toldIn h k j + (Ix.readers h (k : Int) f).length) := by rw [Hid, Ix.toldIn_succ, HJ.out]
              have hq2 := HTS.out (j + 1) hjn
              have HFR := Lib.hid (fun i hi => @Ix.from_reader h HRB.out (k : Int) f i hi)
              have HRN := Lib.hid (fun i j hi hj hij => @Ix.readers_next h (k : Int) f i j hi hj hij)
              generalize Ix.readers h (k : Int) f = l at *
              rw [HNJ.out, ← Nat.add_assoc, ← HQ.out] at hq2
              have hne : (f != f) = false := by simp
              go_wp2_with fail
              refine (HRD.out wr (V5.out.below HB.out)).mono ?_
              rintro e w6 ⟨v6, rfl, hv6, hb6⟩
              obtain ⟨A6, c6, rfl, hrow⟩ := nums_spelled hv6
              have HROW := Lib.hid hrow
              have HB6 := Lib.hid (below_all HB.out hb6)
              clear hv6 hb6 hrow n6 HRD
              go_wp2_with fail
              go_loopw [15] (fun s15 wz => ∃ i : Nat, i ≤ l.length ∧ s15 = .int .i64 i ∧ Hid (Below w6.heap.size w6 wz)) (fun s15 _ => l.length - (intOf s15).toNat)
              case atStart => exact ⟨0, Nat.zero_le _, rfl, Below.refl _ _⟩
              case round =>
                obtain ⟨i, hi, rfl, HZ⟩ := hrel
                have n7 := (Boxed.later N5.out (below_all HB6.out HZ.out)).cell
                by_cases hil : i < l.length
                · obtain ⟨ad, rfl, hblk, hE⟩ := HROW.out i hil
                  have c7 := (HZ.out.cell (p := ad.add i) (by rw [add_block]; exact hblk)).trans hE
                  have HFO := Lib.hid (HFR.out i hil)
                  have HNXT := Lib.hid (fun j hj hji => HRN.out j i hj hil hji)
                  have hii : (i : Int) < (l.length : Int) := by omega
                  generalize l[i] = a at *
                  have D7 := Lib.hid (Below.refl wr.heap.size wr).drew
                  have V7 := Lib.hid ((V5.out.below (below_all HB6.out HZ.out)).below D7.out)
                  clear hE
                  have HFC := Lib.hid (fun W (hw : Txns W (.slice A h.length c) h) => from9_at h _ (a : Int) (k : Int) W hw HS.out)
                  rw [HFO.out] at HFC
                  have HW0 := Lib.hid (World.block_lt_of_cell? wr _ c7)
                  go_wp2_with fail
                  go_region_held3 (fun w' => w'.cell? ⟨w.heap.size, 0, none⟩ = some (.slice A h.length c) ∧ w'.cell? (ad.add i) = some (.int .i64 (a : Int)))
                    (first | (exact ⟨n7, c7⟩) | (exact ⟨cell_stays H9.out n7, cell_stays H9.out c7⟩))
                    (first | (go_at_call 9; (with_reducible refine (HFC.out _ V7.out).mono ?_); rintro e w9 ⟨rfl, hb9⟩; dsimp only [Ix.numOf, Option.getD, Option.isSome]; have H9 := Lib.hid (below_all D7.out hb9); clear hb9))
                  all_goals
                    have HZ9 := Lib.hid (below_all HZ.out H9.out)
                    have c8 := cell_stays H9.out c7
                    clear n7 c7
                    by_cases hi0 : i = 0
                    · have p3 : decide ((0 : Int) < (i : Int)) = false := by simp; omega
                      have p4 : decide (0 < i) = false := by simp; omega
                      clear hi0
                      go_wp2_with fail
                      go_quiet (fail)
                      go_wp2_with fail
                      go_roundw
                      case rel => exact ⟨i + 1, by omega, by go_num, below_drewN HZ9.out _⟩
                      case measure => simp [intOf]; omega
                    · obtain ⟨j1, hj1⟩ : ∃ j1, i = j1 + 1 := ⟨i - 1, by omega⟩
                      have hj2 : j1 < l.length := by omega
                      have hlt3 := HNXT.out j1 hj2 (by omega)
                      obtain ⟨_, e9, hblk9, hE9⟩ := HROW.out j1 hj2
                      cases e9
                      have c9 := (HZ9.out.cell (p := ad.add j1) (by rw [add_block]; exact hblk9)).trans hE9
                      generalize l[j1] = b at *
                      have p1 : decide ((a : Int) ≤ (b : Int)) = false := decide_eq_false (by omega)
                      have p2 : decide (a ≤ b) = false := decide_eq_false (by omega)
                      have p3 : decide ((0 : Int) < (i : Int)) = true := by simp; omega
                      have p4 : decide (0 < i) = true := by simp; omega
                      have hs1 : IntKind.i64.wrap ((i : Int) - 1) = (j1 : Int) := by rw [IntWalk.i64_in _ (by omega)]; omega
                      have hs2 : (i : Int) - 1 = (j1 : Int) := by omega
                      clear hj1 hi0 hE9 hlt3
                      go_wp2_with fail
                      go_quiet (fail)
                      go_wp2_with fail
                      go_roundw
                      case rel => exact ⟨i + 1, by omega, by go_num, below_drewN HZ9.out _⟩
                      case measure => simp [intOf]; omega
                · have HQ2 : Hid (q + l.length = Ix.toldTo h k + Ix.toldIn h k (j + 1)) := by rw [Hid, HNJ.out, HQ.out, Nat.add_assoc]
                  have HJ2 : Hid (f + 1 = ((j + 1 : Nat) : Int) - 1) := by have := HJ.out; show f + 1 = _; omega
                  clear n7
                  go_wp2_with fail
                  go_roundw
                  case rel => exact ⟨j + 1, q + l.length, f + 1, hjn, hq2, HJ2, by go_num, by go_num, HQ2, below_all HB6.out HZ.out⟩
                  case measure => simp [intOf]; omega
            · have d1 : decide (f < (h.length : Int)) = false := decide_eq_false hfl
              have HQ2 : Hid (q = Ix.toldTo h (k + 1)) := by
                have hjj : j = h.length + 1 := by have := HJ.out; omega
                rw [Hid, HNX.out, HQ.out, hjj]
              clear hfl
              go_wp2_with fail
              go_roundw
              case rel => exact ⟨k + 1, q, by omega, hq, by go_num, rfl, HQ2, HB⟩
              case measure => simp [intOf]; omega
        · have d0 : decide ((k : Int) < 16) = false := decide_eq_false (by omega)
          have hqq : q = Ix.toldTo h 16 := by
            rw [HQ.out]
            congr 1
            omega
          rw [hqq]
          clear hqq
          go_wp2_with fail
          go_ret
          exact ⟨by simp, below_all B0.out (below_all B5.out HB.out)⟩
end Go.Proofs.Ytehnmpbongabeaa
