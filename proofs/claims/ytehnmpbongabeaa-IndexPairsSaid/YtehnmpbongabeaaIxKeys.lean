/-
  The walk of IndexKeys: it answers true, and what was in memory stays as it was.
  Conditions: the first argument reads as a history.
-/
import Derived.Test.YtehnmpbongabeaaIxTells
set_option maxRecDepth 4000
namespace Go.Proofs.Ytehnmpbongabeaa
open Go.RowKit

namespace Ix
open So (Txn)
theorem keysA_rise (h : List Txn) : (ints (keysA h)).Pairwise (· < ·) := by
  unfold ints
  rw [List.pairwise_map, keysA_is]
  exact ((range_rises _).filter _).imp fun h => by omega
theorem mem_ints {l : List Nat} {x : Int} : x ∈ ints l ↔ ∃ n ∈ l, x = (n : Int) := by
  unfold ints
  rw [List.mem_map]
  exact ⟨fun ⟨n, h1, h2⟩ => ⟨n, h1, h2.symm⟩, fun ⟨n, h1, h2⟩ => ⟨n, h1, h2.symm⟩⟩
theorem keysA_mem (h : List Txn) (key : Int) : key ∈ ints (keysA h) ↔ 0 < (writersA h key).length := by
  cases q : Hi.rightB h with
  | false => rw [keysA_no q, writersA_no q]; simp [ints]
  | true =>
    have hr := (Hi.rightB_iff h).1 q
    rw [keysA_yes q, writersA_yes q, mem_ints, List.length_pos_iff]
    constructor
    · rintro ⟨n, hn, rfl⟩
      exact (mem_keys.1 hn).2
    · intro hne
      by_cases hk : 0 ≤ key ∧ key < 16
      · refine ⟨key.toNat, mem_keys.2 ⟨by omega, ?_⟩, by omega⟩
        rw [Int.toNat_of_nonneg hk.1]
        exact hne
      · exact absurd (writers_none hr key hk) hne
theorem from_writes {h : List Txn} {t : Nat} {key f : Int} (q : fromA h (t : Int) key = some f) (hf : 0 ≤ f) : f ∈ ints (writersA h key) := by
  cases b : Hi.rightB h with
  | false => rw [fromA_no b] at q; cases q
  | true =>
    have hr := (Hi.rightB_iff h).1 b
    rw [fromA_yes b, fromI_nat] at q
    rw [writersA_yes b, mem_ints]
    obtain ⟨ht, hm⟩ := (from_iff hr).1 q
    rcases (hr.2 t ht).froms _ hm with e | ⟨j, hj, e, _, hw⟩
    · dsimp only at e; omega
    · exact ⟨j, mem_writers.2 ⟨hj, hw⟩, e⟩
end Ix
theorem in_step (l : List Int) (x : Int) (k : Nat) (hk : k < l.length) : (decide (x ∈ l.take k) = true ∧ decide (x ∈ l.take (k + 1)) = true) ∨ (decide (x ∈ l.take k) = false ∧ (l[k] == x) = decide (x ∈ l.take (k + 1))) := by
  have e : x ∈ l.take (k + 1) ↔ x ∈ l.take k ∨ x = l[k] := by rw [List.take_succ_eq_append_getElem hk, List.mem_append, List.mem_singleton]
  by_cases h : x ∈ l.take k
  · exact .inl ⟨decide_eq_true h, decide_eq_true (e.2 (.inl h))⟩
  · refine .inr ⟨decide_eq_false h, ?_⟩
    by_cases h2 : l[k] = x
    · rw [beq_iff_eq.2 h2, decide_eq_true (e.2 (.inr h2.symm))]
    · rw [beq_eq_false_iff_ne.2 h2, decide_eq_false (fun q => (e.1 q).elim h (fun q => h2 q.symm))]

set_option maxHeartbeats 2000000 in
theorem lawIndexKeys (h : List So.Txn) (u : Value) (key : Int) (w : World) (hv : Txns w u h) : Calls Try.prog 6 #[.agg #[u], .int .i64 key] w (RetBool w true) := by
  have B0 := Lib.hid (alloc_below w (.cells #[u] 24))
  have V0 := Lib.hid (hv.below B0.out)
  have N0 := Lib.hid (Boxed.new w 24 u)
  obtain ⟨A, c, rfl, -⟩ := hv.spelled
  clear hv
  go_enter Try.func6, Try.ntmps6
  go_wp2_with fail
  generalize w.alloc (.cells #[.slice A h.length c] 24) = w1 at *
  refine (ixAwake_at w1).mono ?_
  rintro e w2 ⟨rfl, hb2⟩
  have B2 := Lib.hid hb2
  have n2 := (Boxed.later N0.out hb2).cell
  clear hb2
  go_wp2_with fail
  refine (few8_at h _ w2 (V0.out.below B2.out)).mono ?_
  rintro e w3 ⟨rfl, hb3⟩
  have B3 := Lib.hid (below_all B2.out hb3)
  have n3 := (Boxed.later N0.out B3.out).cell
  clear hb3 n2
  cases hf : Hi.fewB h with
  | false =>
    clear hf
    go_wp2_with fail
    go_ret
    exact ⟨rfl, below_all B0.out B3.out⟩
  | true =>
  have HS : Hid (Ix.Small h) := (Hi.few_small hf).2
  have h40 := (Hi.few_small hf).1
  clear hf
  go_wp2_with fail
  refine (keys9_at h _ w3 (V0.out.below B3.out) HS.out).mono ?_
  rintro e w4 ⟨v4, rfl, hv4, hb4⟩
  have B4 := Lib.hid (below_all B3.out hb4)
  have V4 := Lib.hid (V0.out.below B4.out)
  have N4 := Lib.hid (Boxed.later N0.out B4.out)
  have HLEN := Ix.keysA_len h
  have HRISE := Lib.hid (Ix.keysA_rise h)
  have HMEM := Lib.hid (Ix.keysA_mem h key)
  generalize ints (Ix.keysA h) = L at *
  obtain ⟨A4, c4, rfl, hform⟩ := hv4.spelled
  have HFM := Lib.hid hform
  clear hv4 hb4 n3 hform V0 N0 B2 B3
  go_wp2_with fail
  go_loopw [8, 9] (fun s8 s9 wr => ∃ k : Nat, k ≤ L.length ∧ s9 = .int .i64 k ∧ s8 = .bool (decide (key ∈ L.take k)) ∧ Hid (Below w4.heap.size w4 wr)) (fun _ s9 _ => L.length - (intOf s9).toNat)
  case atStart => exact ⟨0, Nat.zero_le _, rfl, by simp, Below.refl _ _⟩
  case round =>
    obtain ⟨k, hk, rfl, rfl, HB⟩ := hrel
    by_cases hlt : k < L.length
    · obtain ⟨ad, rfl, hblk, hE⟩ := HFM.out k hlt
      have c0 := (HB.out.cell (p := ad.add k) (by rw [add_block]; exact hblk)).trans hE
      have hst := in_step L key k hlt
      generalize decide (key ∈ L.take k) = b1 at *
      generalize hb2 : decide (key ∈ L.take (k + 1)) = b2 at *
      have HB2 := Lib.hid hb2
      clear hb2 hE
      by_cases hk0 : k = 0
      · have p3 : decide ((0 : Int) < (k : Int)) = false := by simp; omega
        have p4 : decide (0 < k) = false := by simp; omega
        generalize L[k] = x at *
        clear hk0
        rcases hst with ⟨rfl, rfl⟩ | ⟨rfl, hq⟩
        all_goals
          go_wp2_with fail
          go_quiet (fail)
          go_wp2_with fail
          go_roundw
          case rel => exact ⟨k + 1, by omega, by go_num, by rw [HB2.out], below_drewN HB.out _⟩
          case measure => simp [intOf]; omega
      · obtain ⟨j1, hj1⟩ : ∃ j1, k = j1 + 1 := ⟨k - 1, by omega⟩
        have hj2 : j1 < L.length := by omega
        obtain ⟨_, e9, hblk9, hE9⟩ := HFM.out j1 hj2
        cases e9
        have c9 := (HB.out.cell (p := ad.add j1) (by rw [add_block]; exact hblk9)).trans hE9
        have p2 : decide (L[k] ≤ L[j1]) = false := by
          have := List.pairwise_iff_getElem.1 HRISE.out j1 k hj2 hlt (by omega)
          exact decide_eq_false (by omega)
        have p3 : decide ((0 : Int) < (k : Int)) = true := by simp; omega
        have p4 : decide (0 < k) = true := by simp; omega
        have hs1 : IntKind.i64.wrap ((k : Int) - 1) = (j1 : Int) := by rw [IntWalk.i64_in _ (by omega)]; omega
        have hs2 : (k : Int) - 1 = (j1 : Int) := by omega
        generalize L[k] = x at *
        generalize L[j1] = y at *
        clear hj1 hk0 hE9
        rcases hst with ⟨rfl, rfl⟩ | ⟨rfl, hq⟩
        all_goals
          go_wp2_with fail
          go_quiet (fail)
          go_wp2_with fail
          go_roundw
          case rel => exact ⟨k + 1, by omega, by go_num, by rw [HB2.out], below_drewN HB.out _⟩
          case measure => simp [intOf]; omega
    · have hall : L.take k = L := List.take_of_length_le (by omega)
      rw [hall, show decide (key ∈ L) = decide (0 < (Ix.writersA h key).length) from decide_eq_decide.2 HMEM.out]
      have n4 := (Boxed.later N4.out HB.out).cell
      clear hall
      have HWR := Lib.hid (fun W (hw : Txns W (.slice A h.length c) h) => writers9_at h _ key W hw HS.out)
      have HFW := Lib.hid (fun (t : Nat) f q hf => @Ix.from_writes h t key f q hf)
      have HWL := Ix.writersA_len h key
      rw [ints_len] at HWL
      generalize Ix.writersA h key = lw at *
      go_wp2_with fail
      refine (HWR.out wr (V4.out.below HB.out)).mono ?_
      rintro e w6 ⟨v6, rfl, hv6, hb6⟩
      have B6 := Lib.hid (below_all B4.out (below_all HB.out hb6))
      have V6 := Lib.hid (V4.out.below (below_all HB.out hb6))
      have N6 := Lib.hid (Boxed.later N4.out (below_all HB.out hb6))
      obtain ⟨A6, c6, rfl, hform6⟩ := nums_spelled hv6
      have HF6 := Lib.hid hform6
      generalize hbb : decide (0 < lw.length) = bb at *
      have qb : (bb != bb) = false := by simp
      clear hv6 hb6 n4 hform6 V4 N4
      go_wp2_with fail
      go_loopw [11] (fun s11 wx => ∃ t : Nat, t ≤ h.length ∧ s11 = .int .i64 t ∧ Hid (Below w6.heap.size w6 wx)) (fun s11 _ => h.length - (intOf s11).toNat)
      case atStart => exact ⟨0, Nat.zero_le _, rfl, Below.refl _ _⟩
      case round =>
        obtain ⟨t, ht, rfl, HX⟩ := hrel
        have n7 := (Boxed.later N6.out HX.out).cell
        by_cases hlt2 : t < h.length
        · have HFR := Lib.hid (fun W (hw : Txns W (.slice A h.length c) h) => from9_at h _ (t : Int) key W hw HS.out)
          have HFO := Lib.hid (fun f q hf => HFW.out t f q hf)
          generalize Ix.fromA h (t : Int) key = fo at *
          go_wp2_with fail
          refine (HFR.out wr (V6.out.below HX.out)).mono ?_
          rintro e w7 ⟨rfl, hb7⟩
          have HX7 := Lib.hid (below_all HX.out hb7)
          clear hb7 HX n7 HFR
          cases fo with
          | none =>
            dsimp only [Ix.numOf, Option.getD, Option.isSome]
            go_wp2_with fail
            go_roundw
            case rel => exact ⟨t + 1, by omega, by go_num, HX7⟩
            case measure => simp [intOf]; omega
          | some f =>
            dsimp only [Ix.numOf, Option.getD, Option.isSome]
            by_cases hneg : f < 0
            · have d1 : decide (f < 0) = true := decide_eq_true hneg
              go_wp2_with fail
              go_roundw
              case rel => exact ⟨t + 1, by omega, by go_num, HX7⟩
              case measure => simp [intOf]; omega
            · have d1 : decide (f < 0) = false := decide_eq_false hneg
              have HIN := Lib.hid (HFO.out f rfl (by omega))
              clear hneg HFO
              go_wp2_with fail
              go_loopw [14, 15] (fun s14 s15 wz => ∃ j : Nat, j ≤ lw.length ∧ s15 = .int .i64 j ∧ s14 = .bool (decide (f ∈ (ints lw).take j)) ∧ Hid (Below w6.heap.size w6 wz)) (fun _ s15 _ => lw.length - (intOf s15).toNat)
              case atStart => exact ⟨0, Nat.zero_le _, rfl, by simp, HX7⟩
              case round =>
                clear HX7
                obtain ⟨j, hj, rfl, rfl, HZ⟩ := hrel
                by_cases hjl : j < lw.length
                · obtain ⟨ad6, rfl, hblk6, hE6⟩ := HF6.out j hjl
                  have c6 := (HZ.out.cell (p := ad6.add j) (by rw [add_block]; exact hblk6)).trans hE6
                  have hst := in_step (ints lw) f j (by rw [ints_len]; exact hjl)
                  rw [ints_at lw j hjl] at hst
                  generalize decide (f ∈ (ints lw).take j) = b1 at *
                  generalize hb2 : decide (f ∈ (ints lw).take (j + 1)) = b2 at *
                  have HB2 := Lib.hid hb2
                  generalize (lw[j] : Int) = x at *
                  clear hb2 hE6
                  rcases hst with ⟨rfl, rfl⟩ | ⟨rfl, hq⟩
                  all_goals
                    go_wp2_with fail
                    go_roundw
                    case rel => exact ⟨j + 1, by omega, by go_num, by rw [HB2.out], HZ⟩
                    case measure => simp [intOf]; omega
                · have hall : (ints lw).take j = ints lw := List.take_of_length_le (by rw [ints_len]; omega)
                  rw [hall, decide_eq_true HIN.out]
                  clear hall
                  go_wp2_with fail
                  go_roundw
                  case rel => exact ⟨t + 1, by omega, by go_num, HZ⟩
                  case measure => simp [intOf]; omega
        · go_wp2_with fail
          go_ret
          exact ⟨rfl, below_all B0.out (below_all B6.out HX.out)⟩
end Go.Proofs.Ytehnmpbongabeaa
