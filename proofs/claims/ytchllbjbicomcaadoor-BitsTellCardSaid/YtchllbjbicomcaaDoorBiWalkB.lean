/-
  What bits' functions over rows answer: Of, List, Join; what was in memory stays as it was.
  Conditions: a row has at most 2^32 elements; sets are below 2^64.
-/
import Derived.Test.YtchllbjbicomcaaDoorBiWalkA
import Derived.Test.YtchllbjbicomcaaDoorSoAll
set_option maxRecDepth 4000
namespace Go.Proofs.YtchllbjbicomcaaDoor
open Go.RowKit

set_option maxHeartbeats 1000000 in
theorem biOf_at (l : List Int) (u : Value) (w : World) (hu : Ns w u l) (hl : l.length ≤ 4294967296) : Calls Tryd.prog 8 #[u] w fun e w' => e = .returned (.tuple #[.int .u64 ((Bi.ofR l).1 : Nat), .int .i64 (Bi.ofR l).2]) ∧ w' = w := by
  obtain ⟨A, c, rfl, hf⟩ := hu.spelled
  have HF := Lib.hid hf
  have HO := Lib.hid (fun h => @Bi.of_all l h)
  have HX := Lib.hid (fun k h hb => @Bi.of_bad l k h hb)
  clear hf hu
  generalize Bi.ofR l = r at *
  go_enter Tryd.func8, Tryd.ntmps8
  go_wp2_with fail
  go_loopw [4, 10] (fun s i wr => ∃ k : Nat, k ≤ l.length ∧ i = .int .i64 k ∧ s = .int .u64 (Bi.foldTo l k : Nat) ∧ Hid (Bi.allTo l k = true) ∧ wr = w) (fun _ i _ => l.length - (intOf i).toNat)
  case atStart => exact ⟨0, Nat.zero_le _, rfl, rfl, rfl, rfl⟩
  case round =>
    obtain ⟨k, hk, rfl, rfl, HA, rfl⟩ := hrel
    by_cases hlt : k < l.length
    · obtain ⟨ad, rfl, hblk, hE⟩ := HF.out k hlt
      have hfl := Bi.foldTo_lt l k
      have HN := Lib.hid (Bi.foldTo_next hlt)
      have HAN := Lib.hid (Bi.allTo_next hlt)
      have HB := Lib.hid (HX.out k hlt)
      generalize l[k]'hlt = x at *
      have h0 := Bi.one_zero x
      have hor : bits .or .u64 ((Bi.foldTo l k : Nat) : Int) ((Bi.one x : Nat) : Int) = (Bi.withN (Bi.foldTo l k) x : Nat) := by rw [bits_or_u64_nat _ _ hfl (Bi.one_lt x), Bi.or_one]
      cases hx : Bi.ok x with
      | false =>
        rw [hx] at h0
        have hr := HB.out hx
        subst hr
        go_wp2_with fail
        refine (biOnly_at x _).mono ?_
        rintro e w1 ⟨rfl, rfl⟩
        go_wp2_with fail
        go_ret2
        exact ⟨rfl, rfl⟩
      | true =>
        rw [hx] at h0 HAN
        go_wp2_with fail
        refine (biOnly_at x _).mono ?_
        rintro e w1 ⟨rfl, rfl⟩
        go_wp2_with fail
        go_roundw
        case rel => exact ⟨k + 1, by omega, by go_num, by rw [HN.out], by rw [Hid, HAN.out, HA.out]; rfl, trivial⟩
        case measure => simp [intOf]; omega
    · obtain rfl : k = l.length := by omega
      have hr := HO.out HA.out
      subst hr
      go_wp2_with fail
      go_ret2
      exact ⟨rfl, rfl⟩

set_option maxHeartbeats 1000000 in
theorem biList_at (s : Nat) (w : World) (hs : s < 18446744073709551616) : Calls Tryd.prog 12 #[.int .u64 s] w (RetElems w (Bi.list s)) := by
  obtain ⟨i0, hi0, hz0, hz1, hz2⟩ := info_parts int_info
  have I0 := Lib.hid hi0
  have I1 := Lib.hid hz0
  have I2 := Lib.hid hz1
  have I3 := Lib.hid hz2
  clear hi0 hz0 hz1 hz2
  go_enter Tryd.func12, Tryd.ntmps12
  go_wp2_with fail
  go_loopw [3, 5] (fun v i wr => ∃ (k : Nat) (d : List Nat), k ≤ 64 ∧ i = .int .i64 k ∧ d.length ≤ k ∧ Hid (d = Bi.listTo s k) ∧ wr.ownsRow w.heap.size 3 1 v d.length ((Bi.nums d).flatMap nC) ∧ Hid (Below w.heap.size w wr)) (fun _ i _ => 64 - (intOf i).toNat)
  case atStart => exact ⟨0, [], Nat.zero_le _, rfl, Nat.le_refl _, rfl, World.ownsRow_nil _ _ _ _, Below.refl _ _⟩
  case round =>
    obtain ⟨k, d, hk, rfl, hdl, HD, hown, HB⟩ := hrel
    have HW := Lib.hid hown
    obtain ⟨A', cp, rfl⟩ := own_form hown
    clear hown
    by_cases hlt : k < 64
    · have HYes := Lib.hid (fun q => @Bi.listTo_yes s k q)
      have HNo := Lib.hid (fun q => @Bi.listTo_no s k q)
      have hh := Bi.has_nat s k hlt
      go_wp2_with fail
      refine (biHas_at s (k : Int) _ hs).mono ?_
      rintro e w2 ⟨rfl, rfl⟩
      rw [hh]
      cases hg : s.testBit k with
      | false =>
        have HD2 : Hid (d = Bi.listTo s (k + 1)) := by rw [Hid, HNo.out hg]; exact HD.out
        clear hg hh
        go_wp2_with fail
        go_roundw
        case rel => exact ⟨k + 1, d, by omega, by go_num, by omega, HD2, HW.out, HB⟩
        case measure => simp [intOf]; omega
      | true =>
        have HD2 : Hid (d ++ [k] = Bi.listTo s (k + 1)) := by rw [Hid, HYes.out hg, ← HD.out]
        have HW2 := Lib.hid (HW.out.alloc (.cells #[.int .i64 (k : Int)] 3))
        have HB2 := Lib.hid (below_all HB.out (alloc_below w2 (.cells #[.int .i64 (k : Int)] 3)))
        have HN := Lib.hid (new_nC w2 (k : Int) 3)
        clear hg hh
        go_wp2_with (at_builtin; refine wpList_append_own_at _ rfl _ _ 22 rfl w.heap.size 3 i0 _ 1 8 Tryd.underlying22 I0.out I1.out I2.out I3.out rfl (by decide) _ d.length _ rfl HW2.out ⟨w2.heap.size, 0, none⟩ 1 1 (nC (k : Int)) rfl rfl HN.out (one_nC _) (by simp only [maxLen]; omega) (by omega) HB2.out.size ?_; intro v2 w3 hown2 hgrow2 hnil2 hat2; have HO2 := Lib.hid hown2; have HB3 := Lib.hid (below_append HB2.out HB2.out.size HW2.out hgrow2); clear hown2 hgrow2 hnil2 hat2)
        go_roundw
        case rel => exact ⟨k + 1, d ++ [k], by omega, by go_num, by simp; omega, HD2, nums_more HO2.out, HB3⟩
        case measure => simp [intOf]; omega
    · obtain rfl : k = 64 := by omega
      go_wp2_with fail
      go_ret
      refine ⟨_, rfl, ?_, HB.out⟩
      rw [show Bi.list s = d from HD.out.symm]
      exact HW.out

set_option maxHeartbeats 1000000 in
theorem biJoin_at (l : List Nat) (u : Value) (w : World) (hu : Us w u l) (hl : l.length ≤ 4294967296) (hs : ∀ x ∈ l, x < 18446744073709551616) : Calls Tryd.prog 22 #[u] w fun e w' => e = .returned (.int .u64 (Bi.join l : Nat)) ∧ w' = w := by
  obtain ⟨A, c, rfl, hf⟩ := hu.spelled
  have HF := Lib.hid hf
  have HS := Lib.hid hs
  clear hf hu hs
  rw [← Bi.joinTo_all]
  go_enter Tryd.func22, Tryd.ntmps22
  go_wp2_with fail
  go_loopw [3, 8] (fun s i wr => ∃ k : Nat, k ≤ l.length ∧ i = .int .i64 k ∧ s = .int .u64 (Bi.joinTo l k : Nat) ∧ wr = w) (fun _ i _ => l.length - (intOf i).toNat)
  case atStart => exact ⟨0, Nat.zero_le _, rfl, rfl, rfl⟩
  case round =>
    obtain ⟨k, hk, rfl, rfl, rfl⟩ := hrel
    by_cases hlt : k < l.length
    · obtain ⟨ad, rfl, hblk, hE⟩ := HF.out k hlt
      have hor : bits .or .u64 ((Bi.joinTo l k : Nat) : Int) ((l[k]'hlt : Nat) : Int) = (Bi.joinTo l (k + 1) : Nat) := by
        rw [Bi.joinTo_next hlt]
        exact bits_or_u64_nat _ _ (Bi.joinTo_lt HS.out k) (HS.out _ (List.getElem_mem hlt))
      generalize l[k]'hlt = x at *
      go_wp2_with fail
      go_roundw
      case rel => exact ⟨k + 1, by omega, by go_num, rfl, trivial⟩
      case measure => simp [intOf]; omega
    · obtain rfl : k = l.length := by omega
      go_wp2_with fail
      go_ret
      exact ⟨rfl, rfl⟩
end Go.Proofs.YtchllbjbicomcaaDoor
