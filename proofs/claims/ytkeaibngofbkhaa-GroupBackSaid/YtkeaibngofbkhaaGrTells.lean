/-
  GroupTells answers true for every row of events and every row of transactions: the transactions of any events, or which one is wrong, and how, and transactions as events, are the document's; the events stay.
  Conditions: each event's session is a number of its kind.
-/
import Derived.Test.YtkeaibngofbkhaaGrAwake
import Derived.Test.YtkeaibngofbkhaaGrRefD
import Derived.Test.YtkeaibngofbkhaaGrFrame
namespace Go.Proofs.Ytkeaibngofbkhaa
open Go.RowKit

namespace Gr
theorem group_small (l : List Ev.Event) : (groupR l).1.length ≤ 32 ∧ ∀ t ∈ (groupR l).1, t.ops.length ≤ l.length := by
  cases h : run 0 [] l with
  | none =>
    rw [group_ok l h]
    refine ⟨by rw [List.length_map]; exact (fine_of l h).len, fun t ht => ?_⟩
    obtain ⟨x, hx, rfl⟩ := List.mem_map.1 ht
    exact ops_le l h x hx
  | some p =>
    obtain ⟨k, q⟩ := p
    rw [group_bad l k q h]
    exact ⟨by simp, fun t ht => by cases ht⟩
theorem eventsR_bound (b : Nat) (l : List Tx) (h : ∀ t ∈ l, t.ops.length ≤ b) : (eventsR l).length ≤ l.length * (b + 2) := by
  induction l with
  | nil => simp [eventsR]
  | cons t l ih =>
    have h1 := h t (by simp)
    have h2 := ih (fun x hx => h x (List.mem_cons_of_mem _ hx))
    rw [eventsR] at h2
    rw [eventsR, List.flatMap_cons, List.length_append, txEvents_len, List.length_cons, Nat.succ_mul]
    omega
end Gr

set_option maxHeartbeats 1000000 in
set_option maxRecDepth 4000 in
theorem lawGroupTells (l : List Ev.Event) (v : Value) (t : List Gr.Tx) (u : Value) (w : World) (hv : Evs w v l) (hwf : ∀ x ∈ l, evWf x) (hu : Txs w u t) : Calls Try.prog 3 #[v, u] w (RetBool w true) := by
  obtain ⟨i0, hi0, hz0, hz1, hz2⟩ := info_parts ev_info
  have I0 := Lib.hid hi0
  have I1 := Lib.hid hz0
  have I2 := Lib.hid hz1
  have I3 := Lib.hid hz2
  clear hi0 hz0 hz1 hz2
  have V0 := Lib.hid hv
  have U0 := Lib.hid hu
  have HW := Lib.hid hwf
  obtain ⟨A, c, rfl, _⟩ := hv.form
  obtain ⟨B, d, rfl, _⟩ := hu.spelled
  clear hv hu hwf
  go_enter Try.func3, Try.ntmps3
  go_wp2_with fail
  refine (grAwake_at w).mono ?_
  rintro e w1 ⟨rfl, hb1⟩
  have V1 := Lib.hid (V0.out.below hb1)
  have U1 := Lib.hid (U0.out.below hb1)
  have B1 := Lib.hid hb1
  clear hb1 V0 U0
  by_cases h6 : 600 < l.length
  · have hd : decide ((600 : Int) < (l.length : Int)) = true := by simp; omega
    go_wp2_with fail
    go_ret
    exact ⟨rfl, B1.out⟩
  have hd : decide ((600 : Int) < (l.length : Int)) = false := by simp; omega
  by_cases h4 : 40 < t.length
  · have hd2 : decide ((40 : Int) < (t.length : Int)) = true := by simp; omega
    go_wp2_with fail
    go_ret
    exact ⟨rfl, B1.out⟩
  have hd2 : decide ((40 : Int) < (t.length : Int)) = false := by simp; omega
  obtain ⟨_, _, hv2, hform⟩ := U1.out.spelled
  cases hv2
  have HF := Lib.hid hform
  clear hform
  go_wp2_with fail
  go_loop [6] (fun i => ∃ k : Nat, k ≤ t.length ∧ i = .int .i64 k ∧ ∀ x ∈ t.take k, x.ops.length ≤ 100) (fun i => t.length - (intOf i).toNat)
  case atStart => exact ⟨0, Nat.zero_le _, rfl, fun x hx => by cases hx⟩
  case round =>
    obtain ⟨k, hk, rfl, hall⟩ := hrel
    have HA := Lib.hid hall
    clear hall
    by_cases hlt : k < t.length
    · obtain ⟨ad, y, rfl, hblk, hE, hy⟩ := HF.out k hlt
      obtain ⟨Ay, cy, rfl, _⟩ := hy.form
      have hc3 := hE.c3
      by_cases hq : 100 < (t[k]'hlt).ops.length
      · have hd3 : decide ((100 : Int) < ((t[k]'hlt).ops.length : Int)) = true := by simp; omega
        clear hE hy hq
        go_wp2_with fail
        go_ret
        exact ⟨rfl, B1.out⟩
      · have hd3 : decide ((100 : Int) < ((t[k]'hlt).ops.length : Int)) = false := by simp; omega
        have HN : Hid (∀ x ∈ t.take (k + 1), x.ops.length ≤ 100) := fun x hx => by
          rw [List.take_succ_eq_append_getElem hlt] at hx
          rcases List.mem_append.1 hx with hx | hx
          · exact HA.out x hx
          · rw [List.mem_singleton.1 hx]; omega
        clear hE hy hq HA
        go_wp2_with fail
        go_round
        case rel => exact ⟨k + 1, by omega, by go_num, HN.out⟩
        case measure => simp [intOf]; omega
    · have HB : Hid ((Gr.eventsR t).length ≤ 4294967296) := by
        have h1 := Gr.eventsR_bound 100 t (by have := HA.out; rw [List.take_of_length_le (by omega)] at this; exact this)
        have h2 : t.length * (100 + 2) ≤ 40 * 102 := Nat.mul_le_mul_right 102 (by omega)
        rw [Hid]; omega
      have HL : Hid (l.length ≤ 4294967296) := by rw [Hid]; omega
      have HTL : Hid (t.length ≤ 4294967296) := by rw [Hid]; omega
      clear HA HF
      go_wp2_with (at_builtin; refine wpList_append_sl _ rfl (.tmp 38) (.tmp 39) 22 rfl w1.heap.size 44 i0 _ 4 32 Try.underlying22 I0.out I1.out I2.out I3.out rfl (by decide) (.slice none 0 0) 0 [] rfl (World.ownsRow_nil _ _ _ _) _ l.length (l.flatMap evCells) rfl V1.out (all_evs l) (by simp only [maxLen]; omega) (by omega) (Nat.le_refl _) ?_; intro v2 w2 hown hgrow hat; have O2 := Lib.hid (Evs.own (show w2.ownsRow w1.heap.size 44 4 v2 l.length (l.flatMap evCells) from by simpa using hown)); have N2 := Lib.hid (show Below w1.heap.size w1 w2 from (Below.refl _ w1).grown hgrow (Nat.le_refl _) (by simp [Value.ownBlock])); have V2 := Lib.hid (V1.out.below N2.out); have U2 := Lib.hid (U1.out.below N2.out); have B2 := Lib.hid (below_all B1.out N2.out); clear hown hgrow hat N2 V1 U1 B1)
      refine (group_at l _ w2 V2.out HL.out HW.out).mono ?_
      rintro e w3 ⟨v3, rfl, hs3, hb3⟩
      have V3 := Lib.hid (V2.out.below hb3)
      have U3 := Lib.hid (U2.out.below hb3)
      have O3 := Lib.hid (O2.out.below hb3)
      have S3 := Lib.hid hs3
      have B3 := Lib.hid (below_all B2.out hb3)
      clear hb3 hs3 V2 U2 O2 B2
      go_wp2_with fail
      refine (rGroup_at l v2 w3 O3.out HL.out).mono ?_
      rintro e w4 ⟨v4, rfl, hs4, hb4⟩
      have HSM := Lib.hid (Gr.group_small l)
      generalize Gr.groupR l = r at *
      obtain ⟨r1, r2, r3⟩ := r
      dsimp only at *
      have HR1 : Hid (r1.length ≤ 4294967296) := by have := HSM.out.1; rw [Hid]; omega
      have HR2 : Hid (∀ x ∈ r1, x.ops.length ≤ 4294967296) := fun x hx => Nat.le_trans (HSM.out.2 x hx) HL.out
      have V4 := Lib.hid (V3.out.below hb4)
      have U4 := Lib.hid (U3.out.below hb4)
      have O4 := Lib.hid (O3.out.below hb4)
      have S4 := Lib.hid (S3.out.below hb4)
      have T4 := Lib.hid hs4
      have B4 := Lib.hid (below_all B3.out hb4)
      clear hb4 hs4 V3 U3 O3 S3 B3 HSM
      go_wp2_with fail
      refine (plain_at r1 v3 w4 S4.out HR1.out).mono ?_
      rintro e w5 ⟨v5, rfl, hs5, hb5⟩
      have V5 := Lib.hid (V4.out.below hb5)
      have U5 := Lib.hid (U4.out.below hb5)
      have O5 := Lib.hid (O4.out.below hb5)
      have T5 := Lib.hid (T4.out.below hb5)
      have S5 := Lib.hid hs5
      have B5 := Lib.hid (below_all B4.out hb5)
      clear hb5 hs5 V4 U4 O4 S4 T4 B4
      go_wp2_with fail
      refine (rSame5_at r1 v5 v4 w5 S5.out T5.out HR1.out HR2.out).mono ?_
      rintro e w6 ⟨rfl, hb6⟩
      have V6 := Lib.hid (V5.out.below hb6)
      have U6 := Lib.hid (U5.out.below hb6)
      have O6 := Lib.hid (O5.out.below hb6)
      have B6 := Lib.hid (below_all B5.out hb6)
      clear hb6 V5 U5 O5 S5 T5 B5
      have hr2 : (r2 == r2) = true := by simp
      have hr3 : (r3 == r3) = true := by simp
      go_wp2_with fail
      refine (rEvSame_at l l _ v2 w6 V6.out O6.out HL.out HL.out).mono ?_
      rintro e w7 ⟨rfl, hb7⟩
      rw [decide_eq_true rfl]
      have U7 := Lib.hid (U6.out.below hb7)
      have B7 := Lib.hid (below_all B6.out hb7)
      clear hb7 U6 B6 V6 O6
      go_wp2_with fail
      refine (events_at t _ w7 U7.out HB.out).mono ?_
      rintro e w8 ⟨v8, rfl, hs8, hb8⟩
      have U8 := Lib.hid (U7.out.below hb8)
      have S8 := Lib.hid hs8
      have B8 := Lib.hid (below_all B7.out hb8)
      clear hb8 hs8 U7 B7
      go_wp2_with fail
      refine (plain_at t _ w8 U8.out HTL.out).mono ?_
      rintro e w9 ⟨v9, rfl, hs9, hb9⟩
      have S9 := Lib.hid (S8.out.below hb9)
      have T9 := Lib.hid hs9
      have B9 := Lib.hid (below_all B8.out hb9)
      clear hb9 hs9 U8 B8 S8
      go_wp2_with fail
      refine (rEvents_at t v9 w9 T9.out HB.out).mono ?_
      rintro e w10 ⟨v10, rfl, hs10, hb10⟩
      have S10 := Lib.hid (S9.out.below hb10)
      have T10 := Lib.hid hs10
      have B10 := Lib.hid (below_all B9.out hb10)
      clear hb10 hs10 T9 B9 S9
      go_wp2_with fail
      refine (rEvSame_at (Gr.eventsR t) (Gr.eventsR t) v8 v10 w10 S10.out T10.out HB.out HB.out).mono ?_
      rintro e w11 ⟨rfl, hb11⟩
      rw [decide_eq_true rfl]
      have B11 := Lib.hid (below_all B10.out hb11)
      clear hb11
      go_wp2_with fail
      go_ret
      exact ⟨rfl, B11.out⟩
end Go.Proofs.Ytkeaibngofbkhaa
