/-
  GroupFirst answers true for every row of events: all events ahead of the one that is told to be wrong are right, it is not, and what stands behind plays no part; each Read and Write is in one transaction.
  Conditions: each event's session is a number of its kind.
-/
import Derived.Test.YtkeaibngofbkhaaGrBack
namespace Go.Proofs.Ytkeaibngofbkhaa
open Go.RowKit

/-- The front of a row. -/
theorem Evs.front {w : World} {A : Option Addr} {c : Nat} {l : List Ev.Event} (h : Evs w (.slice A l.length c) l) (k : Nat) (hk : k ≤ l.length) : Evs w (.slice A k c) (l.take k) := by
  obtain ⟨hl, A', c', hv, hc, hz, hh⟩ := h
  cases hv
  have hlen : (l.take k).length = k := by rw [List.length_take]; omega
  rw [Evs, hlen]
  refine ⟨by rw [evCells_len, hlen], A, c, rfl, by omega, hz, fun h0 => ?_⟩
  obtain ⟨ad, e, hb, hcell⟩ := hh (by omega)
  refine ⟨ad, e, hb, fun j u hu => hcell j u ?_⟩
  have e1 : l.flatMap evCells = (l.take k).flatMap evCells ++ (l.drop k).flatMap evCells := by rw [← List.flatMap_append, List.take_append_drop]
  rw [e1, List.getElem?_append_left (List.getElem?_eq_some_iff.1 hu).1]
  exact hu

namespace Gr
def opsTo (a : List Tx) (k : Nat) : Nat := ((a.take k).map fun t => t.ops.length).sum
theorem opsTo_succ (a : List Tx) (k : Nat) (hk : k < a.length) : opsTo a (k + 1) = opsTo a k + a[k].ops.length := by
  rw [opsTo, opsTo, List.take_succ_eq_append_getElem hk, List.map_append, List.sum_append]
  simp
theorem opsTo_le (a : List Tx) (k : Nat) : opsTo a k ≤ (a.map fun t => t.ops.length).sum := by
  conv => rhs; rw [← List.take_append_drop k a]
  rw [opsTo, List.map_append, List.sum_append]
  omega
theorem opsTo_all (l : List Ev.Event) : ((txs l).map fun t => t.ops.length).sum = opsOf (go 0 [] l) := by rw [txs, List.map_map, opsOf]; rfl
theorem keyed_succ (l : List Ev.Event) (k : Nat) (hk : k < l.length) : keyed (l.take (k + 1)) = keyed (l.take k) + (if Ev.hasKey l[k].kind = true then 1 else 0) := by
  rw [keyed, keyed, List.take_succ_eq_append_getElem hk, List.countP_append]
  simp [List.countP_cons]
theorem begins_succ (l : List Ev.Event) (k : Nat) (hk : k < l.length) : begins (l.take (k + 1)) = begins (l.take k) + (if l[k].kind = 0 then 1 else 0) := by
  rw [begins, begins, List.take_succ_eq_append_getElem hk, List.countP_append]
  simp [List.countP_cons]
end Gr

set_option maxHeartbeats 1000000 in
set_option maxRecDepth 4000 in
theorem lawGroupFirst (l : List Ev.Event) (v : Value) (w : World) (hv : Evs w v l) (hwf : ∀ x ∈ l, evWf x) : Calls Try.prog 6 #[v] w (RetBool w true) := by
  have V0 := Lib.hid hv
  have HW := Lib.hid hwf
  obtain ⟨A, c, rfl, _⟩ := hv.form
  clear hv hwf
  go_enter Try.func6, Try.ntmps6
  go_wp2_with fail
  refine (grAwake_at w).mono ?_
  rintro e w1 ⟨rfl, hb1⟩
  have V1 := Lib.hid (V0.out.below hb1)
  have B1 := Lib.hid hb1
  clear hb1 V0
  by_cases h6 : 600 < l.length
  · have hd : decide ((600 : Int) < (l.length : Int)) = true := by simp; omega
    go_wp2_with fail
    go_ret
    exact ⟨rfl, B1.out⟩
  have hd : decide ((600 : Int) < (l.length : Int)) = false := by simp; omega
  have HL : Hid (l.length ≤ 4294967296) := by rw [Hid]; omega
  have hl6 : l.length ≤ 600 := by omega
  go_wp2_with fail
  refine (group_at l _ w1 V1.out HL.out HW.out).mono ?_
  rintro e w2 ⟨v2, rfl, hs2, hb2⟩
  have V2 := Lib.hid (V1.out.below hb2)
  have B2 := Lib.hid (below_all B1.out hb2)
  cases hrun : Gr.run 0 [] l with
  | some pq =>
    obtain ⟨k, q⟩ := pq
    obtain ⟨_, hk2, hq, hr1, hr2⟩ := Gr.run_some 0 [] l k q hrun
    rw [Gr.group_bad l k q hrun] at hs2 ⊢
    rw [Nat.sub_zero] at hr1 hr2
    have HQ1 := Lib.hid (Gr.group_ok' _ hr1)
    have HQ2 := Lib.hid (Gr.group_bad _ k q hr2)
    have hkl : k < l.length := by omega
    have HF1 := Lib.hid (V2.out.front k (by omega))
    have HF2 := Lib.hid (fun W (h : Below w2.heap.size w2 W) => (V2.out.below h).front (k + 1) (by omega))
    have HW1 : Hid (∀ x ∈ l.take k, evWf x) := fun x hx => HW.out x (List.mem_of_mem_take hx)
    have HW2 : Hid (∀ x ∈ l.take (k + 1), evWf x) := fun x hx => HW.out x (List.mem_of_mem_take hx)
    have HL1 : Hid ((l.take k).length ≤ 4294967296) := by rw [Hid, List.length_take]; omega
    have HL2 : Hid ((l.take (k + 1)).length ≤ 4294967296) := by rw [Hid, List.length_take]; omega
    have hqb : (q != 0) = true := by rw [bne_iff_ne]; exact hq
    have hqq : (q == q) = true := by simp
    have hkk : ((k : Int) == (k : Int)) = true := by simp
    have hk3 : decide ((k : Int) < 0) = false := by simp
    have hk4 : decide ((l.length : Int) ≤ (k : Int)) = false := by simp; omega
    obtain ⟨A2, c2, rfl⟩ := hs2.none_ rfl
    obtain ⟨_, _, hv2, hform⟩ := V2.out.form
    cases hv2
    obtain ⟨ad, rfl, _⟩ := hform k hkl
    have hcap : l.length ≤ c := Sl.cap V2.out
    dsimp only
    clear hs2 hb2 hq hk2 hrun hr1 hr2 hform
    go_wp2_with fail
    refine (group_at (l.take k) _ w2 HF1.out HL1.out HW1.out).mono ?_
    rintro e w3 ⟨v3, rfl, hs3, hb3⟩
    rw [HQ1.out] at hs3 ⊢
    have B3 := Lib.hid (below_all B2.out hb3)
    have HF3 := Lib.hid (HF2.out w3 hb3)
    clear hs3 hb3
    dsimp only
    go_wp2_with fail
    refine (group_at (l.take (k + 1)) _ w3 HF3.out HL2.out HW2.out).mono ?_
    rintro e w4 ⟨v4, rfl, hs4, hb4⟩
    rw [HQ2.out] at hs4 ⊢
    have B4 := Lib.hid (below_all B3.out hb4)
    clear hs4 hb4
    dsimp only
    go_wp2_with fail
    go_ret
    exact ⟨rfl, B4.out⟩
  | none =>
    obtain ⟨hc1, hc2, hc3⟩ := Gr.counts l hrun
    rw [Gr.group_ok' l hrun] at hs2 ⊢
    have hkl : Gr.keyed l ≤ l.length := List.countP_le_length
    have HTO : Hid (∀ k, Gr.opsTo (Gr.txs l) k ≤ 600) := fun k => by
      have := Gr.opsTo_le (Gr.txs l) k
      rw [Gr.opsTo_all, hc1] at this
      omega
    have HTA : Hid (Gr.opsTo (Gr.txs l) (Gr.txs l).length = Gr.keyed l) := by
      rw [Hid, Gr.opsTo, List.take_length, Gr.opsTo_all, hc1]
    have hbl : Gr.begins l = (Gr.txs l).length := by rw [Gr.txs, List.length_map, hc2]
    have HBL := Lib.hid hbl
    have HB32 := Lib.hid hc3
    have h32 : (Gr.txs l).length ≤ 32 := by rw [← hbl]; exact hc3
    have S2 := Lib.hid hs2
    obtain ⟨A2, c2, rfl, hform⟩ := hs2.spelled
    have HF := Lib.hid hform
    clear hs2 hb2 hrun hc1 hc2 hc3 hbl hform hkl
    generalize Gr.txs l = a at *
    dsimp only
    go_wp2_with fail
    go_loop [13, 14] (fun o i => ∃ k : Nat, k ≤ a.length ∧ i = .int .i64 k ∧ o = .int .i64 (Gr.opsTo a k : Int)) (fun _ i => a.length - (intOf i).toNat)
    case atStart => exact ⟨0, Nat.zero_le _, rfl, rfl⟩
    case round =>
      obtain ⟨k, hk, rfl, rfl⟩ := hrel
      by_cases hlt : k < a.length
      · obtain ⟨ad, y, rfl, hblk, hE, hy⟩ := HF.out k hlt
        obtain ⟨Ay, cy, rfl, hyf⟩ := hy.form
        have hc3 := hE.c3
        clear hyf hE hy
        have HS := Lib.hid (Gr.opsTo_succ a k hlt)
        have hb1 := HTO.out (k + 1)
        rw [HS.out] at hb1
        generalize (a[k]'hlt).ops.length = n at *
        generalize Gr.opsTo a k = m at *
        go_wp2_with fail
        go_round
        case rel => exact ⟨k + 1, by omega, by go_num, by rw [HS.out]; go_num⟩
        case measure => simp [intOf]; omega
      · have HKA : Hid (Gr.opsTo a k = Gr.keyed l) := by
          have : k = a.length := by omega
          rw [Hid, this]; exact HTA.out
        rw [HKA.out]
        obtain ⟨_, _, hv2, hform⟩ := V2.out.spelled
        cases hv2
        have HG := Lib.hid hform
        clear hform HF
        go_wp2_with fail
        go_loop [15, 16, 17] (fun m b i => ∃ k : Nat, k ≤ l.length ∧ i = .int .i64 k ∧ m = .int .i64 (Gr.keyed (l.take k) : Int) ∧ b = .int .i64 (Gr.begins (l.take k) : Int)) (fun _ _ i => l.length - (intOf i).toNat)
        case atStart => exact ⟨0, Nat.zero_le _, rfl, rfl, rfl⟩
        case round =>
          obtain ⟨kk, hkk2, rfl, rfl, rfl⟩ := hrel
          by_cases hltk : kk < l.length
          · obtain ⟨ad, rfl, hblk, hE⟩ := HG.out kk hltk
            have hc0 := hE.c0
            have HS1 := Lib.hid (Gr.keyed_succ l kk hltk)
            have HS2 := Lib.hid (Gr.begins_succ l kk hltk)
            have hm1 : Gr.keyed (l.take kk) ≤ 600 := Nat.le_trans List.countP_le_length (by rw [List.length_take]; omega)
            have hm2 : Gr.begins (l.take kk) ≤ 600 := Nat.le_trans List.countP_le_length (by rw [List.length_take]; omega)
            generalize (l[kk]'hltk).kind = z at *
            generalize Gr.keyed (l.take kk) = m1 at *
            generalize Gr.begins (l.take kk) = m2 at *
            clear hE
            have hcase : ((z == 1) = true ∧ (z == 2) = false ∧ (z == 0) = false ∧ Gr.keyed (l.take (kk + 1)) = m1 + 1 ∧ Gr.begins (l.take (kk + 1)) = m2) ∨ ((z == 1) = false ∧ (z == 2) = true ∧ (z == 0) = false ∧ Gr.keyed (l.take (kk + 1)) = m1 + 1 ∧ Gr.begins (l.take (kk + 1)) = m2) ∨
                ((z == 1) = false ∧ (z == 2) = false ∧ (z == 0) = true ∧ Gr.keyed (l.take (kk + 1)) = m1 ∧ Gr.begins (l.take (kk + 1)) = m2 + 1) ∨ ((z == 1) = false ∧ (z == 2) = false ∧ (z == 0) = false ∧ Gr.keyed (l.take (kk + 1)) = m1 ∧ Gr.begins (l.take (kk + 1)) = m2) := by
              rw [HS1.out, HS2.out]
              by_cases h1 : z = 1
              · subst h1; exact .inl ⟨by decide, by decide, by decide, by rw [if_pos (by decide)], by rw [if_neg (by decide)]; rfl⟩
              · by_cases h2 : z = 2
                · subst h2; exact .inr (.inl ⟨by decide, by decide, by decide, by rw [if_pos (by decide)], by rw [if_neg (by decide)]; rfl⟩)
                · have hk : ¬ Ev.hasKey z = true := by rw [Ev.hasKey_iff]; omega
                  rw [if_neg hk]
                  by_cases h0 : z = 0
                  · subst h0; exact .inr (.inr (.inl ⟨by decide, by decide, by decide, rfl, by rw [if_pos rfl]⟩))
                  · rw [if_neg h0]
                    exact .inr (.inr (.inr ⟨by rw [beq_eq_false_iff_ne]; exact h1, by rw [beq_eq_false_iff_ne]; exact h2, by rw [beq_eq_false_iff_ne]; exact h0, rfl, rfl⟩))
            clear HS1 HS2
            rcases hcase with ⟨z1, z2, z0, k1, k2⟩ | ⟨z1, z2, z0, k1, k2⟩ | ⟨z1, z2, z0, k1, k2⟩ | ⟨z1, z2, z0, k1, k2⟩
            all_goals
              have HK1 := Lib.hid k1
              have HK2 := Lib.hid k2
              clear k1 k2
              go_wp2_with fail
              go_round
              case rel => exact ⟨kk + 1, by omega, by go_num, by rw [HK1.out] <;> first | rfl | go_num, by rw [HK2.out] <;> first | rfl | go_num⟩
              case measure => simp [intOf]; omega
          · have hT : l.take kk = l := List.take_of_length_le (by omega)
            rw [hT, HBL.out]
            have hq1 : (((Gr.keyed l : Nat) : Int) == ((Gr.keyed l : Nat) : Int)) = true := by simp
            have hq2 : (((a.length : Nat) : Int) == ((a.length : Nat) : Int)) = true := by simp
            have HQ3 : Hid (decide ((a.length : Int) ≤ 32) = true) := by rw [Hid, decide_eq_true_eq]; omega
            clear hT
            go_wp2_with fail
            go_ret
            exact ⟨ret_bool HQ3.out, B2.out⟩
end Go.Proofs.Ytkeaibngofbkhaa
