/-
  What cycle's around answers: the way back to a node, of each the least one from which one edge less leads there.
  Conditions: a graph, one of its nodes that is on a cycle, and the numbers of edges.
-/
import Derived.Test.YtgapcjgmmlffmaaCyDist
set_option maxRecDepth 4000
namespace Go.Proofs.Ytgapcjgmmlffmaa
open Go.RowKit

namespace Cy
open Gf Rc To
section
variable {n : Nat} {g : List Nat} {v x j : Nat}
/-- The first of a row's nodes that has the number is the least one. -/
theorem back_pick (hg : Ok n g) (hx : x < g.length) {i : Nat} (hi : i < (Bi.list g[x]).length) (hf : far n g v n (Bi.list g[x])[i] = j + 1) (hn : ∀ m (hm : m < (Bi.list g[x]).length), m < i → far n g v n (Bi.list g[x])[m] ≠ j + 1) :
    (List.range n).find? (fun y => bit g x y && decide (far n g v n y = j + 1)) = some (Bi.list g[x])[i] := by
  have hb : bit g x (Bi.list g[x])[i] = true := by rw [bit_at hx]; exact (Bi.mem_list.1 (List.getElem_mem hi)).2
  refine first_is (hg.node hb).2 (by rw [hb, hf, decide_eq_true rfl]; rfl) fun y hy => ?_
  cases h1 : bit g x y with
  | false => rfl
  | true =>
    have hy64 : y < 64 := Nat.lt_of_lt_of_le (hg.node h1).2 hg.1
    have hm : y ∈ Bi.list g[x] := Bi.mem_list.2 ⟨hy64, by rw [← bit_at hx]; exact h1⟩
    obtain ⟨m, hm1, hm2⟩ := List.getElem_of_mem hm
    have hmi : m < i := by
      rcases Nat.lt_trichotomy m i with q | q | q
      · exact q
      · subst q; rw [hm2] at hy; exact absurd hy (Nat.lt_irrefl _)
      · have := List.pairwise_iff_getElem.1 (Bi.list_rise g[x]) i m hi hm1 q
        rw [hm2] at this
        exact absurd this (Nat.lt_asymm hy)
    have := hn m hm1 hmi
    rw [hm2] at this
    rw [decide_eq_false this]
    rfl
/-- Some node of the row has it. -/
theorem back_there (hg : Ok n g) (hx : x < g.length) (hf : far n g v n x = j + 2) : ∃ i, ∃ hi : i < (Bi.list g[x]).length, far n g v n (Bi.list g[x])[i] = j + 1 := by
  obtain ⟨y, h1, h2⟩ := far_next hg hf
  have hy64 : y < 64 := Nat.lt_of_lt_of_le (hg.node h1).2 hg.1
  have hm : y ∈ Bi.list g[x] := Bi.mem_list.2 ⟨hy64, by rw [← bit_at hx]; exact h1⟩
  obtain ⟨m, hm1, hm2⟩ := List.getElem_of_mem hm
  exact ⟨m, hm1, by rw [hm2]; exact h2⟩
end
end Cy

set_option maxHeartbeats 4000000 in
theorem cyAround_at (n : Nat) (u : Value) (g : List Nat) (v m0 : Nat) (w : World) (hu : Us w u g) (hg : Gf.Ok n g) (hv : v < n) (hm0 : Cy.far n g v n v = m0 + 1) :
    Calls Try.prog 23 #[.agg #[.int .i64 n, u], .int .i64 v, .agg (arrC (Cy.fars n g v n))] w (RetElems w (v :: Cy.back n g v m0 v)) := by
  obtain ⟨i0, hi0, hz0, hz1, hz2⟩ := info_parts int_info
  have I0 := Lib.hid hi0
  have I1 := Lib.hid hz0
  have I2 := Lib.hid hz1
  have I3 := Lib.hid hz2
  clear hi0 hz0 hz1 hz2
  have hn64 := hg.1
  have hm64 : m0 < n := Cy.far_bound hg hm0
  have HG := Lib.hid hg
  have HRS := Lib.hid (fun x (h : x ∈ g) => hg.small h)
  have HGL := Lib.hid (show g.length = n from hg.2.1)
  have HM0 := Lib.hid hm0
  obtain ⟨res, hres⟩ : ∃ res, res = v :: Cy.back n g v m0 v := ⟨_, rfl⟩
  rw [← hres]
  have HR : Hid ([v] ++ Cy.back n g v m0 v = res) := hres.symm
  have HFL := Lib.hid (Cy.fars_len n g v n)
  have HFA := Lib.hid (fun (x : Nat) (hx : x < (Cy.fars n g v n).length) => Cy.fars_at n g v n hx)
  generalize Cy.fars n g v n = fr at *
  have BW := Lib.hid (alloc_below w (.cells #[.int .i64 (n : Int), u] 24))
  have T0 := Lib.hid (Two.new w 24 (.int .i64 (n : Int)) u)
  have S1 := Lib.hid (World.size_alloc w (.cells #[.int .i64 (n : Int), u] 24))
  have HU := Lib.hid hu
  obtain ⟨A, c, rfl, hf⟩ := hu.spelled
  have HF := Lib.hid hf
  clear hf hu hg hres hm0
  go_enter Try.func23, Try.ntmps23
  go_upto_region 1 with fail
  have b2 := alloc_below (w.alloc (.cells #[.int .i64 (n : Int), .slice A g.length c] 24)) (.cells (arrC fr) 48)
  have TA := Lib.hid (T0.out.later b2)
  have AR : Hid (ArrI ((w.alloc (.cells #[.int .i64 (n : Int), .slice A g.length c] 24)).alloc (.cells (arrC fr) 48)) (w.heap.size + 1) 48 fr) := by
    rw [← S1.out]
    exact World.alloc_heap_new _ _
  have BW2 := Lib.hid (below_all BW.out b2)
  generalize (w.alloc (.cells #[.int .i64 (n : Int), .slice A g.length c] 24)).alloc (.cells (arrC fr) 48) = W at *
  clear b2 S1 T0 BW
  have b3 := alloc_below W (.cells #[.int .i64 (v : Int)] 3)
  have HL3 : Hid ((W.alloc (.cells #[.int .i64 (v : Int)] 3)).ownsRow W.heap.size 3 1 (.slice (some ⟨W.heap.size, 0, none⟩) 1 1) 1 ((Bi.nums [v]).flatMap nC)) := World.ownsRow_lit (base := W.heap.size) (e := 3) (size := 1) W #[.int .i64 (v : Int)] 1 (Nat.le_refl _) (by decide) rfl
  have HB3 := Lib.hid b3
  have hvf : v < fr.length := by rw [HFL.out]; omega
  have e1 := (AR.out.later b3).cell v hvf
  have HV := Lib.hid (HFA.out v hvf)
  rw [HV.out, HM0.out] at e1
  obtain ⟨q, hq⟩ : ∃ q, q = m0 + 1 := ⟨_, rfl⟩
  rw [← hq] at e1
  have hqm : (q : Int) - 1 = (m0 : Int) := by omega
  have hqs : q ≤ 64 := by omega
  have hv64 : v < 64 := by omega
  clear b3 hq
  go_wp2_with fail
  generalize W.alloc (.cells #[.int .i64 (v : Int)] 3) = w3 at *
  clear e1 hqm
  go_loopw [7, 8] (fun s l wr => ∃ (pre : List Nat) (x j last : Nat) (AP : Option Addr) (cP : Nat), x < n ∧ last < pre.length ∧ ((pre.length : Int) - 1 = (last : Int)) ∧ s = .slice AP pre.length cP ∧ l = .int .i64 j ∧ pre.length + j ≤ 64 ∧ Hid (∀ h : last < pre.length, pre[last] = x) ∧ Hid (pre ++ Cy.back n g v j x = res) ∧ Hid (Cy.far n g v n x = j + 1) ∧ Hid (wr.ownsRow W.heap.size 3 1 (.slice AP pre.length cP) pre.length ((Bi.nums pre).flatMap nC)) ∧ Hid (Below W.heap.size W wr)) (fun _ l _ => (intOf l).toNat)
  case atStart => exact ⟨[v], v, m0, 0, _, _, hv, Nat.zero_lt_one, rfl, rfl, rfl, by simp; omega, fun _ => rfl, HR.out, HM0.out, HL3.out, HB3.out⟩
  case round =>
    obtain ⟨pre, x, j, last, AP, cP, hxn, hlp, hls, rfl, rfl, hlen, HLX, HPR, HFX, HO, HBL⟩ := hrel
    by_cases hj0 : 0 < j
    · have hqj : decide ((j : Int) > 0) = true := by rw [decide_eq_true_iff]; omega
      obtain ⟨a0, a1⟩ := (TA.out.later HBL.out).cells
      have hxg : x < g.length := by rw [HGL.out]; exact hxn
      obtain ⟨ad, rfl, hbk, e7⟩ := HF.out x hxg
      have e8 := ((below_all BW2.out HBL.out).cell (by rw [add_block]; exact hbk)).trans e7
      have hrow := HRS.out _ (List.getElem_mem hxg)
      have HPK := Lib.hid (fun i j hi hf hn => @Cy.back_pick n g v x j HG.out hxg i hi hf hn)
      have HTH := Lib.hid (fun j h => @Cy.back_there n g v x j HG.out hxg h)
      obtain ⟨A5, c5, e5, hh5⟩ := (nums_own HO.out).nums
      cases e5
      obtain ⟨adl, rfl, hbl, e5⟩ := hh5 last hlp
      rw [HLX.out hlp] at e5
      clear hh5 e7
      generalize g[x]'hxg = row at *
      go_wp2_with fail
      have HX0 := Lib.hid (show wr.cell? ⟨w.heap.size, 0, none⟩ = some (.int .i64 (n : Int)) from a0)
      clear a0
      have HK : Hid (∀ W', Below wr.heap.size wr W' → W'.cell? ⟨w.heap.size, 1, none⟩ = some (.slice (some ad) g.length c) ∧ W'.cell? (adl.add last) = some (.int .i64 (x : Int)) ∧ W'.cell? (ad.add x) = some (.int .u64 (row : Int))) := fun W' h => ⟨st_stays h a1, st_stays h e5, st_stays h e8⟩
      have D := Lib.hid (Below.refl wr.heap.size wr).drew
      have hx1 : (0 : Int) ≤ (last : Int) := Int.natCast_nonneg _
      have hx2 : (last : Int) < (pre.length : Int) := by omega
      have hwr : IntKind.i64.wrap ((pre.length : Int) - 1) = (last : Int) := by rw [IntWalk.i64_in _ (by omega)]; omega
      have hwl : IntKind.i64.wrap (last : Int) = (last : Int) := by rw [IntWalk.i64_in _ (by omega)]
      have hx3 : (0 : Int) ≤ (x : Int) := Int.natCast_nonneg _
      have hx4 : (x : Int) < (g.length : Int) := by omega
      go_region_held3 (fun W' => W'.cell? ⟨w.heap.size, 1, none⟩ = some (.slice (some ad) g.length c) ∧ W'.cell? (adl.add last) = some (.int .i64 (x : Int)) ∧ W'.cell? (ad.add x) = some (.int .u64 (row : Int)))
        (first | (exact ⟨a1, e5, e8⟩) | (exact HK.out _ D.out) | (exact HK.out _ Y1.out))
        (first | (go_at_call 28; (with_reducible refine (biList_at row _ hrow).mono ?_); rintro e z1 ⟨v1, rfl, ho1, hz⟩; have Y1 := Lib.hid (below_all D.out hz); obtain ⟨AR1, cR1, hv1⟩ := own_form ho1; subst hv1; have NR := Lib.hid (nums_own ho1); clear hz ho1))
      have HB1 := Lib.hid (below_all HBL.out Y1.out)
      have HO1 := Lib.hid (own_below HO.out Y1.out)
      have HJ : Hid (∃ j', j = j' + 1) := ⟨j - 1, by omega⟩
      have HRW := Lib.hid hrow
      have hrl := Bi.list_len row
      have HMR := Lib.hid (fun (i : Nat) (hi : i < (Bi.list row).length) => (Bi.mem_list.1 (List.getElem_mem hi)).1)
      generalize Bi.list row = R at *
      clear a1 e5 e8 hx1 hx2 hx3 hx4 hwr hwl hls HO HBL HK D HX0 Y1 hqj
      go_wp2_with fail
      generalize hwk : z1 = WK at *
      clear hwk
      go_loopw [7, 33] (fun s ix wr => ∃ i : Nat, i ≤ R.length ∧ s = .slice (some adl) pre.length cP ∧ ix = .int .i64 i ∧ Hid (∀ m (hm : m < R.length), m < i → Cy.far n g v n R[m] ≠ j) ∧ Hid (Below WK.heap.size WK wr)) (fun _ ix _ => R.length - (intOf ix).toNat)
      case atStart => exact ⟨0, Nat.zero_le _, rfl, rfl, fun m _ h => absurd h (Nat.not_lt_zero m), Below.refl _ _⟩
      case round =>
        obtain ⟨i, hi, rfl, rfl, HNF, HBI⟩ := hrel
        have HBJ := Lib.hid (below_all HB1.out HBI.out)
        by_cases hlt : i < R.length
        · obtain ⟨A6, c6, e6, hh6⟩ := (Ns.below NR.out HBI.out).nums
          cases e6
          obtain ⟨adr, rfl, hbr, e6⟩ := hh6 i hlt
          clear hh6
          have hz64 := HMR.out i hlt
          have hzf : R[i] < fr.length := by rw [HFL.out]; exact hz64
          have e7 := (AR.out.later HBJ.out).cell _ hzf
          rw [HFA.out _ hzf] at e7
          obtain ⟨z, hz⟩ : ∃ z, z = R[i]'hlt := ⟨_, rfl⟩
          have HZ := Lib.hid hz
          rw [← hz] at e6 e7 hz64
          clear hzf hz
          obtain ⟨d, hd⟩ : ∃ d, d = Cy.far n g v n z := ⟨_, rfl⟩
          have HDZ := Lib.hid hd
          rw [← hd] at e7
          clear hd
          by_cases hdj : d = j
          · have hqq : ((d : Int) == (j : Int)) = true := by rw [beq_iff_eq]; omega
            have hqq2 : (d == j) = true := by rw [beq_iff_eq]; exact hdj
            obtain ⟨j', hj'⟩ := HJ.out
            have hfz : Cy.far n g v n R[i] = j' + 1 := by rw [← HZ.out, ← HDZ.out, hdj, hj']
            have hfind := HPK.out i j' hlt hfz (fun m hm hmi => by rw [← hj']; exact HNF.out m hm hmi)
            rw [← HZ.out] at hfind hfz
            have HPR2 : Hid ((pre ++ [z]) ++ Cy.back n g v j' z = res) := by
              rw [Hid, ← HPR.out, hj', Cy.back_some hfind, List.append_assoc]
              rfl
            have HFZ := Lib.hid hfz
            have hzn : z < n := Cy.st_node HG.out (Cy.far_some.1 hfz).2.1
            have b5 := alloc_below wr (.cells #[.int .i64 (z : Int)] 3)
            have HO5 := Lib.hid (own_below HO1.out (below_all HBI.out b5))
            have HB5 := Lib.hid (below_all HBJ.out b5)
            have HNW := Lib.hid (new_nC wr (z : Int) 3)
            have HJJ := Lib.hid hj'
            have hjv : (j : Int) - 1 = (j' : Int) := by omega
            have HLN : Hid (∀ h : pre.length < (pre ++ [z]).length, (pre ++ [z])[pre.length] = z) := fun h => by simp
            clear b5 hfind hfz hj' hdj
            go_wp2_with (at_builtin; refine wpList_append_own_at _ rfl _ _ 25 rfl W.heap.size 3 i0 _ 1 8 Try.underlying25 I0.out I1.out I2.out I3.out rfl (by decide) _ pre.length _ rfl HO5.out ⟨wr.heap.size, 0, none⟩ 1 1 (nC (z : Int)) rfl rfl HNW.out (one_nC _) (by simp only [maxLen]; omega) (by omega) HB5.out.size ?_; intro v6 w6 hown6 hgrow6 hnil6 hat6; have HO6 := Lib.hid hown6; have HB6 := Lib.hid (below_append HB5.out HB5.out.size HO5.out hgrow6); obtain ⟨A7, c7, hv7⟩ := own_form hown6; subst hv7; clear hown6 hgrow6 hnil6 hat6)
            go_roundw
            case rel => exact ⟨pre ++ [z], z, j', pre.length, A7, c7, hzn, by simp, by simp, by rw [List.length_append]; rfl, by go_num, by rw [List.length_append, List.length_singleton]; omega, HLN.out, HPR2.out, HFZ.out, by have := nums_more HO6.out; rw [List.length_append] at this ⊢; exact this, HB6.out⟩
            case measure => simp [intOf]; omega
          · have hqq : ((d : Int) == (j : Int)) = false := by rw [beq_eq_false_iff_ne]; omega
            have hqq2 : (d == j) = false := by rw [beq_eq_false_iff_ne]; exact hdj
            have HN2 : Hid (∀ m (hm : m < R.length), m < i + 1 → Cy.far n g v n R[m] ≠ j) := fun m hm hmi => by
              rcases Nat.lt_succ_iff_lt_or_eq.1 hmi with q | q
              · exact HNF.out m hm q
              · subst q; rw [← HZ.out, ← HDZ.out]; exact hdj
            clear hdj
            go_wp2_with fail
            go_roundw
            case rel => exact ⟨i + 1, by omega, rfl, by go_num, HN2.out, HBI.out⟩
            case measure => simp [intOf]; omega
        · obtain rfl : i = R.length := by omega
          obtain ⟨j', hj'⟩ := HJ.out
          obtain ⟨m, hm, hf⟩ := HTH.out j' (by rw [HFX.out, hj'])
          exact absurd (hf.trans hj'.symm) (HNF.out m hm hm)
    · obtain rfl : j = 0 := by omega
      have HP2 : Hid (pre = res) := by have := HPR.out; rw [Cy.back, List.append_nil] at this; exact this
      clear hj0 hls
      go_wp2_with fail
      go_ret
      exact ⟨_, rfl, by rw [← HP2.out]; exact HO.out.mono BW2.out.size, below_all BW2.out HBL.out⟩
end Go.Proofs.Ytgapcjgmmlffmaa
