/-
  What the reference's Comps of layer 14 answers, and the laws' rows of two rows of rows that are the same.
  Conditions: the graph is valid.
-/
import Derived.Test.YtameeegmbpiiaaaScRefA
import Derived.Test.YtameeegmbpiiaaaSoRef
import Derived.Deep.AppendLies
set_option maxRecDepth 4000
namespace Go.Proofs.Ytameeegmbpiiaaa
open Go.RowKit

theorem rr_info : (Try.prog.info? 31).map (fun i => (i.zero, i.size, i.bytes)) = some (some (.slice none 0 0), 1, 24) := by kernel_rfl
theorem rr_yes {p : List (List Nat × Value)} {l : List (List Nat)} (h : p.map (·.1) = l) (x : Nat) (y : List Nat × Value) (u : Value) (hk : p.length < (p ++ [y]).length) (hy : (p ++ [y])[p.length].1 = []) : ((p ++ [y]).set p.length ((p ++ [y])[p.length].1 ++ [x], u)).map (·.1) = l ++ [[x]] := by
  rw [hy, List.set_append_right _ _ (Nat.le_refl _), Nat.sub_self, List.set_cons_zero, List.map_append, h]
  rfl
theorem rr_no {p : List (List Nat × Value)} {l : List (List Nat)} (h : p.map (·.1) = l) (k x : Nat) (hk : k < p.length) (hl : k < l.length) (u : Value) : (p.set k (p[k].1 ++ [x], u)).map (·.1) = l.set k (l[k] ++ [x]) := by
  subst h
  rw [List.map_set]
  congr 1
  rw [List.getElem_map]

set_option maxHeartbeats 8000000 in
theorem rComps14_at (n : Nat) (u : Value) (g0 : List Nat) (w : World) (hu : Us w u g0) (hg : Gf.Ok n g0) : Calls Try.prog 12 #[.agg #[.int .i64 n, u]] w (RetRR w (Sc.comps (Sc.tog n g0) n)) := by
  obtain ⟨i0, hi0, hz0, hz1, hz2⟩ := info_parts int_info
  have I0 := Lib.hid hi0
  have I1 := Lib.hid hz0
  have I2 := Lib.hid hz1
  have I3 := Lib.hid hz2
  clear hi0 hz0 hz1 hz2
  obtain ⟨j0, hi0, hz0, hz1, hz2⟩ := info_parts rr_info
  have J0 := Lib.hid hi0
  have J1 := Lib.hid hz0
  have J2 := Lib.hid hz1
  have J3 := Lib.hid hz2
  clear hi0 hz0 hz1 hz2
  have HU := Lib.hid hu
  have T0 := Lib.hid (Two.new w 26 (.int .i64 n) u)
  have BW := Lib.hid (alloc_below w (.cells #[.int .i64 n, u] 26))
  obtain ⟨A0, c0', rfl, -⟩ := hu.spelled
  have h64 := hg.1
  have FW := Lib.hid (fun w h => rWhich14_at n (.slice A0 g0.length c0') g0 w h hg)
  have HE := Lib.hid (Sc.tog_eqv hg)
  clear hu hg
  generalize Sc.tog n g0 = t at *
  have HZ : Hid (Sc.comps t 0 = []) := rfl
  have HWL := Lib.hid (Sc.which_len (t := t) n)
  have HWA := Lib.hid (fun x h => Sc.which_at (t := t) (n := n) (x := x) h)
  have HCL := Lib.hid (fun x => Sc.comps_len (t := t) x)
  have HCY := Lib.hid (fun x h => Sc.comps_yes HE.out (n := x) h)
  have HCN := Lib.hid (fun x h h2 => Sc.comps_no HE.out (n := x) h h2)
  have HWY := Lib.hid (fun x h => Sc.wh_lead HE.out (x := x) h)
  have HWN := Lib.hid (fun x h => Sc.wh_less HE.out (x := x) h)
  have HML := Lib.hid (fun x => Sc.many_le (t := t) x)
  go_enter Try.func12, Try.ntmps12
  go_wp2_with fail
  generalize w.alloc (.cells #[.int .i64 n, .slice A0 g0.length c0'] 26) = W at *
  refine (FW.out _ (HU.out.below BW.out)).mono ?_
  rintro e w1 ⟨v1, rfl, ho1, hb1⟩
  obtain ⟨A1, c1, rfl, hf1⟩ := (nums_own ho1).nums
  have T1 := Lib.hid (T0.out.later hb1)
  have B1 := Lib.hid (below_all BW.out hb1)
  have HF1 := Lib.hid hf1
  clear hb1 T0 BW hf1 ho1
  rw [HWL.out]
  go_wp2_with fail
  go_loopw [4, 5] (fun v i wr => ∃ (x : Nat) (p : List (List Nat × Value)), x ≤ n ∧ i = .int .i64 x ∧ Hid (p.map (·.1) = Sc.comps t x) ∧ Hid (OwnRR wr w1.heap.size v p) ∧ Hid (Below w1.heap.size w1 wr)) (fun _ i _ => n - (intOf i).toNat)
  case atStart => exact ⟨0, [], Nat.zero_le _, rfl, HZ.out.symm, OwnRR.nil _ _, Below.refl _ _⟩
  case round =>
    obtain ⟨x, p, hx, rfl, HP, HO, HB⟩ := hrel
    obtain ⟨AV, cV, hv⟩ := HO.out.form
    subst hv
    obtain ⟨a0, a1⟩ := (T1.out.later HB.out).cells
    have hpn : p.length = (Sc.comps t x).length := by have := congrArg List.length HP.out; rwa [List.length_map] at this
    by_cases hlt : x < n
    · have hxw : x < (Sc.which t n).length := by rw [HWL.out]; exact hlt
      obtain ⟨adw, rfl, hbw, hcw⟩ := HF1.out x hxw
      rw [HWA.out x hxw] at hcw
      have hx1 := (HB.out.cell (by rw [add_block]; exact hbw)).trans hcw
      have hpl' : p.length ≤ x := by rw [hpn, HCL.out]; exact HML.out x
      have hpl2 : ∀ k (h : k < p.length), p[k].1.length ≤ 4294967296 := by
        intro k h
        have e : p[k].1 = (Sc.comps t x)[k]'(by omega) := by
          have h1 := congrArg (·[k]?) HP.out
          simp only [List.getElem?_map, List.getElem?_eq_getElem h, Option.map_some] at h1
          rw [List.getElem?_eq_getElem (by omega)] at h1
          exact Option.some.inj h1
        rw [e, Sc.comps_at HE.out]
        refine Nat.le_trans (List.length_filter_le _ _) ?_
        rw [List.length_range]
        omega
      have HPN := Lib.hid hpn
      clear hpn
      cases hL : Sc.isL t x with
      | true =>
        have hwm := HWY.out x hL
        have hq : ((Sc.wh t x : Int) == (p.length : Int)) = true := by rw [beq_iff_eq, hwm, HPN.out, HCL.out]
        have hq2 : (Sc.wh t x == p.length) = true := by rw [beq_iff_eq, hwm, HPN.out, HCL.out]
        have HCY2 := Lib.hid (HCY.out x hL)
        have b3 := alloc_below wr (.cells #[.slice none 0 0] 31)
        have HO3 := Lib.hid (HO.out.below b3)
        have HB3 := Lib.hid (below_all HB.out b3)
        have HNW := Lib.hid (show ∀ j u, (rrC ([], .slice none 0 0))[j]? = some u → (wr.alloc (.cells #[.slice none 0 0] 31)).cell? ((⟨wr.heap.size, 0, none⟩ : Addr).add j) = some u from new_row wr (rrC ([], .slice none 0 0)) 31)
        have HWK : Hid (Sc.wh t x = p.length) := by rw [Hid, hwm, HPN.out, HCL.out]
        clear b3 hwm
        generalize Sc.wh t x = K at *
        go_upto_region 8 with (at_builtin; refine wpList_append_own_at _ rfl _ _ 29 rfl w1.heap.size 31 j0 _ 1 24 Try.underlying29 J0.out J1.out J2.out J3.out rfl (by decide) _ p.length _ rfl HO3.out.row ⟨wr.heap.size, 0, none⟩ 1 1 (rrC ([], .slice none 0 0)) rfl rfl HNW.out (one_rrC _ _ _ _) (by simp only [maxLen]; omega) (by omega) HB3.out.size ?_; intro v4 w4 hown4 hgrow4 hnil4 hat4; have HO4 := Lib.hid (HO3.out.snoc hown4 hgrow4); have HB4 := Lib.hid (below_append HB3.out HB3.out.size HO3.out.row hgrow4); obtain ⟨A4, c4, rfl⟩ := own_form hown4; clear hown4 hgrow4 hnil4 hat4)
        have HPP : Hid ((p ++ [(([] : List Nat), Value.slice none 0 0)]).length = p.length + 1) := by rw [Hid, List.length_append]; rfl
        have HLST : Hid (∀ h : p.length < (p ++ [(([] : List Nat), Value.slice none 0 0)]).length, (p ++ [(([] : List Nat), Value.slice none 0 0)])[p.length] = ([], Value.slice none 0 0)) := fun h => by simp
        have HKL : Hid (K < (p ++ [(([] : List Nat), Value.slice none 0 0)]).length) := by rw [Hid, HPP.out, HWK.out]; exact Nat.lt_succ_self _
        have hpl : ∀ h : K < (p ++ [(([] : List Nat), Value.slice none 0 0)]).length, (p ++ [(([] : List Nat), Value.slice none 0 0)])[K].1.length ≤ 4294967296 := by
          intro h
          have e := HWK.out
          subst e
          rw [HLST.out h]
          exact Nat.zero_le _
        have HFIN : Hid (∀ (h : K < (p ++ [(([] : List Nat), Value.slice none 0 0)]).length) (u : Value), ((p ++ [(([] : List Nat), Value.slice none 0 0)]).set K ((p ++ [(([] : List Nat), Value.slice none 0 0)])[K].1 ++ [x], u)).map (·.1) = Sc.comps t (x + 1)) := by
          intro h u
          have e := HWK.out
          subst e
          rw [HCY2.out]
          exact rr_yes HP.out x _ u h (by rw [HLST.out h])
        rw [← HPP.out] at HO4 ⊢
        obtain ⟨P, hP⟩ : ∃ P, P = p ++ [(([] : List Nat), Value.slice none 0 0)] := ⟨_, rfl⟩
        rw [← hP] at HO4 HKL hpl HFIN ⊢
        clear hP HLST HPP HP HO HO3 HWK hx1 hq hq2 HNW
        have hpl := hpl HKL.out
        have hKlt := HKL.out
        obtain ⟨g, c, hvg, o1, f1, hbg⟩ := HO4.out.at K hKlt
        cases hvg
        have e1 := (HB4.out.cell (by rw [add_block]; exact hbw)).trans hcw
        have b5 := alloc_below w4 (.cells #[.int .i64 (x : Int)] 3)
        have o2 := ((HO4.out.below b5).at K hKlt)
        have hgl : g < w4.heap.size := (HO4.out.row.lt g rfl).2
        have e2 := (b5.cell (by rw [add_block]; exact Nat.lt_of_lt_of_le hbw HB4.out.size)).trans e1
        have d2 := (b5.cell (p := ⟨g, K, none⟩) hgl).trans o1
        have HOO := Lib.hid (own_drewN (own_below (HO4.out.ins _ (List.getElem_mem hKlt)) b5) 1)
        have HRA := Lib.hid (HO4.out.below (below_all b5 (drewN_below _ 1)))
        have HBA := Lib.hid (below_all HB4.out (below_all b5 (drewN_below _ 1)))
        have HC : Hid (∀ w2, ((w4.alloc (.cells #[.int .i64 (x : Int)] 3)).drewN 1).grownBy w2 (P[K]'hKlt).2.ownBlock → w2.cell? (adw.add x) = some (.int .i64 (K : Int)) ∧ w2.cell? ⟨g, K, none⟩ = some (P[K]'hKlt).2 ∧ w2.frozen? ⟨g, K, none⟩ = false) := fun w2 hg => by
          have hne : some g ≠ (P[K]'hKlt).2.ownBlock := by
            rcases HO4.out.apart (List.getElem_mem hKlt) with e | e
            · rw [e]; simp
            · exact fun e' => e e'.symm
          have hnw : some adw.block ≠ (P[K]'hKlt).2.ownBlock := fun e => by
            have := ((HO4.out.ins _ (List.getElem_mem hKlt)).lt adw.block e.symm).1
            omega
          have hgs : g < ((w4.alloc (.cells #[.int .i64 (x : Int)] 3)).drewN 1).heap.size := (HRA.out.row.lt g rfl).2
          have hws : adw.block < ((w4.alloc (.cells #[.int .i64 (x : Int)] 3)).drewN 1).heap.size := Nat.lt_of_lt_of_le hbw HBA.out.size
          refine ⟨(hg.cell_far (adw.add x) (by rw [add_block]; exact hws) (by rw [add_block]; exact hnw)).trans e2, (hg.cell_far ⟨g, K, none⟩ hgs hne).trans d2, (hg.frozen_far ⟨g, K, none⟩ hgs hne).trans ?_⟩
          exact HRA.out.row.frozenAt _
        have HNE := Lib.hid (new_nC w4 (x : Int) 3)
        have HBS := Lib.hid (show w1.heap.size ≤ w4.heap.size + 1 from Nat.le_trans HB4.out.size (Nat.le_succ _))
        have HPL := Lib.hid hpl
        obtain ⟨AK, cK, hvk⟩ := own_form (HO4.out.ins _ (List.getElem_mem hKlt))
        clear b5 o2
        rw [hvk] at o1 d2
        have HVK := Lib.hid hvk
        have HC' : Hid (∀ w2, ((w4.alloc (.cells #[.int .i64 (x : Int)] 3)).drewN 1).grownBy w2 (Value.slice AK (P[K]'hKlt).1.length cK).ownBlock → w2.cell? (adw.add x) = some (.int .i64 (K : Int)) ∧ w2.cell? ⟨g, K, none⟩ = some (Value.slice AK (P[K]'hKlt).1.length cK) ∧ w2.frozen? ⟨g, K, none⟩ = false) := fun w2 hg => by rw [← hvk] at hg ⊢; exact HC.out w2 hg
        rw [hvk] at HOO
        have hkb : (K : Int) < (P.length : Int) := by omega
        have hk0 : (0 : Int) ≤ (K : Int) := by omega
        clear hvk HC
        go_wp2_with fail
        go_region_law (refine step_append_lies _ rfl (.tmp 35) (.tmp 37) 31 rfl w1.heap.size 3 i0 _ 1 8 Try.underlying31 I0.out I1.out I2.out I3.out rfl (by decide) (.slice AK (P[K]'hKlt).1.length cK) (P[K]'hKlt).1.length ((Bi.nums (P[K]'hKlt).1).flatMap nC) (by simp [Act.eval]) HOO.out ⟨w4.heap.size, 0, none⟩ 1 1 (nC (x : Int)) (by simp [Act.eval]) rfl HNE.out (one_nC _) (by decide) (by have := HPL.out; simp only [maxLen]; omega) (by have := HPL.out; omega) (by simp; exact HBS.out) (w4.heap.size + 1) (by simp) ?_; intro g2 cap2 w5 hown5 hgrow5 hat5 hlt5; obtain ⟨e3, d3, f3⟩ := HC'.out w5 hgrow5; have HO5 := Lib.hid hown5; have HG5 := Lib.hid hgrow5; have HA5 := Lib.hid hat5; clear hown5 hgrow5 hat5 hlt5)
        all_goals
          have HGR := Lib.hid (HRA.out.grow K hKlt ((P[K]'hKlt).1 ++ [x]) (by have := nums_more HO5.out; exact this) (by rw [HVK.out]; exact HG5.out) (by rw [HVK.out]; exact HA5.out.imp (fun h => h.symm) (fun h => by rw [h]; simp [Value.ownBlock, World.drewN])))
          have HB6 := Lib.hid ((below_append HBA.out HBA.out.size HOO.out HG5.out).setCell (p := ⟨g, K, none⟩) hbg (.slice (some ⟨g2, 0, none⟩) ((P[K]'hKlt).1.length + 1) cap2))
          clear e1 e2 e3 o1 d2 d3 f1 f3
          go_wp2_with fail
          go_roundw
          case rel => exact ⟨x + 1, _, by omega, by go_num, HFIN.out _ _, by have := HGR.out; first | exact this | (rw [List.length_set]; exact this), HB6.out⟩
          case measure => simp [intOf]; omega
      | false =>
        have hwm := HWN.out x hL
        have hKp : Sc.wh t x < p.length := by rw [HPN.out, HCL.out]; exact hwm
        have hq : ((Sc.wh t x : Int) == (p.length : Int)) = false := by rw [beq_eq_false_iff_ne]; omega
        have hq2 : (Sc.wh t x == p.length) = false := by rw [beq_eq_false_iff_ne]; omega
        have HKL := Lib.hid hKp
        have hKc : Sc.wh t x < (Sc.comps t x).length := by have := HPN.out; omega
        have HFIN : Hid (∀ (h : Sc.wh t x < p.length) (u : Value), (p.set (Sc.wh t x) (p[Sc.wh t x].1 ++ [x], u)).map (·.1) = Sc.comps t (x + 1)) := by
          intro h u
          rw [HCN.out x hL hKc]
          exact rr_no HP.out _ x h hKc u
        have hpl := hpl2 _ hKp
        clear hwm hKc hpl2
        generalize Sc.wh t x = K at *
        go_upto_region 8 with fail
        clear hq hq2 hx1
        have hKlt := HKL.out
        obtain ⟨g, c, hvg, o1, f1, hbg⟩ := HO.out.at K hKlt
        cases hvg
        have e1 := (HB.out.cell (by rw [add_block]; exact hbw)).trans hcw
        have b5 := alloc_below wr (.cells #[.int .i64 (x : Int)] 3)
        have o2 := ((HO.out.below b5).at K hKlt)
        have hgl : g < wr.heap.size := (HO.out.row.lt g rfl).2
        have e2 := (b5.cell (by rw [add_block]; exact Nat.lt_of_lt_of_le hbw HB.out.size)).trans e1
        have d2 := (b5.cell (p := ⟨g, K, none⟩) hgl).trans o1
        have HOO := Lib.hid (own_drewN (own_below (HO.out.ins _ (List.getElem_mem hKlt)) b5) 1)
        have HRA := Lib.hid (HO.out.below (below_all b5 (drewN_below _ 1)))
        have HBA := Lib.hid (below_all HB.out (below_all b5 (drewN_below _ 1)))
        have HC : Hid (∀ w2, ((wr.alloc (.cells #[.int .i64 (x : Int)] 3)).drewN 1).grownBy w2 (p[K]'hKlt).2.ownBlock → w2.cell? (adw.add x) = some (.int .i64 (K : Int)) ∧ w2.cell? ⟨g, K, none⟩ = some (p[K]'hKlt).2 ∧ w2.frozen? ⟨g, K, none⟩ = false) := fun w2 hg => by
          have hne : some g ≠ (p[K]'hKlt).2.ownBlock := by
            rcases HO.out.apart (List.getElem_mem hKlt) with e | e
            · rw [e]; simp
            · exact fun e' => e e'.symm
          have hnw : some adw.block ≠ (p[K]'hKlt).2.ownBlock := fun e => by
            have := ((HO.out.ins _ (List.getElem_mem hKlt)).lt adw.block e.symm).1
            omega
          have hgs : g < ((wr.alloc (.cells #[.int .i64 (x : Int)] 3)).drewN 1).heap.size := (HRA.out.row.lt g rfl).2
          have hws : adw.block < ((wr.alloc (.cells #[.int .i64 (x : Int)] 3)).drewN 1).heap.size := Nat.lt_of_lt_of_le hbw HBA.out.size
          refine ⟨(hg.cell_far (adw.add x) (by rw [add_block]; exact hws) (by rw [add_block]; exact hnw)).trans e2, (hg.cell_far ⟨g, K, none⟩ hgs hne).trans d2, (hg.frozen_far ⟨g, K, none⟩ hgs hne).trans ?_⟩
          exact HRA.out.row.frozenAt _
        have HNE := Lib.hid (new_nC wr (x : Int) 3)
        have HBS := Lib.hid (show w1.heap.size ≤ wr.heap.size + 1 from Nat.le_trans HB.out.size (Nat.le_succ _))
        have HPL := Lib.hid hpl
        obtain ⟨AK, cK, hvk⟩ := own_form (HO.out.ins _ (List.getElem_mem hKlt))
        clear b5 o2
        rw [hvk] at o1 d2
        have HVK := Lib.hid hvk
        have HC' : Hid (∀ w2, ((wr.alloc (.cells #[.int .i64 (x : Int)] 3)).drewN 1).grownBy w2 (Value.slice AK (p[K]'hKlt).1.length cK).ownBlock → w2.cell? (adw.add x) = some (.int .i64 (K : Int)) ∧ w2.cell? ⟨g, K, none⟩ = some (Value.slice AK (p[K]'hKlt).1.length cK) ∧ w2.frozen? ⟨g, K, none⟩ = false) := fun w2 hg => by rw [← hvk] at hg ⊢; exact HC.out w2 hg
        rw [hvk] at HOO
        have hkb : (K : Int) < (p.length : Int) := by omega
        have hk0 : (0 : Int) ≤ (K : Int) := by omega
        clear hvk HC
        go_wp2_with fail
        go_region_law (refine step_append_lies _ rfl (.tmp 35) (.tmp 37) 31 rfl w1.heap.size 3 i0 _ 1 8 Try.underlying31 I0.out I1.out I2.out I3.out rfl (by decide) (.slice AK (p[K]'hKlt).1.length cK) (p[K]'hKlt).1.length ((Bi.nums (p[K]'hKlt).1).flatMap nC) (by simp [Act.eval]) HOO.out ⟨wr.heap.size, 0, none⟩ 1 1 (nC (x : Int)) (by simp [Act.eval]) rfl HNE.out (one_nC _) (by decide) (by have := HPL.out; simp only [maxLen]; omega) (by have := HPL.out; omega) (by simp; exact HBS.out) (wr.heap.size + 1) (by simp) ?_; intro g2 cap2 w5 hown5 hgrow5 hat5 hlt5; obtain ⟨e3, d3, f3⟩ := HC'.out w5 hgrow5; have HO5 := Lib.hid hown5; have HG5 := Lib.hid hgrow5; have HA5 := Lib.hid hat5; clear hown5 hgrow5 hat5 hlt5)
        all_goals
          have HGR := Lib.hid (HRA.out.grow K hKlt ((p[K]'hKlt).1 ++ [x]) (by have := nums_more HO5.out; exact this) (by rw [HVK.out]; exact HG5.out) (by rw [HVK.out]; exact HA5.out.imp (fun h => h.symm) (fun h => by rw [h]; simp [Value.ownBlock, World.drewN])))
          have HB6 := Lib.hid ((below_append HBA.out HBA.out.size HOO.out HG5.out).setCell (p := ⟨g, K, none⟩) hbg (.slice (some ⟨g2, 0, none⟩) ((p[K]'hKlt).1.length + 1) cap2))
          clear e1 e2 e3 o1 d2 d3 f1 f3
          go_wp2_with fail
          go_roundw
          case rel => exact ⟨x + 1, _, by omega, by go_num, HFIN.out _ _, by have := HGR.out; first | exact this | (rw [List.length_set]; exact this), HB6.out⟩
          case measure => simp [intOf]; omega
    · have hxn : x = n := by omega
      subst hxn
      go_wp2_with fail
      go_ret
      exact ⟨_, rfl, by rw [← HP.out]; exact HO.out.rrs, below_all B1.out HB.out⟩
end Go.Proofs.Ytameeegmbpiiaaa
