/-
  What group.Group answers, for every row of events: Gr.groupR; what was in memory stays as it was.
  Conditions: a row has at most 2^32 elements; each event's session is a number of its kind.
-/
import Derived.Test.YtkeaibngofbkhaaGrMap
import Derived.Deep.RegionLaw
import Derived.BigRegion
namespace Go.Proofs.Ytkeaibngofbkhaa
open Go.RowKit

theorem gtx_info : (Try.prog.info? 26).map (fun i => (i.zero, i.size, i.bytes)) = some (some (.agg #[.int .i64 0, .bool false, .int .i64 0, .slice none 0 0]), 4, 48) := by kernel_rfl

theorem new_tx (w : World) (x : Gr.Tx) (u : Value) (e : TypeId) : ∀ j y, (txC (x, u))[j]? = some y → (w.alloc (.cells #[.int .i64 x.session, .bool x.done, .int .i64 x.first, u] e)).cell? ((⟨w.heap.size, 0, none⟩ : Addr).add j) = some y := by
  intro j y hj
  have e1 : (⟨w.heap.size, 0, none⟩ : Addr).add j = ⟨w.heap.size, j, none⟩ := by
    unfold Addr.add
    split
    · rename_i h; rw [h]
    · simp
  rw [e1]
  exact new_cell w _ _ j y (by rw [← hj, txC, ← List.getElem?_toArray])
theorem one_tx (x : Gr.Tx) : ∀ u ∈ txC (x, .slice none 0 0), u.oneCell' = true := by
  intro u hu
  simp only [txC, List.mem_cons, List.not_mem_nil, or_false] at hu
  rcases hu with rfl | rfl | rfl | rfl
  all_goals rfl

/-- What Group's loop holds at the head of each round. -/
def GroupRel (w : World) (l : List Ev.Event) (v i : Value) (wr : World) : Prop :=
  ∃ (k : Nat) (p : List (Gr.Tx × Value)) (D : DataW Unit), k ≤ l.length ∧ i = .int .i64 k ∧ Gr.run 0 [] (l.take k) = none ∧ GroupAt w wr v (Gr.go 0 [] (l.take k)) p D

set_option maxHeartbeats 1000000 in
theorem group_at (l : List Ev.Event) (v : Value) (w : World) (hv : Evs w v l) (hl : l.length ≤ 4294967296) (hwf : ∀ x ∈ l, evWf x) : Calls Try.prog 8 #[v] w (RetTxs w (Gr.groupR l)) := by
  obtain ⟨i0, hi0, hz0, hz1, hz2⟩ := info_parts ev_info
  have I0 := Lib.hid hi0
  have I1 := Lib.hid hz0
  have I2 := Lib.hid hz1
  have I3 := Lib.hid hz2
  clear hi0 hz0 hz1 hz2
  obtain ⟨j0, hi0, hz0, hz1, hz2⟩ := info_parts gtx_info
  have J0 := Lib.hid hi0
  have J1 := Lib.hid hz0
  have J2 := Lib.hid hz1
  have J3 := Lib.hid hz2
  clear hi0 hz0 hz1 hz2
  obtain ⟨A, c, rfl, hform⟩ := hv.spelled
  have HF := Lib.hid hform
  have HW := Lib.hid hwf
  clear hform hv hwf
  have hmm := @run_makeMap Try.prog
  go_enter Try.func8, Try.ntmps8
  go_wp2
  go_loopw [5, 16] (fun v i wr => GroupRel w l v i wr) (fun _ i _ => l.length - (intOf i).toNat)
  case atStart =>
    have e1 : (w.alloc (.cells #[] 26)).heap.size = w.heap.size + 1 := by simp
    refine ⟨0, [], .map [], Nat.zero_le _, rfl, rfl, ⟨(OwnTxs.lit w _ _ _ (Nat.le_refl _)).below (alloc_below _ _), ?_, rfl, Keeps.start, Gr.Fine.nil, ((Below.refl _ _).alloc (Nat.le_refl _) _).alloc (by simp) _⟩⟩
    rw [← e1]
    exact World.ownsMap_made _ _ _ _
  case round =>
    obtain ⟨k, p, D, hk, rfl, hrun, hat⟩ := hrel
    have HU := Lib.hid hrun
    have HG := Lib.hid hat
    obtain ⟨A', cp, rfl⟩ := own_form hat.own.row
    clear hrun hat
    by_cases hlt : k < l.length
    · obtain ⟨ad, rfl, hblk, hE⟩ := HF.out k hlt
      obtain ⟨x, hx⟩ : ∃ x, x = l[k]'hlt := ⟨_, rfl⟩
      have HT := Lib.hid (Gr.run_take l k hlt HU.out)
      rw [← hx] at hE HT
      have HE := Lib.hid (hE.below hblk HG.out.below)
      have hc0 := HE.out.c0
      have hc1 := HE.out.c1
      have hc2 := HE.out.c2
      have hc3 := HE.out.c3
      have HX : Hid ((Lit.int .i64 x.session).wf = true) := by rw [hx]; exact HW.out _ (List.getElem_mem _)
      have HOL := Lib.hid (Gr.ops_le _ HU.out)
      generalize Gr.go 0 [] (l.take k) = st at *
      have HL := Lib.hid HG.out.len
      have h32 : p.length ≤ 32 := by rw [HL.out]; exact HG.out.fine.len
      have HMB := Lib.hid HG.out.map.lt
      have HER := Lib.hid (Gr.errR_fault st x HG.out.fine.len)
      rw [← HL.out] at HER
      have HH := Lib.hid (HG.out.keeps.has x.session)
      clear hE hx
      cases ho : Gr.hasOpen st x.session with
      | false =>
        rw [ho] at HH HER
        have HAT : Hid (D.atKey (.int .i64 x.session) (.lit (.int .i64 0)) = .lit (.int .i64 0)) := Maps.atKey_of_not_has HH.out _
        have HM1 := Lib.hid (HG.out.map.alloc (.cells #[.int .i64 x.kind, .int .i64 x.session, .int .i64 x.key, .int .i64 x.value] 44))
        go_wp2_with (at_lookup; refine wpList_look _ rfl _ _ 46 rfl 3 3 int_law Try.underlying46 Try.underlying3 (int_zero _) (w.heap.size + 1) st.length D rfl HM1.out _ _ rfl (int_key HX.out) 0 false HAT.out HH.out ?_)
        refine (errorOf_at x false p.length _).mono ?_
        rintro e w1 ⟨rfl, hb1⟩
        have HG1 := Lib.hid (HG.out.later (below_new hb1))
        have e0 : w1.cell? ⟨wr.heap.size, 0, none⟩ = some (.int .i64 x.kind) := (hb1.cell (by simp)).trans (new_cell wr _ _ 0 _ rfl)
        have e1 : w1.cell? ⟨wr.heap.size, 1, none⟩ = some (.int .i64 x.session) := (hb1.cell (by simp)).trans (new_cell wr _ _ 1 _ rfl)
        rw [HER.out]
        clear hb1 hc0 hc1 hc2 hc3 HE HG HM1 HAT HH HER
        by_cases hq : Gr.fault st x = 0
        · rw [hq]
          have hk0 : x.kind = 0 := Decidable.byContradiction fun h => by
            have := (Gr.fault_zero st x hq).2.2 h
            rw [ho] at this
            cases this
          have hkb : (x.kind == 0) = true := by rw [beq_iff_eq]; exact hk0
          obtain ⟨hr1, hr2⟩ := HT.out.1 hq
          have HQ := Lib.hid hq
          have HK0 := Lib.hid hk0
          have HR1 := Lib.hid hr1
          have HR2 := Lib.hid hr2
          clear hq hk0 hr1 hr2 HT
          have hB : w.heap.size + 1 < wr.heap.size := HMB.out
          go_wp2_with (first
            | (at_mapUpdate; refine wpList_mapUpdate_own _ rfl _ _ _ 46 rfl 3 3 int_law Try.underlying46 _ (w.heap.size + 1) st.length D rfl HG1.out.map (by have := HL.out; unfold maxLen; omega) _ _ _ rfl rfl (int_key HX.out) _ [] (int_elem (by omega)) ?_; intro w2 hm2 hg2; have HM2 := Lib.hid hm2; have HG2 := Lib.hid hg2; have f1 : w2.cell? ⟨wr.heap.size, 1, none⟩ = some (.int .i64 x.session) := hg2.cell e1 (by simp; omega); have HO2 := Lib.hid ((HG1.out.row_stays hg2).below (alloc_below w2 (.cells #[.int .i64 x.session, .bool false, .int .i64 (k : Int), .slice none 0 0] 26))); clear hm2 hg2)
            | (at_builtin; refine wpList_append_own_at _ rfl _ _ 23 rfl w.heap.size 26 j0 _ 4 48 Try.underlying23 J0.out J1.out J2.out J3.out rfl (by decide) _ p.length (p.flatMap txC) rfl HO2.out.row ⟨w2.heap.size, 0, none⟩ 1 1 (txC (⟨x.session, false, (k : Int), []⟩, .slice none 0 0)) rfl rfl (new_tx w2 _ _ _) (one_tx _) (by simp only [maxLen]; omega) (by omega) (Nat.le_trans (HG1.out.below_map HG2.out).size (by simp)) ?_; intro v' w3 hown' hgrow hnil hat; have HO3 := Lib.hid hown'; have HG3 := Lib.hid hgrow; have HA3 := Lib.hid hat; clear hown' hgrow hnil hat))
          go_roundw
          case rel =>
            have hgo := HG1.out.begin x k _ HK0.out HQ.out HG2.out HM2.out HO3.out HG3.out HA3.out
            rw [← HR2.out] at hgo
            exact ⟨k + 1, _, _, by omega, by go_num, HR1.out, hgo⟩
          case measure => simp [intOf]; omega
        · have HR := Lib.hid (Gr.group_bad l k _ (HT.out.2 hq))
          have hqb : (Gr.fault st x != 0) = true := by rw [bne_iff_ne]; exact hq
          generalize Gr.fault st x = q at *
          clear hq HT
          go_wp2_with fail
          refine bodyPost_ret (results_tmp3 rfl _ _ _) rfl ?_
          exact RetTxs.mk _ _ _ (by rw [HR.out]) (by rw [HR.out]) (by rw [HR.out]; exact Txs.nil _ _) HG1.out.below
      | true =>
        rw [ho] at HH HER
        obtain ⟨j, hj, hmine, hatk⟩ := HG.out.keeps.place x.session ho
        have hjp : j < p.length := by rw [HL.out]; exact hj
        obtain ⟨g, cp', hv', _⟩ := HG.out.own.form j hjp
        cases hv'
        have HGW := Lib.hid (HG.out.own.row.lt g rfl).2
        have HAT := Lib.hid hatk
        have HMI := Lib.hid hmine
        have HJ := Lib.hid hj
        have HM1 := Lib.hid (HG.out.map.alloc (.cells #[.int .i64 x.kind, .int .i64 x.session, .int .i64 x.key, .int .i64 x.value] 44))
        clear hmine hatk
        go_wp2_with (at_lookup; refine wpList_look _ rfl _ _ 46 rfl 3 3 int_law Try.underlying46 Try.underlying3 (int_zero _) (w.heap.size + 1) st.length D rfl HM1.out _ _ rfl (int_key HX.out) (j : Int) true HAT.out HH.out ?_)
        refine (errorOf_at x true p.length _).mono ?_
        rintro e w1 ⟨rfl, hb1⟩
        have HG1 := Lib.hid (HG.out.later (below_new hb1))
        have e0 : w1.cell? ⟨wr.heap.size, 0, none⟩ = some (.int .i64 x.kind) := (hb1.cell (by simp)).trans (new_cell wr _ _ 0 _ rfl)
        have e1 : w1.cell? ⟨wr.heap.size, 1, none⟩ = some (.int .i64 x.session) := (hb1.cell (by simp)).trans (new_cell wr _ _ 1 _ rfl)
        have e2 : w1.cell? ⟨wr.heap.size, 2, none⟩ = some (.int .i64 x.key) := (hb1.cell (by simp)).trans (new_cell wr _ _ 2 _ rfl)
        have e3 : w1.cell? ⟨wr.heap.size, 3, none⟩ = some (.int .i64 x.value) := (hb1.cell (by simp)).trans (new_cell wr _ _ 3 _ rfl)
        rw [HER.out]
        clear hb1 hc0 hc1 hc2 hc3 HE HG HM1 HAT HH HER
        by_cases hq : Gr.fault st x = 0
        · rw [hq]
          have hk0 : x.kind ≠ 0 := fun h => by
            have := ((Gr.fault_zero st x hq).2.1 h).1
            rw [ho] at this
            cases this
          have hkb : (x.kind == 0) = false := by rw [beq_eq_false_iff_ne]; exact hk0
          obtain ⟨hr1, hr2⟩ := HT.out.1 hq
          have hright := (Ev.right_iff x).1 (Gr.fault_zero st x hq).1
          have HQ := Lib.hid hq
          have HK0 := Lib.hid hk0
          have HR1 := Lib.hid hr1
          have HR2 := Lib.hid hr2
          obtain ⟨g', cp', hv', hcl⟩ := HG1.out.own.form j hjp
          cases hv'
          have hgB : ¬ g = w.heap.size + 1 := fun e => own_not_map' HG1.out.own.row HG1.out.map (by rw [e]; rfl)
          cases hkey : Ev.hasKey x.kind with
          | true =>
            have HKE := Lib.hid hkey
            have h3 : (x.kind == 3) = false := by
              have := (Ev.hasKey_iff _).1 hkey
              rw [beq_eq_false_iff_ne]; omega
            have h4 : (x.kind == 4) = false := by
              have := (Ev.hasKey_iff _).1 hkey
              rw [beq_eq_false_iff_ne]; omega
            obtain ⟨d1, f1⟩ := hcl 3 (by omega)
            have d2 : w1.cell? ⟨g, j * 4 + 3, none⟩ = some p[j].2 := d1
            have hgw : g < wr.heap.size := HGW.out
            have hol : p[j].1.ops.length ≤ 4294967296 := by
              have h1 := HOL.out st[j] (List.getElem_mem hj)
              rw [List.length_take] at h1
              have h2 : p[j].1 = st[j].1 := by
                have h1 := congrArg (·[j]?) HG1.out.same
                simp only [List.getElem?_map, List.getElem?_eq_getElem hjp, List.getElem?_eq_getElem hj, Option.map_some, Option.some.injEq] at h1
                exact h1
              rw [h2]
              omega
            have HOO := Lib.hid (own_drewN ((HG1.out.own.ops _ (List.getElem_mem hjp)).alloc (.cells #[.int .i64 x.kind, .int .i64 x.session, .int .i64 x.key, .int .i64 x.value] 44)) 1)
            have HGA := Lib.hid ((HG1.out.later (alloc_below w1 (.cells #[.int .i64 x.kind, .int .i64 x.session, .int .i64 x.key, .int .i64 x.value] 44))).later (drewN_below _ 1))
            have HC : Hid (∀ w2, ((w1.alloc (.cells #[.int .i64 x.kind, .int .i64 x.session, .int .i64 x.key, .int .i64 x.value] 44)).drewN 1).grownBy w2 p[j].2.ownBlock → w2.cell? ⟨g, j * 4 + 3, none⟩ = some p[j].2 ∧ w2.frozen? ⟨g, j * 4 + 3, none⟩ = false) := fun w2 hg => by
              have hgs := (HGA.out.own.row.lt g rfl).2
              have hne : some g ≠ p[j].2.ownBlock := by
                rcases HG1.out.own.apart _ (List.getElem_mem hjp) with e | e
                · rw [e]; simp
                · exact fun e' => e e'.symm
              obtain ⟨_, _, hv2, hcl2⟩ := HGA.out.own.form j hjp
              cases hv2
              exact ⟨(hg.cell_far ⟨g, j * 4 + 3, none⟩ hgs hne).trans (hcl2 3 (by omega)).1, (hg.frozen_far ⟨g, j * 4 + 3, none⟩ hgs hne).trans (hcl2 3 (by omega)).2⟩
            have d3 : (w1.alloc (.cells #[.int .i64 x.kind, .int .i64 x.session, .int .i64 x.key, .int .i64 x.value] 44)).cell? ⟨g, j * 4 + 3, none⟩ = some p[j].2 := ((alloc_below w1 _).cell (HG1.out.own.row.lt g rfl).2).trans d2
            have HNE := Lib.hid (new_ev w1 x 44)
            have HBS := Lib.hid (Nat.le_trans HG1.out.below.size (Nat.le_succ w1.heap.size))
            clear hq hk0 hr1 hr2 HT hright hkey d1 hcl
            go_wp2_with fail
            go_region_law (refine step_append_lies _ rfl (.tmp 45) (.tmp 47) 22 rfl w.heap.size 44 i0 _ 4 32 Try.underlying22 I0.out I1.out I2.out I3.out rfl (by decide) p[j].2 p[j].1.ops.length (p[j].1.ops.flatMap evCells) (by simp [Act.eval]) HOO.out ⟨w1.heap.size, 0, none⟩ 1 1 (evCells x) (by simp [Act.eval]) rfl HNE.out (one_evs x) (by decide) (by simp only [maxLen]; omega) (by omega) (by simp; exact HBS.out) (w1.heap.size + 1) (by simp) ?_; intro g2 cap2 w2 hown2 hgrow2 hat2 hlt2; obtain ⟨c3, f3⟩ := HC.out w2 hgrow2; have HO2 := Lib.hid hown2; have HG2 := Lib.hid hgrow2; have HA2 := Lib.hid hat2; clear hown2 hgrow2 hat2 hlt2)
            all_goals
              go_wp2_with fail
              go_roundw
              case rel =>
                have hgo := HGA.out.op x k j hjp HJ.out HMI.out HK0.out HKE.out HQ.out HO2.out HG2.out (HA2.out.imp (fun h => h.symm) (fun h => by rw [h]; simp [Value.ownBlock, World.drewN]))
                rw [← HR2.out] at hgo
                exact ⟨k + 1, _, _, by omega, by go_num, HR1.out, hgo⟩
              case measure => simp [intOf]; omega
          | false =>
            have HKE := Lib.hid hkey
            have h34 : (x.kind == 3) = true ∨ (x.kind == 3) = false ∧ (x.kind == 4) = true := by
              have hn : ¬ (x.kind = 1 ∨ x.kind = 2) := fun h => by rw [(Ev.hasKey_iff _).2 h] at hkey; cases hkey
              simp only [beq_iff_eq, beq_eq_false_iff_ne]
              omega
            obtain ⟨d1, f1⟩ := hcl 1 (by omega)
            have d2 : w1.cell? ⟨g, j * 4 + 1, none⟩ = some (.bool p[j].1.done) := d1
            have hgw : g < wr.heap.size := HGW.out
            have HS : Hid (∀ b : Bool, (w1.setCell ⟨g, j * 4 + 1, none⟩ (.bool b)).ownsMap Try.prog 3 (plainElem Try.prog 3) (w.heap.size + 1) st.length D) := fun b => HG1.out.map.setCell (fun e => own_not_map' HG1.out.own.row HG1.out.map (by rw [e]; rfl)) _
            clear hq hk0 hr1 hr2 HT hright hkey d1 hcl
            rcases h34 with h3 | ⟨h3, h4⟩
            · have f2 : (w1.setCell ⟨g, j * 4 + 1, none⟩ (.bool true)).cell? ⟨wr.heap.size, 1, none⟩ = some (.int .i64 x.session) := (far_cell (by show wr.heap.size ≠ g; omega)).trans e1
              have H3 := Lib.hid h3
              go_wp2_with (at_delete; refine wpList_delete_own _ rfl _ _ 46 3 rfl 3 int_law Try.underlying46 _ (w.heap.size + 1) st.length D rfl (HS.out true) _ _ rfl (int_key HX.out) ?_; intro w2 hm2 hg2; have HM2 := Lib.hid hm2; have HG2 := Lib.hid hg2.grown; clear hm2 hg2)
              go_roundw
              case rel =>
                have hgo := HG1.out.close x true H3.out k j hjp HJ.out HMI.out HK0.out HKE.out HQ.out HM2.out HG2.out
                rw [← HR2.out] at hgo
                exact ⟨k + 1, _, _, by omega, by go_num, HR1.out, hgo⟩
              case measure => simp [intOf]; omega
            · have f2 : (w1.setCell ⟨g, j * 4 + 1, none⟩ (.bool false)).cell? ⟨wr.heap.size, 1, none⟩ = some (.int .i64 x.session) := (far_cell (by show wr.heap.size ≠ g; omega)).trans e1
              have H3 := Lib.hid h3
              go_wp2_with (at_delete; refine wpList_delete_own _ rfl _ _ 46 3 rfl 3 int_law Try.underlying46 _ (w.heap.size + 1) st.length D rfl (HS.out false) _ _ rfl (int_key HX.out) ?_; intro w2 hm2 hg2; have HM2 := Lib.hid hm2; have HG2 := Lib.hid hg2.grown; clear hm2 hg2)
              go_roundw
              case rel =>
                have hgo := HG1.out.close x false H3.out k j hjp HJ.out HMI.out HK0.out HKE.out HQ.out HM2.out HG2.out
                rw [← HR2.out] at hgo
                exact ⟨k + 1, _, _, by omega, by go_num, HR1.out, hgo⟩
              case measure => simp [intOf]; omega
        · have HR := Lib.hid (Gr.group_bad l k _ (HT.out.2 hq))
          have hqb : (Gr.fault st x != 0) = true := by rw [bne_iff_ne]; exact hq
          generalize Gr.fault st x = q at *
          clear hq HT
          go_wp2_with fail
          refine bodyPost_ret (results_tmp3 rfl _ _ _) rfl ?_
          exact RetTxs.mk _ _ _ (by rw [HR.out]) (by rw [HR.out]) (by rw [HR.out]; exact Txs.nil _ _) HG1.out.below
    · have HR : Hid (Gr.groupR l = (p.map (·.1), 0, 0)) := by
        have h : l.take k = l := List.take_of_length_le (by omega)
        have h1 := HU.out
        have h2 := HG.out.same
        rw [h] at h1 h2
        rw [Hid, Gr.group_ok l h1, h2]
      generalize Gr.go 0 [] (l.take k) = st at *
      go_wp2_with fail
      refine bodyPost_ret (results_tmp3 rfl _ _ _) rfl ?_
      exact RetTxs.mk _ _ _ (by rw [HR.out]) (by rw [HR.out]) (by rw [HR.out]; exact HG.out.own.txs) HG.out.below
end Go.Proofs.Ytkeaibngofbkhaa
