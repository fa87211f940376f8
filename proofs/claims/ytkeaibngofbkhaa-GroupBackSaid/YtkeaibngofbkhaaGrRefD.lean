/-
  What the reference's Group of layer 5 answers, for every row of events: Gr.groupR; what was in memory stays as it was.
  Conditions: a row has at most 2^32 elements.
-/
import Derived.Test.YtkeaibngofbkhaaGrRefC
namespace Go.Proofs.Ytkeaibngofbkhaa
open Go.RowKit

theorem bool_info : (Try.prog.info? 4).map (fun i => (i.zero, i.size, i.bytes)) = some (some (.bool false), 1, 1) := by kernel_rfl
theorem one_bool : ∀ u ∈ [Value.bool true], u.oneCell' = true := by
  intro u hu
  rw [List.mem_singleton.1 hu]
  rfl

/-- What the loop holds at the head of each round. -/
def RefRel (w : World) (l : List Ev.Event) (v vo i : Value) (wr : World) : Prop :=
  ∃ (k : Nat) (p : List (Gr.Tx × Value)), k ≤ l.length ∧ i = .int .i64 k ∧ Gr.run 0 [] (l.take k) = none ∧ RefAt w wr v vo (Gr.go 0 [] (l.take k)) p

namespace Gr
theorem fault_arg (st : List (Tx × Bool)) (e : Ev.Event) (h : Ev.right e = false) : fault st e = 1 := by rw [fault, if_pos h]
theorem fault_open (st : List (Tx × Bool)) (e : Ev.Event) (h : Ev.right e = true) (hk : e.kind = 0) (ho : hasOpen st e.session = true) : fault st e = 5 := by rw [fault, if_neg (by rw [h]; simp), if_pos hk, if_pos ho]
theorem fault_many (st : List (Tx × Bool)) (e : Ev.Event) (h : Ev.right e = true) (hk : e.kind = 0) (ho : hasOpen st e.session = false) (hl : st.length = 32) : fault st e = 4 := by rw [fault, if_neg (by rw [h]; simp), if_pos hk, if_neg (by rw [ho]; simp), if_pos hl]
theorem fault_begin (st : List (Tx × Bool)) (e : Ev.Event) (h : Ev.right e = true) (hk : e.kind = 0) (ho : hasOpen st e.session = false) (hl : st.length ≠ 32) : fault st e = 0 := by rw [fault, if_neg (by rw [h]; simp), if_pos hk, if_neg (by rw [ho]; simp), if_neg hl]
theorem fault_shut (st : List (Tx × Bool)) (e : Ev.Event) (h : Ev.right e = true) (hk : e.kind ≠ 0) (ho : hasOpen st e.session = false) : fault st e = 6 := by rw [fault, if_neg (by rw [h]; simp), if_neg hk, if_neg (by rw [ho]; simp)]
theorem fault_none (st : List (Tx × Bool)) (e : Ev.Event) (h : Ev.right e = true) (hk : e.kind ≠ 0) (ho : hasOpen st e.session = true) : fault st e = 0 := by rw [fault, if_neg (by rw [h]; simp), if_neg hk, if_pos ho]
end Gr

set_option maxHeartbeats 4000000 in
set_option maxRecDepth 4000 in
theorem rGroup_at (l : List Ev.Event) (v : Value) (w : World) (hv : Evs w v l) (hl : l.length ≤ 4294967296) : Calls Try.prog 9 #[v] w (RetTxs w (Gr.groupR l)) := by
  obtain ⟨i0, hi0, hz0, hz1, hz2⟩ := info_parts ev_info
  have I0 := Lib.hid hi0
  have I1 := Lib.hid hz0
  have I2 := Lib.hid hz1
  have I3 := Lib.hid hz2
  clear hi0 hz0 hz1 hz2
  obtain ⟨j0, hi0, hz0, hz1, hz2⟩ := info_parts gt_info
  have J0 := Lib.hid hi0
  have J1 := Lib.hid hz0
  have J2 := Lib.hid hz1
  have J3 := Lib.hid hz2
  clear hi0 hz0 hz1 hz2
  obtain ⟨b0, hi0, hz0, hz1, hz2⟩ := info_parts bool_info
  have K0 := Lib.hid hi0
  have K1 := Lib.hid hz0
  have K2 := Lib.hid hz1
  have K3 := Lib.hid hz2
  clear hi0 hz0 hz1 hz2
  obtain ⟨A, c, rfl, hform⟩ := hv.spelled
  have HF := Lib.hid hform
  clear hform hv
  go_enter Try.func9, Try.ntmps9
  go_wp2
  go_loopw [5, 6, 7] (fun v vo i wr => RefRel w l v vo i wr) (fun _ _ i _ => l.length - (intOf i).toNat)
  case atStart => exact ⟨0, [], Nat.zero_le _, rfl, rfl, ⟨OwnTxs.nil _ _ _ _, World.ownsRow_nil _ _ _ _, rfl, Gr.Fine.nil, Below.refl _ _⟩⟩
  case round =>
    obtain ⟨k, p, hk, rfl, hrun, hat⟩ := hrel
    have HU := Lib.hid hrun
    have HG := Lib.hid hat
    obtain ⟨A', cp, rfl⟩ := own_form hat.own.row
    obtain ⟨Ao, co, rfl⟩ := own_form hat.opn
    clear hrun hat
    by_cases hlt : k < l.length
    · obtain ⟨ad, rfl, hblk, hE⟩ := HF.out k hlt
      obtain ⟨x, hx⟩ : ∃ x, x = l[k]'hlt := ⟨_, rfl⟩
      have HT := Lib.hid (Gr.run_take l k hlt HU.out)
      rw [← hx] at hE HT
      have HE := Lib.hid (hE.below hblk HG.out.below)
      have hc0 := HE.out.c0
      have hc1 := HE.out.c1
      have hc2 := HE.out.c2
      have hc3 := HE.out.c3
      have HOL := Lib.hid (Gr.ops_le _ HU.out)
      generalize Gr.go 0 [] (l.take k) = st at *
      have HL := Lib.hid HG.out.len
      have h32 : p.length ≤ 32 := by rw [HL.out]; exact HG.out.fine.len
      have hs32 : st.length ≤ 32 := HG.out.fine.len
      have HFI := Lib.hid HG.out.fine
      clear hE hx
      go_wp2_with fail
      refine (rEvRight_at x _).mono ?_
      rintro e w1 ⟨rfl, hb1⟩
      have HG1 := Lib.hid (HG.out.later (below_new hb1))
      have e0 : w1.cell? ⟨wr.heap.size, 0, none⟩ = some (.int .i64 x.kind) := (hb1.cell (by simp)).trans (new_cell wr _ _ 0 _ rfl)
      have e1 : w1.cell? ⟨wr.heap.size, 1, none⟩ = some (.int .i64 x.session) := (hb1.cell (by simp)).trans (new_cell wr _ _ 1 _ rfl)
      have e2 : w1.cell? ⟨wr.heap.size, 2, none⟩ = some (.int .i64 x.key) := (hb1.cell (by simp)).trans (new_cell wr _ _ 2 _ rfl)
      have e3 : w1.cell? ⟨wr.heap.size, 3, none⟩ = some (.int .i64 x.value) := (hb1.cell (by simp)).trans (new_cell wr _ _ 3 _ rfl)
      have HWS := Lib.hid (World.block_lt_of_cell? w1 _ e0)
      have HGS : Hid (∀ g, (Value.slice A' p.length cp).ownBlock = some g → g < wr.heap.size) := fun g hg => (HG.out.own.row.lt g hg).2
      have HGO : Hid (∀ g, (Value.slice Ao st.length co).ownBlock = some g → g < wr.heap.size) := fun g hg => (HG.out.opn.lt g hg).2
      clear hb1 hc0 hc1 hc2 hc3 HE HG
      cases hr : Ev.right x with
      | false =>
        have hq := Gr.fault_arg st x hr
        have HR := Lib.hid (Gr.group_bad l k _ (HT.out.2 (by rw [hq]; decide)))
        rw [hq] at HR
        clear hq hr HT
        go_wp2_with fail
        refine bodyPost_ret (results_tmp3 rfl _ _ _) rfl ?_
        exact RetTxs.mk _ _ _ (by rw [HR.out]) (by rw [HR.out]) (by rw [HR.out]; exact Txs.nil _ _) HG1.out.below
      | true =>
        have HRI := Lib.hid hr
        clear hr
        have HTX := Lib.hid HG1.out.txs
        go_wp2_with fail
        refine (rLast_at (st.map (·.1)) _ x.session w1 HTX.out (by rw [List.length_map]; omega)).mono ?_
        rintro e w2 ⟨r, rfl, hlast, rfl⟩
        -- whether one is open, and where it stands
        obtain ⟨o, ho, hcase⟩ : ∃ o, Gr.hasOpen st x.session = o ∧ ((r = -1 ∧ o = false) ∨ ∃ j : Nat, ∃ hj : j < st.length, r = (j : Int) ∧ st[j].2 = o ∧ st[j].1.session = x.session) := by
          refine ⟨_, rfl, ?_⟩
          rcases hlast with ⟨rfl, h⟩ | ⟨j, hj, rfl, hs, h⟩
          · exact .inl ⟨rfl, Gr.hasOpen_none st x.session (fun j hj => by have := h j (by simpa using hj); simpa using this)⟩
          · have hj' : j < st.length := by simpa using hj
            rw [List.getElem_map] at hs
            refine .inr ⟨j, hj', rfl, ?_, hs⟩
            exact (Gr.hasOpen_last HFI.out x.session j hj' hs (fun i hi hij => by have := h i (by simpa using hi) hij; simpa using this)).symm
        clear hlast
        cases o with
        | false =>
          have hset : r = -1 ∨ ∃ (j go : Nat), r = (j : Int) ∧ Ao = some ⟨go, 0, none⟩ ∧ j < st.length ∧ w1.cell? ⟨go, j, none⟩ = some (.bool false) := by
            rcases hcase with ⟨rfl, _⟩ | ⟨j, hj, rfl, hsj, hss⟩
            · exact .inl rfl
            · obtain ⟨go, co', hv', hcj, _⟩ := HG1.out.cell j hj
              cases hv'
              rw [hsj] at hcj
              exact .inr ⟨j, go, rfl, rfl, hj, hcj⟩
          have HO := Lib.hid ho
          clear hcase ho
          rcases hset with rfl | ⟨j, go, rfl, rfl, hj, hcj⟩
          all_goals
            by_cases hk0 : x.kind = 0
            · have hkb : (x.kind == 0) = true := by rw [beq_iff_eq]; exact hk0
              by_cases hn : st.length = 32
              · have hq := Gr.fault_many st x HRI.out hk0 HO.out hn
                have HR := Lib.hid (Gr.group_bad l k _ (HT.out.2 (by rw [hq]; decide)))
                rw [hq] at HR
                have hnb : (((p.length : Nat) : Int) == 32) = true := by rw [HL.out, hn]; rfl
                clear hq HT hn hk0
                go_wp2_with fail
                refine bodyPost_ret (results_tmp3 rfl _ _ _) rfl ?_
                exact RetTxs.mk _ _ _ (by rw [HR.out]) (by rw [HR.out]) (by rw [HR.out]; exact Txs.nil _ _) HG1.out.below
              · have hq := Gr.fault_begin st x HRI.out hk0 HO.out hn
                obtain ⟨hr1, hr2⟩ := HT.out.1 hq
                have HQ := Lib.hid hq
                have HK0 := Lib.hid hk0
                have HR1 := Lib.hid hr1
                have HR2 := Lib.hid hr2
                have hnb : (((p.length : Nat) : Int) == 32) = false := by
                  rw [beq_eq_false_iff_ne, HL.out]; omega
                have HO1 := Lib.hid ((HG1.out.own.below (alloc_below w1 (.cells #[.int .i64 x.session, .bool false, .int .i64 (k : Int), .slice none 0 0] 40))).row)
                have HB1 := Lib.hid (below_all HG1.out.below (alloc_below w1 (.cells #[.int .i64 x.session, .bool false, .int .i64 (k : Int), .slice none 0 0] 40)))
                have HP1 := Lib.hid (HG1.out.opn.alloc (.cells #[.int .i64 x.session, .bool false, .int .i64 (k : Int), .slice none 0 0] 40))
                clear hq hk0 hr1 hr2 HT hn
                go_wp2_with (first
                  | (at_builtin; refine wpList_append_own_at _ rfl (.tmp 48) (.tmp 53) 30 rfl w.heap.size 40 j0 _ 4 48 Try.underlying30 J0.out J1.out J2.out J3.out rfl (by decide) _ p.length (p.flatMap txC) rfl HO1.out ⟨w1.heap.size, 0, none⟩ 1 1 (txC (⟨x.session, false, (k : Int), []⟩, .slice none 0 0)) rfl rfl (new_tx w1 _ _ _) (one_tx _) (by simp only [maxLen]; omega) (by omega) HB1.out.size ?_; intro v' w3 hown' hgrow hnil hat; have HO3 := Lib.hid hown'; have HG3 := Lib.hid hgrow; have HA3 := Lib.hid hat; have HB3 := Lib.hid (below_append HB1.out HB1.out.size HO1.out hgrow); have HP3 := Lib.hid ((HP1.out.kept hgrow (own_types HP1.out HO1.out (by decide))).alloc (.cells #[.bool true] 4)); have HB4 := Lib.hid (below_all HB3.out (alloc_below w3 (.cells #[.bool true] 4))); clear hown' hgrow hnil hat)
                  | (at_builtin; refine wpList_append_own_at _ rfl (.tmp 55) (.tmp 56) 49 rfl w.heap.size 4 b0 _ 1 1 Try.underlying49 K0.out K1.out K2.out K3.out rfl (by decide) _ st.length (openC st) rfl HP3.out ⟨w3.heap.size, 0, none⟩ 1 1 [.bool true] rfl rfl (new_one _ _ _) one_bool (by simp only [maxLen]; omega) (by omega) HB4.out.size ?_; intro vo' w4 hown' hgrow hnil hat; have HO4 := Lib.hid hown'; have HG4 := Lib.hid hgrow; clear hown' hgrow hnil hat))
                go_roundw
                case rel =>
                  have hgo := HG1.out.begin x k _ _ HK0.out HQ.out HO3.out HG3.out HA3.out HO4.out HG4.out
                  rw [← HR2.out] at hgo
                  exact ⟨k + 1, _, by omega, by go_num, HR1.out, hgo⟩
                case measure => simp [intOf]; omega
            · have hkb : (x.kind == 0) = false := by rw [beq_eq_false_iff_ne]; exact hk0
              have hq := Gr.fault_shut st x HRI.out hk0 HO.out
              have HR := Lib.hid (Gr.group_bad l k _ (HT.out.2 (by rw [hq]; decide)))
              rw [hq] at HR
              clear hq HT hk0
              go_wp2_with fail
              refine bodyPost_ret (results_tmp3 rfl _ _ _) rfl ?_
              exact RetTxs.mk _ _ _ (by rw [HR.out]) (by rw [HR.out]) (by rw [HR.out]; exact Txs.nil _ _) HG1.out.below
        | true =>
          obtain ⟨j, hj, rfl, hsj, hss⟩ : ∃ j : Nat, ∃ hj : j < st.length, r = (j : Int) ∧ st[j].2 = true ∧ st[j].1.session = x.session := by
            rcases hcase with ⟨_, h⟩ | h
            · cases h
            · exact h
          have HMI := Lib.hid (Gr.mine_at hj hss hsj)
          have HJ := Lib.hid hj
          have hjp : j < p.length := by rw [HL.out]; exact hj
          obtain ⟨go, co', hv', hcj, hfj⟩ := HG1.out.cell j hj
          cases hv'
          rw [hsj] at hcj
          obtain ⟨g, cp', hv', hcl⟩ := HG1.out.own.form j hjp
          cases hv'
          have HO := Lib.hid ho
          clear hcase ho hsj hss
          by_cases hk0 : x.kind = 0
          · have hkb : (x.kind == 0) = true := by rw [beq_iff_eq]; exact hk0
            have hq := Gr.fault_open st x HRI.out hk0 HO.out
            have HR := Lib.hid (Gr.group_bad l k _ (HT.out.2 (by rw [hq]; decide)))
            rw [hq] at HR
            clear hq HT hk0 hcl
            go_wp2_with fail
            refine bodyPost_ret (results_tmp3 rfl _ _ _) rfl ?_
            exact RetTxs.mk _ _ _ (by rw [HR.out]) (by rw [HR.out]) (by rw [HR.out]; exact Txs.nil _ _) HG1.out.below
          · have hkb : (x.kind == 0) = false := by rw [beq_eq_false_iff_ne]; exact hk0
            have hq := Gr.fault_none st x HRI.out hk0 HO.out
            obtain ⟨hr1, hr2⟩ := HT.out.1 hq
            have HQ := Lib.hid hq
            have HK0 := Lib.hid hk0
            have HR1 := Lib.hid hr1
            have HR2 := Lib.hid hr2
            have hgw : g < wr.heap.size := HGS.out g rfl
            have hgo : go < wr.heap.size := HGO.out go rfl
            have hgg : g ≠ go := by
              rcases own_types HG1.out.own.row HG1.out.opn (by decide) with e | e
              · cases e
              · exact fun e' => e (by rw [e']; rfl)
            cases hkey : Ev.hasKey x.kind with
            | true =>
              have HKE := Lib.hid hkey
              have key : (x.kind == 1) = true ∨ (x.kind == 1) = false ∧ (x.kind == 2) = true := by
                rcases (Ev.hasKey_iff _).1 hkey with h | h
                · exact .inl (by rw [beq_iff_eq]; exact h)
                · exact .inr ⟨by rw [beq_eq_false_iff_ne]; omega, by rw [beq_iff_eq]; exact h⟩
              obtain ⟨d1, f1⟩ := hcl 3 (by omega)
              have d2 : w1.cell? ⟨g, j * 4 + 3, none⟩ = some p[j].2 := d1
              have hol : p[j].1.ops.length ≤ 4294967296 := by
                have h1 := HOL.out st[j] (List.getElem_mem hj)
                rw [List.length_take] at h1
                rw [HG1.out.at j hjp hj]
                omega
              have HOO := Lib.hid (own_drewN ((HG1.out.own.ops _ (List.getElem_mem hjp)).alloc (.cells #[.int .i64 x.kind, .int .i64 x.session, .int .i64 x.key, .int .i64 x.value] 44)) 1)
              have HGA := Lib.hid ((HG1.out.later (alloc_below w1 (.cells #[.int .i64 x.kind, .int .i64 x.session, .int .i64 x.key, .int .i64 x.value] 44))).later (drewN_below _ 1))
              have HC : Hid (∀ w2, ((w1.alloc (.cells #[.int .i64 x.kind, .int .i64 x.session, .int .i64 x.key, .int .i64 x.value] 44)).drewN 1).grownBy w2 p[j].2.ownBlock → w2.cell? ⟨g, j * 4 + 3, none⟩ = some p[j].2 ∧ w2.frozen? ⟨g, j * 4 + 3, none⟩ = false) := fun w2 hg => by
                have hgs := (HGA.out.own.row.lt g rfl).2
                have hne : some g ≠ p[j].2.ownBlock := by
                  rcases HG1.out.own.apart _ (List.getElem_mem hjp) with e | e
                  · rw [e]; simp
                  · exact fun e' => e e'.symm
                obtain ⟨_, _, hv2, hcl2⟩ := HGA.out.own.form j hjp
                cases hv2
                exact ⟨(hg.cell_far ⟨g, j * 4 + 3, none⟩ hgs hne).trans (hcl2 3 (by omega)).1, (hg.frozen_far ⟨g, j * 4 + 3, none⟩ hgs hne).trans (hcl2 3 (by omega)).2⟩
              have d3 : (w1.alloc (.cells #[.int .i64 x.kind, .int .i64 x.session, .int .i64 x.key, .int .i64 x.value] 44)).cell? ⟨g, j * 4 + 3, none⟩ = some p[j].2 := ((alloc_below w1 _).cell (HG1.out.own.row.lt g rfl).2).trans d2
              have HNE := Lib.hid (new_ev w1 x 44)
              have HBS := Lib.hid (Nat.le_trans HG1.out.below.size (Nat.le_succ w1.heap.size))
              clear hq hk0 hr1 hr2 HT hkey d1 hcl
              rcases key with k1 | ⟨k1, k2⟩
              all_goals
                go_wp2_with fail
                go_region_law (refine step_append_lies _ rfl (.tmp 75) (.tmp 77) 22 rfl w.heap.size 44 i0 _ 4 32 Try.underlying22 I0.out I1.out I2.out I3.out rfl (by decide) p[j].2 p[j].1.ops.length (p[j].1.ops.flatMap evCells) (by simp [Act.eval]) HOO.out ⟨w1.heap.size, 0, none⟩ 1 1 (evCells x) (by simp [Act.eval]) rfl HNE.out (one_evs x) (by decide) (by simp only [maxLen]; omega) (by omega) (by simp; exact HBS.out) (w1.heap.size + 1) (by simp) ?_; intro g2 cap2 w2 hown2 hgrow2 hat2 hlt2; obtain ⟨c3, f3⟩ := HC.out w2 hgrow2; have HO2 := Lib.hid hown2; have HG2 := Lib.hid hgrow2; have HA2 := Lib.hid hat2; clear hown2 hgrow2 hat2 hlt2)
                all_goals
                  go_wp2_with fail
                  go_roundw
                  case rel =>
                    have hgo := HGA.out.op x k j hjp HJ.out HMI.out HK0.out HKE.out HQ.out HO2.out HG2.out (HA2.out.imp (fun h => h.symm) (fun h => by rw [h]; simp [Value.ownBlock, World.drewN]))
                    rw [← HR2.out] at hgo
                    exact ⟨k + 1, _, by omega, by go_num, HR1.out, hgo⟩
                  case measure => simp [intOf]; omega
            | false =>
              have HKE := Lib.hid hkey
              have k1 : (x.kind == 1) = false := by rw [beq_eq_false_iff_ne]; exact fun h => by rw [(Ev.hasKey_iff _).2 (.inl h)] at hkey; cases hkey
              have k2 : (x.kind == 2) = false := by rw [beq_eq_false_iff_ne]; exact fun h => by rw [(Ev.hasKey_iff _).2 (.inr h)] at hkey; cases hkey
              obtain ⟨d1, f1⟩ := hcl 1 (by omega)
              have d2 : w1.cell? ⟨g, j * 4 + 1, none⟩ = some (.bool p[j].1.done) := d1
              have s0 : (w1.setCell ⟨go, j, none⟩ (.bool false)).cell? ⟨wr.heap.size, 0, none⟩ = some (.int .i64 x.kind) := (far_cell (by show wr.heap.size ≠ go; omega)).trans e0
              have s1 : (w1.setCell ⟨go, j, none⟩ (.bool false)).cell? ⟨g, j * 4 + 1, none⟩ = some (.bool p[j].1.done) := (far_cell hgg).trans d2
              have s2 : (w1.setCell ⟨go, j, none⟩ (.bool false)).frozen? ⟨g, j * 4 + 1, none⟩ = false := (World.frozen?_setCell _ _ _ _).trans f1
              obtain ⟨b, hb⟩ : ∃ b, (x.kind == 3) = b := ⟨_, rfl⟩
              have HB3 := Lib.hid hb
              clear hq hk0 hr1 hr2 HT hkey d1 hcl
              go_wp2_with fail
              go_roundw
              case rel =>
                have hgo := HG1.out.close x b HB3.out k j hjp HJ.out HMI.out HK0.out HKE.out HQ.out
                rw [← HR2.out] at hgo
                exact ⟨k + 1, _, by omega, by go_num, HR1.out, hgo⟩
              case measure => simp [intOf]; omega
    · have HR : Hid (Gr.groupR l = (p.map (·.1), 0, 0)) := by
        have h : l.take k = l := List.take_of_length_le (by omega)
        have h1 := HU.out
        have h2 := HG.out.same
        rw [h] at h1 h2
        rw [Hid, Gr.group_ok l h1, h2]
      generalize Gr.go 0 [] (l.take k) = st at *
      go_wp2_with fail
      refine bodyPost_ret (results_tmp3 rfl _ _ _) rfl ?_
      exact RetTxs.mk _ _ _ (by rw [HR.out]) (by rw [HR.out]) (by rw [HR.out]; exact HG.out.own.txs) HG.out.below
end Go.Proofs.Ytkeaibngofbkhaa
