/-
  What scc's Which and Inner answer.
  Conditions: rows hold sets below 2^64.
  (This program has not all of these functions: scWhich_no, scWhich_yes, scWhich_at are left out here.)
-/
import Derived.Test.YtgapcjgmmlffmaaDoorScComps
import Derived.Test.YtgapcjgmmlffmaaDoorScInn
import Derived.Test.YtgapcjgmmlffmaaDoorGfAll
import Derived.Test.YtgapcjgmmlffmaaDoorScMade
set_option maxRecDepth 4000
namespace Go.Proofs.YtgapcjgmmlffmaaDoor
open Go.RowKit

/-! Reading rows of rows of the call's own, as the walk spells them. -/
theorem OwnRR.spell {w : World} {base : Nat} {v : Value} {p : List (List Nat × Value)} {l : List (List Nat)} (h : OwnRR w base v p) (he : p.map (·.1) = l) (k : Nat) (hk : k < l.length) : ∃ (g c : Nat) (A : Option Addr) (c' : Nat), v = .slice (some ⟨g, 0, none⟩) l.length c ∧ w.cell? ⟨g, k, none⟩ = some (.slice A l[k].length c') ∧ g < w.heap.size ∧
    ∀ w', OwnRR w' base v p → ∀ d (hd : d < l[k].length), ∃ b, A = some ⟨b, 0, none⟩ ∧ b < w'.heap.size ∧ w'.cell? ⟨b, d, none⟩ = some (.int .i64 (l[k][d] : Nat)) := by
  subst he
  rw [List.length_map] at hk
  obtain ⟨g, c, hv, hc, _, _⟩ := h.at k hk
  have ho := h.ins _ (List.getElem_mem hk)
  obtain ⟨A, c', hA⟩ := own_form ho
  simp only [List.getElem_map, List.length_map]
  refine ⟨g, c, A, c', hv, by rw [← hA]; exact hc, (h.row.lt g (by rw [hv]; rfl)).2, fun w' h' d hd => ?_⟩
  have ho' := h'.ins _ (List.getElem_mem hk)
  rw [hA] at ho'
  rcases ho'.2 with ⟨_, h0⟩ | ⟨b, cap, cur, e, _, hg, _⟩
  · omega
  · cases e
    refine ⟨b, rfl, (Array.getElem?_eq_some_iff.1 hg).1, ?_⟩
    rw [ho'.cellAt d (by omega)]
    have h2 := flat_at nC_len (Bi.nums p[k].1) d (by rw [Bi.nums_len]; exact hd) 0 (by omega)
    rw [Nat.mul_one, Nat.add_zero] at h2
    rw [h2, Bi.nums_at]
    rfl
theorem OwnRR.form' {w : World} {base : Nat} {v : Value} {p : List (List Nat × Value)} {l : List (List Nat)} (h : OwnRR w base v p) (he : p.map (·.1) = l) : ∃ A c, v = .slice A l.length c := by
  obtain ⟨A, c, hv⟩ := h.form
  exact ⟨A, c, by rw [hv, ← he, List.length_map]⟩
/-- A store into memory that is elder than the rows. -/
theorem OwnRR.set {w : World} {base g o : Nat} {v u : Value} {p : List (List Nat × Value)} (h : OwnRR w base v p) (hg : g < base) : OwnRR (w.setCell ⟨g, o, none⟩ u) base v p :=
  (Turn.of_set w g o u).ownRR h (fun k q e => by have := (h.row.lt k q).1; omega) fun x hx k q e => by have := ((h.ins x hx).lt k q).1; omega
/-- A row that is filled. -/
theorem FunRow.elems {W : World} {g n base : Nat} {f : Nat → Nat} {m : List Nat} (h : FunRow W g n f) (hm : m = (List.range n).map f) (hb : base ≤ g) (hn : n ≤ 64) : W.ownsRow base 3 1 (.slice (some ⟨g, 0, none⟩) n n) m.length ((Bi.nums m).flatMap nC) := by
  subst hm
  have hl : ((List.range n).map f).length = n := by rw [List.length_map, List.length_range]
  have he : (Bi.nums ((List.range n).map f)).flatMap nC = (List.range n).map fun x => Value.int .i64 (f x : Nat) := by
    rw [nC_map, Bi.nums, List.map_map, List.map_map]
    rfl
  rw [hl, he]
  refine ⟨by simp, .inr ⟨g, n, _, rfl, hb, h, Nat.le_refl _, by simp only [maxLen]; omega, by simp, ?_⟩⟩
  rw [List.take_of_length_le (by simp)]

set_option maxHeartbeats 1000000 in
theorem scInner_no (n : Int) (u : Value) (a : List Nat) (w : World) (hu : Us w u a) (ha : ∀ x ∈ a, x < 18446744073709551616) (hno : Gf.okB n a = false) : Calls Tryd.prog 7 #[.agg #[.int .i64 n, u]] w (RetElems w []) := by
  have HU := Lib.hid hu
  have T0 := Lib.hid (Two.new w 24 (.int .i64 n) u)
  have BW := Lib.hid (alloc_below w (.cells #[.int .i64 n, u] 24))
  obtain ⟨A, c, rfl, -⟩ := hu.spelled
  have FC := Lib.hid (fun w h1 => scComps_no n (.slice A a.length c) a w h1 ha hno)
  clear ha hu hno
  obtain ⟨c0, c1⟩ := T0.out.cells
  go_enter Tryd.func7, Tryd.ntmps7
  go_wp2_with fail
  generalize w.alloc (.cells #[.int .i64 n, .slice A a.length c] 24) = W at *
  refine (FC.out _ (HU.out.below BW.out)).mono ?_
  rintro e w1 ⟨v, p, rfl, ho, hp, hb1⟩
  obtain ⟨AV, cV, rfl⟩ := ho.form' hp
  have B1 := Lib.hid (below_all BW.out hb1)
  have FS := Lib.hid (scSort_at w.heap.size (.slice none 0 0) [] [] w1 (World.ownsRow_nil _ _ _ _) (by simp) List.Pairwise.nil List.nodup_nil fun x => Iff.rfl)
  clear hb1 ho hp c0 c1
  go_wp2_with fail
  go_loopw [3, 9] (fun v i wr => v = .slice none 0 0 ∧ i = .int .i64 0 ∧ Hid (wr = w1)) (fun _ _ _ => 0)
  case atStart => exact ⟨rfl, rfl, rfl⟩
  case round =>
    obtain ⟨rfl, rfl, hw⟩ := hrel
    obtain rfl : wr = w1 := hw
    go_wp2_with fail
    refine FS.out.mono ?_
    rintro e w2 ⟨rfl, ho2, hg2⟩
    have HO2 := Lib.hid ho2
    have HB2 := Lib.hid (below_append B1.out B1.out.size (World.ownsRow_nil wr w.heap.size 3 1) hg2)
    clear ho2 hg2
    go_wp2_with fail
    go_ret
    exact ⟨_, rfl, HO2.out, HB2.out⟩

set_option maxHeartbeats 4000000 in
theorem scInner_yes (n : Nat) (u : Value) (l : List Nat) (w : World) (hu : Us w u l) (hl : Gf.Ok n l) : Calls Tryd.prog 7 #[.agg #[.int .i64 (n : Nat), u]] w (RetElems w (Sc.innerR n l)) := by
  have HU := Lib.hid hu
  have T0 := Lib.hid (Two.new w 24 (.int .i64 (n : Nat)) u)
  have BW := Lib.hid (alloc_below w (.cells #[.int .i64 (n : Nat), u] 24))
  have hn64 : n ≤ 64 := hl.1
  have hq := Sc.tog_eqv hl
  obtain ⟨A, c, rfl, -⟩ := hu.spelled
  have FC := Lib.hid (fun w h1 => scComps_yes n (.slice A l.length c) l w h1 hl)
  have FH : Hid (∀ w (x : Nat), x < n → Us w (.slice A l.length c) l → Calls Tryd.prog 17 #[.agg #[.int .i64 (n : Nat), .slice A l.length c], .int .i64 (x : Nat), .int .i64 (x : Nat)] w (RetBool w (Gf.bit l x x))) := fun w x hx h1 => by
    have := gfHas_at (n : Int) (.slice A l.length c) l (x : Int) (x : Int) w h1 (fun x hx => hl.small hx)
    rwa [Gf.hasR_nat hl hx hx] at this
  have HEL : Hid (∀ c ∈ Sc.comps (Sc.tog n l) n, 0 < c.length ∧ c.length ≤ 64 ∧ c.headD 0 < n) := fun c hc => by
    obtain ⟨x, hx, rfl⟩ := (Sc.comps_mem_iff hq).1 hc
    refine ⟨?_, Nat.le_trans (Sc.comps_each_le _ _ _ hc) hn64, ?_⟩
    all_goals
      obtain ⟨y, r, e, hy⟩ := Sc.cls_first hq hx
      rw [e]
      first | exact Nat.succ_pos _ | exact hy
  have HCL : Hid ((Sc.comps (Sc.tog n l) n).length ≤ 64) := Nat.le_trans (Sc.comps_len_le _ _) hn64
  have HPL : Hid (∀ k, (Sc.pick l ((Sc.comps (Sc.tog n l) n).take k)).length ≤ 4096) := fun k => by
    have h1 := Sc.pick_len (l := l) (k := 64) (cs := (Sc.comps (Sc.tog n l) n).take k) fun c hc => (HEL.out c (List.mem_of_mem_take hc)).2.1
    have h2 := List.length_take_le' k (Sc.comps (Sc.tog n l) n)
    have h3 := HCL.out
    show _ ≤ _
    have h4 : ((Sc.comps (Sc.tog n l) n).take k).length * 64 ≤ 64 * 64 := Nat.mul_le_mul_right 64 (by omega)
    omega
  have FS : Hid (∀ (base : Nat) (v : Value) (w : World), w.ownsRow base 3 1 v (Sc.pick l (Sc.comps (Sc.tog n l) n)).length ((Bi.nums (Sc.pick l (Sc.comps (Sc.tog n l) n))).flatMap nC) → Calls Tryd.prog 18 #[v] w fun e w' => e = .returned (.tuple #[]) ∧ w'.ownsRow base 3 1 v (Sc.innerR n l).length ((Bi.nums (Sc.innerR n l)).flatMap nC) ∧ w.grownBy w' v.ownBlock) := fun base v w ho =>
    scSort_at base v _ _ w ho (by have := HPL.out (Sc.comps (Sc.tog n l) n).length; rw [List.take_length] at this; omega) (Sc.inner_rise n l) (Sc.pick_once hl) (Sc.pick_mem hl)
  generalize Sc.innerR n l = IN at *
  generalize Sc.comps (Sc.tog n l) n = CS at *
  clear hu hl hq
  obtain ⟨c0, c1⟩ := T0.out.cells
  go_enter Tryd.func7, Tryd.ntmps7
  go_wp2_with fail
  generalize w.alloc (.cells #[.int .i64 (n : Nat), .slice A l.length c] 24) = W at *
  refine (FC.out _ (HU.out.below BW.out)).mono ?_
  rintro e w1 ⟨v, p, rfl, ho, hp, hb1⟩
  obtain ⟨AV, cV, rfl⟩ := ho.form' hp
  have HO := Lib.hid ho
  have HP := Lib.hid hp
  have B1 := Lib.hid (below_all BW.out hb1)
  have T1 := Lib.hid (T0.out.later hb1)
  have HU1 := Lib.hid ((HU.out.below BW.out).below hb1)
  clear ho hp hb1 c0 c1 T0 BW HU FC
  generalize W.heap.size = base at *
  go_wp2_with fail
  go_loopw [3, 9] (fun v3 i wr => ∃ (k : Nat), k ≤ CS.length ∧ i = .int .i64 k ∧ Hid (wr.ownsRow w1.heap.size 3 1 v3 (Sc.pick l (CS.take k)).length ((Bi.nums (Sc.pick l (CS.take k))).flatMap nC)) ∧ Hid (Below w1.heap.size w1 wr)) (fun _ i _ => CS.length - (intOf i).toNat)
  case atStart => exact ⟨0, Nat.zero_le _, rfl, World.ownsRow_nil _ _ _ _, Below.refl _ _⟩
  case round =>
    obtain ⟨k, hk, rfl, HD, HB⟩ := hrel
    obtain ⟨A3, c3, hv3⟩ := own_form HD.out
    subst hv3
    by_cases hlt : k < CS.length
    · obtain ⟨gv, cv, AL, cL, hv, o1, hgv, hrd⟩ := HO.out.spell HP.out k hlt
      have HEE := Lib.hid (HEL.out _ (List.getElem_mem hlt))
      have hcl := HCL.out
      have HTK : Hid (CS.take (k + 1) = CS.take k ++ [(CS[k]'hlt)]) := List.take_succ_eq_append_getElem hlt
      generalize (CS[k]'hlt) = L at *
      cases hv
      obtain ⟨hL0, hL1, hL2⟩ := HEE.out
      obtain ⟨b, rfl, hbl, hrd0⟩ := hrd w1 HO.out 0 hL0
      have hhd : L[0]'hL0 = L.headD 0 := by
        cases L with
        | nil => exact absurd hL0 (Nat.lt_irrefl 0)
        | cons y r => rfl
      rw [hhd] at hrd0
      have e0 := (HB.out.cell (p := ⟨gv, k, none⟩) hgv).trans o1
      have e1 := (HB.out.cell (p := ⟨b, 0, none⟩) hbl).trans hrd0
      obtain ⟨c0, c1⟩ := (T1.out.later HB.out).cells
      have HYES : Hid (Sc.onCyc l L = true → Sc.pick l (CS.take (k + 1)) = Sc.pick l (CS.take k) ++ L) := fun h => by rw [HTK.out]; exact Sc.pick_yes h
      have HNOT : Hid (Sc.onCyc l L = false → Sc.pick l (CS.take (k + 1)) = Sc.pick l (CS.take k)) := fun h => by rw [HTK.out]; exact Sc.pick_no h
      have HDL := Lib.hid (HPL.out k)
      have HNEW : Hid (∀ wx, Below w1.heap.size w1 wx → ∀ j u, ((Bi.nums L).flatMap nC)[j]? = some u → wx.cell? ((⟨b, 0, none⟩ : Addr).add j) = some u) := fun wx hb j u hu => by
        rw [nC_map, Bi.nums, List.map_map, List.getElem?_map] at hu
        cases hj : L[j]? with
        | none => rw [hj] at hu; cases hu
        | some z =>
          rw [hj] at hu
          cases hu
          obtain ⟨hjl, rfl⟩ := List.getElem?_eq_some_iff.1 hj
          obtain ⟨b', e, h1, h2⟩ := hrd w1 HO.out j hjl
          cases e
          have h3 := (hb.cell (p := ⟨b, j, none⟩) h1).trans h2
          have e1 : (⟨b, 0, none⟩ : Addr).add j = ⟨b, j, none⟩ := by
            unfold Addr.add
            split
            · rename_i h; rw [h]
            · simp
          rw [e1]
          exact h3
      have HLN : Hid (((Bi.nums L).flatMap nC).length = L.length * 1) := by rw [Hid, nC_map, List.length_map, Bi.nums_len, Nat.mul_one]
      have HONE : Hid (∀ u ∈ (Bi.nums L).flatMap nC, u.oneCell' = true) := fun u hu => by
        rw [nC_map] at hu
        obtain ⟨z, _, rfl⟩ := List.mem_map.1 hu
        rfl
      have HON : Hid (∀ b1 b2, decide (1 < L.length) = b1 → Gf.bit l (L.headD 0) (L.headD 0) = b2 → Sc.onCyc l L = (b1 || b2)) := fun b1 b2 h1 h2 => by rw [← h1, ← h2]; rfl
      obtain ⟨i0, hi0, hz0, hz1, hz2⟩ := info_parts sci_info
      have I0 := Lib.hid hi0
      have I1 := Lib.hid hz0
      have I2 := Lib.hid hz1
      have I3 := Lib.hid hz2
      have HKC : Hid (∀ W', Below wr.heap.size wr W' → W'.cell? ⟨w.heap.size, 0, none⟩ = some (.int .i64 (n : Nat)) ∧ W'.cell? ⟨w.heap.size, 1, none⟩ = some (.slice A l.length c) ∧ W'.cell? ⟨b, 0, none⟩ = some (.int .i64 (L.headD 0 : Nat))) := fun W' h =>
        ⟨((T1.out.later HB.out).later h).cells.1, ((T1.out.later HB.out).later h).cells.2, (h.cell (p := ⟨b, 0, none⟩) (Nat.lt_of_lt_of_le hbl HB.out.size)).trans e1⟩
      have HUS := Lib.hid (HU1.out.below HB.out)
      have F1 := Lib.hid (fun W h => FH.out W (L.headD 0) hL2 h)
      generalize L.headD 0 = y at *
      generalize Sc.pick l (CS.take k) = D at *
      clear o1 hrd hrd0 hgv hi0 hz0 hz1 hz2 hhd hL1 hbl
      by_cases hgt : 1 < L.length
      · have hon : Sc.onCyc l L = true := HON.out true _ (decide_eq_true hgt) rfl
        have hd1 : decide ((1 : Int) < (L.length : Int)) = true := decide_eq_true (by omega)
        have hd2 : decide (1 < L.length) = true := decide_eq_true hgt
        go_wp2_with fail
        go_quiet (fail)
        have HX : Hid (Below wr.heap.size wr (wr.drewN nq)) := below_drewN (Below.refl _ wr) nq
        clear c0 c1 e0 e1
        have HD2 := Lib.hid (own_below HD.out (HX.out))
        have HB2 := Lib.hid (below_all HB.out HX.out)
        clear HD HB
        generalize wr.drewN nq = w5 at *
        go_wp2_with (at_builtin; refine wpList_append_own_at _ rfl _ _ 26 rfl w1.heap.size 3 i0 _ 1 8 Tryd.underlying26 I0.out I1.out I2.out I3.out rfl (by decide) _ D.length _ rfl HD2.out ⟨b, 0, none⟩ L.length cL ((Bi.nums L).flatMap nC) rfl HLN.out (HNEW.out _ HB2.out) HONE.out (by have := HDL.out; have := HEE.out.2.1; simp only [maxLen]; omega) (by have := HDL.out; have := HEE.out.2.1; omega) HB2.out.size ?_; intro v4 w4 hown4 hgrow4 hnil4 hat4; have HD4 := Lib.hid hown4; have HB4 := Lib.hid (below_append HB2.out HB2.out.size HD2.out hgrow4); obtain ⟨A4, c4, rfl⟩ := own_form hown4; clear hown4 hgrow4 hnil4 hat4)
        go_roundw
        case rel =>
          refine ⟨k + 1, by omega, by go_num, ?_, HB4.out⟩
          have h1 := HD4.out
          rw [HYES.out hon, Bi.nums, List.map_append, List.flatMap_append, List.length_append]
          exact h1
        case measure => simp [intOf]; omega
      · have hL1 : L.length = 1 := by omega
        have hd1 : decide ((1 : Int) < (L.length : Int)) = false := decide_eq_false (by omega)
        have hd2 : decide (1 < L.length) = false := decide_eq_false hgt
        clear hL1 hgt
        cases hbit : Gf.bit l y y with
        | false =>
          have hon : Sc.onCyc l L = false := HON.out false false hd2 hbit
          have HDX : Hid (Sc.pick l (CS.take (k + 1)) = D) := HNOT.out hon
          rw [hbit] at F1
          clear hbit
          go_wp2_with fail
          have D0 := Lib.hid (Below.refl wr.heap.size wr).drew
          clear e0
          go_region_held3 (fun W' => W'.cell? ⟨w.heap.size, 0, none⟩ = some (.int .i64 (n : Nat)) ∧ W'.cell? ⟨w.heap.size, 1, none⟩ = some (.slice A l.length c) ∧ W'.cell? ⟨b, 0, none⟩ = some (.int .i64 (y : Nat)))
            (first | (exact ⟨c0, c1, e1⟩) | (exact HKC.out _ D0.out) | (exact HKC.out _ Y1.out))
            (first | (go_at_call 17; (with_reducible refine (F1.out _ (HUS.out.below D0.out)).mono ?_); rintro e z1 ⟨rfl, hz⟩; have Y1 := Lib.hid (below_all D0.out hz); clear hz))
          all_goals
            have HD2 := Lib.hid (own_below HD.out Y1.out)
            have HB2 := Lib.hid (below_all HB.out Y1.out)
            clear HD HB c0 c1 e1 D0
            go_wp2_with fail
            go_roundw
            case rel => exact ⟨k + 1, by omega, by go_num, by rw [HDX.out]; exact HD2.out, HB2.out⟩
            case measure => simp [intOf]; omega
        | true =>
          have hon : Sc.onCyc l L = true := HON.out _ true rfl hbit |>.trans (by simp)
          rw [hbit] at F1
          clear hbit
          go_wp2_with fail
          have D0 := Lib.hid (Below.refl wr.heap.size wr).drew
          clear e0
          go_region_held3 (fun W' => W'.cell? ⟨w.heap.size, 0, none⟩ = some (.int .i64 (n : Nat)) ∧ W'.cell? ⟨w.heap.size, 1, none⟩ = some (.slice A l.length c) ∧ W'.cell? ⟨b, 0, none⟩ = some (.int .i64 (y : Nat)))
            (first | (exact ⟨c0, c1, e1⟩) | (exact HKC.out _ D0.out) | (exact HKC.out _ Y1.out))
            (first | (go_at_call 17; (with_reducible refine (F1.out _ (HUS.out.below D0.out)).mono ?_); rintro e z1 ⟨rfl, hz⟩; have Y1 := Lib.hid (below_all D0.out hz); clear hz))
          all_goals
            have HX := Y1
            clear c0 c1 e1 D0
            have HD2 := Lib.hid (own_below HD.out (HX.out))
            have HB2 := Lib.hid (below_all HB.out HX.out)
            clear HD HB
            generalize z1 = w5 at *
            go_wp2_with (at_builtin; refine wpList_append_own_at _ rfl _ _ 26 rfl w1.heap.size 3 i0 _ 1 8 Tryd.underlying26 I0.out I1.out I2.out I3.out rfl (by decide) _ D.length _ rfl HD2.out ⟨b, 0, none⟩ L.length cL ((Bi.nums L).flatMap nC) rfl HLN.out (HNEW.out _ HB2.out) HONE.out (by have := HDL.out; have := HEE.out.2.1; simp only [maxLen]; omega) (by have := HDL.out; have := HEE.out.2.1; omega) HB2.out.size ?_; intro v4 w4 hown4 hgrow4 hnil4 hat4; have HD4 := Lib.hid hown4; have HB4 := Lib.hid (below_append HB2.out HB2.out.size HD2.out hgrow4); obtain ⟨A4, c4, rfl⟩ := own_form hown4; clear hown4 hgrow4 hnil4 hat4)
            go_roundw
            case rel =>
              refine ⟨k + 1, by omega, by go_num, ?_, HB4.out⟩
              have h1 := HD4.out
              rw [HYES.out hon, Bi.nums, List.map_append, List.flatMap_append, List.length_append]
              exact h1
            case measure => simp [intOf]; omega
    · obtain rfl : k = CS.length := by omega
      rw [List.take_length] at HD
      have F := Lib.hid (FS.out _ _ wr HD.out)
      go_wp2_with fail
      refine F.out.mono ?_
      rintro e w2 ⟨rfl, ho2, hg2⟩
      have HO2 : Hid (w2.ownsRow w.heap.size 3 1 (.slice A3 (Sc.pick l CS).length c3) IN.length ((Bi.nums IN).flatMap nC)) := own_lower ho2 B1.out.size
      have HB2 := Lib.hid (below_append (below_all B1.out HB.out) (below_all B1.out HB.out).size (own_lower HD.out B1.out.size) hg2)
      clear ho2 hg2
      go_wp2_with fail
      go_ret
      exact ⟨_, rfl, HO2.out, HB2.out⟩

theorem scInner_at (n : Int) (u : Value) (l : List Nat) (w : World) (hu : Us w u l) (hs : ∀ x ∈ l, x < 18446744073709551616) : Calls Tryd.prog 7 #[.agg #[.int .i64 n, u]] w (RetElems w (Sc.innerA n l)) := by
  cases hok : Gf.okB n l with
  | false =>
    rw [Sc.innerA_no hok]
    exact scInner_no n u l w hu hs hok
  | true =>
    obtain ⟨k, rfl, hk⟩ := Gf.okB_iff.1 hok
    rw [Sc.innerA_yes hk]
    exact scInner_yes k u l w hu hk
end Go.Proofs.YtgapcjgmmlffmaaDoor
