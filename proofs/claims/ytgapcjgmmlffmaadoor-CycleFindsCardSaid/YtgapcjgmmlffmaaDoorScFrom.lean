/-
  What the search from one node leaves: that node, and all that it leads to, have a component.
  Conditions: at most 64 nodes; the search stands between two nodes; that node was not met.
-/
import Derived.Test.YtgapcjgmmlffmaaDoorScStep
import Derived.Scope
import Derived.WalkMore
import Derived.StillTailTactics
set_option maxRecDepth 4000
namespace Go.Proofs.YtgapcjgmmlffmaaDoor
open Go.RowKit

theorem two_aside {W : World} {b b' o : Nat} {t : TypeId} {u0 u1 v : Value} (h : Two W b t u0 u1) (hn : b ≠ b') : Two (W.setCell ⟨b', o, none⟩ v) b t u0 u1 := (heap_setCell_other W ⟨b', o, none⟩ b v hn).trans h
theorem two_snd {W : World} {b : Nat} {t : TypeId} {u0 u1 y : Value} (h : Two W b t u0 u1) : Two (W.setCell ⟨b, 1, none⟩ y) b t u0 y := heap_setCell_same W b 1 _ t y h
theorem two_int {W : World} {b m : Nat} {t : TypeId} {u0 : Value} (h : Two W b t u0 (.int .i64 (m : Nat))) : intAt W ⟨b, 1, none⟩ = m := by
  simp [intAt, h.cells.2]

set_option maxHeartbeats 8000000 in
theorem scFrom_at (base n : Nat) (W : World) (P : Pl) (ends : Nat → List Nat) (t : Nat → Nat → Bool) (s : Sc.Wk) (x0 : Nat) (h : Wlk base W P n ends s []) (hu : Sc.Hunt n ends t s []) (hn : n ≤ 64) (hx : x0 < n) (h0 : s.rank x0 = 0)
    (ht : ∀ u v, t u v = true ↔ Sc.Gets ends u v ∧ Sc.Gets ends v u) (hq : Sc.Eqv t) (hE : ∀ u v, v ∈ ends u → v < n) (hL : ∀ u, (ends u).length ≤ 4294967296) :
    Calls Tryd.prog 29 #[.pointer (some ⟨P.b, 0, none⟩), .int .i64 (x0 : Nat)] W fun e W' => e = .returned (.tuple #[]) ∧ ∃ P' s', Wlk base W' P' n ends s' [] ∧ Went P P' W W' ∧ Sc.Hunt n ends t s' [] ∧ ∀ u, s.rank u ≠ 0 ∨ u = x0 → s'.rank u ≠ 0 := by
  have hm := hu.meet hx h0 (fun p r e => by cases e)
  have HM := Lib.hid hm
  have HK : Hid (∀ u, s.rank u ≠ 0 ∨ u = x0 → (s.meet x0).rank u ≠ 0) := fun u q => by
    show Sc.upd s.rank x0 (s.met + 1) u ≠ 0
    unfold Sc.upd
    split
    · omega
    · rename_i e
      exact q.resolve_right e
  have F1 := Lib.hid (scMeet_at base n W P ends s [] x0 h hn hx (by have := hm.met_le; have e : (s.meet x0).met = s.met + 1 := rfl; omega) (by rw [hu.none_left]; exact Nat.lt_of_le_of_lt (Nat.zero_le _) hx) (Nat.lt_of_le_of_lt (Nat.zero_le _) hx))
  have HT := Lib.hid ht
  have HQ := Lib.hid hq
  have HE := Lib.hid hE
  have HL := Lib.hid hL
  have HPB : Hid (P.b < W.heap.size) := (h.inside 0 _ rfl).2
  clear hm h hu h0 ht hq hE hL
  go_enter Tryd.func29, Tryd.ntmps29
  refine wp_scope_straight ?_
  go_wp2_with fail
  refine F1.out.mono ?_
  rintro e W1 ⟨rfl, P1, h1, g1⟩
  have H1 : Hid (Wlk base W1 P1 n ends (s.meet x0) [(x0, 0)].reverse) := h1
  have G1 := Lib.hid g1
  have hb1 : P1.b = P.b := g1.b
  obtain ⟨-, -, -, c3, -, -, -⟩ := h1.cells
  rw [hb1] at c3
  clear h1 g1 hb1 F1
  go_wp2_with fail
  go_step3
  go_wp2_with fail
  refine (scTake_at H1.out [] x0 0 rfl (by simp)).mono ?_
  rintro e W2 ⟨rfl, h2, g2⟩
  have H2 : Hid (Wlk base W2 P1 n ends (s.meet x0) ([] : List (Nat × Nat)).reverse) := h2
  have G2 := Lib.hid (G1.out.trans g2)
  clear h2 g2 c3 H1 G1
  obtain ⟨t3, n3, b3, h3, g3⟩ := H2.out.lay G2.out 67 (.int .i64 (x0 : Nat)) (.int .i64 (0 : Nat))
  have T3 := Lib.hid t3
  have N3 := Lib.hid n3
  have B3 := Lib.hid b3
  have H3 := Lib.hid h3
  have G3 := Lib.hid g3
  clear t3 n3 b3 h3 g3 H2 G2
  go_wp2_with fail
  go_loopw [4, 5] (fun p q wr => ∃ (P1 : Pl) (s1 : Sc.Wk) (ab x d : Nat) (b : Bool) (r : List (Nat × Nat)), p = .pointer (some ⟨ab, 0, none⟩) ∧ q = .bool b ∧ Hid (Two wr ab 67 (.int .i64 (x : Nat)) (.int .i64 (d : Nat))) ∧ Hid (¬ P1.all ab) ∧ Hid (W.heap.size ≤ ab) ∧ Hid (Wlk base wr P1 n ends s1 r.reverse) ∧ Hid (Went P P1 W wr) ∧ Hid (if b = true then Sc.Hunt n ends t s1 ((x, d) :: r) else r = [] ∧ Sc.Hunt n ends t s1 []) ∧ Hid (∀ u, s.rank u ≠ 0 ∨ u = x0 → s1.rank u ≠ 0)) (fun _ q wr => leftTo n P.b q wr)
  case atStart => exact ⟨P1, s.meet x0, W2.heap.size, x0, 0, true, [], rfl, rfl, T3.out, N3.out, B3.out, H3.out, G3.out, HM.out, HK.out⟩
  case round =>
    clear T3 N3 B3 H3 G3 HM HK
    obtain ⟨P1, s1, ab, x, d, b, r, rfl, rfl, HA, HN, HB, HW, HG, HU, HK⟩ := hrel
    have hpb : P1.b = P.b := HG.out.b
    have HM0 := Lib.hid (hpb ▸ HW.out.left (.bool b))
    cases b with
    | false =>
      go_wp2_with fail
      simp only [Exit.noGoto]
      go_end0
      obtain ⟨rfl, hu⟩ : r = [] ∧ Sc.Hunt n ends t s1 [] := HU.out
      exact ⟨rfl, P1, s1, HW.out, HG.out, hu, HK.out⟩
    | true =>
      have HU1 : Hid (Sc.Hunt n ends t s1 ((x, d) :: r)) := HU.out
      have HXL : Hid (x < n) := HU1.out.node x (HU1.out.gray (x, d) List.mem_cons_self).1
      have hxn := HXL.out
      obtain ⟨a0, a1⟩ := HA.out.cells
      clear HU
      go_wp2_with fail
      go_loopw [7] (fun y wr => ∃ (s2 : Sc.Wk) (d2 : Nat), Hid (Two wr ab 67 (.int .i64 (x : Nat)) (.int .i64 (d2 : Nat))) ∧ Hid (Wlk base wr P1 n ends s2 r.reverse) ∧ Hid (Went P P1 W wr) ∧ Hid (Sc.Hunt n ends t s2 ((x, d2) :: r)) ∧ Hid (∀ u, s.rank u ≠ 0 ∨ u = x0 → s2.rank u ≠ 0) ∧ Hid (s2.met = s1.met)) (fun _ wr => (ends x).length + 1 - intAt wr ⟨ab, 1, none⟩)
      case atStart => exact ⟨s1, d, HA.out, HW.out, HG.out, HU1.out, HK.out, rfl⟩
      case round =>
        clear HA HW HG HU1 HK a0 a1
        obtain ⟨s2, d2, HA, HW, HG, HU, HK, HME⟩ := hrel
        have HR1 : Hid (r.length + 1 ≤ n) := HU.out.wait_len
        have HR64 : Hid (r.length ≤ 64) := by have := HR1.out; rw [Hid]; omega
        obtain ⟨g, c, A, c', hve, hrow, hel⟩ := HW.out.edges hxn
        obtain ⟨c0, c1, c2, c3, -, -, -⟩ := HW.out.cells
        rw [hpb] at c0 c1 c2 c3
        rw [hve] at c0
        obtain ⟨a0, a1⟩ := HA.out.cells
        have HEL := Lib.hid hel
        have hEl := HL.out x
        clear hel hve
        have HW2 := fun k => Lib.hid (HW.out.later (below_drewN (Below.refl _ wr) k))
        have HG2 := fun k => Lib.hid (HG.out.trans (Went.of_below P1 (below_drewN (Below.refl _ wr) k)))
        have HA2 : ∀ k, Hid (Two (wr.drewN k) ab 67 (.int .i64 (x : Nat)) (.int .i64 (d2 : Nat))) := fun k => HA.out.later (below_drewN (Below.refl _ wr) k)
        have HW2 := Lib.hid HW2
        have HG2 := Lib.hid HG2
        have HA2 := Lib.hid HA2
        have HI0 : Hid (intAt wr ⟨ab, 1, none⟩ = d2) := two_int HA.out
        clear HA HW HG
        by_cases hd : d2 < (ends x).length
        · obtain ⟨k, rfl, hk⟩ := HEL.out d2 hd
          have HY : Hid ((ends x)[d2]? = some (ends x)[d2]) := List.getElem?_eq_getElem hd
          have hyn : (ends x)[d2] < n := HE.out x _ (List.getElem_mem hd)
          have HYE : Hid (∃ y, y = (ends x)[d2]) := ⟨_, rfl⟩
          clear HEL
          generalize (ends x)[d2]'hd = y at *
          go_wp2_with fail
          go_quiet (fail)
          have e0 : (wr.drewN nq).cell? ⟨P.b, 0, none⟩ = some (.slice (some ⟨g, 0, none⟩) n c) := c0
          have e1 : (wr.drewN nq).cell? ⟨P.b, 1, none⟩ = some (.slice (some ⟨P1.rk, 0, none⟩) n n) := c1
          have e2 : (wr.drewN nq).cell? ⟨P.b, 2, none⟩ = some (.slice (some ⟨P1.lw, 0, none⟩) n n) := c2
          have e3 : (wr.drewN nq).cell? ⟨P.b, 3, none⟩ = some (.pointer (some ⟨P1.B1, 0, none⟩)) := c3
          have e4 : (wr.drewN nq).cell? ⟨g, x, none⟩ = some (.slice (some ⟨k, 0, none⟩) (ends x).length c') := hrow
          have e5 : (wr.drewN nq).cell? ⟨k, d2, none⟩ = some (.int .i64 (y : Nat)) := hk
          have HWn := HW2.out nq
          have HGn := HG2.out nq
          have HAn := HA2.out nq
          obtain ⟨a0', a1'⟩ := HAn.out.cells
          clear c0 c1 c2 c3 hrow hk a0 a1 HW2 HG2 HA2
          generalize wr.drewN nq = w1 at *
          go_wp2_with fail
          go_quiet (fail)
          have c1 : (w1.drewN nq).cell? ⟨P.b, 1, none⟩ = some (.slice (some ⟨P1.rk, 0, none⟩) n n) := e1
          have c2 : (w1.drewN nq).cell? ⟨P.b, 2, none⟩ = some (.slice (some ⟨P1.lw, 0, none⟩) n n) := e2
          have c3 : (w1.drewN nq).cell? ⟨P.b, 3, none⟩ = some (.pointer (some ⟨P1.B1, 0, none⟩)) := e3
          have HW := Lib.hid (HWn.out.later (below_drewN (Below.refl _ w1) nq))
          have HG := Lib.hid (HGn.out.trans (Went.of_below P1 (below_drewN (Below.refl _ w1) nq)))
          have HA : Hid (Two (w1.drewN nq) ab 67 (.int .i64 (x : Nat)) (.int .i64 (d2 : Nat))) := HAn.out.later (below_drewN (Below.refl _ w1) nq)
          clear e0 e1 e2 e3 e4 e5 a0' a1' HWn HGn HAn
          generalize w1.drewN nq = w2 at *
          obtain ⟨a0, a1⟩ := HA.out.cells
          have k1 := HW.out.rank.cell hyn
          by_cases h0 : s2.rank y = 0
          · have H0 := Lib.hid h0
            have hr0 : ((s2.rank y : Int) == 0) = true := by rw [beq_iff_eq]; omega
            have hr1 : (s2.rank y == 0) = true := by rw [beq_iff_eq]; exact h0
            clear h0
            generalize hry : s2.rank y = ry at k1 hr0 hr1
            clear hry
            go_wp2_with fail
            have HWd := Lib.hid (HW.out.later (Below.refl _ w2).drew)
            have HGd := Lib.hid (HG.out.trans (Went.of_below P1 (Below.refl _ w2).drew))
            have HAd : Hid (Two w2.drew ab 67 (.int .i64 (x : Nat)) (.int .i64 (d2 : Nat))) := HA.out.later (Below.refl _ w2).drew
            have HB1 : Hid (r.reverse.length < n) := by have := HR1.out; rw [Hid, List.length_reverse]; omega
            clear HW HG HA k1 c1 c2
            go_still_tail 5, (by kernel_rfl)
            change wpList _ _ _ _ _ w2.drew
            clear c3 a0 a1 hr0 hr1
            generalize w2.drew = w2d at *
            obtain ⟨a0, a1⟩ := HAd.out.cells
            go_wp2_with (go_at_call 41; refine (scPut_at HWd.out x d2 HB1.out hn).mono ?_; rintro e w3 ⟨rfl, P3, h3, g3⟩; obtain ⟨t3, n3⟩ := g3.far HAd.out HN.out; have H3 := Lib.hid h3; have G3 := Lib.hid (HGd.out.trans g3); have A3 := Lib.hid t3; have N3 := Lib.hid n3; clear h3 g3 t3 n3)
            have hb3 : P3.b = P.b := G3.out.b
            have hm := HU.out.meet hyn H0.out (fun p r' e => by cases e; exact HY.out)
            have F4 := Lib.hid (scMeet_at base n w3 P3 ends s2 (r.reverse ++ [(x, d2)]) y H3.out hn hyn (by have := hm.met_le; have e : (s2.meet y).met = s2.met + 1 := rfl; omega) (by have := hm.loose_len; have e : (s2.meet y).loose = s2.loose ++ [y] := rfl; rw [e, List.length_append] at this; exact this) (by have := hm.wait_len; rw [List.length_cons, List.length_cons] at this; rw [List.length_append, List.length_reverse]; exact this))
            have HML : Hid (s2.met + 1 ≤ n) := hm.met_le
            have HM4 := Lib.hid hm
            have HK4 : Hid (∀ u, s.rank u ≠ 0 ∨ u = x0 → (s2.meet y).rank u ≠ 0) := fun u q => by
              have := HK.out u q
              show Sc.upd s2.rank y (s2.met + 1) u ≠ 0
              unfold Sc.upd
              split
              · omega
              · exact this
            rw [hb3] at F4
            clear hm a0 a1 HWd HGd HAd
            go_wp2_with fail
            refine F4.out.mono ?_
            rintro e w4 ⟨rfl, P4, h4, g4⟩
            have hb4 : P4.b = P.b := g4.b.trans hb3
            obtain ⟨t4, n4⟩ := g4.far A3.out N3.out
            have A4 := Lib.hid (show Two w4 ab 67 (.int .i64 (x : Nat)) (.int .i64 (d2 : Nat)) from t4)
            obtain ⟨t5, n5, b5, h5, g5⟩ := h4.lay (G3.out.trans g4) 67 (.int .i64 (x : Nat)) (.int .i64 (d2 : Nat))
            have T5 := Lib.hid t5
            have N5 := Lib.hid n5
            have B5 := Lib.hid b5
            have H5 := Lib.hid h5
            have G5 := Lib.hid g5
            obtain ⟨a0, a1⟩ := A4.out.cells
            obtain ⟨-, -, -, c3, -, -, -⟩ := h5.cells
            rw [hb4] at c3
            clear t4 n4 h4 g4 t5 n5 b5 h5 g5 A3 N3 A4 H3 G3 F4
            go_wp2_with fail
            generalize w4.alloc (.cells #[.int .i64 (x : Nat), .int .i64 (d2 : Nat)] 67) = w5 at *
            generalize w4.heap.size = ab5 at *
            refine (scTake_at H5.out (r.reverse ++ [(x, d2)]) y 0 rfl (by have := HR64.out; rw [List.length_append, List.length_reverse]; simp; omega)).mono ?_
            rintro e w6 ⟨rfl, h6, g6⟩
            obtain ⟨t6, n6⟩ := g6.far T5.out N5.out
            have T6 := Lib.hid (show Two w6 ab5 67 (.int .i64 (x : Nat)) (.int .i64 (d2 : Nat)) from t6)
            have N6 := Lib.hid n6
            have G6 := Lib.hid (G5.out.trans g6)
            obtain ⟨h7, g7⟩ := h6.set G6.out n6 B5.out 0 (.int .i64 (y : Nat))
            obtain ⟨h8, g8⟩ := h7.set g7 n6 B5.out 1 (.int .i64 ((0 : Nat) : Int))
            have T8 := Lib.hid (T6.out.put (x := .int .i64 (y : Nat)) (y := .int .i64 ((0 : Nat) : Int)))
            rw [← List.reverse_cons] at h8
            have H8 := Lib.hid h8
            have G8 := Lib.hid g8
            have HM8 := Lib.hid (hb4 ▸ h8.left (.bool true))
            obtain ⟨a0, a1⟩ := T6.out.cells
            have f0 := T6.out.frozen 0
            have f1 := T6.out.frozen 1
            clear h6 g6 t6 n6 h7 g7 h8 g8 c3 H5 G5 T5 N5 T6 G6
            go_wp2_with fail
            go_roundw
            case rel => exact ⟨P4, s2.meet y, ab5, y, 0, true, (x, d2) :: r, rfl, rfl, T8.out, N6.out, B5.out, H8.out, G8.out, HM4.out, HK4.out⟩
            case measure =>
              rw [HM0.out]
              refine Nat.lt_of_le_of_lt (Nat.le_of_eq HM8.out) ?_
              have e := HME.out
              have e1 := HML.out
              have e2 : (s2.meet y).met = s2.met + 1 := rfl
              rw [e2, e, List.length_reverse, List.length_reverse, List.length_cons]
              rw [e] at e1
              omega
          · have hr0 : ((s2.rank y : Int) == 0) = false := by rw [beq_eq_false_iff_ne]; omega
            have hr1 : (s2.rank y == 0) = false := by rw [beq_eq_false_iff_ne]; exact h0
            have H0 := Lib.hid h0
            have HST := Lib.hid (HU.out.step HE.out HY.out h0)
            have k2 := HW.out.low.cell hxn
            have k3 := HW.out.low.cell hyn
            have f2 := HW.out.low.frozen x
            obtain ⟨m, hm⟩ : ∃ m, m = min (s2.low x) (s2.low y) := ⟨_, rfl⟩
            rw [← hm] at HST
            have hmi : min ((s2.low x : Nat) : Int) ((s2.low y : Nat) : Int) = (m : Int) := by omega
            obtain ⟨h3, g3⟩ := HW.out.setLow x m
            have HW3 : Hid (Wlk base (w2.setCell ⟨P1.lw, x, none⟩ (.int .i64 (m : Nat))).drew P1 n ends (s2.lower x m) r.reverse) := h3.later (Below.refl _ _).drew
            have HG3 := Lib.hid ((HG.out.trans g3).trans (Went.of_below P1 (Below.refl _ _).drew))
            have HA3 : Hid (Two (w2.setCell ⟨P1.lw, x, none⟩ (.int .i64 (m : Nat))).drew ab 67 (.int .i64 (x : Nat)) (.int .i64 (d2 : Nat))) := (g3.far HA.out HN.out).1
            clear h3 g3 hm h0 HA HW HG a0 a1
            generalize s2.low x = lx at *
            generalize s2.low y = ly at *
            generalize s2.rank y = ry at *
            go_wp2_with fail
            clear k1 c1 c3 hr0 hr1
            go_region_law fail
            all_goals
              generalize (w2.setCell ⟨P1.lw, x, none⟩ (.int .i64 (m : Nat))).drew = w3 at *
              obtain ⟨a0, a1⟩ := HA3.out.cells
              have f1 := HA3.out.frozen 1
              have hw1 : IntKind.i64.wrap ((d2 : Int) + 1) = ((d2 + 1 : Nat) : Int) := by rw [IntWalk.i64_in _ (by omega)]; omega
              obtain ⟨d3, hd3⟩ : ∃ d3, d3 = d2 + 1 := ⟨_, rfl⟩
              have HD3 := Lib.hid hd3
              rw [← hd3] at hw1 HST
              have hw2 : (d2 : Int) + 1 = (d3 : Int) := by omega
              have hw3 : IntKind.i64.wrap (d3 : Int) = (d3 : Int) := by rw [IntWalk.i64_in _ (by omega)]
              obtain ⟨h4, g4⟩ := HW3.out.set HG3.out HN.out HB.out 1 (.int .i64 (d3 : Nat))
              have T4 := Lib.hid (two_snd (y := .int .i64 (d3 : Nat)) HA3.out)
              have H4 := Lib.hid h4
              have G4 := Lib.hid g4
              clear hd3 h4 g4 k2 k3 f2 c2 hmi HW3 HG3 HA3
              go_wp2_with fail
              go_roundw
              case rel => exact ⟨s2.lower x m, d3, T4.out, H4.out, G4.out, HST.out, HK.out, HME.out⟩
              case measure => rw [HI0.out, two_int T4.out, HD3.out]; omega
        · have HNO : Hid ((ends x)[d2]? = none) := List.getElem?_eq_none_iff.2 (by omega)
          clear HEL
          go_wp2_with fail
          go_quiet (fail)
          have e1 : (wr.drewN nq).cell? ⟨P.b, 1, none⟩ = some (.slice (some ⟨P1.rk, 0, none⟩) n n) := c1
          have e2 : (wr.drewN nq).cell? ⟨P.b, 2, none⟩ = some (.slice (some ⟨P1.lw, 0, none⟩) n n) := c2
          have HWn := HW2.out nq
          have HGn := HG2.out nq
          have HAn := HA2.out nq
          clear c0 c1 c2 c3 hrow a0 a1 HW2 HG2 HA2
          generalize wr.drewN nq = w1 at *
          have k1 := HWn.out.rank.cell hxn
          have k2 := HWn.out.low.cell hxn
          by_cases he : s2.low x = s2.rank x
          · rw [he] at k2
            have HEQ := Lib.hid he
            have hq1 : ((s2.rank x : Int) == (s2.rank x : Int)) = true := by simp
            clear he
            obtain ⟨A', B', hAB⟩ := List.append_of_mem (HU.out.gray (x, d2) List.mem_cons_self).1
            obtain ⟨hf, hc⟩ := HU.out.finish HT.out HE.out HNO.out HEQ.out hAB
            have HF := Lib.hid hf
            have F3 := Lib.hid (fun W h => scFinish_at base n W P1 ends s2 r.reverse x A' B' (Sc.cls n t x) h hn hAB HU.out.nodup HU.out.node (by have := HU.out.loose_len; omega) (by have := HU.out.comps_len HQ.out; omega) (Sc.cls_rise n t x) hc)
            rw [hpb] at F3
            clear hf hc hAB
            go_wp2_with fail
            go_quiet (fail)
            have HW := Lib.hid (HWn.out.later (below_drewN (Below.refl _ w1) nq))
            have HG := Lib.hid (HGn.out.trans (Went.of_below P1 (below_drewN (Below.refl _ w1) nq)))
            have HA : Hid (Two (w1.drewN nq) ab 67 (.int .i64 (x : Nat)) (.int .i64 (d2 : Nat))) := HAn.out.later (below_drewN (Below.refl _ w1) nq)
            clear e1 e2 k1 k2 HWn HGn HAn
            generalize w1.drewN nq = w2 at *
            go_wp2_with fail
            refine (F3.out w2 HW.out).mono ?_
            rintro e w3 ⟨rfl, P3, h3, g3⟩
            obtain ⟨t3, n3⟩ := g3.far HA.out HN.out
            have A3 := Lib.hid (show Two w3 ab 67 (.int .i64 (x : Nat)) (.int .i64 (d2 : Nat)) from t3)
            have H3 := Lib.hid h3
            have G3 := Lib.hid (HG.out.trans g3)
            have HU3 := HF
            have HK3 : Hid (∀ u, s.rank u ≠ 0 ∨ u = x0 → (s2.fin n A' (x :: B') (Sc.cls n t x)).rank u ≠ 0) := HK.out
            have HME3 : Hid ((s2.fin n A' (x :: B') (Sc.cls n t x)).met = s1.met) := HME.out
            clear h3 g3 t3 n3 HW HG HA hpb
            generalize s2.fin n A' (x :: B') (Sc.cls n t x) = s3 at *
            have hb3 : P3.b = P.b := G3.out.b
            obtain ⟨t5, n5, b5, h5, g5⟩ := H3.out.lay G3.out 67 (.int .i64 (x : Nat)) (.int .i64 (d2 : Nat))
            have T5 := Lib.hid t5
            have N5 := Lib.hid n5
            have B5 := Lib.hid b5
            have H5 := Lib.hid h5
            have G5 := Lib.hid g5
            obtain ⟨a0, a1⟩ := A3.out.cells
            obtain ⟨-, -, -, c3, -, -, -⟩ := h5.cells
            rw [hb3] at c3
            clear t5 n5 b5 h5 g5 A3 H3 G3
            go_wp2_with fail
            generalize w3.alloc (.cells #[.int .i64 (x : Nat), .int .i64 (d2 : Nat)] 67) = w5 at *
            generalize w3.heap.size = ab5 at *
            refine (scNext_at H5.out HR64.out).mono ?_
            rintro e w6 ⟨x6, d6, q6, rfl, r6, h6, g6, hcase⟩
            have HC6 := Lib.hid hcase
            obtain ⟨t6, n6⟩ := g6.far T5.out N5.out
            have T6 := Lib.hid (show Two w6 ab5 67 (.int .i64 (x : Nat)) (.int .i64 (d2 : Nat)) from t6)
            have N6 := Lib.hid n6
            have G6 := Lib.hid (G5.out.trans g6)
            obtain ⟨h7, g7⟩ := h6.set G6.out n6 B5.out 0 (.int .i64 (x6 : Nat))
            obtain ⟨h8, g8⟩ := h7.set g7 n6 B5.out 1 (.int .i64 (d6 : Nat))
            have T8 := Lib.hid (T6.out.put (x := .int .i64 (x6 : Nat)) (y := .int .i64 (d6 : Nat)))
            have H8 := Lib.hid h8
            have G8 := Lib.hid g8
            have HM8 := Lib.hid (hb3 ▸ h8.left (.bool q6))
            obtain ⟨a0, a1⟩ := T6.out.cells
            have f0 := T6.out.frozen 0
            have f1 := T6.out.frozen 1
            clear h6 g6 hcase t6 n6 h7 g7 h8 g8 c3 H5 G5 T5 N5 T6 G6
            go_wp2_with fail
            go_roundw
            case rel =>
              refine ⟨P3, s3, ab5, x6, d6, q6, r6, rfl, rfl, T8.out, N6.out, B5.out, H8.out, G8.out, ?_, HK3.out⟩
              have hu3 := HU3.out
              rcases HC6.out with ⟨rfl, rfl⟩ | ⟨rfl, rfl, rfl⟩
              · exact hu3
              · exact ⟨rfl, hu3⟩
            case measure =>
              rw [HM0.out, HM8.out, HME3.out]
              rcases HC6.out with ⟨rfl, rfl⟩ | ⟨rfl, rfl, rfl⟩
              · simp [boolOf]
              · simp [boolOf]
          · have hq1 : ((s2.low x : Int) == (s2.rank x : Int)) = false := by rw [beq_eq_false_iff_ne]; omega
            have hq2 : (s2.low x == s2.rank x) = false := by rw [beq_eq_false_iff_ne]; exact he
            have HU3 := Lib.hid (HU.out.leave HNO.out he)
            clear he
            generalize hlx : s2.low x = lx at *
            generalize hrx : s2.rank x = rx at *
            clear hlx hrx
            go_wp2_with fail
            go_quiet (fail)
            have H3 := Lib.hid (HWn.out.later (below_drewN (Below.refl _ w1) nq))
            have G3 := Lib.hid (HGn.out.trans (Went.of_below P1 (below_drewN (Below.refl _ w1) nq)))
            have A3 : Hid (Two (w1.drewN nq) ab 67 (.int .i64 (x : Nat)) (.int .i64 (d2 : Nat))) := HAn.out.later (below_drewN (Below.refl _ w1) nq)
            have HK3 := HK
            have HME3 := HME
            clear e1 e2 k1 k2 hq1 HWn HGn HAn
            generalize w1.drewN nq = w3 at *
            have hb3 : P1.b = P.b := G3.out.b
            obtain ⟨t5, n5, b5, h5, g5⟩ := H3.out.lay G3.out 67 (.int .i64 (x : Nat)) (.int .i64 (d2 : Nat))
            have T5 := Lib.hid t5
            have N5 := Lib.hid n5
            have B5 := Lib.hid b5
            have H5 := Lib.hid h5
            have G5 := Lib.hid g5
            obtain ⟨a0, a1⟩ := A3.out.cells
            obtain ⟨-, -, -, c3, -, -, -⟩ := h5.cells
            rw [hb3] at c3
            clear t5 n5 b5 h5 g5 A3 H3 G3
            go_wp2_with fail
            generalize w3.alloc (.cells #[.int .i64 (x : Nat), .int .i64 (d2 : Nat)] 67) = w5 at *
            generalize w3.heap.size = ab5 at *
            refine (scNext_at H5.out HR64.out).mono ?_
            rintro e w6 ⟨x6, d6, q6, rfl, r6, h6, g6, hcase⟩
            have HC6 := Lib.hid hcase
            obtain ⟨t6, n6⟩ := g6.far T5.out N5.out
            have T6 := Lib.hid (show Two w6 ab5 67 (.int .i64 (x : Nat)) (.int .i64 (d2 : Nat)) from t6)
            have N6 := Lib.hid n6
            have G6 := Lib.hid (G5.out.trans g6)
            obtain ⟨h7, g7⟩ := h6.set G6.out n6 B5.out 0 (.int .i64 (x6 : Nat))
            obtain ⟨h8, g8⟩ := h7.set g7 n6 B5.out 1 (.int .i64 (d6 : Nat))
            have T8 := Lib.hid (T6.out.put (x := .int .i64 (x6 : Nat)) (y := .int .i64 (d6 : Nat)))
            have H8 := Lib.hid h8
            have G8 := Lib.hid g8
            have HM8 := Lib.hid (hb3 ▸ h8.left (.bool q6))
            obtain ⟨a0, a1⟩ := T6.out.cells
            have f0 := T6.out.frozen 0
            have f1 := T6.out.frozen 1
            clear h6 g6 hcase t6 n6 h7 g7 h8 g8 c3 H5 G5 T5 N5 T6 G6
            go_wp2_with fail
            go_roundw
            case rel =>
              refine ⟨P1, s2, ab5, x6, d6, q6, r6, rfl, rfl, T8.out, N6.out, B5.out, H8.out, G8.out, ?_, HK3.out⟩
              have hu3 := HU3.out
              rcases HC6.out with ⟨rfl, rfl⟩ | ⟨rfl, rfl, rfl⟩
              · exact hu3
              · exact ⟨rfl, hu3⟩
            case measure =>
              rw [HM0.out, HM8.out, HME3.out]
              rcases HC6.out with ⟨rfl, rfl⟩ | ⟨rfl, rfl, rfl⟩
              · simp [boolOf]
              · simp [boolOf]
end Go.Proofs.YtgapcjgmmlffmaaDoor
