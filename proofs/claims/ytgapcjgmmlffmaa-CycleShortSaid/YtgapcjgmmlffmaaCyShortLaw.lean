/-
  The law CycleShort: no way leads back to the first node of what is found in fewer edges.
  Conditions: rows hold sets below 2^64; the library's table for the lowest bit holds what its text says.
-/
import Derived.Test.YtgapcjgmmlffmaaCyAwake
import Derived.Test.YtgapcjgmmlffmaaCyMore
import Derived.Test.YtgapcjgmmlffmaaGfAll
import Derived.Deep.RegionHeld3
set_option maxRecDepth 4000
namespace Go.Proofs.Ytgapcjgmmlffmaa
open Go.RowKit

theorem Cy.cyclic_ok' {n : Int} {g : List Nat} (h : Rc.cyclicA n g = true) : ∃ k : Nat, n = (k : Int) ∧ Gf.Ok k g ∧ Rc.cyclicR k g = true := by
  rw [Rc.cyclicA, Bool.and_eq_true] at h
  obtain ⟨k, rfl, hg⟩ := Gf.okB_iff.1 h.1
  rw [Int.toNat_natCast] at h
  exact ⟨k, rfl, hg, h.2⟩
theorem Cy.find_not' {n : Int} {g : List Nat} (h : Rc.cyclicA n g = false) : Cy.findA n g = [] := by
  cases ho : Gf.okB n g with
  | false => exact Cy.findA_no ho
  | true =>
    obtain ⟨k, rfl, hg⟩ := Gf.okB_iff.1 ho
    rw [Rc.cyclicA, ho, Bool.true_and, Int.toNat_natCast] at h
    rw [Cy.findA_yes hg, Cy.find_none hg h]

set_option maxHeartbeats 8000000 in
theorem lawCycleShort (n : Int) (u : Value) (l : List Nat) (w : World) (hu : Us w u l) (hs : ∀ x ∈ l, x < 18446744073709551616) : Calls Try.prog 4 #[.agg #[.int .i64 n, u]] w (RetBool w true) := by
  have HU := Lib.hid hu
  have HS := Lib.hid hs
  obtain ⟨A, c, rfl, -⟩ := hu.spelled
  have T_g := Lib.hid (Two.new w 24 (.int .i64 n) (.slice A l.length c))
  have BW := Lib.hid (alloc_below w (.cells #[.int .i64 n, .slice A l.length c] 24))
  clear hu hs
  go_enter Try.func4, Try.ntmps4
  go_wp2_with fail
  generalize w.alloc (.cells #[.int .i64 n, .slice A l.length c] 24) = W0 at *
  go_wp2_with fail
  refine (cyAwake_at _).mono ?_
  rintro e W1 ⟨rfl, hb⟩
  have B1 := Lib.hid (below_all BW.out hb)
  have T1 := Lib.hid (T_g.out.later hb)
  clear hb T_g BW
  obtain ⟨g0, g1⟩ := T1.out.cells
  by_cases h24 : 24 < l.length
  · go_wp2_with fail
    go_ret
    exact ⟨rfl, B1.out⟩
  have FF := Lib.hid (fun w h1 => cyFind_at n (.slice A l.length c) l w h1 HS.out)
  cases hcy : Rc.cyclicA n l with
  | false =>
    rw [Cy.find_not' hcy] at FF
    clear hcy
    go_wp2_with fail
    refine (FF.out _ (HU.out.below B1.out)).mono ?_
    rintro e W2 ⟨v1, rfl, ho1, hb⟩
    have B2 := Lib.hid (below_all B1.out hb)
    obtain ⟨A1, c1, rfl, -⟩ := ints_is (k := 0) ho1 rfl
    clear ho1 hb g0 g1
    go_wp2_with fail
    go_ret
    exact ⟨rfl, B2.out⟩
  | true =>
    obtain ⟨k, hnk, hok, hcr⟩ := Cy.cyclic_ok' hcy
    subst hnk
    rw [Cy.findA_yes hok] at FF
    have h64 := hok.1
    have HOK := Lib.hid hok
    have HFL := Lib.hid (Cy.find_len hok)
    obtain ⟨x, r, e1, hx, hsh, hend⟩ := Cy.find_short hok hcr
    rw [e1] at FF HFL
    clear e1 hok hcr hcy
    obtain ⟨fs, hfs⟩ : ∃ fs, fs = x :: r := ⟨_, rfl⟩
    rw [← hfs] at FF HFL
    have hf0 : 0 < fs.length := by rw [hfs]; simp
    have HFX : Hid (fs[0] = x) := by subst hfs; rfl
    have HLEN : Hid (fs.length = r.length + 1) := by rw [hfs]; rfl
    have HSH : Hid (∀ i, i + 1 < fs.length → Gf.bit (Cy.pw k l i) x x = false) := fun i hi => hsh i (by have := HLEN.out; omega)
    have HEND : Hid (Gf.bit (Cy.pw k l (fs.length - 1)) x x = true) := by
      have : fs.length - 1 = r.length := by have := HLEN.out; omega
      rw [this]
      exact hend
    have hfl := Nat.le_trans HFL.out h64
    have HX := Lib.hid hx
    clear hfs hsh hend hx HLEN HFL
    have HPO := Lib.hid (fun i => Cy.pw_ok HOK.out i)
    have HPS : Hid (∀ i, ∀ y ∈ Cy.pw k l i, y < 18446744073709551616) := fun i y hy => (HPO.out i).small hy
    go_wp2_with fail
    refine (FF.out _ (HU.out.below B1.out)).mono ?_
    rintro e W2 ⟨v1, rfl, ho1, hb⟩
    have B2 := Lib.hid (below_all B1.out hb)
    have T2 := Lib.hid (T1.out.later hb)
    obtain ⟨A1, c1, rfl, hn1⟩ := ints_is (k := fs.length) ho1 rfl
    obtain ⟨ad1, e1, hb1, hx1⟩ := ints_at hn1 0 hf0
    subst e1
    rw [add_zero', HFX.out] at hx1
    clear ho1 hb g0 g1 hn1
    obtain ⟨g0, g1⟩ := T2.out.cells
    have hq1 : ((fs.length : Int) == 0) = false := by rw [beq_eq_false_iff_ne]; omega
    have hq2 : (fs.length == 0) = false := by rw [beq_eq_false_iff_ne]; omega
    have b3 := alloc_below W2 (.cells #[.int .i64 k, .slice A l.length c] 24)
    have B3 := Lib.hid b3
    have TP3 := Lib.hid (Two.new W2 24 (.int .i64 k) (.slice A l.length c))
    have HX1 := Lib.hid hx1
    have HB1 := Lib.hid hb1
    clear hx1 hb1 b3
    go_wp2_with fail
    generalize W2.alloc (.cells #[.int .i64 k, .slice A l.length c] 24) = W3 at *
    clear g0 g1
    go_loopw [6, 7, 8] (fun i s7 s8 wr => ∃ (j : Nat) (A' : Option Addr) (m c' : Nat), 1 ≤ j ∧ j ≤ fs.length ∧ i = .int .i64 j ∧ Hid (Two wr W2.heap.size 24 (.int .i64 k) (.slice A' m c')) ∧ Hid (Us wr (.slice A' m c') (Cy.pw k l (j - 1))) ∧ Hid (Below W2.heap.size W2 wr)) (fun i _ _ _ => fs.length - (intOf i).toNat)
    case atStart => exact ⟨1, A, l.length, c, Nat.le_refl _, hf0, rfl, TP3.out, (HU.out.below B2.out).below B3.out, B3.out⟩
    case round =>
      clear TP3 B3
      obtain ⟨j, A', m, c', hj1, hj2, rfl, TP, UP, HB⟩ := hrel
      have HX2 := Lib.hid ((HB.out.cell HB1.out).trans HX1.out)
      have UG := Lib.hid ((HU.out.below B2.out).below HB.out)
      have FH := Lib.hid (fun w h => gfHas_at (k : Int) (.slice A' m c') (Cy.pw k l (j - 1)) (x : Int) (x : Int) w h (HPS.out (j - 1)))
      rw [Gf.hasR_nat (HPO.out (j - 1)) HX.out HX.out] at FH
      have HK : Hid (∀ W', Below wr.heap.size wr W' → W'.cell? ⟨W2.heap.size, 0, none⟩ = some (.int .i64 k) ∧ W'.cell? ⟨W2.heap.size, 1, none⟩ = some (.slice A' m c') ∧ W'.cell? ad1 = some (.int .i64 (x : Int))) := fun W' h => ⟨(TP.out.later h).cells.1, (TP.out.later h).cells.2, st_stays h HX2.out⟩
      by_cases hlt : j < fs.length
      · have hbit := HSH.out (j - 1) (by omega)
        rw [hbit] at FH
        clear hbit
        go_wp2_with fail
        obtain ⟨p0, p1, sx⟩ := HK.out _ (Below.refl _ wr)
        have D := Lib.hid (Below.refl wr.heap.size wr).drew
        go_region_held3 (fun W' => W'.cell? ⟨W2.heap.size, 0, none⟩ = some (.int .i64 k) ∧ W'.cell? ⟨W2.heap.size, 1, none⟩ = some (.slice A' m c') ∧ W'.cell? ad1 = some (.int .i64 (x : Int)))
          (first | (exact ⟨p0, p1, sx⟩) | (exact HK.out _ D.out) | (exact HK.out _ Y1.out))
          (first | (go_at_call 14; (with_reducible refine (FH.out _ (UP.out.below D.out)).mono ?_); rintro e z1 ⟨rfl, hz⟩; have Y1 := Lib.hid (below_all D.out hz); clear hz))
        all_goals
          have HB5 := Lib.hid (below_all HB.out Y1.out)
          have TP5 := Lib.hid (TP.out.later Y1.out)
          have UP5 := Lib.hid (UP.out.below Y1.out)
          have UG5 := Lib.hid (UG.out.below Y1.out)
          have TG5 := Lib.hid (T2.out.later HB5.out)
          clear p0 p1 sx D Y1 HK HB TP UP UG HX2
          obtain ⟨p0, p1⟩ := TP5.out.cells
          obtain ⟨g0, g1⟩ := TG5.out.cells
          go_wp2_with fail
          refine (gfCompose_at k _ _ _ _ _ UP5.out UG5.out (HPO.out (j - 1)) HOK.out).mono ?_
          rintro e V ⟨v6, rfl, ho6, hb6⟩
          have hj6 : Gf.composeR k (Cy.pw k l (j - 1)) l = Cy.pw k l j := by
            obtain ⟨i, rfl⟩ : ∃ i, j = i + 1 := ⟨j - 1, by omega⟩
            rfl
          rw [hj6] at ho6
          obtain ⟨A6, c6, hv6⟩ := ho6.form
          subst hv6
          generalize hm6 : (Cy.pw k l j).length = m6 at *
          have b7 := alloc_below V (.cells #[.int .i64 k, .slice A6 m6 c6] 24)
          have TQ := Two.new V 24 (.int .i64 k) (.slice A6 m6 c6)
          have TP7 := (TP5.out.later hb6).later b7
          obtain ⟨n0, n1⟩ := TQ.cells
          have f0 := TP7.frozen 0
          have f1 := TP7.frozen 1
          obtain ⟨r0, r1⟩ := TP7.cells
          have TP8 := Lib.hid (TP7.put (x := .int .i64 k) (y := .slice A6 m6 c6))
          have O8 := Lib.hid (own_setCell (own_setCell (ho6.below b7) TP5.out.lt (o := 0) (x := .int .i64 k)) TP5.out.lt (o := 1) (x := .slice A6 m6 c6))
          have B8 := Lib.hid (((below_all HB5.out (below_all hb6 b7)).setCell (p := ⟨W2.heap.size, 0, none⟩) (Nat.le_refl _) (.int .i64 k)).setCell (p := ⟨W2.heap.size, 1, none⟩) (Nat.le_refl _) (.slice A6 m6 c6))
          clear p0 p1 g0 g1 b7 TQ TP7 ho6 hb6 HB5 TP5 UP5 UG5 TG5 hj6 hm6
          go_wp2_with fail
          go_roundw
          case rel => exact ⟨j + 1, A6, m6, c6, by omega, by omega, by go_num, TP8.out, by rw [Nat.add_sub_cancel]; exact Rows'.own O8.out, B8.out⟩
          case measure => simp [intOf]; omega
      · have hje : j = fs.length := by omega
        subst hje
        have hbit := HEND.out
        rw [hbit] at FH
        clear hbit
        go_wp2_with fail
        obtain ⟨p0, p1, sx⟩ := HK.out _ (Below.refl _ wr)
        have D := Lib.hid (Below.refl wr.heap.size wr).drew
        go_region_held3 (fun W' => W'.cell? ⟨W2.heap.size, 0, none⟩ = some (.int .i64 k) ∧ W'.cell? ⟨W2.heap.size, 1, none⟩ = some (.slice A' m c') ∧ W'.cell? ad1 = some (.int .i64 (x : Int)))
          (first | (exact ⟨p0, p1, sx⟩) | (exact HK.out _ D.out) | (exact HK.out _ Y1.out))
          (first | (go_at_call 14; (with_reducible refine (FH.out _ (UP.out.below D.out)).mono ?_); rintro e z1 ⟨rfl, hz⟩; have Y1 := Lib.hid (below_all D.out hz); clear hz))
        all_goals
          have B9 := Lib.hid (below_all B2.out (below_all HB.out Y1.out))
          clear p0 p1 sx D Y1 HK HB TP UP UG HX2
          go_wp2_with fail
          go_ret
          exact ⟨rfl, B9.out⟩
end Go.Proofs.Ytgapcjgmmlffmaa
