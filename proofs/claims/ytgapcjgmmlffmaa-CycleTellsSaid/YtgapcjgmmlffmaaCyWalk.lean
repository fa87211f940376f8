/-
  What cycle's Find answers, of any graph.
  Conditions: rows of the graph hold sets below 2^64.
-/
import Derived.Test.YtgapcjgmmlffmaaCyIs
import Derived.Test.YtgapcjgmmlffmaaCyAround
import Derived.Test.YtgapcjgmmlffmaaGfAll
set_option maxRecDepth 4000
namespace Go.Proofs.Ytgapcjgmmlffmaa
open Go.RowKit

/-- The variable that holds the numbers, behind the store of all of them at once. -/
theorem arr_laid (W : World) (t : TypeId) (z d : List Nat) : ArrI ((W.alloc (.cells (arrC z) t)).setRow W.heap.size (arrC d)) W.heap.size t d ∧ Below W.heap.size W ((W.alloc (.cells (arrC z) t)).setRow W.heap.size (arrC d)) :=
  ⟨setRow_heap _ _ (arrC z) (arrC d) t (0, 0) (World.alloc_heap_new W _), below_setRow (alloc_below W _) (Nat.le_refl _) _⟩

set_option maxHeartbeats 4000000 in
theorem cyFind_at (n : Int) (u : Value) (g : List Nat) (w : World) (hu : Us w u g) (hs : ∀ x ∈ g, x < 18446744073709551616) : Calls Try.prog 12 #[.agg #[.int .i64 n, u]] w (RetElems w (Cy.findA n g)) := by
  have HU := Lib.hid hu
  have BW := Lib.hid (alloc_below w (.cells #[.int .i64 n, u] 24))
  have T0 := Lib.hid (Two.new w 24 (.int .i64 n) u)
  obtain ⟨A, c, rfl, -⟩ := hu.spelled
  cases hok : Gf.okB n g with
  | false =>
    have F1 := Lib.hid (fun w h => gfTurn_no n (.slice A g.length c) g w h hs hok)
    rw [Cy.findA_no hok]
    clear hu hs hok
    go_enter Try.func12, Try.ntmps12
    go_upto_region 1 with fail
    generalize w.alloc (.cells #[.int .i64 n, .slice A g.length c] 24) = W at *
    obtain ⟨a0, a1⟩ := T0.out.cells
    go_wp2_with fail
    refine (F1.out _ (HU.out.below BW.out)).mono ?_
    rintro e w1 ⟨rfl, hb1⟩
    have B1 := Lib.hid (below_all BW.out (below_all hb1 (alloc_below w1 (.cells #[.int .i64 0, .slice none 0 0] 24))))
    clear hb1 a0 a1
    go_wp2_with fail
    go_ret
    exact ⟨_, rfl, World.ownsRow_nil _ _ _ _, B1.out⟩
  | true =>
    obtain ⟨k, rfl, hg⟩ := Gf.okB_iff.1 hok
    have hn64 := hg.1
    have F1 := Lib.hid (fun w h => gfTurn_at k (.slice A g.length c) g w h hg)
    have F2 := Lib.hid (fun (T : Value) (x : Nat) (w : World) h (hx : x < k) => cyDist_at k T g x w h hg hx)
    have F3 := Lib.hid (fun (x m : Nat) (w : World) h (hx : x < k) (hm : Cy.far k g x k x = m + 1) => cyAround_at k (.slice A g.length c) g x m w h hg hx hm)
    have HFA := Lib.hid (fun v m h1 h2 h3 => Cy.findR_at (n := k) (g := g) (v := v) (m := m) h1 h2 h3)
    have HFN := Lib.hid (Cy.findR_no (n := k) (g := g))
    have HTR : Hid (∀ x, (Cy.fars k g x k).length = 64 ∧ ∀ h : x < (Cy.fars k g x k).length, (Cy.fars k g x k)[x] = Cy.far k g x k x) := fun x => ⟨Cy.fars_len k g x k, fun h => Cy.fars_at k g x k h⟩
    rw [Cy.findA_yes hg]
    clear hu hs hok hg
    generalize Cy.findR k g = res at *
    generalize Gf.turnR k g = tr at *
    go_enter Try.func12, Try.ntmps12
    go_upto_region 1 with fail
    generalize w.alloc (.cells #[.int .i64 (k : Int), .slice A g.length c] 24) = W at *
    obtain ⟨a0, a1⟩ := T0.out.cells
    go_wp2_with fail
    refine (F1.out _ (HU.out.below BW.out)).mono ?_
    rintro e w1 ⟨v1, rfl, ho1, hb1⟩
    obtain ⟨A1, c1, hv1⟩ := ho1.form
    subst hv1
    generalize hm1 : tr.length = m1 at *
    have b2 := alloc_below w1 (.cells #[.int .i64 (k : Int), .slice A1 m1 c1] 24)
    have HB2 := Lib.hid (below_all BW.out (below_all hb1 b2))
    have U2 := Lib.hid (ho1.below b2).us
    have TG := Lib.hid (Two.new w1 24 (.int .i64 (k : Int)) (.slice A1 m1 c1))
    have TA := Lib.hid ((T0.out.later hb1).later b2)
    clear a0 a1 ho1 hb1 b2 T0 BW F1 hm1
    go_upto_region 2 with fail
    generalize w1.alloc (.cells #[.int .i64 (k : Int), .slice A1 m1 c1] 24) = W1 at *
    obtain ⟨a0, a1⟩ := TA.out.cells
    go_wp2_with fail
    clear a0 a1
    go_loopw [16] (fun i wr => ∃ x : Nat, x ≤ k ∧ i = .int .i64 x ∧ Hid (∀ y, y < x → Cy.far k g y k y = 0) ∧ Hid (Below W1.heap.size W1 wr)) (fun i _ => k - (intOf i).toNat)
    case atStart => exact ⟨0, Nat.zero_le _, rfl, fun y h => absurd h (Nat.not_lt_zero y), Below.refl _ _⟩
    case round =>
      obtain ⟨x, hx, rfl, HN, HB⟩ := hrel
      by_cases hlt : x < k
      · obtain ⟨a0, a1⟩ := (TG.out.later HB.out).cells
        have F2x := Lib.hid (F2.out (.slice A1 m1 c1) x wr (U2.out.below HB.out) hlt)
        obtain ⟨hfl, hfx⟩ := HTR.out x
        have hfx2 := hfx (by rw [hfl]; omega)
        have HSZ := Lib.hid (dist_size hfl)
        have HON := Lib.hid (arrC_one (Cy.fars k g x k))
        have HOL : Hid ((arrC (Gf.zeros 64)).size = (arrC (Cy.fars k g x k)).size) := by rw [Hid, arrC_size, arrC_size, hfl]; rfl
        have F3x := Lib.hid (fun (m : Nat) w h (hm : Cy.far k g x k x = m + 1) => F3.out x m w h hlt hm)
        have hx64 : x < 64 := by omega
        clear hfx
        generalize Cy.fars k g x k = fr at *
        go_wp2_with fail
        refine F2x.out.mono ?_
        rintro e w2 ⟨rfl, hb2⟩
        go_upto_region 8 with (refine wpList_store_row rfl 48 (.tmp 6) (.tmp 21) rfl w2.heap.size (arrC fr) rfl rfl 48 (arrC (Gf.zeros 64)) (World.alloc_heap_new _ _) HSZ.out HOL.out HON.out ?_)
        rw [arr_zeros]
        dsimp only [Act.put]
        obtain ⟨ar, br⟩ := arr_laid w2 48 (Gf.zeros 64) fr
        have AR := Lib.hid ar
        have HB3 := Lib.hid (below_all HB.out (below_all hb2 br))
        have e0 := ar.cell x (by rw [hfl]; exact hx64)
        rw [hfx2] at e0
        generalize (w2.alloc (.cells (arrC (Gf.zeros 64)) 48)).setRow w2.heap.size (arrC fr) = w3 at *
        clear ar br hb2 a0 a1 HB hfx2
        obtain ⟨q, hq⟩ : ∃ q, q = Cy.far k g x k x := ⟨_, rfl⟩
        have HQ := Lib.hid hq
        rw [← hq] at e0
        clear hq
        by_cases hq0 : q = 0
        · have hqq : decide ((q : Int) > 0) = false := decide_eq_false (by omega)
          have hqq2 : decide (q > 0) = false := decide_eq_false (by omega)
          have HN2 : Hid (∀ y, y < x + 1 → Cy.far k g y k y = 0) := fun y hy => by
            rcases Nat.lt_succ_iff_lt_or_eq.1 hy with h | h
            · exact HN.out y h
            · rw [h, ← HQ.out]; exact hq0
          clear hq0
          go_wp2_with fail
          go_roundw
          case rel => exact ⟨x + 1, by omega, by go_num, HN2.out, HB3.out⟩
          case measure => simp [intOf]; omega
        · obtain ⟨m, hm⟩ : ∃ m, q = m + 1 := ⟨q - 1, by omega⟩
          have hqq : decide ((q : Int) > 0) = true := decide_eq_true (by omega)
          have hqq2 : decide (q > 0) = true := decide_eq_true (by omega)
          have HR := Lib.hid (HFA.out x m hlt (HQ.out.symm.trans hm) HN.out)
          have HM := Lib.hid (HQ.out.symm.trans hm)
          have HBW := Lib.hid (below_all HB2.out HB3.out)
          obtain ⟨a0, a1⟩ := (TA.out.later HB3.out).cells
          clear hq0 hm
          go_wp2_with (refine wpList_load_row rfl 48 (.tmp 6) rfl w2.heap.size rfl 48 (arrC fr) (0, 0) _ AR.out Try.underlying48 rfl HSZ.out ?_)
          refine (F3x.out m _ (HU.out.below HBW.out) HM.out).mono ?_
          rintro e w4 ⟨v4, rfl, ho4, hb4⟩
          have HO4 := Lib.hid (ho4.mono HBW.out.size)
          have HB4 := Lib.hid (below_all HBW.out hb4)
          rw [← HR.out] at HO4
          clear ho4 hb4 a0 a1
          go_wp2_with fail
          go_ret
          exact ⟨_, rfl, HO4.out, HB4.out⟩
      · obtain rfl : x = k := by omega
        have HR := Lib.hid (HFN.out HN.out)
        go_wp2_with fail
        go_ret
        exact ⟨_, rfl, by rw [HR.out]; exact World.ownsRow_nil _ _ _ _, below_all HB2.out HB.out⟩
end Go.Proofs.Ytgapcjgmmlffmaa
