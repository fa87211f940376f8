/-
  The law CycleFinds: what is found is a cycle that begins with the least node on any, and something is found just if the graph is cyclic.
  Conditions: rows hold sets below 2^64; the library's table for the lowest bit holds what its text says.
-/
import Derived.Test.YtgapcjgmmlffmaaDoorCyAwake
import Derived.Test.YtgapcjgmmlffmaaDoorRcAll
import Derived.Test.YtgapcjgmmlffmaaDoorScWalk
import Derived.Deep.RegionHeld3
set_option maxRecDepth 4000
namespace Go.Proofs.YtgapcjgmmlffmaaDoor
open Go.RowKit

namespace Cy
open Gf Rc
theorem cyclic_ok {n : Int} {g : List Nat} (h : cyclicA n g = true) : ∃ k : Nat, n = (k : Int) ∧ Ok k g ∧ cyclicR k g = true := by
  rw [cyclicA, Bool.and_eq_true] at h
  obtain ⟨k, rfl, hg⟩ := okB_iff.1 h.1
  rw [Int.toNat_natCast] at h
  exact ⟨k, rfl, hg, h.2⟩
theorem find_not {n : Int} {g : List Nat} (h : cyclicA n g = false) : findA n g = [] := by
  cases ho : okB n g with
  | false => exact findA_no ho
  | true =>
    obtain ⟨k, rfl, hg⟩ := okB_iff.1 ho
    rw [cyclicA, ho, Bool.true_and, Int.toNat_natCast] at h
    rw [findA_yes hg, find_none hg h]
end Cy
set_option maxHeartbeats 8000000 in
theorem lawCycleFinds (n : Int) (u : Value) (l : List Nat) (w : World) (hT : TZ w) (hu : Us w u l) (hs : ∀ x ∈ l, x < 18446744073709551616) : Calls Tryd.prog 3 #[.agg #[.int .i64 n, u]] w (RetBool w true) := by
  have HU := Lib.hid hu
  have HS := Lib.hid hs
  have HT := Lib.hid hT
  obtain ⟨A, c, rfl, -⟩ := hu.spelled
  have T_g := Lib.hid (Two.new w 24 (.int .i64 n) (.slice A l.length c))
  have BW := Lib.hid (alloc_below w (.cells #[.int .i64 n, .slice A l.length c] 24))
  clear hu hs hT
  go_enter Tryd.func3, Tryd.ntmps3
  go_wp2_with fail
  generalize w.alloc (.cells #[.int .i64 n, .slice A l.length c] 24) = W0 at *
  go_wp2_with fail
  refine (cyAwake_at _).mono ?_
  rintro e W1 ⟨rfl, hb⟩
  have S1 := Lib.hid hb
  clear hb
  obtain ⟨g0, g1⟩ := (T_g.out.later S1.out).cells
  by_cases h70 : 70 < l.length
  ·
    go_wp2_with fail
    go_ret
    exact ⟨rfl, (below_all BW.out S1.out)⟩
  have FF := Lib.hid (fun w h1 => cyFind_at n (.slice A l.length c) l w h1 HS.out)
  have FC := Lib.hid (fun w h0 h1 => rcCyclic_at n (.slice A l.length c) l w h0 h1 HS.out)
  cases hcy : Rc.cyclicA n l with
  | false =>
    rw [Cy.find_not hcy] at FF
    rw [hcy] at FC
    clear hcy
    go_wp2_with fail
    refine (FF.out _ (HU.out.below (below_all BW.out S1.out))).mono ?_
    rintro e W2 ⟨v1, rfl, ho1, hb⟩
    have S2 := Lib.hid hb
    clear hb
    clear g0 g1
    obtain ⟨A1, c1, rfl, -⟩ := ints_is (k := 0) ho1 rfl
    clear ho1
    obtain ⟨g0, g1⟩ := (T_g.out.later (below_all S1.out S2.out)).cells
    go_wp2_with fail
    refine (FC.out _ (HT.out.below (below_all BW.out (below_all S1.out S2.out))) (HU.out.below (below_all BW.out (below_all S1.out S2.out)))).mono ?_
    rintro e W3 ⟨rfl, hb⟩
    have S3 := Lib.hid hb
    clear hb
    clear g0 g1
    go_wp2_with fail
    go_ret
    exact ⟨rfl, (below_all BW.out (below_all (below_all S1.out S2.out) S3.out))⟩
  | true =>
    obtain ⟨k, hnk, hok, hcr⟩ := Cy.cyclic_ok hcy
    subst hnk
    rw [Cy.findA_yes hok] at FF
    rw [hcy] at FC
    have FN := Lib.hid (fun w h => scInner_at (k : Int) (.slice A l.length c) l w h HS.out)
    rw [Sc.innerA_yes hok] at FN
    have HIC := Lib.hid (Cy.find_isC hok hcr)
    have HFL := Lib.hid (Cy.find_len hok)
    have h64 := hok.1
    obtain ⟨x, r, s, e1, e2⟩ := Cy.find_head hok hcr
    rw [e1] at FF HIC HFL
    rw [e2] at FN
    clear hok hcr hcy e1 e2
    obtain ⟨fs, hfs⟩ : ∃ fs, fs = x :: r := ⟨_, rfl⟩
    obtain ⟨ns, hns⟩ : ∃ ns, ns = x :: s := ⟨_, rfl⟩
    rw [← hfs] at FF HIC HFL
    rw [← hns] at FN
    have hf0 : 0 < fs.length := by rw [hfs]; simp
    have hn0 : 0 < ns.length := by rw [hns]; simp
    have HFX : Hid (fs[0] = x) := by subst hfs; rfl
    have HNX : Hid (ns[0] = x) := by subst hns; rfl
    clear hfs hns
    go_wp2_with fail
    refine (FF.out _ (HU.out.below (below_all BW.out S1.out))).mono ?_
    rintro e W2 ⟨v1, rfl, ho1, hb⟩
    have S2 := Lib.hid hb
    clear hb
    clear g0 g1
    obtain ⟨A1, c1, rfl, hn1⟩ := ints_is (k := fs.length) ho1 rfl
    have N1 := Lib.hid hn1
    clear ho1 hn1
    obtain ⟨g0, g1⟩ := (T_g.out.later (below_all S1.out S2.out)).cells
    go_wp2_with fail
    refine (FC.out _ (HT.out.below (below_all BW.out (below_all S1.out S2.out))) (HU.out.below (below_all BW.out (below_all S1.out S2.out)))).mono ?_
    rintro e W3 ⟨rfl, hb⟩
    have S3 := Lib.hid hb
    clear hb
    clear g0 g1
    obtain ⟨g0, g1⟩ := (T_g.out.later (below_all (below_all S1.out S2.out) S3.out)).cells
    go_wp2_with fail
    refine (FN.out _ (HU.out.below (below_all BW.out (below_all (below_all S1.out S2.out) S3.out)))).mono ?_
    rintro e W4 ⟨v2, rfl, ho2, hb⟩
    have S4 := Lib.hid hb
    clear hb
    clear g0 g1
    obtain ⟨A2, c2, rfl, hn2⟩ := ints_is (k := ns.length) ho2 rfl
    clear ho2
    have n1 := N1.out.below (below_all S3.out S4.out)
    obtain ⟨ad1, e1, hb1, hx1⟩ := ints_at n1 0 hf0
    obtain ⟨ad2, e2, hb2, hx2⟩ := ints_at hn2 0 hn0
    subst e1
    subst e2
    rw [add_zero', HFX.out] at hx1
    rw [add_zero', HNX.out] at hx2
    have NC := Lib.hid n1
    have HB1 := Lib.hid hb1
    have HB2 := Lib.hid hb2
    have HX1 := Lib.hid hx1
    have HX2 := Lib.hid hx2
    clear n1 hn2 hb1 hb2 hx1 hx2
    have FI := Lib.hid (fun w h1 h2 => cyIs_at (k : Int) (.slice A l.length c) l (Bi.nums fs) (.slice (some ad1) fs.length c1) w h1 HS.out h2 (by rw [Bi.nums_len]; exact Nat.le_trans HFL.out (by omega)))
    have hq1 : decide ((0 : Int) < (fs.length : Int)) = true := by simp; omega
    have hq2 : decide ((0 : Int) < (ns.length : Int)) = true := by simp; omega
    have hq3 : decide (0 < fs.length) = true := by simp; omega
    have hq4 : decide (0 < ns.length) = true := by simp; omega
    have hxx : ((x : Int) == (x : Int)) = true := by simp
    obtain ⟨g0, g1⟩ := (T_g.out.later (below_all (below_all (below_all S1.out S2.out) S3.out) S4.out)).cells
    go_wp2_with fail
    clear g0 g1
    have UC_g := Lib.hid (HU.out.below (below_all BW.out (below_all (below_all (below_all S1.out S2.out) S3.out) S4.out)))
    have HK : Hid (∀ W', Below W4.heap.size W4 W' → W'.cell? ⟨w.heap.size, 0, none⟩ = some (.int .i64 k) ∧ W'.cell? ⟨w.heap.size, 1, none⟩ = some (.slice A l.length c) ∧ W'.cell? ad1 = some (.int .i64 (x : Int)) ∧ W'.cell? ad2 = some (.int .i64 (x : Int))) := fun W' h => ⟨(T_g.out.later (below_all (below_all (below_all (below_all S1.out S2.out) S3.out) S4.out) h)).cells.1, (T_g.out.later (below_all (below_all (below_all (below_all S1.out S2.out) S3.out) S4.out) h)).cells.2, (h.cell HB1.out).trans HX1.out, (h.cell HB2.out).trans HX2.out⟩
    obtain ⟨g0, g1, sx1, sx2⟩ := HK.out _ (Below.refl _ W4)
    have D := Lib.hid (Below.refl W4.heap.size W4).drew
    go_region_held3 (fun W' => W'.cell? ⟨w.heap.size, 0, none⟩ = some (.int .i64 k) ∧ W'.cell? ⟨w.heap.size, 1, none⟩ = some (.slice A l.length c) ∧ W'.cell? ad1 = some (.int .i64 (x : Int)) ∧ W'.cell? ad2 = some (.int .i64 (x : Int)))
      (first | (exact ⟨g0, g1, sx1, sx2⟩) | (exact HK.out _ D.out) | (exact HK.out _ Y1.out))
      (first
            | (go_at_call 8; (with_reducible refine (FI.out _ (UC_g.out.below D.out) (NC.out.below D.out)).mono ?_); rintro e W5 ⟨b1, rfl, hi1, hz⟩; have Y1 := Lib.hid (below_all D.out hz); obtain rfl : b1 = true := hi1.2 HIC.out; clear hi1; clear hz))
    all_goals
      have S5 := Lib.hid Y1.out
      clear g0 g1 sx1 sx2 HK D Y1
      go_wp2_with fail
      go_ret
      exact ⟨rfl, (below_all BW.out (below_all (below_all (below_all (below_all S1.out S2.out) S3.out) S4.out) S5.out))⟩
end Go.Proofs.YtgapcjgmmlffmaaDoor
