/-
  The law CycleTells: whether any nodes are a cycle of any graph, and which one is found, are the document's.
  Conditions: rows hold sets below 2^64; the library's table for the lowest bit holds what its text says.
-/
import Derived.Test.YtgapcjgmmlffmaaCyAwake
import Derived.Deep.RegionHeld3
set_option maxRecDepth 4000
namespace Go.Proofs.Ytgapcjgmmlffmaa
open Go.RowKit
set_option maxHeartbeats 8000000 in
theorem lawCycleTells (n : Int) (u : Value) (l : List Nat) (q : List Int) (v : Value) (w : World) (hu : Us w u l) (hs : ∀ x ∈ l, x < 18446744073709551616) (hv : Ns w v q) : Calls Try.prog 3 #[.agg #[.int .i64 n, u], v] w (RetBool w true) := by
  have HU := Lib.hid hu
  have HS := Lib.hid hs
  have HV := Lib.hid hv
  obtain ⟨A, c, rfl, -⟩ := hu.spelled
  obtain ⟨B, d, rfl, -⟩ := hv.spelled
  have T_g := Lib.hid (Two.new w 24 (.int .i64 n) (.slice A l.length c))
  have BW := Lib.hid (alloc_below w (.cells #[.int .i64 n, .slice A l.length c] 24))
  clear hu hs hv
  go_enter Try.func3, Try.ntmps3
  go_wp2_with fail
  generalize w.alloc (.cells #[.int .i64 n, .slice A l.length c] 24) = W0 at *
  go_wp2_with fail
  refine (cyAwake_at _).mono ?_
  rintro e W1 ⟨rfl, hb⟩
  have S1 := Lib.hid hb
  clear hb
  obtain ⟨g0, g1⟩ := (T_g.out.later S1.out).cells
  go_wp2_with fail
  refine (cyPlain_at n (.slice A l.length c) l _ (HU.out.below (below_all BW.out S1.out))).mono ?_
  rintro e V ⟨rfl, hb⟩
  have b := alloc_below V (.cells #[.int .i64 n, .slice A l.length c] 27)
  have S2 := Lib.hid (below_all hb b)
  have T_r := Lib.hid (Two.new V 27 (.int .i64 n) (.slice A l.length c))
  have U_r := Lib.hid ((HU.out.below (below_all (below_all BW.out S1.out) hb)).below b)
  clear hb b
  clear g0 g1
  obtain ⟨g0, g1⟩ := (T_g.out.later (below_all S1.out S2.out)).cells
  by_cases h70 : 70 < l.length
  ·
    go_wp2_with fail
    generalize V.alloc (.cells #[.int .i64 n, .slice A l.length c] 27) = W2 at *
    generalize V.heap.size = o_r at *
    go_ret
    exact ⟨rfl, (below_all BW.out (below_all S1.out S2.out))⟩
  by_cases h100 : 100 < q.length
  ·
    go_wp2_with fail
    generalize V.alloc (.cells #[.int .i64 n, .slice A l.length c] 27) = W2 at *
    generalize V.heap.size = o_r at *
    go_ret
    exact ⟨rfl, (below_all BW.out (below_all S1.out S2.out))⟩
  obtain ⟨p, hp⟩ : ∃ p, p = Gf.okB n l := ⟨_, rfl⟩
  have HP := Lib.hid hp
  obtain ⟨r0, r1⟩ := T_r.out.cells
  go_wp2_with fail
  generalize V.alloc (.cells #[.int .i64 n, .slice A l.length c] 27) = W2 at *
  generalize V.heap.size = o_r at *
  refine (rRight12_at n (.slice A l.length c) l _ U_r.out HS.out).mono ?_
  rintro e W3 ⟨rfl, hb⟩
  have S3 := Lib.hid hb
  clear hb
  clear g0 g1 r0 r1
  rw [← HP.out]
  have HQL : Hid (q.length ≤ 4294967296) := by rw [Hid]; omega
  have FI := Lib.hid (fun w h1 h2 => cyIs_at n (.slice A l.length c) l q (.slice B q.length d) w h1 HS.out h2 HQL.out)
  have GI := Lib.hid (fun w h1 h2 => rIs15_at n (.slice A l.length c) l q (.slice B q.length d) w h1 HS.out h2 HQL.out)
  have FF := Lib.hid (fun w h1 => cyFind_at n (.slice A l.length c) l w h1 HS.out)
  clear hp
  cases p with
  | false =>
    have hno : Gf.okB n l = false := HP.out.symm
    rw [Cy.findA_no hno] at FF
    have GF := Lib.hid (fun w h => rFind15_no n (.slice A l.length c) l w h HS.out hno)
    have HFL : Hid ((Bi.nums []).length ≤ 4294967296) := (show (Bi.nums []).length ≤ 4294967296 by decide)
    clear hno HP
    obtain ⟨g0, g1⟩ := (T_g.out.later (below_all (below_all S1.out S2.out) S3.out)).cells
    go_wp2_with fail
    clear g0 g1
    have UC_g := Lib.hid (HU.out.below (below_all BW.out (below_all (below_all S1.out S2.out) S3.out)))
    have NC := Lib.hid (HV.out.below (below_all BW.out (below_all (below_all S1.out S2.out) S3.out)))
    have HK : Hid (∀ W', Below W3.heap.size W3 W' → W'.cell? ⟨w.heap.size, 0, none⟩ = some (.int .i64 n) ∧ W'.cell? ⟨w.heap.size, 1, none⟩ = some (.slice A l.length c) ∧ W'.cell? ⟨o_r, 0, none⟩ = some (.int .i64 n) ∧ W'.cell? ⟨o_r, 1, none⟩ = some (.slice A l.length c)) := fun W' h => ⟨(T_g.out.later (below_all (below_all (below_all S1.out S2.out) S3.out) h)).cells.1, (T_g.out.later (below_all (below_all (below_all S1.out S2.out) S3.out) h)).cells.2, (T_r.out.later (below_all S3.out h)).cells.1, (T_r.out.later (below_all S3.out h)).cells.2⟩
    obtain ⟨g0, g1, r0, r1⟩ := HK.out _ (Below.refl _ W3)
    have D := Lib.hid (Below.refl W3.heap.size W3).drew
    go_region_held3 (fun W' => W'.cell? ⟨w.heap.size, 0, none⟩ = some (.int .i64 n) ∧ W'.cell? ⟨w.heap.size, 1, none⟩ = some (.slice A l.length c) ∧ W'.cell? ⟨o_r, 0, none⟩ = some (.int .i64 n) ∧ W'.cell? ⟨o_r, 1, none⟩ = some (.slice A l.length c))
      (first | (exact ⟨g0, g1, r0, r1⟩) | (exact HK.out _ D.out) | (exact HK.out _ Y1.out) | (exact HK.out _ Y2.out) | (exact HK.out _ Y3.out) | (exact HK.out _ Y4.out) | (exact HK.out _ Y5.out))
      (first
            | (go_at_call 9; (with_reducible refine (FI.out _ (UC_g.out.below D.out) (NC.out.below D.out)).mono ?_); rintro e z1 ⟨b1, rfl, hi1, hz⟩; have Y1 := Lib.hid (below_all D.out hz); have HI1 := Lib.hid hi1; clear hi1; clear hz)
            | (go_at_call 10; (with_reducible refine (GI.out _ (UC_g.out.below Y1.out) (NC.out.below Y1.out)).mono ?_); rintro e z2 ⟨b2, rfl, hi2, hz⟩; have Y2 := Lib.hid (below_all Y1.out hz); have hbb : (b1 == b2) = true := (by rw [beq_iff_eq, Bool.eq_iff_iff, HI1.out, hi2]); clear hi2; clear hz)
            | (go_at_call 12; (with_reducible refine (FF.out _ (UC_g.out.below Y2.out)).mono ?_); rintro e z3 ⟨v3, rfl, ho3, hz⟩; have Y3 := Lib.hid (below_all Y2.out hz); have hn3 := nums_own ho3; obtain ⟨A3, c3, rfl, -⟩ := hn3.spelled; have R3 := Lib.hid hn3; clear ho3 hn3; clear hz)
            | (go_at_call 13; (with_reducible refine (GF.out _ (UC_g.out.below Y3.out)).mono ?_); rintro e z4 ⟨v4, rfl, ho4, hz⟩; have Y4 := Lib.hid (below_all Y3.out hz); have R3 := Lib.hid (R3.out.below hz); have hn4 := nums_own ho4; obtain ⟨A4, c4, rfl, -⟩ := hn4.spelled; have R4 := Lib.hid hn4; clear ho4 hn4; clear hz)
            | (go_at_call 11; (with_reducible refine (rInts_at (Bi.nums []) _ _ _ R3.out R4.out HFL.out).mono ?_); rintro e W4 ⟨rfl, hz⟩; have Y5 := Lib.hid (below_all Y4.out hz); clear R3 R4; clear hz))
    all_goals
      have S4 := Lib.hid Y5.out
      clear g0 g1 r0 r1 HK D Y1 Y2 Y3 Y4 Y5
      go_wp2_with fail
      go_ret
      exact ⟨rfl, (below_all BW.out (below_all (below_all (below_all S1.out S2.out) S3.out) S4.out))⟩
  | true =>
    obtain ⟨k, hnk, hok⟩ := Gf.okB_iff.1 HP.out.symm
    subst hnk
    have HOK := Lib.hid hok
    have h64 := hok.1
    rw [Cy.findA_yes hok] at FF
    have GF := Lib.hid (fun w h => rFind15_at k (.slice A l.length c) l w h HOK.out)
    have HFN := Lib.hid (Cy.find_len hok)
    generalize Cy.findR k l = fs at *
    have HFL : Hid ((Bi.nums fs).length ≤ 4294967296) := by rw [Hid, Bi.nums_len]; exact Nat.le_trans HFN.out (by omega)
    clear hok HP
    obtain ⟨g0, g1⟩ := (T_g.out.later (below_all (below_all S1.out S2.out) S3.out)).cells
    by_cases h12 : 12 < k
    ·
      go_wp2_with fail
      go_ret
      exact ⟨rfl, (below_all BW.out (below_all (below_all S1.out S2.out) S3.out))⟩
    clear g0 g1
    obtain ⟨g0, g1⟩ := (T_g.out.later (below_all (below_all S1.out S2.out) S3.out)).cells
    go_wp2_with fail
    clear g0 g1
    have UC_g := Lib.hid (HU.out.below (below_all BW.out (below_all (below_all S1.out S2.out) S3.out)))
    have NC := Lib.hid (HV.out.below (below_all BW.out (below_all (below_all S1.out S2.out) S3.out)))
    have HK : Hid (∀ W', Below W3.heap.size W3 W' → W'.cell? ⟨w.heap.size, 0, none⟩ = some (.int .i64 k) ∧ W'.cell? ⟨w.heap.size, 1, none⟩ = some (.slice A l.length c) ∧ W'.cell? ⟨o_r, 0, none⟩ = some (.int .i64 k) ∧ W'.cell? ⟨o_r, 1, none⟩ = some (.slice A l.length c)) := fun W' h => ⟨(T_g.out.later (below_all (below_all (below_all S1.out S2.out) S3.out) h)).cells.1, (T_g.out.later (below_all (below_all (below_all S1.out S2.out) S3.out) h)).cells.2, (T_r.out.later (below_all S3.out h)).cells.1, (T_r.out.later (below_all S3.out h)).cells.2⟩
    obtain ⟨g0, g1, r0, r1⟩ := HK.out _ (Below.refl _ W3)
    have D := Lib.hid (Below.refl W3.heap.size W3).drew
    go_region_held3 (fun W' => W'.cell? ⟨w.heap.size, 0, none⟩ = some (.int .i64 k) ∧ W'.cell? ⟨w.heap.size, 1, none⟩ = some (.slice A l.length c) ∧ W'.cell? ⟨o_r, 0, none⟩ = some (.int .i64 k) ∧ W'.cell? ⟨o_r, 1, none⟩ = some (.slice A l.length c))
      (first | (exact ⟨g0, g1, r0, r1⟩) | (exact HK.out _ D.out) | (exact HK.out _ Y1.out) | (exact HK.out _ Y2.out) | (exact HK.out _ Y3.out) | (exact HK.out _ Y4.out) | (exact HK.out _ Y5.out))
      (first
            | (go_at_call 9; (with_reducible refine (FI.out _ (UC_g.out.below D.out) (NC.out.below D.out)).mono ?_); rintro e z1 ⟨b1, rfl, hi1, hz⟩; have Y1 := Lib.hid (below_all D.out hz); have HI1 := Lib.hid hi1; clear hi1; clear hz)
            | (go_at_call 10; (with_reducible refine (GI.out _ (UC_g.out.below Y1.out) (NC.out.below Y1.out)).mono ?_); rintro e z2 ⟨b2, rfl, hi2, hz⟩; have Y2 := Lib.hid (below_all Y1.out hz); have hbb : (b1 == b2) = true := (by rw [beq_iff_eq, Bool.eq_iff_iff, HI1.out, hi2]); clear hi2; clear hz)
            | (go_at_call 12; (with_reducible refine (FF.out _ (UC_g.out.below Y2.out)).mono ?_); rintro e z3 ⟨v3, rfl, ho3, hz⟩; have Y3 := Lib.hid (below_all Y2.out hz); have hn3 := nums_own ho3; obtain ⟨A3, c3, rfl, -⟩ := hn3.spelled; have R3 := Lib.hid hn3; clear ho3 hn3; clear hz)
            | (go_at_call 13; (with_reducible refine (GF.out _ (UC_g.out.below Y3.out)).mono ?_); rintro e z4 ⟨v4, rfl, ho4, hz⟩; have Y4 := Lib.hid (below_all Y3.out hz); have R3 := Lib.hid (R3.out.below hz); have hn4 := nums_own ho4; obtain ⟨A4, c4, rfl, -⟩ := hn4.spelled; have R4 := Lib.hid hn4; clear ho4 hn4; clear hz)
            | (go_at_call 11; (with_reducible refine (rInts_at (Bi.nums fs) _ _ _ R3.out R4.out HFL.out).mono ?_); rintro e W4 ⟨rfl, hz⟩; have Y5 := Lib.hid (below_all Y4.out hz); clear R3 R4; clear hz))
    all_goals
      have S4 := Lib.hid Y5.out
      clear g0 g1 r0 r1 HK D Y1 Y2 Y3 Y4 Y5
      go_wp2_with fail
      go_ret
      exact ⟨rfl, (below_all BW.out (below_all (below_all (below_all S1.out S2.out) S3.out) S4.out))⟩
end Go.Proofs.Ytgapcjgmmlffmaa
