/-
  The law TopoTells: whether any nodes are an order of any graph, and which one is told, are the document's.
  Conditions: rows hold sets below 2^64.
-/
import Derived.Test.YtpmimmaaeaifhaaToAwake
import Derived.Deep.RegionHeld3
set_option maxRecDepth 4000
namespace Go.Proofs.Ytpmimmaaeaifhaa
open Go.RowKit
set_option maxHeartbeats 8000000 in
theorem lawTopoTells (n : Int) (u : Value) (l : List Nat) (q : List Int) (v : Value) (w : World) (hu : Us w u l) (hs : ∀ x ∈ l, x < 18446744073709551616) (hv : Ns w v q) : Calls Try.prog 3 #[.agg #[.int .i64 n, u], v] w (RetBool w true) := by
  have HU := Lib.hid hu
  have HS := Lib.hid hs
  have HV := Lib.hid hv
  obtain ⟨A, c, rfl, -⟩ := hu.spelled
  obtain ⟨B, d, rfl, -⟩ := hv.spelled
  have T_g := Lib.hid (Two.new w 24 (.int .i64 n) (.slice A l.length c))
  have BW := Lib.hid (alloc_below w (.cells #[.int .i64 n, .slice A l.length c] 24))
  clear hu hs hv
  go_enter Try.func3, Try.ntmps3
  go_wp2_with fail
  generalize w.alloc (.cells #[.int .i64 n, .slice A l.length c] 24) = W0 at *
  go_wp2_with fail
  refine (toAwake_at _).mono ?_
  rintro e W1 ⟨rfl, hb⟩
  have S1 := Lib.hid hb
  clear hb
  obtain ⟨g0, g1⟩ := (T_g.out.later S1.out).cells
  go_wp2_with fail
  refine (toPlain_at n (.slice A l.length c) l _ (HU.out.below (below_all BW.out S1.out))).mono ?_
  rintro e V ⟨rfl, hb⟩
  have b := alloc_below V (.cells #[.int .i64 n, .slice A l.length c] 27)
  have S2 := Lib.hid (below_all hb b)
  have T_r := Lib.hid (Two.new V 27 (.int .i64 n) (.slice A l.length c))
  have U_r := Lib.hid ((HU.out.below (below_all (below_all BW.out S1.out) hb)).below b)
  clear hb b
  clear g0 g1
  obtain ⟨g0, g1⟩ := (T_g.out.later (below_all S1.out S2.out)).cells
  by_cases h70 : 70 < l.length
  ·
    go_wp2_with fail
    generalize V.alloc (.cells #[.int .i64 n, .slice A l.length c] 27) = W2 at *
    generalize V.heap.size = o_r at *
    go_ret
    exact ⟨rfl, (below_all BW.out (below_all S1.out S2.out))⟩
  by_cases h100 : 100 < q.length
  ·
    go_wp2_with fail
    generalize V.alloc (.cells #[.int .i64 n, .slice A l.length c] 27) = W2 at *
    generalize V.heap.size = o_r at *
    go_ret
    exact ⟨rfl, (below_all BW.out (below_all S1.out S2.out))⟩
  obtain ⟨p, hp⟩ : ∃ p, p = Gf.okB n l := ⟨_, rfl⟩
  have HP := Lib.hid hp
  obtain ⟨r0, r1⟩ := T_r.out.cells
  go_wp2_with fail
  generalize V.alloc (.cells #[.int .i64 n, .slice A l.length c] 27) = W2 at *
  generalize V.heap.size = o_r at *
  refine (rRight12_at n (.slice A l.length c) l _ U_r.out HS.out).mono ?_
  rintro e W3 ⟨rfl, hb⟩
  have S3 := Lib.hid hb
  clear hb
  clear g0 g1 r0 r1
  rw [← HP.out]
  have HQL : Hid (q.length ≤ 4294967296) := by rw [Hid]; omega
  have FI := Lib.hid (fun w h1 h2 => toIs_at n (.slice A l.length c) l q (.slice B q.length d) w h1 HS.out h2 HQL.out)
  have GI := Lib.hid (fun w h1 h2 => rIs16_at n (.slice A l.length c) l q (.slice B q.length d) w h1 HS.out h2 HQL.out)
  have FO := Lib.hid (fun w h1 => toOrder_at n (.slice A l.length c) l w h1 HS.out)
  have HOL := Lib.hid (@To.orderA_len n l)
  clear hp
  cases p with
  | false =>
    have hno : Gf.okB n l = false := HP.out.symm
    rw [To.orderA_no hno] at FO HOL
    have GO := Lib.hid (fun w h => rOrder16_no n (.slice A l.length c) l w h HS.out hno)
    clear hno HP
    obtain ⟨o, ho⟩ : ∃ o : Option (List Nat), o = none := ⟨_, rfl⟩
    rw [← ho] at FO HOL GO
    clear ho
    have hoo : (o.isSome == o.isSome) = true := by simp
    have HOM : Hid ((Bi.nums (o.getD [])).length ≤ 4294967296) := by rw [Hid, Bi.nums_len]; exact Nat.le_trans HOL.out (by decide)
    obtain ⟨g0, g1⟩ := (T_g.out.later (below_all (below_all S1.out S2.out) S3.out)).cells
    go_wp2_with fail
    refine (FO.out _ (HU.out.below (below_all BW.out (below_all (below_all S1.out S2.out) S3.out)))).mono ?_
    rintro e W4 ⟨v1, rfl, hn1, hb⟩
    have S4 := Lib.hid hb
    clear hb
    clear g0 g1
    obtain ⟨A1, c1, rfl, -⟩ := hn1.spelled
    have N1 := Lib.hid hn1
    clear hn1
    obtain ⟨r0, r1⟩ := (T_r.out.later (below_all S3.out S4.out)).cells
    go_wp2_with fail
    refine (GO.out _ (U_r.out.below (below_all S3.out S4.out))).mono ?_
    rintro e W5 ⟨v2, rfl, hn2, hb⟩
    have S5 := Lib.hid hb
    clear hb
    clear r0 r1
    obtain ⟨A2, c2, rfl, -⟩ := hn2.spelled
    have N2 := Lib.hid hn2
    clear hn2
    generalize o.isSome = so at *
    generalize o.getD [] = lo at *
    have R1 := Lib.hid (N1.out.below S5.out)
    have R2 := Lib.hid N2.out
    go_wp2_with fail
    have UC_g := Lib.hid (HU.out.below (below_all BW.out (below_all (below_all (below_all (below_all S1.out S2.out) S3.out) S4.out) S5.out)))
    have NC := Lib.hid (HV.out.below (below_all BW.out (below_all (below_all (below_all (below_all S1.out S2.out) S3.out) S4.out) S5.out)))
    have HK : Hid (∀ W', Below W5.heap.size W5 W' → W'.cell? ⟨w.heap.size, 0, none⟩ = some (.int .i64 n) ∧ W'.cell? ⟨w.heap.size, 1, none⟩ = some (.slice A l.length c) ∧ W'.cell? ⟨o_r, 0, none⟩ = some (.int .i64 n) ∧ W'.cell? ⟨o_r, 1, none⟩ = some (.slice A l.length c)) := fun W' h => ⟨(T_g.out.later (below_all (below_all (below_all (below_all (below_all S1.out S2.out) S3.out) S4.out) S5.out) h)).cells.1, (T_g.out.later (below_all (below_all (below_all (below_all (below_all S1.out S2.out) S3.out) S4.out) S5.out) h)).cells.2, (T_r.out.later (below_all (below_all (below_all S3.out S4.out) S5.out) h)).cells.1, (T_r.out.later (below_all (below_all (below_all S3.out S4.out) S5.out) h)).cells.2⟩
    obtain ⟨g0, g1, r0, r1⟩ := HK.out _ (Below.refl _ W5)
    have D := Lib.hid (Below.refl W5.heap.size W5).drew
    go_region_held3 (fun W' => W'.cell? ⟨w.heap.size, 0, none⟩ = some (.int .i64 n) ∧ W'.cell? ⟨w.heap.size, 1, none⟩ = some (.slice A l.length c) ∧ W'.cell? ⟨o_r, 0, none⟩ = some (.int .i64 n) ∧ W'.cell? ⟨o_r, 1, none⟩ = some (.slice A l.length c))
      (first | (exact ⟨g0, g1, r0, r1⟩) | (exact HK.out _ D.out) | (exact HK.out _ Y1.out) | (exact HK.out _ Y2.out) | (exact HK.out _ Y3.out))
      (first
            | (go_at_call 10; (with_reducible refine (rInts_at (Bi.nums lo) _ _ _ (R1.out.below D.out) (R2.out.below D.out) HOM.out).mono ?_); rintro e z1 ⟨rfl, hz⟩; have Y1 := Lib.hid (below_all D.out hz); clear hz)
            | (go_at_call 11; (with_reducible refine (FI.out _ (UC_g.out.below Y1.out) (NC.out.below Y1.out)).mono ?_); rintro e z2 ⟨b1, rfl, hi1, hz⟩; have Y2 := Lib.hid (below_all Y1.out hz); have HI1 := Lib.hid hi1; clear hi1; clear hz)
            | (go_at_call 12; (with_reducible refine (GI.out _ (UC_g.out.below Y2.out) (NC.out.below Y2.out)).mono ?_); rintro e W6 ⟨b2, rfl, hi2, hz⟩; have Y3 := Lib.hid (below_all Y2.out hz); have hbb : (b1 == b2) = true := (by rw [beq_iff_eq, Bool.eq_iff_iff, HI1.out, hi2, To.isO_iff]); clear hi2; clear hz))
    all_goals
      have S6 := Lib.hid Y3.out
      clear g0 g1 r0 r1 HK D Y1 Y2 Y3
      go_wp2_with fail
      go_ret
      exact ⟨rfl, (below_all BW.out (below_all (below_all (below_all (below_all (below_all S1.out S2.out) S3.out) S4.out) S5.out) S6.out))⟩
  | true =>
    obtain ⟨k, hnk, hok⟩ := Gf.okB_iff.1 HP.out.symm
    subst hnk
    have HOK := Lib.hid hok
    have h64 := hok.1
    rw [To.orderA_yes hok] at FO HOL
    have GO := Lib.hid (fun w h => rOrder16_at k (.slice A l.length c) l w h HOK.out)
    generalize To.orderR k l = o at *
    clear hok HP
    obtain ⟨g0, g1⟩ := (T_g.out.later (below_all (below_all S1.out S2.out) S3.out)).cells
    by_cases h16 : 16 < k
    ·
      go_wp2_with fail
      go_ret
      exact ⟨rfl, (below_all BW.out (below_all (below_all S1.out S2.out) S3.out))⟩
    clear g0 g1
    have hoo : (o.isSome == o.isSome) = true := by simp
    have HOM : Hid ((Bi.nums (o.getD [])).length ≤ 4294967296) := by rw [Hid, Bi.nums_len]; exact Nat.le_trans HOL.out (by decide)
    obtain ⟨g0, g1⟩ := (T_g.out.later (below_all (below_all S1.out S2.out) S3.out)).cells
    go_wp2_with fail
    refine (FO.out _ (HU.out.below (below_all BW.out (below_all (below_all S1.out S2.out) S3.out)))).mono ?_
    rintro e W4 ⟨v1, rfl, hn1, hb⟩
    have S4 := Lib.hid hb
    clear hb
    clear g0 g1
    obtain ⟨A1, c1, rfl, -⟩ := hn1.spelled
    have N1 := Lib.hid hn1
    clear hn1
    obtain ⟨r0, r1⟩ := (T_r.out.later (below_all S3.out S4.out)).cells
    go_wp2_with fail
    refine (GO.out _ (U_r.out.below (below_all S3.out S4.out))).mono ?_
    rintro e W5 ⟨v2, rfl, hn2, hb⟩
    have S5 := Lib.hid hb
    clear hb
    clear r0 r1
    obtain ⟨A2, c2, rfl, -⟩ := hn2.spelled
    have N2 := Lib.hid hn2
    clear hn2
    generalize o.isSome = so at *
    generalize o.getD [] = lo at *
    have R1 := Lib.hid (N1.out.below S5.out)
    have R2 := Lib.hid N2.out
    go_wp2_with fail
    have UC_g := Lib.hid (HU.out.below (below_all BW.out (below_all (below_all (below_all (below_all S1.out S2.out) S3.out) S4.out) S5.out)))
    have NC := Lib.hid (HV.out.below (below_all BW.out (below_all (below_all (below_all (below_all S1.out S2.out) S3.out) S4.out) S5.out)))
    have HK : Hid (∀ W', Below W5.heap.size W5 W' → W'.cell? ⟨w.heap.size, 0, none⟩ = some (.int .i64 k) ∧ W'.cell? ⟨w.heap.size, 1, none⟩ = some (.slice A l.length c) ∧ W'.cell? ⟨o_r, 0, none⟩ = some (.int .i64 k) ∧ W'.cell? ⟨o_r, 1, none⟩ = some (.slice A l.length c)) := fun W' h => ⟨(T_g.out.later (below_all (below_all (below_all (below_all (below_all S1.out S2.out) S3.out) S4.out) S5.out) h)).cells.1, (T_g.out.later (below_all (below_all (below_all (below_all (below_all S1.out S2.out) S3.out) S4.out) S5.out) h)).cells.2, (T_r.out.later (below_all (below_all (below_all S3.out S4.out) S5.out) h)).cells.1, (T_r.out.later (below_all (below_all (below_all S3.out S4.out) S5.out) h)).cells.2⟩
    obtain ⟨g0, g1, r0, r1⟩ := HK.out _ (Below.refl _ W5)
    have D := Lib.hid (Below.refl W5.heap.size W5).drew
    go_region_held3 (fun W' => W'.cell? ⟨w.heap.size, 0, none⟩ = some (.int .i64 k) ∧ W'.cell? ⟨w.heap.size, 1, none⟩ = some (.slice A l.length c) ∧ W'.cell? ⟨o_r, 0, none⟩ = some (.int .i64 k) ∧ W'.cell? ⟨o_r, 1, none⟩ = some (.slice A l.length c))
      (first | (exact ⟨g0, g1, r0, r1⟩) | (exact HK.out _ D.out) | (exact HK.out _ Y1.out) | (exact HK.out _ Y2.out) | (exact HK.out _ Y3.out))
      (first
            | (go_at_call 10; (with_reducible refine (rInts_at (Bi.nums lo) _ _ _ (R1.out.below D.out) (R2.out.below D.out) HOM.out).mono ?_); rintro e z1 ⟨rfl, hz⟩; have Y1 := Lib.hid (below_all D.out hz); clear hz)
            | (go_at_call 11; (with_reducible refine (FI.out _ (UC_g.out.below Y1.out) (NC.out.below Y1.out)).mono ?_); rintro e z2 ⟨b1, rfl, hi1, hz⟩; have Y2 := Lib.hid (below_all Y1.out hz); have HI1 := Lib.hid hi1; clear hi1; clear hz)
            | (go_at_call 12; (with_reducible refine (GI.out _ (UC_g.out.below Y2.out) (NC.out.below Y2.out)).mono ?_); rintro e W6 ⟨b2, rfl, hi2, hz⟩; have Y3 := Lib.hid (below_all Y2.out hz); have hbb : (b1 == b2) = true := (by rw [beq_iff_eq, Bool.eq_iff_iff, HI1.out, hi2, To.isO_iff]); clear hi2; clear hz))
    all_goals
      have S6 := Lib.hid Y3.out
      clear g0 g1 r0 r1 HK D Y1 Y2 Y3
      go_wp2_with fail
      go_ret
      exact ⟨rfl, (below_all BW.out (below_all (below_all (below_all (below_all (below_all S1.out S2.out) S3.out) S4.out) S5.out) S6.out))⟩
end Go.Proofs.Ytpmimmaaeaifhaa
