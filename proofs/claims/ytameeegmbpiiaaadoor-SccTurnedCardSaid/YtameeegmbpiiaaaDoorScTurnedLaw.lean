/-
  The law SccTurned: turned, a graph has the same components; a graph is cyclic just if some node is inner.
  Conditions: rows hold sets below 2^64; the library's table for the lowest bit holds what its text says.
-/
import Derived.Test.YtameeegmbpiiaaaDoorScAwake
import Derived.Test.YtameeegmbpiiaaaDoorRcAll
import Derived.Deep.RegionHeld3
set_option maxRecDepth 4000
namespace Go.Proofs.YtameeegmbpiiaaaDoor
open Go.RowKit
set_option maxHeartbeats 8000000 in
theorem lawSccTurned (n : Int) (u : Value) (l : List Nat) (w : World) (hT : TZ w) (hu : Us w u l) (hs : ∀ x ∈ l, x < 18446744073709551616) : Calls Tryd.prog 4 #[.agg #[.int .i64 n, u]] w (RetBool w true) := by
  have HU := Lib.hid hu
  have HS := Lib.hid hs
  have HT := Lib.hid hT
  obtain ⟨A, c, rfl, -⟩ := hu.spelled
  have T_g := Lib.hid (Two.new w 24 (.int .i64 n) (.slice A l.length c))
  have BW := Lib.hid (alloc_below w (.cells #[.int .i64 n, .slice A l.length c] 24))
  clear hu hs hT
  go_enter Tryd.func4, Tryd.ntmps4
  go_wp2_with fail
  generalize w.alloc (.cells #[.int .i64 n, .slice A l.length c] 24) = W0 at *
  go_wp2_with fail
  refine (scAwake_at _).mono ?_
  rintro e W1 ⟨rfl, hb⟩
  have S1 := Lib.hid hb
  clear hb
  obtain ⟨g0, g1⟩ := (T_g.out.later S1.out).cells
  by_cases h70 : 70 < l.length
  ·
    go_wp2_with fail
    go_ret
    exact ⟨rfl, (below_all BW.out S1.out)⟩
  obtain ⟨p, hp⟩ : ∃ p, p = Gf.okB n l := ⟨_, rfl⟩
  have HP := Lib.hid hp
  go_wp2_with fail
  refine (gfRight_at n (.slice A l.length c) l _ (HU.out.below (below_all BW.out S1.out)) HS.out).mono ?_
  rintro e W2 ⟨rfl, hb⟩
  have S2 := Lib.hid hb
  clear hb
  clear g0 g1
  rw [← HP.out]
  clear hp
  cases p with
  | false =>
    go_wp2_with fail
    go_ret
    exact ⟨rfl, (below_all BW.out (below_all S1.out S2.out))⟩
  | true =>
    obtain ⟨k, hnk, hok⟩ := Gf.okB_iff.1 HP.out.symm
    subst hnk
    have HOK := Lib.hid hok
    have h64 := hok.1
    have HOT : Hid (Gf.Ok k (Gf.turnR k l)) := Gf.build_ok hok.1 _
    have HST : Hid (∀ x ∈ Gf.turnR k l, x < 18446744073709551616) := fun x hx => HOT.out.small hx
    have hct := Sc.compsA_turn hok
    have hit := Sc.innerA_turn hok
    have HCT := Lib.hid hct
    have HIT := Lib.hid hit
    clear hct hit
    have FC := Lib.hid (fun w h => scComps_at (k : Int) (.slice A l.length c) l w h HS.out)
    rw [Sc.compsA_yes hok] at FC
    have FI := Lib.hid (fun w h => scInner_at (k : Int) (.slice A l.length c) l w h HS.out)
    rw [Sc.innerA_yes hok] at FI
    have hcy : Rc.cyclicA (k : Int) l = decide (0 < (Sc.innerR k l).length) := by rw [Rc.cyclicA, (Gf.okB_nat k l).2 hok, Int.toNat_natCast, ← Sc.inner_cyclic hok]; rfl
    have FY := Lib.hid (fun w h1 h2 => rcCyclic_at (k : Int) (.slice A l.length c) l w h1 h2 HS.out)
    rw [hcy] at FY
    clear hcy
    have HL1 := Lib.hid (Sc.comps_len_le (Sc.tog k l) k)
    have HL2 := Lib.hid (Sc.comps_each_le (Sc.tog k l) k)
    have HL4 := Lib.hid (Sc.inner_len k l)
    generalize Sc.comps (Sc.tog k l) k = cs at *
    generalize Sc.innerR k l = ns at *
    have HM1 : Hid (cs.length ≤ 4294967296) := Nat.le_trans HL1.out (by omega)
    have HM2 : Hid (∀ x ∈ cs, x.length ≤ 4294967296) := fun x hx => Nat.le_trans (HL2.out x hx) (by omega)
    have HM4 : Hid ((Bi.nums ns).length ≤ 4294967296) := by rw [Hid, Bi.nums_len]; exact Nat.le_trans HL4.out (by omega)
    clear hok HP
    obtain ⟨g0, g1⟩ := (T_g.out.later (below_all S1.out S2.out)).cells
    go_wp2_with fail
    refine (gfTurn_at k (.slice A l.length c) l _ (HU.out.below (below_all BW.out (below_all S1.out S2.out))) HOK.out).mono ?_
    rintro e V ⟨v, rfl, ho, hb⟩
    obtain ⟨A_t, c_t, rfl, hu_t⟩ := own_is (k := k) ho HOT.out.2.1
    clear ho
    have b := alloc_below V (.cells #[.int .i64 k, .slice A_t k c_t] 24)
    have S3 := Lib.hid (below_all hb b)
    have T_t := Lib.hid (Two.new V 24 (.int .i64 k) (.slice A_t k c_t))
    have U_t := Lib.hid (hu_t.below b)
    clear hb b
    clear g0 g1
    have GC := Lib.hid (fun w h => scComps_at (k : Int) (.slice A_t k c_t) (Gf.turnR k l) w h HST.out)
    rw [HCT.out] at GC
    have GI := Lib.hid (fun w h => scInner_at (k : Int) (.slice A_t k c_t) (Gf.turnR k l) w h HST.out)
    rw [HIT.out] at GI
    generalize Gf.turnR k l = lt at *
    go_wp2_with fail
    generalize V.alloc (.cells #[.int .i64 k, .slice A_t k c_t] 24) = W3 at *
    generalize V.heap.size = o_t at *
    have UC_g := Lib.hid (HU.out.below (below_all BW.out (below_all (below_all S1.out S2.out) S3.out)))
    have UC_t := Lib.hid (U_t.out)
    have TC := Lib.hid (HT.out.below (below_all BW.out (below_all (below_all S1.out S2.out) S3.out)))
    obtain ⟨q, hq⟩ : ∃ q, q = decide (0 < ns.length) := ⟨_, rfl⟩
    have hq1 : decide ((0 : Int) < (ns.length : Int)) = q := by rw [hq]; simp
    have hq2 : decide (0 < ns.length) = q := hq.symm
    rw [hq2] at FY
    have hqq : (q == q) = true := by simp
    clear hq
    have HK : Hid (∀ W', Below W3.heap.size W3 W' → W'.cell? ⟨w.heap.size, 0, none⟩ = some (.int .i64 k) ∧ W'.cell? ⟨w.heap.size, 1, none⟩ = some (.slice A l.length c) ∧ W'.cell? ⟨o_t, 0, none⟩ = some (.int .i64 k) ∧ W'.cell? ⟨o_t, 1, none⟩ = some (.slice A_t k c_t)) := fun W' h => ⟨(T_g.out.later (below_all (below_all (below_all S1.out S2.out) S3.out) h)).cells.1, (T_g.out.later (below_all (below_all (below_all S1.out S2.out) S3.out) h)).cells.2, (T_t.out.later h).cells.1, (T_t.out.later h).cells.2⟩
    obtain ⟨g0, g1, t0, t1⟩ := HK.out _ (Below.refl _ W3)
    have D := Lib.hid (Below.refl W3.heap.size W3).drew
    go_region_held3 (fun W' => W'.cell? ⟨w.heap.size, 0, none⟩ = some (.int .i64 k) ∧ W'.cell? ⟨w.heap.size, 1, none⟩ = some (.slice A l.length c) ∧ W'.cell? ⟨o_t, 0, none⟩ = some (.int .i64 k) ∧ W'.cell? ⟨o_t, 1, none⟩ = some (.slice A_t k c_t))
      (first | (exact ⟨g0, g1, t0, t1⟩) | (exact HK.out _ D.out) | (exact HK.out _ Y1.out) | (exact HK.out _ Y2.out) | (exact HK.out _ Y3.out) | (exact HK.out _ Y4.out) | (exact HK.out _ Y5.out) | (exact HK.out _ Y6.out) | (exact HK.out _ Y7.out) | (exact HK.out _ Y8.out))
      (first
            | (go_at_call 13; (with_reducible refine (FC.out _ (UC_g.out.below D.out)).mono ?_); rintro e z1 ⟨v1, rfl, hr1, hz⟩; have Y1 := Lib.hid (below_all D.out hz); obtain ⟨A1, c1, rfl, -⟩ := hr1.spelled; have R1 := Lib.hid hr1; clear hr1; clear hz)
            | (go_at_call 13; (with_reducible refine (GC.out _ (UC_t.out.below Y1.out)).mono ?_); rintro e z2 ⟨v2, rfl, hr2, hz⟩; have Y2 := Lib.hid (below_all Y1.out hz); have R1 := Lib.hid (R1.out.below hz); obtain ⟨A2, c2, rfl, -⟩ := hr2.spelled; have R2 := Lib.hid hr2; clear hr2; clear hz)
            | (go_at_call 12; (with_reducible refine (rows14_at cs _ _ _ R1.out R2.out HM1.out HM2.out).mono ?_); rintro e z3 ⟨rfl, hz⟩; have Y3 := Lib.hid (below_all Y2.out hz); clear R1 R2; clear hz)
            | (go_at_call 9; (with_reducible refine (FI.out _ (UC_g.out.below Y3.out)).mono ?_); rintro e z4 ⟨v4, rfl, ho4, hz⟩; have Y4 := Lib.hid (below_all Y3.out hz); have hn4 := nums_own ho4; obtain ⟨A4, c4, rfl, -⟩ := hn4.spelled; have R4 := Lib.hid hn4; clear ho4 hn4; clear hz)
            | (go_at_call 9; (with_reducible refine (GI.out _ (UC_t.out.below Y4.out)).mono ?_); rintro e z5 ⟨v5, rfl, ho5, hz⟩; have Y5 := Lib.hid (below_all Y4.out hz); have R4 := Lib.hid (R4.out.below hz); have hn5 := nums_own ho5; obtain ⟨A5, c5, rfl, -⟩ := hn5.spelled; have R5 := Lib.hid hn5; clear ho5 hn5; clear hz)
            | (go_at_call 14; (with_reducible refine (rInts_at (Bi.nums ns) _ _ _ R4.out R5.out HM4.out).mono ?_); rintro e z6 ⟨rfl, hz⟩; have Y6 := Lib.hid (below_all Y5.out hz); clear R4 R5; clear hz)
            | (go_at_call 15; (with_reducible refine (FY.out _ (TC.out.below Y6.out) (UC_g.out.below Y6.out)).mono ?_); rintro e z7 ⟨rfl, hz⟩; have Y7 := Lib.hid (below_all Y6.out hz); clear hz)
            | (go_at_call 9; (with_reducible refine (FI.out _ (UC_g.out.below Y7.out)).mono ?_); rintro e W4 ⟨v8, rfl, ho8, hz⟩; have Y8 := Lib.hid (below_all Y7.out hz); obtain ⟨A8, c8, rfl⟩ := own_form ho8; clear ho8; clear hz))
    all_goals
      have S4 := Lib.hid Y8.out
      clear g0 g1 t0 t1 HK D Y1 Y2 Y3 Y4 Y5 Y6 Y7 Y8
      go_wp2_with fail
      go_ret
      exact ⟨rfl, (below_all BW.out (below_all (below_all (below_all S1.out S2.out) S3.out) S4.out))⟩
end Go.Proofs.YtameeegmbpiiaaaDoor
