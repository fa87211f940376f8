/-
  The law SccTells: which nodes of any graph lead to one another, and which are on some cycle, are the document's.
  Conditions: rows hold sets below 2^64.
-/
import Derived.Test.YtameeegmbpiiaaaScAwake
import Derived.Test.YtameeegmbpiiaaaScRefB
import Derived.Deep.RegionHeld3
set_option maxRecDepth 4000
namespace Go.Proofs.Ytameeegmbpiiaaa
open Go.RowKit
set_option maxHeartbeats 8000000 in
theorem lawSccTells (n : Int) (u : Value) (l : List Nat) (w : World) (hu : Us w u l) (hs : ∀ x ∈ l, x < 18446744073709551616) : Calls Try.prog 3 #[.agg #[.int .i64 n, u]] w (RetBool w true) := by
  have HU := Lib.hid hu
  have HS := Lib.hid hs
  obtain ⟨A, c, rfl, -⟩ := hu.spelled
  have T_g := Lib.hid (Two.new w 24 (.int .i64 n) (.slice A l.length c))
  have BW := Lib.hid (alloc_below w (.cells #[.int .i64 n, .slice A l.length c] 24))
  clear hu hs
  go_enter Try.func3, Try.ntmps3
  go_wp2_with fail
  generalize w.alloc (.cells #[.int .i64 n, .slice A l.length c] 24) = W0 at *
  go_wp2_with fail
  refine (scAwake_at _).mono ?_
  rintro e W1 ⟨rfl, hb⟩
  have S1 := Lib.hid hb
  clear hb
  obtain ⟨g0, g1⟩ := (T_g.out.later S1.out).cells
  by_cases h70 : 70 < l.length
  ·
    go_wp2_with fail
    go_ret
    exact ⟨rfl, (below_all BW.out S1.out)⟩
  obtain ⟨p, hp⟩ : ∃ p, p = Gf.okB n l := ⟨_, rfl⟩
  have HP := Lib.hid hp
  go_wp2_with fail
  refine (scPlain_at n (.slice A l.length c) l _ (HU.out.below (below_all BW.out S1.out))).mono ?_
  rintro e V ⟨rfl, hb⟩
  have b := alloc_below V (.cells #[.int .i64 n, .slice A l.length c] 26)
  have S2 := Lib.hid (below_all hb b)
  have T_r := Lib.hid (Two.new V 26 (.int .i64 n) (.slice A l.length c))
  have U_r := Lib.hid ((HU.out.below (below_all (below_all BW.out S1.out) hb)).below b)
  clear hb b
  clear g0 g1
  obtain ⟨r0, r1⟩ := T_r.out.cells
  go_wp2_with fail
  generalize V.alloc (.cells #[.int .i64 n, .slice A l.length c] 26) = W2 at *
  generalize V.heap.size = o_r at *
  refine (rRight12_at n (.slice A l.length c) l _ U_r.out HS.out).mono ?_
  rintro e W3 ⟨rfl, hb⟩
  have S3 := Lib.hid hb
  clear hb
  clear r0 r1
  rw [← HP.out]
  clear hp
  cases p with
  | false =>
    have hno : Gf.okB n l = false := HP.out.symm
    have FComps := Lib.hid (fun w h => scComps_at n (.slice A l.length c) l w h HS.out)
    rw [Sc.compsA_no hno] at FComps
    have FWhich := Lib.hid (fun w h => scWhich_at n (.slice A l.length c) l w h HS.out)
    rw [Sc.whichA_no hno] at FWhich
    have FInner := Lib.hid (fun w h => scInner_at n (.slice A l.length c) l w h HS.out)
    rw [Sc.innerA_no hno] at FInner
    clear hno HP
    obtain ⟨g0, g1⟩ := (T_g.out.later (below_all (below_all S1.out S2.out) S3.out)).cells
    go_wp2_with fail
    clear g0 g1
    have UC_g := Lib.hid (HU.out.below (below_all BW.out (below_all (below_all S1.out S2.out) S3.out)))
    have HK : Hid (∀ W', Below W3.heap.size W3 W' → W'.cell? ⟨w.heap.size, 0, none⟩ = some (.int .i64 n) ∧ W'.cell? ⟨w.heap.size, 1, none⟩ = some (.slice A l.length c)) := fun W' h => ⟨(T_g.out.later (below_all (below_all (below_all S1.out S2.out) S3.out) h)).cells.1, (T_g.out.later (below_all (below_all (below_all S1.out S2.out) S3.out) h)).cells.2⟩
    obtain ⟨g0, g1⟩ := HK.out _ (Below.refl _ W3)
    have D := Lib.hid (Below.refl W3.heap.size W3).drew
    go_region_held3 (fun W' => W'.cell? ⟨w.heap.size, 0, none⟩ = some (.int .i64 n) ∧ W'.cell? ⟨w.heap.size, 1, none⟩ = some (.slice A l.length c))
      (first | (exact ⟨g0, g1⟩) | (exact HK.out _ D.out) | (exact HK.out _ Y1.out) | (exact HK.out _ Y2.out) | (exact HK.out _ Y3.out))
      (first
            | (go_at_call 8; (with_reducible refine (FComps.out _ (UC_g.out.below D.out)).mono ?_); rintro e z1 ⟨v1, rfl, hr1, hz⟩; have Y1 := Lib.hid (below_all D.out hz); obtain ⟨A1, c1, rfl, -⟩ := hr1.spelled; have R1 := Lib.hid hr1; clear hr1; clear hz)
            | (go_at_call 9; (with_reducible refine (FWhich.out _ (UC_g.out.below Y1.out)).mono ?_); rintro e z2 ⟨v2, rfl, ho2, hz⟩; have Y2 := Lib.hid (below_all Y1.out hz); have hn2 := nums_own ho2; obtain ⟨A2, c2, rfl, -⟩ := hn2.spelled; have R2 := Lib.hid hn2; clear ho2 hn2; clear hz)
            | (go_at_call 10; (with_reducible refine (FInner.out _ (UC_g.out.below Y2.out)).mono ?_); rintro e W4 ⟨v3, rfl, ho3, hz⟩; have Y3 := Lib.hid (below_all Y2.out hz); have hn3 := nums_own ho3; obtain ⟨A3, c3, rfl, -⟩ := hn3.spelled; have R3 := Lib.hid hn3; clear ho3 hn3; clear hz))
    all_goals
      have S4 := Lib.hid Y3.out
      clear g0 g1 HK D Y1 Y2 Y3
      go_wp2_with fail
      go_ret
      exact ⟨rfl, (below_all BW.out (below_all (below_all (below_all S1.out S2.out) S3.out) S4.out))⟩
  | true =>
    obtain ⟨k, hnk, hok⟩ := Gf.okB_iff.1 HP.out.symm
    subst hnk
    have HOK := Lib.hid hok
    have h64 := hok.1
    have FComps := Lib.hid (fun w h => scComps_at (k : Int) (.slice A l.length c) l w h HS.out)
    rw [Sc.compsA_yes hok] at FComps
    have GComps := Lib.hid (fun w h => rComps14_at k (.slice A l.length c) l w h HOK.out)
    have FWhich := Lib.hid (fun w h => scWhich_at (k : Int) (.slice A l.length c) l w h HS.out)
    rw [Sc.whichA_yes hok] at FWhich
    have GWhich := Lib.hid (fun w h => rWhich14_at k (.slice A l.length c) l w h HOK.out)
    have FInner := Lib.hid (fun w h => scInner_at (k : Int) (.slice A l.length c) l w h HS.out)
    rw [Sc.innerA_yes hok] at FInner
    have GInner := Lib.hid (fun w h => rInner14_at k (.slice A l.length c) l w h HOK.out)
    have HL1 := Lib.hid (Sc.comps_len_le (Sc.tog k l) k)
    have HL2 := Lib.hid (Sc.comps_each_le (Sc.tog k l) k)
    have HL3 := Lib.hid (Sc.which_len (t := Sc.tog k l) k)
    have HL4 := Lib.hid (Sc.inner_len k l)
    generalize Sc.comps (Sc.tog k l) k = cs at *
    generalize Sc.which (Sc.tog k l) k = ws at *
    generalize Sc.innerR k l = ns at *
    have HM1 : Hid (cs.length ≤ 4294967296) := Nat.le_trans HL1.out (by omega)
    have HM2 : Hid (∀ x ∈ cs, x.length ≤ 4294967296) := fun x hx => Nat.le_trans (HL2.out x hx) (by omega)
    have HM3 : Hid ((Bi.nums ws).length ≤ 4294967296) := by rw [Hid, Bi.nums_len, HL3.out]; omega
    have HM4 : Hid ((Bi.nums ns).length ≤ 4294967296) := by rw [Hid, Bi.nums_len]; exact Nat.le_trans HL4.out (by omega)
    clear hok HP
    obtain ⟨g0, g1⟩ := (T_g.out.later (below_all (below_all S1.out S2.out) S3.out)).cells
    by_cases h12 : 12 < k
    ·
      go_wp2_with fail
      go_ret
      exact ⟨rfl, (below_all BW.out (below_all (below_all S1.out S2.out) S3.out))⟩
    go_wp2_with fail
    clear g0 g1
    have UC_g := Lib.hid (HU.out.below (below_all BW.out (below_all (below_all S1.out S2.out) S3.out)))
    have HK : Hid (∀ W', Below W3.heap.size W3 W' → W'.cell? ⟨w.heap.size, 0, none⟩ = some (.int .i64 k) ∧ W'.cell? ⟨w.heap.size, 1, none⟩ = some (.slice A l.length c) ∧ W'.cell? ⟨o_r, 0, none⟩ = some (.int .i64 k) ∧ W'.cell? ⟨o_r, 1, none⟩ = some (.slice A l.length c)) := fun W' h => ⟨(T_g.out.later (below_all (below_all (below_all S1.out S2.out) S3.out) h)).cells.1, (T_g.out.later (below_all (below_all (below_all S1.out S2.out) S3.out) h)).cells.2, (T_r.out.later (below_all S3.out h)).cells.1, (T_r.out.later (below_all S3.out h)).cells.2⟩
    obtain ⟨g0, g1, r0, r1⟩ := HK.out _ (Below.refl _ W3)
    have D := Lib.hid (Below.refl W3.heap.size W3).drew
    go_region_held3 (fun W' => W'.cell? ⟨w.heap.size, 0, none⟩ = some (.int .i64 k) ∧ W'.cell? ⟨w.heap.size, 1, none⟩ = some (.slice A l.length c) ∧ W'.cell? ⟨o_r, 0, none⟩ = some (.int .i64 k) ∧ W'.cell? ⟨o_r, 1, none⟩ = some (.slice A l.length c))
      (first | (exact ⟨g0, g1, r0, r1⟩) | (exact HK.out _ D.out) | (exact HK.out _ Y1.out) | (exact HK.out _ Y2.out) | (exact HK.out _ Y3.out) | (exact HK.out _ Y4.out) | (exact HK.out _ Y5.out) | (exact HK.out _ Y6.out) | (exact HK.out _ Y7.out) | (exact HK.out _ Y8.out) | (exact HK.out _ Y9.out))
      (first
            | (go_at_call 8; (with_reducible refine (FComps.out _ (UC_g.out.below D.out)).mono ?_); rintro e z1 ⟨v1, rfl, hr1, hz⟩; have Y1 := Lib.hid (below_all D.out hz); obtain ⟨A1, c1, rfl, -⟩ := hr1.spelled; have R1 := Lib.hid hr1; clear hr1; clear hz)
            | (go_at_call 12; (with_reducible refine (GComps.out _ (UC_g.out.below Y1.out)).mono ?_); rintro e z2 ⟨v2, rfl, hr2, hz⟩; have Y2 := Lib.hid (below_all Y1.out hz); have R1 := Lib.hid (R1.out.below hz); obtain ⟨A2, c2, rfl, -⟩ := hr2.spelled; have R2 := Lib.hid hr2; clear hr2; clear hz)
            | (go_at_call 11; (with_reducible refine (rows14_at cs _ _ _ R1.out R2.out HM1.out HM2.out).mono ?_); rintro e z3 ⟨rfl, hz⟩; have Y3 := Lib.hid (below_all Y2.out hz); clear R1 R2; clear hz)
            | (go_at_call 9; (with_reducible refine (FWhich.out _ (UC_g.out.below Y3.out)).mono ?_); rintro e z4 ⟨v4, rfl, ho4, hz⟩; have Y4 := Lib.hid (below_all Y3.out hz); have hn4 := nums_own ho4; obtain ⟨A4, c4, rfl, -⟩ := hn4.spelled; have R4 := Lib.hid hn4; clear ho4 hn4; clear hz)
            | (go_at_call 14; (with_reducible refine (GWhich.out _ (UC_g.out.below Y4.out)).mono ?_); rintro e z5 ⟨v5, rfl, ho5, hz⟩; have Y5 := Lib.hid (below_all Y4.out hz); have R4 := Lib.hid (R4.out.below hz); have hn5 := nums_own ho5; obtain ⟨A5, c5, rfl, -⟩ := hn5.spelled; have R5 := Lib.hid hn5; clear ho5 hn5; clear hz)
            | (go_at_call 13; (with_reducible refine (rInts_at (Bi.nums ws) _ _ _ R4.out R5.out HM3.out).mono ?_); rintro e z6 ⟨rfl, hz⟩; have Y6 := Lib.hid (below_all Y5.out hz); clear R4 R5; clear hz)
            | (go_at_call 10; (with_reducible refine (FInner.out _ (UC_g.out.below Y6.out)).mono ?_); rintro e z7 ⟨v7, rfl, ho7, hz⟩; have Y7 := Lib.hid (below_all Y6.out hz); have hn7 := nums_own ho7; obtain ⟨A7, c7, rfl, -⟩ := hn7.spelled; have R7 := Lib.hid hn7; clear ho7 hn7; clear hz)
            | (go_at_call 15; (with_reducible refine (GInner.out _ (UC_g.out.below Y7.out)).mono ?_); rintro e z8 ⟨v8, rfl, ho8, hz⟩; have Y8 := Lib.hid (below_all Y7.out hz); have R7 := Lib.hid (R7.out.below hz); have hn8 := nums_own ho8; obtain ⟨A8, c8, rfl, -⟩ := hn8.spelled; have R8 := Lib.hid hn8; clear ho8 hn8; clear hz)
            | (go_at_call 13; (with_reducible refine (rInts_at (Bi.nums ns) _ _ _ R7.out R8.out HM4.out).mono ?_); rintro e W4 ⟨rfl, hz⟩; have Y9 := Lib.hid (below_all Y8.out hz); clear R7 R8; clear hz))
    all_goals
      have S4 := Lib.hid Y9.out
      clear g0 g1 r0 r1 HK D Y1 Y2 Y3 Y4 Y5 Y6 Y7 Y8 Y9
      go_wp2_with fail
      go_ret
      exact ⟨rfl, (below_all BW.out (below_all (below_all (below_all S1.out S2.out) S3.out) S4.out))⟩
end Go.Proofs.Ytameeegmbpiiaaa
