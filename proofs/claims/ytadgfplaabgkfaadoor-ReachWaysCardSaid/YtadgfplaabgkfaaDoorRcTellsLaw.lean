/-
  The law ReachTells: where ways of any graph lead, whether some lead back, where from one node, and what one edge more makes, or what is wrong, are the document's.
  Conditions: rows hold sets below 2^64; the library's table for the lowest bit holds what its text says.
-/
import Derived.Test.YtadgfplaabgkfaaDoorRcMoreLaw
import Derived.Test.YtadgfplaabgkfaaDoorRcRefB
set_option maxRecDepth 4000
namespace Go.Proofs.YtadgfplaabgkfaaDoor
open Go.RowKit
/-- A row whose length is known; one of its places. -/
theorem us_is {W : World} {k : Nat} {v : Value} {l : List Nat} (h : Us W v l) (hl : l.length = k) : ∃ A c, v = .slice A k c ∧ Us W (.slice A k c) l := by
  obtain ⟨A, c, e⟩ := us_form h
  rw [hl] at e
  subst e
  exact ⟨A, c, rfl, h⟩
theorem us_at {W : World} {A : Option Addr} {k c : Nat} {l : List Nat} (h : Us W (.slice A k c) l) (x : Nat) (hx : x < l.length) : ∃ ad : Addr, A = some ad ∧ ad.block < W.heap.size ∧ W.cell? (ad.add x) = some (.int .u64 (l[x] : Int)) := by
  obtain ⟨A', c', e, hf⟩ := h.spelled
  cases e
  exact hf x hx
set_option maxHeartbeats 8000000 in
theorem lawReachTells (n : Int) (u : Value) (l : List Nat) (a b : Int) (w : World) (hT : TZ w) (hu : Us w u l) (hs : ∀ x ∈ l, x < 18446744073709551616) : Calls Tryd.prog 3 #[.agg #[.int .i64 n, u], .int .i64 a, .int .i64 b] w (RetBool w true) := by
  have HU := Lib.hid hu
  have HS := Lib.hid hs
  have HT := Lib.hid hT
  obtain ⟨A, c, rfl, -⟩ := hu.spelled
  have T_g := Lib.hid (Two.new w 24 (.int .i64 n) (.slice A l.length c))
  have BW := Lib.hid (alloc_below w (.cells #[.int .i64 n, .slice A l.length c] 24))
  clear hu hs hT
  go_enter Tryd.func3, Tryd.ntmps3
  go_wp2_with fail
  generalize w.alloc (.cells #[.int .i64 n, .slice A l.length c] 24) = W0 at *
  go_wp2_with fail
  refine (rcAwake_at _ (HT.out.below BW.out)).mono ?_
  rintro e W1 ⟨rfl, hb⟩
  have S1 := Lib.hid hb
  clear hb
  obtain ⟨g0, g1⟩ := (T_g.out.later S1.out).cells
  go_wp2_with fail
  refine (rcPlain_at n (.slice A l.length c) l _ (HU.out.below (below_all BW.out S1.out))).mono ?_
  rintro e V ⟨rfl, hb⟩
  have b := alloc_below V (.cells #[.int .i64 n, .slice A l.length c] 26)
  have S2 := Lib.hid (below_all hb b)
  have T_r := Lib.hid (Two.new V 26 (.int .i64 n) (.slice A l.length c))
  have U_r := Lib.hid ((HU.out.below (below_all (below_all BW.out S1.out) hb)).below b)
  clear hb b
  clear g0 g1
  obtain ⟨g0, g1⟩ := (T_g.out.later (below_all S1.out S2.out)).cells
  by_cases h70 : 70 < l.length
  ·
    go_wp2_with fail
    generalize V.alloc (.cells #[.int .i64 n, .slice A l.length c] 26) = W2 at *
    generalize V.heap.size = o_r at *
    go_ret
    exact ⟨rfl, (below_all BW.out (below_all S1.out S2.out))⟩
  obtain ⟨p, hp⟩ : ∃ p, p = Gf.okB n l := ⟨_, rfl⟩
  have HP := Lib.hid hp
  obtain ⟨r0, r1⟩ := T_r.out.cells
  go_wp2_with fail
  generalize V.alloc (.cells #[.int .i64 n, .slice A l.length c] 26) = W2 at *
  generalize V.heap.size = o_r at *
  refine (rRight12_at n (.slice A l.length c) l _ U_r.out HS.out).mono ?_
  rintro e W3 ⟨rfl, hb⟩
  have S3 := Lib.hid hb
  clear hb
  clear g0 g1 r0 r1
  rw [← HP.out]
  clear hp
  cases p with
  | false =>
    have hno : Gf.okB n l = false := HP.out.symm
    have hadd : Gf.addB n l a b = false := by rw [Gf.addB, hno]; rfl
    have hcy : Rc.cyclicA n l = false := by rw [Rc.cyclicA, hno]; rfl
    have hfr : Rc.fromA n l a = 0 := by rw [Rc.fromA, hno]; rfl
    have H1 := Lib.hid hno
    have H2 := Lib.hid hadd
    have H3 := Lib.hid hcy
    have H4 := Lib.hid hfr
    clear hno hadd hcy hfr HP
    obtain ⟨g0, g1⟩ := (T_g.out.later (below_all (below_all S1.out S2.out) S3.out)).cells
    go_wp2_with fail
    refine (rcClose_no n (.slice A l.length c) l _ (HU.out.below (below_all BW.out (below_all (below_all S1.out S2.out) S3.out))) HS.out H1.out).mono ?_
    rintro e V ⟨rfl, hb⟩
    have b := alloc_below V (.cells #[.int .i64 0, .slice none 0 0] 24)
    have S4 := Lib.hid (below_all hb b)
    have T_c := Lib.hid (Two.new V 24 (.int .i64 0) (.slice none 0 0))
    have U_c := Lib.hid ((Us.nil V none).below b)
    clear hb b
    clear g0 g1
    obtain ⟨g0, g1⟩ := (T_g.out.later (below_all (below_all (below_all S1.out S2.out) S3.out) S4.out)).cells
    go_wp2_with fail
    generalize V.alloc (.cells #[.int .i64 0, .slice none 0 0] 24) = W4 at *
    generalize V.heap.size = o_c at *
    refine (rcMore_no n (.slice A l.length c) l a b _ (HU.out.below (below_all BW.out (below_all (below_all (below_all S1.out S2.out) S3.out) S4.out))) HS.out H2.out).mono ?_
    rintro e V ⟨rfl, hb⟩
    have b := alloc_below V (.cells #[.int .i64 0, .slice none 0 0] 24)
    have S5 := Lib.hid (below_all hb b)
    have T_d := Lib.hid (Two.new V 24 (.int .i64 0) (.slice none 0 0))
    have U_d := Lib.hid ((Us.nil V none).below b)
    clear hb b
    clear g0 g1
    obtain ⟨g0, g1⟩ := (T_g.out.later (below_all (below_all (below_all (below_all S1.out S2.out) S3.out) S4.out) S5.out)).cells
    obtain ⟨c0, c1⟩ := (T_c.out.later S5.out).cells
    obtain ⟨d0, d1⟩ := T_d.out.cells
    go_wp2_with fail
    generalize V.alloc (.cells #[.int .i64 0, .slice none 0 0] 24) = W5 at *
    generalize V.heap.size = o_d at *
    refine (rcCyclic_at n (.slice A l.length c) l _ (HT.out.below (below_all BW.out (below_all (below_all (below_all (below_all S1.out S2.out) S3.out) S4.out) S5.out))) (HU.out.below (below_all BW.out (below_all (below_all (below_all (below_all S1.out S2.out) S3.out) S4.out) S5.out))) HS.out).mono ?_
    rintro e W6 ⟨rfl, hb⟩
    have S6 := Lib.hid hb
    clear hb
    clear g0 g1 c0 c1 d0 d1
    rw [H3.out]
    obtain ⟨g0, g1⟩ := (T_g.out.later (below_all (below_all (below_all (below_all (below_all S1.out S2.out) S3.out) S4.out) S5.out) S6.out)).cells
    go_wp2_with fail
    refine (rcFrom_at n (.slice A l.length c) l a _ (HT.out.below (below_all BW.out (below_all (below_all (below_all (below_all (below_all S1.out S2.out) S3.out) S4.out) S5.out) S6.out))) (HU.out.below (below_all BW.out (below_all (below_all (below_all (below_all (below_all S1.out S2.out) S3.out) S4.out) S5.out) S6.out))) HS.out).mono ?_
    rintro e W7 ⟨rfl, hb⟩
    have S7 := Lib.hid hb
    clear hb
    clear g0 g1
    rw [H4.out]
    go_wp2_with fail
    go_ret
    exact ⟨rfl, (below_all BW.out (below_all (below_all (below_all (below_all (below_all (below_all S1.out S2.out) S3.out) S4.out) S5.out) S6.out) S7.out))⟩
  | true =>
    obtain ⟨k, hnk, hok⟩ := Gf.okB_iff.1 HP.out.symm
    subst hnk
    have HPK : Hid (Gf.okB (k : Int) l = true) := HP.out.symm
    have HOK := Lib.hid hok
    have HOC := Lib.hid (Rc.close_ok hok)
    have h64 := hok.1
    have HCX : Hid (∀ x (h : x < (Rc.closeR k l).length), x < k → (Rc.closeR k l)[x] = Rc.fromR k l x) := fun x h hx => by rw [← Rc.from_row hx, List.getD_eq_getElem?_getD, List.getElem?_eq_getElem h]; rfl
    clear hok HP
    obtain ⟨g0, g1⟩ := (T_g.out.later (below_all (below_all S1.out S2.out) S3.out)).cells
    by_cases h12 : 12 < k
    ·
      go_wp2_with fail
      go_ret
      exact ⟨rfl, (below_all BW.out (below_all (below_all S1.out S2.out) S3.out))⟩
    have FRC := Lib.hid (fun w h => rClose13_at k (.slice A l.length c) l w h HOK.out)
    go_wp2_with fail
    refine (rcClose_at k (.slice A l.length c) l _ (HT.out.below (below_all BW.out (below_all (below_all S1.out S2.out) S3.out))) (HU.out.below (below_all BW.out (below_all (below_all S1.out S2.out) S3.out))) HOK.out).mono ?_
    rintro e V ⟨v, rfl, ho, hb⟩
    obtain ⟨A_c, c_c, rfl, hu_c⟩ := own_is (k := k) ho HOC.out.2.1
    clear ho
    have b := alloc_below V (.cells #[.int .i64 k, .slice A_c k c_c] 24)
    have S4 := Lib.hid (below_all hb b)
    have T_c := Lib.hid (Two.new V 24 (.int .i64 k) (.slice A_c k c_c))
    have U_c := Lib.hid (hu_c.below b)
    clear hb b
    clear g0 g1
    generalize Rc.closeR k l = lc at *
    obtain ⟨g0, g1⟩ := (T_g.out.later (below_all (below_all (below_all S1.out S2.out) S3.out) S4.out)).cells
    go_wp2_with fail
    generalize V.alloc (.cells #[.int .i64 k, .slice A_c k c_c] 24) = W4 at *
    generalize V.heap.size = o_c at *
    refine (rcMore_any k (.slice A l.length c) l a b _ (HU.out.below (below_all BW.out (below_all (below_all (below_all S1.out S2.out) S3.out) S4.out))) HS.out).mono ?_
    rintro e V ⟨nx, ex, lx, vx, rfl, hux, hb, hx⟩
    obtain ⟨A_d, c_d, rfl⟩ := us_form hux
    have HX := Lib.hid hx
    clear hx
    have b := alloc_below V (.cells #[.int .i64 nx, .slice A_d lx.length c_d] 24)
    have S5 := Lib.hid (below_all hb b)
    have T_d := Lib.hid (Two.new V 24 (.int .i64 nx) (.slice A_d lx.length c_d))
    have U_d := Lib.hid (hux.below b)
    clear hb b
    clear g0 g1
    clear hux
    obtain ⟨r0, r1⟩ := (T_r.out.later (below_all (below_all S3.out S4.out) S5.out)).cells
    go_wp2_with fail
    generalize V.alloc (.cells #[.int .i64 nx, .slice A_d lx.length c_d] 24) = W5 at *
    generalize V.heap.size = o_d at *
    refine (FRC.out _ (U_r.out.below (below_all (below_all S3.out S4.out) S5.out))).mono ?_
    rintro e V ⟨v, rfl, hus, hb⟩
    obtain ⟨A_s, c_s, rfl, hus2⟩ := us_is (k := k) hus HOC.out.2.1
    have b := alloc_below V (.cells #[.int .i64 k, .slice A_s k c_s] 26)
    have S6 := Lib.hid (below_all hb b)
    have T_s := Lib.hid (Two.new V 26 (.int .i64 k) (.slice A_s k c_s))
    have U_s := Lib.hid (hus2.below b)
    clear hb b
    clear r0 r1
    clear hus hus2
    have hcyc : Rc.cyclicA (k : Int) l = Rc.cyclicR k l := by rw [Rc.cyclicA, HPK.out, Int.toNat_natCast]; rfl
    have FC := Lib.hid (fun w h1 h2 => rcCyclic_at (k : Int) (.slice A l.length c) l w h1 h2 HS.out)
    rw [hcyc] at FC
    have FRY := Lib.hid (fun w h => rCyclic13_at k (.slice A l.length c) l w h HOK.out)
    have HLC : Hid (lc.length ≤ 4294967296) := by rw [Hid, HOC.out.2.1]; omega
    clear hcyc
    generalize Rc.cyclicR k l = cy at *
    have hcc : (cy != cy) = false := by simp
    go_wp2_with fail
    generalize V.alloc (.cells #[.int .i64 k, .slice A_s k c_s] 26) = W6 at *
    generalize V.heap.size = o_s at *
    have UC_c := Lib.hid ((U_c.out.below (below_all S5.out S6.out)))
    have UC_s := Lib.hid (U_s.out)
    have UC_g := Lib.hid (HU.out.below (below_all BW.out (below_all (below_all (below_all (below_all (below_all S1.out S2.out) S3.out) S4.out) S5.out) S6.out)))
    have TC := Lib.hid (HT.out.below (below_all BW.out (below_all (below_all (below_all (below_all (below_all S1.out S2.out) S3.out) S4.out) S5.out) S6.out)))
    have HK : Hid (∀ W', Below W6.heap.size W6 W' → W'.cell? ⟨o_c, 0, none⟩ = some (.int .i64 k) ∧ W'.cell? ⟨o_c, 1, none⟩ = some (.slice A_c k c_c) ∧ W'.cell? ⟨o_s, 0, none⟩ = some (.int .i64 k) ∧ W'.cell? ⟨o_s, 1, none⟩ = some (.slice A_s k c_s) ∧ W'.cell? ⟨w.heap.size, 0, none⟩ = some (.int .i64 k) ∧ W'.cell? ⟨w.heap.size, 1, none⟩ = some (.slice A l.length c) ∧ W'.cell? ⟨o_r, 0, none⟩ = some (.int .i64 k) ∧ W'.cell? ⟨o_r, 1, none⟩ = some (.slice A l.length c)) := fun W' h => ⟨(T_c.out.later (below_all (below_all S5.out S6.out) h)).cells.1, (T_c.out.later (below_all (below_all S5.out S6.out) h)).cells.2, (T_s.out.later h).cells.1, (T_s.out.later h).cells.2, (T_g.out.later (below_all (below_all (below_all (below_all (below_all (below_all S1.out S2.out) S3.out) S4.out) S5.out) S6.out) h)).cells.1, (T_g.out.later (below_all (below_all (below_all (below_all (below_all (below_all S1.out S2.out) S3.out) S4.out) S5.out) S6.out) h)).cells.2, (T_r.out.later (below_all (below_all (below_all (below_all S3.out S4.out) S5.out) S6.out) h)).cells.1, (T_r.out.later (below_all (below_all (below_all (below_all S3.out S4.out) S5.out) S6.out) h)).cells.2⟩
    obtain ⟨c0, c1, s0, s1, g0, g1, r0, r1⟩ := HK.out _ (Below.refl _ W6)
    have D := Lib.hid (Below.refl W6.heap.size W6).drew
    go_region_held3 (fun W' => W'.cell? ⟨o_c, 0, none⟩ = some (.int .i64 k) ∧ W'.cell? ⟨o_c, 1, none⟩ = some (.slice A_c k c_c) ∧ W'.cell? ⟨o_s, 0, none⟩ = some (.int .i64 k) ∧ W'.cell? ⟨o_s, 1, none⟩ = some (.slice A_s k c_s) ∧ W'.cell? ⟨w.heap.size, 0, none⟩ = some (.int .i64 k) ∧ W'.cell? ⟨w.heap.size, 1, none⟩ = some (.slice A l.length c) ∧ W'.cell? ⟨o_r, 0, none⟩ = some (.int .i64 k) ∧ W'.cell? ⟨o_r, 1, none⟩ = some (.slice A l.length c))
      (first | (exact ⟨c0, c1, s0, s1, g0, g1, r0, r1⟩) | (exact HK.out _ D.out) | (exact HK.out _ Y1.out) | (exact HK.out _ Y2.out) | (exact HK.out _ Y3.out) | (exact HK.out _ Y4.out))
      (first
            | (go_at_call 8; (with_reducible refine (rcPlain_at (k : Int) (.slice A_c k c_c) lc _ (UC_c.out.below D.out)).mono ?_); rintro e z1 ⟨rfl, hz⟩; have Y1 := Lib.hid (below_all D.out hz); clear hz)
            | (go_at_call 15; (with_reducible refine (rSame12_at (k : Int) (.slice A_c k c_c) (.slice A_s k c_s) lc _ (UC_c.out.below Y1.out) (UC_s.out.below Y1.out) HLC.out).mono ?_); rintro e z2 ⟨rfl, hz⟩; have Y2 := Lib.hid (below_all Y1.out hz); clear hz)
            | (go_at_call 12; (with_reducible refine (FC.out _ (TC.out.below Y2.out) (UC_g.out.below Y2.out)).mono ?_); rintro e z3 ⟨rfl, hz⟩; have Y3 := Lib.hid (below_all Y2.out hz); clear hz)
            | (go_at_call 16; (with_reducible refine (FRY.out _ (UC_g.out.below Y3.out)).mono ?_); rintro e W7 ⟨rfl, hz⟩; have Y4 := Lib.hid (below_all Y3.out hz); clear hz))
    all_goals
      have S7 := Lib.hid Y4.out
      clear c0 c1 s0 s1 g0 g1 r0 r1 HK D Y1 Y2 Y3 Y4
      clear UC_c UC_s UC_g TC FC FRY hcc
      have FN1 := Lib.hid (fun w => rNode12_at (k : Int) (.slice A l.length c) a w)
      have FN2 := Lib.hid (fun w => rNode12_at (k : Int) (.slice A l.length c) b w)
      cases hna : Gf.isN (k : Int) a with
      | false =>
        have hnx : nx = 0 ∧ ex = 1 ∧ lx = [] := by
          rcases HX.out with ⟨h, _⟩ | ⟨_, h⟩
          · rw [Gf.addB, hna, HPK.out] at h; cases h
          · exact h
        obtain ⟨rfl, rfl, hlx⟩ := hnx
        generalize hmx : lx.length = mx at *
        obtain rfl : mx = 0 := by rw [← hmx, hlx]; rfl
        clear hmx hlx HX
        have H4 : Hid (Rc.fromA (k : Int) l a = 0) := by rw [Hid, Rc.fromA, hna, Bool.and_false]; rfl
        rw [hna] at FN1
        clear hna
        obtain ⟨r0, r1⟩ := (T_r.out.later (below_all (below_all (below_all (below_all S3.out S4.out) S5.out) S6.out) S7.out)).cells
        go_wp2_with fail
        refine (FN1.out _).mono ?_
        rintro e W8 ⟨rfl, hb⟩
        have S8 := Lib.hid hb
        clear hb
        clear r0 r1
        obtain ⟨r0, r1⟩ := (T_r.out.later (below_all (below_all (below_all (below_all (below_all S3.out S4.out) S5.out) S6.out) S7.out) S8.out)).cells
        obtain ⟨d0, d1⟩ := (T_d.out.later (below_all (below_all S6.out S7.out) S8.out)).cells
        go_wp2_with fail
        refine (FN1.out _).mono ?_
        rintro e W9 ⟨rfl, hb⟩
        have S9 := Lib.hid hb
        clear hb
        clear r0 r1 d0 d1
        obtain ⟨g0, g1⟩ := (T_g.out.later (below_all (below_all (below_all (below_all (below_all (below_all (below_all (below_all S1.out S2.out) S3.out) S4.out) S5.out) S6.out) S7.out) S8.out) S9.out)).cells
        go_wp2_with fail
        refine (rcFrom_at k (.slice A l.length c) l a _ (HT.out.below (below_all BW.out (below_all (below_all (below_all (below_all (below_all (below_all (below_all (below_all S1.out S2.out) S3.out) S4.out) S5.out) S6.out) S7.out) S8.out) S9.out))) (HU.out.below (below_all BW.out (below_all (below_all (below_all (below_all (below_all (below_all (below_all (below_all S1.out S2.out) S3.out) S4.out) S5.out) S6.out) S7.out) S8.out) S9.out))) HS.out).mono ?_
        rintro e W10 ⟨rfl, hb⟩
        have S10 := Lib.hid hb
        clear hb
        clear g0 g1
        rw [H4.out]
        go_wp2_with fail
        go_ret
        exact ⟨rfl, (below_all BW.out (below_all (below_all (below_all (below_all (below_all (below_all (below_all (below_all (below_all S1.out S2.out) S3.out) S4.out) S5.out) S6.out) S7.out) S8.out) S9.out) S10.out))⟩
      | true =>
        obtain ⟨x, rfl, hx⟩ := Gf.isN_nat hna
        rw [hna] at FN1
        obtain ⟨r0, r1⟩ := (T_r.out.later (below_all (below_all (below_all (below_all S3.out S4.out) S5.out) S6.out) S7.out)).cells
        go_wp2_with fail
        refine (FN1.out _).mono ?_
        rintro e W8 ⟨rfl, hb⟩
        have S8 := Lib.hid hb
        clear hb
        clear r0 r1
        cases hnb : Gf.isN (k : Int) b with
        | false =>
          have hnx : nx = 0 ∧ ex = 1 ∧ lx = [] := by
            rcases HX.out with ⟨h, _⟩ | ⟨_, h⟩
            · rw [Gf.addB, hnb, hna, HPK.out] at h; cases h
            · exact h
          obtain ⟨rfl, rfl, hlx⟩ := hnx
          generalize hmx : lx.length = mx at *
          obtain rfl : mx = 0 := by rw [← hmx, hlx]; rfl
          clear hmx hlx HX
          rw [hnb] at FN2
          clear hna hnb
          obtain ⟨r0, r1⟩ := (T_r.out.later (below_all (below_all (below_all (below_all (below_all S3.out S4.out) S5.out) S6.out) S7.out) S8.out)).cells
          go_wp2_with fail
          refine (FN2.out _).mono ?_
          rintro e W9 ⟨rfl, hb⟩
          have S9 := Lib.hid hb
          clear hb
          clear r0 r1
          obtain ⟨r0, r1⟩ := (T_r.out.later (below_all (below_all (below_all (below_all (below_all (below_all S3.out S4.out) S5.out) S6.out) S7.out) S8.out) S9.out)).cells
          obtain ⟨d0, d1⟩ := (T_d.out.later (below_all (below_all (below_all S6.out S7.out) S8.out) S9.out)).cells
          go_wp2_with fail
          refine (FN1.out _).mono ?_
          rintro e W10 ⟨rfl, hb⟩
          have S10 := Lib.hid hb
          clear hb
          clear r0 r1 d0 d1
          go_wp2_with fail
          go_ret
          exact ⟨rfl, (below_all BW.out (below_all (below_all (below_all (below_all (below_all (below_all (below_all (below_all (below_all S1.out S2.out) S3.out) S4.out) S5.out) S6.out) S7.out) S8.out) S9.out) S10.out))⟩
        | true =>
          obtain ⟨y, rfl, hy⟩ := Gf.isN_nat hnb
          rw [hnb] at FN2
          have hnx : nx = k ∧ ex = 0 ∧ lx = Rc.moreR k l x y := by
            rcases HX.out with ⟨_, h1, h2, h3⟩ | ⟨h, _⟩
            · rw [Int.toNat_natCast, Int.toNat_natCast, Int.toNat_natCast] at h3; exact ⟨h1, h2, h3⟩
            · rw [Gf.addB, hna, hnb, HPK.out] at h; cases h
          obtain ⟨rfl, rfl, hlx⟩ := hnx
          have hfx : Rc.fromA (k : Int) l (x : Int) = Rc.fromR k l x := by rw [Rc.fromA, HPK.out, hna, Int.toNat_natCast, Int.toNat_natCast]; rfl
          have FF := Lib.hid (fun w h1 h2 => rcFrom_at (k : Int) (.slice A l.length c) l (x : Int) w h1 h2 HS.out)
          rw [hfx] at FF
          have FRM := Lib.hid (fun w h => rMore13_at k (.slice A l.length c) l x y w h HOK.out hx hy)
          have FM := Lib.hid (fun u v w h1 h2 => rSame12_at (k : Int) u v (Rc.moreR k l x y) w h1 h2 (by rw [Rc.moreR, Gf.build_len]; omega))
          rw [← hlx] at FRM FM
          have hxl : x < lc.length := by rw [HOC.out.2.1]; exact hx
          have HCX2 := Lib.hid (HCX.out x hxl hx)
          clear hna hnb hfx hlx HX
          obtain ⟨r0, r1⟩ := (T_r.out.later (below_all (below_all (below_all (below_all (below_all S3.out S4.out) S5.out) S6.out) S7.out) S8.out)).cells
          go_wp2_with fail
          refine (FN2.out _).mono ?_
          rintro e W9 ⟨rfl, hb⟩
          have S9 := Lib.hid hb
          clear hb
          clear r0 r1
          have UC_d := Lib.hid ((U_d.out.below (below_all (below_all (below_all S6.out S7.out) S8.out) S9.out)))
          have UC_r := Lib.hid ((U_r.out.below (below_all (below_all (below_all (below_all (below_all (below_all S3.out S4.out) S5.out) S6.out) S7.out) S8.out) S9.out)))
          have UC_g := Lib.hid (HU.out.below (below_all BW.out (below_all (below_all (below_all (below_all (below_all (below_all (below_all (below_all S1.out S2.out) S3.out) S4.out) S5.out) S6.out) S7.out) S8.out) S9.out)))
          have TC := Lib.hid (HT.out.below (below_all BW.out (below_all (below_all (below_all (below_all (below_all (below_all (below_all (below_all S1.out S2.out) S3.out) S4.out) S5.out) S6.out) S7.out) S8.out) S9.out)))
          have us0 := (U_s.out.below (below_all (below_all S7.out S8.out) S9.out))
          obtain ⟨ad_s, rfl, hbs, hsx⟩ := us_at us0 x hxl
          rw [HCX2.out] at hsx
          have HSX := Lib.hid hsx
          have HBS := Lib.hid hbs
          clear us0 hsx hbs
          generalize Rc.fromR k l x = f at *
          have hff : ((f : Int) == (f : Int)) = true := by simp
          go_wp2_with fail
          have HK : Hid (∀ W', Below W9.heap.size W9 W' → W'.cell? ⟨o_d, 0, none⟩ = some (.int .i64 k) ∧ W'.cell? ⟨o_d, 1, none⟩ = some (.slice A_d lx.length c_d) ∧ W'.cell? ⟨o_r, 0, none⟩ = some (.int .i64 k) ∧ W'.cell? ⟨o_r, 1, none⟩ = some (.slice A l.length c) ∧ W'.cell? ⟨w.heap.size, 0, none⟩ = some (.int .i64 k) ∧ W'.cell? ⟨w.heap.size, 1, none⟩ = some (.slice A l.length c) ∧ W'.cell? ⟨o_s, 0, none⟩ = some (.int .i64 k) ∧ W'.cell? ⟨o_s, 1, none⟩ = some (.slice (some ad_s) k c_s) ∧ W'.cell? (ad_s.add x) = some (.int .u64 (f : Int))) := fun W' h => ⟨(T_d.out.later (below_all (below_all (below_all (below_all S6.out S7.out) S8.out) S9.out) h)).cells.1, (T_d.out.later (below_all (below_all (below_all (below_all S6.out S7.out) S8.out) S9.out) h)).cells.2, (T_r.out.later (below_all (below_all (below_all (below_all (below_all (below_all (below_all S3.out S4.out) S5.out) S6.out) S7.out) S8.out) S9.out) h)).cells.1, (T_r.out.later (below_all (below_all (below_all (below_all (below_all (below_all (below_all S3.out S4.out) S5.out) S6.out) S7.out) S8.out) S9.out) h)).cells.2, (T_g.out.later (below_all (below_all (below_all (below_all (below_all (below_all (below_all (below_all (below_all S1.out S2.out) S3.out) S4.out) S5.out) S6.out) S7.out) S8.out) S9.out) h)).cells.1, (T_g.out.later (below_all (below_all (below_all (below_all (below_all (below_all (below_all (below_all (below_all S1.out S2.out) S3.out) S4.out) S5.out) S6.out) S7.out) S8.out) S9.out) h)).cells.2, (T_s.out.later (below_all (below_all (below_all S7.out S8.out) S9.out) h)).cells.1, (T_s.out.later (below_all (below_all (below_all S7.out S8.out) S9.out) h)).cells.2, (h.cell (by rw [add_block]; exact HBS.out)).trans HSX.out⟩
          obtain ⟨d0, d1, r0, r1, g0, g1, s0, s1, sx⟩ := HK.out _ (Below.refl _ W9)
          have D := Lib.hid (Below.refl W9.heap.size W9).drew
          go_region_held3 (fun W' => W'.cell? ⟨o_d, 0, none⟩ = some (.int .i64 k) ∧ W'.cell? ⟨o_d, 1, none⟩ = some (.slice A_d lx.length c_d) ∧ W'.cell? ⟨o_r, 0, none⟩ = some (.int .i64 k) ∧ W'.cell? ⟨o_r, 1, none⟩ = some (.slice A l.length c) ∧ W'.cell? ⟨w.heap.size, 0, none⟩ = some (.int .i64 k) ∧ W'.cell? ⟨w.heap.size, 1, none⟩ = some (.slice A l.length c) ∧ W'.cell? ⟨o_s, 0, none⟩ = some (.int .i64 k) ∧ W'.cell? ⟨o_s, 1, none⟩ = some (.slice (some ad_s) k c_s) ∧ W'.cell? (ad_s.add x) = some (.int .u64 (f : Int)))
            (first | (exact ⟨d0, d1, r0, r1, g0, g1, s0, s1, sx⟩) | (exact HK.out _ D.out) | (exact HK.out _ Y1.out) | (exact HK.out _ Y2.out) | (exact HK.out _ Y3.out) | (exact HK.out _ Y4.out))
            (first
                        | (go_at_call 8; (with_reducible refine (rcPlain_at (k : Int) (.slice A_d lx.length c_d) lx _ (UC_d.out.below D.out)).mono ?_); rintro e z1 ⟨rfl, hz⟩; have Y1 := Lib.hid (below_all D.out hz); clear hz)
                        | (go_at_call 18; (with_reducible refine (FRM.out _ (UC_r.out.below Y1.out)).mono ?_); rintro e z2 ⟨v2, rfl, ho2, hz⟩; have Y2 := Lib.hid (below_all Y1.out hz); have R2 := Lib.hid ho2.us; clear ho2; clear hz)
                        | (go_at_call 15; (with_reducible refine (FM.out _ _ _ (UC_d.out.below Y2.out) R2.out).mono ?_); rintro e z3 ⟨rfl, hz⟩; have Y3 := Lib.hid (below_all Y2.out hz); clear hz)
                        | (go_at_call 13; (with_reducible refine (FF.out _ (TC.out.below Y3.out) (UC_g.out.below Y3.out)).mono ?_); rintro e W10 ⟨rfl, hz⟩; have Y4 := Lib.hid (below_all Y3.out hz); clear hz))
          all_goals
            have S10 := Lib.hid Y4.out
            clear d0 d1 r0 r1 g0 g1 s0 s1 sx HK D Y1 Y2 Y3 Y4
            go_wp2_with fail
            go_ret
            exact ⟨rfl, (below_all BW.out (below_all (below_all (below_all (below_all (below_all (below_all (below_all (below_all (below_all S1.out S2.out) S3.out) S4.out) S5.out) S6.out) S7.out) S8.out) S9.out) S10.out))⟩
end Go.Proofs.YtadgfplaabgkfaaDoor
