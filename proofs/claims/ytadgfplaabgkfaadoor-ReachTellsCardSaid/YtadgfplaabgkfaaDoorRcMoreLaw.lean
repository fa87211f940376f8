/-
  The law ReachMore: what is closed, and gets an edge, is what is closed with that edge.
  Conditions: rows hold sets below 2^64; the library's table for the lowest bit holds what its text says.
-/
import Derived.Test.YtadgfplaabgkfaaDoorRcAwake
import Derived.Deep.RegionHeld3
set_option maxRecDepth 4000
namespace Go.Proofs.YtadgfplaabgkfaaDoor
open Go.RowKit

/-- An edge that may be added: a graph, and two of its nodes. -/
theorem Gf.add_cases {n : Int} {l : List Nat} {a b : Int} (h : Gf.addB n l a b = true) : ∃ k x y : Nat, n = (k : Int) ∧ a = (x : Int) ∧ b = (y : Int) ∧ Gf.Ok k l ∧ x < k ∧ y < k := by
  have h' : (Gf.okB n l && (Gf.isN n a && Gf.isN n b)) = true := h
  rw [Bool.and_eq_true, Bool.and_eq_true] at h'
  obtain ⟨k, rfl, hok⟩ := Gf.okB_iff.1 h'.1
  obtain ⟨x, rfl, hx⟩ := Gf.isN_nat h'.2.1
  obtain ⟨y, rfl, hy⟩ := Gf.isN_nat h'.2.2
  exact ⟨k, x, y, rfl, rfl, rfl, hok, hx, hy⟩
/-- A row of the call's own whose length is known. -/
theorem own_is {W : World} {base k : Nat} {v : Value} {l : List Nat} (h : OwnU W base v l) (hl : l.length = k) : ∃ A c, v = .slice A k c ∧ Us W (.slice A k c) l := by
  obtain ⟨A, c, e⟩ := h.form
  rw [hl] at e
  subst e
  exact ⟨A, c, rfl, h.us⟩
set_option maxHeartbeats 8000000 in
theorem lawReachMore (n : Int) (u : Value) (l : List Nat) (a b : Int) (w : World) (hT : TZ w) (hu : Us w u l) (hs : ∀ x ∈ l, x < 18446744073709551616) : Calls Tryd.prog 4 #[.agg #[.int .i64 n, u], .int .i64 a, .int .i64 b] w (RetBool w true) := by
  have HU := Lib.hid hu
  have HS := Lib.hid hs
  have HT := Lib.hid hT
  obtain ⟨A, c, rfl, -⟩ := hu.spelled
  have T_g := Lib.hid (Two.new w 24 (.int .i64 n) (.slice A l.length c))
  have BW := Lib.hid (alloc_below w (.cells #[.int .i64 n, .slice A l.length c] 24))
  clear hu hs hT
  go_enter Tryd.func4, Tryd.ntmps4
  go_wp2_with fail
  generalize w.alloc (.cells #[.int .i64 n, .slice A l.length c] 24) = W0 at *
  go_wp2_with fail
  refine (rcAwake_at _ (HT.out.below BW.out)).mono ?_
  rintro e W1 ⟨rfl, hb⟩
  have S1 := Lib.hid hb
  clear hb
  obtain ⟨g0, g1⟩ := (T_g.out.later S1.out).cells
  by_cases h70 : 70 < l.length
  ·
    go_wp2_with fail
    go_ret
    exact ⟨rfl, (below_all BW.out S1.out)⟩
  cases hab : Gf.addB n l a b with
  | false =>
    go_wp2_with fail
    refine (gfAdd_no n (.slice A l.length c) l a b _ (HU.out.below (below_all BW.out S1.out)) HS.out hab).mono ?_
    rintro e W2 ⟨rfl, hb⟩
    have S2 := Lib.hid hb
    clear hb
    clear g0 g1
    go_wp2_with fail
    go_ret
    exact ⟨rfl, below_all (below_all BW.out (below_all S1.out S2.out)) (alloc_below _ _)⟩
  | true =>
    obtain ⟨k, x, y, rfl, rfl, rfl, hok, hx, hy⟩ := Gf.add_cases hab
    clear hab
    have HOK := Lib.hid hok
    have HO2 := Lib.hid (Gf.add_ok hok hx hy)
    have HOC := Lib.hid (Rc.close_ok hok)
    have HMC := Lib.hid (Rc.more_close hok hx hy)
    have h64 := hok.1
    clear hok
    go_wp2_with fail
    refine (gfAdd_at k (.slice A l.length c) l x y _ (HU.out.below (below_all BW.out S1.out)) HOK.out hx hy).mono ?_
    rintro e V ⟨v, rfl, ho, hb⟩
    obtain ⟨A_h, c_h, rfl, hu_h⟩ := own_is (k := k) ho HO2.out.2.1
    clear ho
    have b := alloc_below V (.cells #[.int .i64 k, .slice A_h k c_h] 24)
    have S2 := Lib.hid (below_all hb b)
    have T_h := Lib.hid (Two.new V 24 (.int .i64 k) (.slice A_h k c_h))
    have U_h := Lib.hid (hu_h.below b)
    clear hb b
    clear g0 g1
    generalize Gf.addR l x y = lh at *
    obtain ⟨g0, g1⟩ := (T_g.out.later (below_all S1.out S2.out)).cells
    go_wp2_with fail
    generalize V.alloc (.cells #[.int .i64 k, .slice A_h k c_h] 24) = W2 at *
    generalize V.heap.size = o_h at *
    refine (rcClose_at k (.slice A l.length c) l _ (HT.out.below (below_all BW.out (below_all S1.out S2.out))) (HU.out.below (below_all BW.out (below_all S1.out S2.out))) HOK.out).mono ?_
    rintro e V ⟨v, rfl, ho, hb⟩
    obtain ⟨A_c, c_c, rfl, hu_c⟩ := own_is (k := k) ho HOC.out.2.1
    clear ho
    have b := alloc_below V (.cells #[.int .i64 k, .slice A_c k c_c] 24)
    have S3 := Lib.hid (below_all hb b)
    have T_c := Lib.hid (Two.new V 24 (.int .i64 k) (.slice A_c k c_c))
    have U_c := Lib.hid (hu_c.below b)
    clear hb b
    clear g0 g1
    generalize Rc.closeR k l = lc at *
    obtain ⟨h0, h1⟩ := (T_h.out.later S3.out).cells
    go_wp2_with fail
    generalize V.alloc (.cells #[.int .i64 k, .slice A_c k c_c] 24) = W3 at *
    generalize V.heap.size = o_c at *
    refine (rcClose_at k (.slice A_h k c_h) lh _ (HT.out.below (below_all BW.out (below_all (below_all S1.out S2.out) S3.out))) (U_h.out.below S3.out) HO2.out).mono ?_
    rintro e V ⟨v, rfl, ho, hb⟩
    obtain ⟨A_d, c_d, rfl, hu_d⟩ := own_is (k := k) ho (Rc.close_ok HO2.out).2.1
    clear ho
    have b := alloc_below V (.cells #[.int .i64 k, .slice A_d k c_d] 24)
    have S4 := Lib.hid (below_all hb b)
    have T_d := Lib.hid (Two.new V 24 (.int .i64 k) (.slice A_d k c_d))
    have U_d := Lib.hid (hu_d.below b)
    clear hb b
    clear h0 h1
    have HOD := Lib.hid (Rc.close_ok HO2.out)
    generalize Rc.closeR k lh = ld at *
    obtain ⟨c0, c1⟩ := (T_c.out.later S4.out).cells
    go_wp2_with fail
    generalize V.alloc (.cells #[.int .i64 k, .slice A_d k c_d] 24) = W4 at *
    generalize V.heap.size = o_d at *
    refine (rcMore_at k (.slice A_c k c_c) lc x y _ (U_c.out.below S4.out) HOC.out hx hy).mono ?_
    rintro e V ⟨v, rfl, ho, hb⟩
    obtain ⟨A_m, c_m, rfl, hu_m⟩ := own_is (k := k) ho (by rw [HMC.out]; exact HOD.out.2.1)
    clear ho
    have b := alloc_below V (.cells #[.int .i64 k, .slice A_m k c_m] 24)
    have S5 := Lib.hid (below_all hb b)
    have T_m := Lib.hid (Two.new V 24 (.int .i64 k) (.slice A_m k c_m))
    have U_m := Lib.hid (hu_m.below b)
    clear hb b
    clear c0 c1
    rw [HMC.out] at U_m
    go_wp2_with fail
    generalize V.alloc (.cells #[.int .i64 k, .slice A_m k c_m] 24) = W5 at *
    generalize V.heap.size = o_m at *
    have UC_m := Lib.hid (U_m.out)
    have UC_d := Lib.hid ((U_d.out.below S5.out))
    have HLD : Hid (ld.length ≤ 4294967296) := by rw [Hid, HOD.out.2.1]; omega
    have HK : Hid (∀ W', Below W5.heap.size W5 W' → W'.cell? ⟨o_m, 0, none⟩ = some (.int .i64 k) ∧ W'.cell? ⟨o_m, 1, none⟩ = some (.slice A_m k c_m) ∧ W'.cell? ⟨o_d, 0, none⟩ = some (.int .i64 k) ∧ W'.cell? ⟨o_d, 1, none⟩ = some (.slice A_d k c_d)) := fun W' h => ⟨(T_m.out.later h).cells.1, (T_m.out.later h).cells.2, (T_d.out.later (below_all S5.out h)).cells.1, (T_d.out.later (below_all S5.out h)).cells.2⟩
    obtain ⟨m0, m1, d0, d1⟩ := HK.out _ (Below.refl _ W5)
    have D := Lib.hid (Below.refl W5.heap.size W5).drew
    go_region_held3 (fun W' => W'.cell? ⟨o_m, 0, none⟩ = some (.int .i64 k) ∧ W'.cell? ⟨o_m, 1, none⟩ = some (.slice A_m k c_m) ∧ W'.cell? ⟨o_d, 0, none⟩ = some (.int .i64 k) ∧ W'.cell? ⟨o_d, 1, none⟩ = some (.slice A_d k c_d))
      (first | (exact ⟨m0, m1, d0, d1⟩) | (exact HK.out _ D.out) | (exact HK.out _ Y1.out) | (exact HK.out _ Y2.out) | (exact HK.out _ Y3.out))
      (first
            | (go_at_call 8; (with_reducible refine (rcPlain_at (k : Int) (.slice A_m k c_m) ld _ (UC_m.out.below D.out)).mono ?_); rintro e z1 ⟨rfl, hz⟩; have Y1 := Lib.hid (below_all D.out hz); clear hz)
            | (go_at_call 8; (with_reducible refine (rcPlain_at (k : Int) (.slice A_d k c_d) ld _ (UC_d.out.below Y1.out)).mono ?_); rintro e z2 ⟨rfl, hz⟩; have Y2 := Lib.hid (below_all Y1.out hz); clear hz)
            | (go_at_call 15; (with_reducible refine (rSame12_at (k : Int) (.slice A_m k c_m) (.slice A_d k c_d) ld _ (UC_m.out.below Y2.out) (UC_d.out.below Y2.out) HLD.out).mono ?_); rintro e W6 ⟨rfl, hz⟩; have Y3 := Lib.hid (below_all Y2.out hz); clear hz))
    all_goals
      have S6 := Lib.hid Y3.out
      clear m0 m1 d0 d1 HK D Y1 Y2 Y3
      go_wp2_with fail
      go_ret
      exact ⟨rfl, (below_all BW.out (below_all (below_all (below_all (below_all (below_all S1.out S2.out) S3.out) S4.out) S5.out) S6.out))⟩
end Go.Proofs.YtadgfplaabgkfaaDoor
