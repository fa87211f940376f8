/-
  The law ReachWays: a way is an edge, or an edge and a way behind it; what is closed is closed; with more edges there are more ways.
  Conditions: rows hold sets below 2^64; the library's table for the lowest bit holds what its text says.
-/
import Derived.Test.YtadgfplaabgkfaaDoorRcTellsLaw
set_option maxRecDepth 4000
namespace Go.Proofs.YtadgfplaabgkfaaDoor
open Go.RowKit

namespace Rc
/-- More edges, more ways: row by row. -/
theorem wide_sub {k : Nat} {l m : List Nat} (h : Gf.Ok k l) (hm : Gf.Ok k m) (j : Nat) (h1 : j < (closeR k l).length) (h2 : j < (closeR k (Gf.unionR k l m)).length) : Bi.sub (closeR k l)[j] (closeR k (Gf.unionR k l m))[j] = true := by
  have hu : Gf.Ok k (Gf.unionR k l m) := Gf.build_ok h.1 _
  rw [Bi.sub_iff]
  intro i _ hi
  rw [← Gf.bit_at h1] at hi
  rw [← Gf.bit_at h2]
  exact close_sub h hu (fun x y hb => by rw [Gf.union_bit h hm, hb]; rfl) hi
end Rc
set_option maxHeartbeats 8000000 in
theorem lawReachWays (n : Int) (u : Value) (l : List Nat) (o : Int) (v : Value) (m : List Nat) (w : World) (hT : TZ w) (hu : Us w u l) (hs : ∀ x ∈ l, x < 18446744073709551616) (hv : Us w v m) (hr : ∀ x ∈ m, x < 18446744073709551616) : Calls Tryd.prog 5 #[.agg #[.int .i64 n, u], .agg #[.int .i64 o, v]] w (RetBool w true) := by
  have HU := Lib.hid hu
  have HS := Lib.hid hs
  have HV := Lib.hid hv
  have HR := Lib.hid hr
  have HT := Lib.hid hT
  obtain ⟨A, c, rfl, -⟩ := hu.spelled
  obtain ⟨B, d, rfl, -⟩ := hv.spelled
  clear hu hs hv hr hT
  go_enter Tryd.func5, Tryd.ntmps5
  go_wp2_with fail
  obtain ⟨t0, t1, bw⟩ := gl_two w n o (.slice A l.length c) (.slice B m.length d) rfl
  have T_g := Lib.hid t0
  have T_q := Lib.hid t1
  have BW := Lib.hid bw
  clear t0 t1 bw
  generalize (w.alloc (.cells #[.int .i64 n, .slice A l.length c] 24)).alloc (.cells #[.int .i64 o, .slice B m.length d] 24) = W0 at *
  go_wp2_with fail
  refine (rcAwake_at _ (HT.out.below BW.out)).mono ?_
  rintro e W1 ⟨rfl, hb⟩
  have S1 := Lib.hid hb
  clear hb
  obtain ⟨g0, g1⟩ := (T_g.out.later S1.out).cells
  obtain ⟨q0, q1⟩ := (T_q.out.later S1.out).cells
  by_cases h70 : 70 < l.length
  ·
    go_wp2_with fail
    go_ret
    exact ⟨rfl, (below_all BW.out S1.out)⟩
  by_cases h71 : 70 < m.length
  ·
    go_wp2_with fail
    go_ret
    exact ⟨rfl, (below_all BW.out S1.out)⟩
  obtain ⟨p, hp⟩ : ∃ p, p = Gf.okB n l := ⟨_, rfl⟩
  have HP := Lib.hid hp
  go_wp2_with fail
  refine (gfRight_at n (.slice A l.length c) l _ (HU.out.below (below_all BW.out S1.out)) HS.out).mono ?_
  rintro e W2 ⟨rfl, hb⟩
  have S2 := Lib.hid hb
  clear hb
  clear g0 g1 q0 q1
  rw [← HP.out]
  clear hp
  cases p with
  | false =>
    go_wp2_with fail
    go_ret
    exact ⟨rfl, (below_all BW.out (below_all S1.out S2.out))⟩
  | true =>
    obtain ⟨k, hnk, hok⟩ := Gf.okB_iff.1 HP.out.symm
    subst hnk
    have HOK := Lib.hid hok
    have HOC := Lib.hid (Rc.close_ok hok)
    have h64 := hok.1
    have HST := Lib.hid (Rc.close_step hok)
    have HCC := Lib.hid (Rc.close_close hok)
    have HSUB := Lib.hid (fun j h1 h2 => @Rc.wide_sub k l m hok j h1 h2)
    clear hok HP
    obtain ⟨g0, g1⟩ := (T_g.out.later (below_all S1.out S2.out)).cells
    go_wp2_with fail
    refine (rcClose_at k (.slice A l.length c) l _ (HT.out.below (below_all BW.out (below_all S1.out S2.out))) (HU.out.below (below_all BW.out (below_all S1.out S2.out))) HOK.out).mono ?_
    rintro e V ⟨v, rfl, ho, hb⟩
    obtain ⟨A_c, c_c, rfl, hu_c⟩ := own_is (k := k) ho HOC.out.2.1
    clear ho
    have b := alloc_below V (.cells #[.int .i64 k, .slice A_c k c_c] 24)
    have S3 := Lib.hid (below_all hb b)
    have T_c := Lib.hid (Two.new V 24 (.int .i64 k) (.slice A_c k c_c))
    have U_c := Lib.hid (hu_c.below b)
    clear hb b
    clear g0 g1
    generalize Rc.closeR k l = lc at *
    obtain ⟨g0, g1⟩ := (T_g.out.later (below_all (below_all S1.out S2.out) S3.out)).cells
    obtain ⟨c0, c1⟩ := T_c.out.cells
    go_wp2_with fail
    generalize V.alloc (.cells #[.int .i64 k, .slice A_c k c_c] 24) = W3 at *
    generalize V.heap.size = o_c at *
    refine (gfCompose_at k (.slice A l.length c) (.slice A_c k c_c) l lc _ (HU.out.below (below_all BW.out (below_all (below_all S1.out S2.out) S3.out))) U_c.out HOK.out HOC.out).mono ?_
    rintro e V ⟨v, rfl, ho, hb⟩
    obtain ⟨A_x, c_x, rfl, hu_x⟩ := own_is (k := k) ho (Gf.build_len _ _)
    clear ho
    have b := alloc_below V (.cells #[.int .i64 k, .slice A_x k c_x] 24)
    have S4 := Lib.hid (below_all hb b)
    have T_x := Lib.hid (Two.new V 24 (.int .i64 k) (.slice A_x k c_x))
    have U_x := Lib.hid (hu_x.below b)
    clear hb b
    clear g0 g1 c0 c1
    have HOX : Hid (Gf.Ok k (Gf.composeR k l lc)) := Gf.build_ok h64 _
    generalize Gf.composeR k l lc = lx at *
    obtain ⟨g0, g1⟩ := (T_g.out.later (below_all (below_all (below_all S1.out S2.out) S3.out) S4.out)).cells
    obtain ⟨x0, x1⟩ := T_x.out.cells
    go_wp2_with fail
    generalize V.alloc (.cells #[.int .i64 k, .slice A_x k c_x] 24) = W4 at *
    generalize V.heap.size = o_x at *
    refine (gfUnion_at k (.slice A l.length c) (.slice A_x k c_x) l lx _ (HU.out.below (below_all BW.out (below_all (below_all (below_all S1.out S2.out) S3.out) S4.out))) U_x.out HOK.out HOX.out).mono ?_
    rintro e V ⟨v, rfl, ho, hb⟩
    obtain ⟨A_u, c_u, rfl, hu_u⟩ := own_is (k := k) ho (Gf.build_len _ _)
    clear ho
    have b := alloc_below V (.cells #[.int .i64 k, .slice A_u k c_u] 24)
    have S5 := Lib.hid (below_all hb b)
    have T_u := Lib.hid (Two.new V 24 (.int .i64 k) (.slice A_u k c_u))
    have U_u := Lib.hid (hu_u.below b)
    clear hb b
    clear g0 g1 x0 x1
    rw [HST.out] at U_u
    obtain ⟨c0, c1⟩ := (T_c.out.later (below_all S4.out S5.out)).cells
    go_wp2_with fail
    generalize V.alloc (.cells #[.int .i64 k, .slice A_u k c_u] 24) = W5 at *
    generalize V.heap.size = o_u at *
    refine (rcClose_at k (.slice A_c k c_c) lc _ (HT.out.below (below_all BW.out (below_all (below_all (below_all (below_all S1.out S2.out) S3.out) S4.out) S5.out))) (U_c.out.below (below_all S4.out S5.out)) HOC.out).mono ?_
    rintro e V ⟨v, rfl, ho, hb⟩
    obtain ⟨A_z, c_z, rfl, hu_z⟩ := own_is (k := k) ho (Rc.close_ok HOC.out).2.1
    clear ho
    have b := alloc_below V (.cells #[.int .i64 k, .slice A_z k c_z] 24)
    have S6 := Lib.hid (below_all hb b)
    have T_z := Lib.hid (Two.new V 24 (.int .i64 k) (.slice A_z k c_z))
    have U_z := Lib.hid (hu_z.below b)
    clear hb b
    clear c0 c1
    rw [HCC.out] at U_z
    have HLC : Hid (lc.length ≤ 4294967296) := by rw [Hid, HOC.out.2.1]; omega
    go_wp2_with fail
    generalize V.alloc (.cells #[.int .i64 k, .slice A_z k c_z] 24) = W6 at *
    generalize V.heap.size = o_z at *
    have UC_c := Lib.hid ((U_c.out.below (below_all (below_all S4.out S5.out) S6.out)))
    have UC_u := Lib.hid ((U_u.out.below S6.out))
    have UC_z := Lib.hid (U_z.out)
    have HK : Hid (∀ W', Below W6.heap.size W6 W' → W'.cell? ⟨o_u, 0, none⟩ = some (.int .i64 k) ∧ W'.cell? ⟨o_u, 1, none⟩ = some (.slice A_u k c_u) ∧ W'.cell? ⟨o_c, 0, none⟩ = some (.int .i64 k) ∧ W'.cell? ⟨o_c, 1, none⟩ = some (.slice A_c k c_c) ∧ W'.cell? ⟨o_z, 0, none⟩ = some (.int .i64 k) ∧ W'.cell? ⟨o_z, 1, none⟩ = some (.slice A_z k c_z)) := fun W' h => ⟨(T_u.out.later (below_all S6.out h)).cells.1, (T_u.out.later (below_all S6.out h)).cells.2, (T_c.out.later (below_all (below_all (below_all S4.out S5.out) S6.out) h)).cells.1, (T_c.out.later (below_all (below_all (below_all S4.out S5.out) S6.out) h)).cells.2, (T_z.out.later h).cells.1, (T_z.out.later h).cells.2⟩
    obtain ⟨u0, u1, c0, c1, z0, z1⟩ := HK.out _ (Below.refl _ W6)
    have D := Lib.hid (Below.refl W6.heap.size W6).drew
    go_region_held3 (fun W' => W'.cell? ⟨o_u, 0, none⟩ = some (.int .i64 k) ∧ W'.cell? ⟨o_u, 1, none⟩ = some (.slice A_u k c_u) ∧ W'.cell? ⟨o_c, 0, none⟩ = some (.int .i64 k) ∧ W'.cell? ⟨o_c, 1, none⟩ = some (.slice A_c k c_c) ∧ W'.cell? ⟨o_z, 0, none⟩ = some (.int .i64 k) ∧ W'.cell? ⟨o_z, 1, none⟩ = some (.slice A_z k c_z))
      (first | (exact ⟨u0, u1, c0, c1, z0, z1⟩) | (exact HK.out _ D.out) | (exact HK.out _ Y1.out) | (exact HK.out _ Y2.out) | (exact HK.out _ Y3.out) | (exact HK.out _ Y4.out) | (exact HK.out _ Y5.out) | (exact HK.out _ Y6.out))
      (first
            | (go_at_call 8; (with_reducible refine (rcPlain_at (k : Int) (.slice A_u k c_u) lc _ (UC_u.out.below D.out)).mono ?_); rintro e z1 ⟨rfl, hz⟩; have Y1 := Lib.hid (below_all D.out hz); clear hz)
            | (go_at_call 8; (with_reducible refine (rcPlain_at (k : Int) (.slice A_c k c_c) lc _ (UC_c.out.below Y1.out)).mono ?_); rintro e z2 ⟨rfl, hz⟩; have Y2 := Lib.hid (below_all Y1.out hz); clear hz)
            | (go_at_call 15; (with_reducible refine (rSame12_at (k : Int) (.slice A_u k c_u) (.slice A_c k c_c) lc _ (UC_u.out.below Y2.out) (UC_c.out.below Y2.out) HLC.out).mono ?_); rintro e z3 ⟨rfl, hz⟩; have Y3 := Lib.hid (below_all Y2.out hz); clear hz)
            | (go_at_call 8; (with_reducible refine (rcPlain_at (k : Int) (.slice A_z k c_z) lc _ (UC_z.out.below Y3.out)).mono ?_); rintro e z4 ⟨rfl, hz⟩; have Y4 := Lib.hid (below_all Y3.out hz); clear hz)
            | (go_at_call 8; (with_reducible refine (rcPlain_at (k : Int) (.slice A_c k c_c) lc _ (UC_c.out.below Y4.out)).mono ?_); rintro e z5 ⟨rfl, hz⟩; have Y5 := Lib.hid (below_all Y4.out hz); clear hz)
            | (go_at_call 15; (with_reducible refine (rSame12_at (k : Int) (.slice A_z k c_z) (.slice A_c k c_c) lc _ (UC_z.out.below Y5.out) (UC_c.out.below Y5.out) HLC.out).mono ?_); rintro e W7 ⟨rfl, hz⟩; have Y6 := Lib.hid (below_all Y5.out hz); clear hz))
    all_goals
      have S7 := Lib.hid Y6.out
      clear u0 u1 c0 c1 z0 z1 HK D Y1 Y2 Y3 Y4 Y5 Y6
      clear UC_c UC_u UC_z
      obtain ⟨p2, hp2⟩ : ∃ p, p = Gf.okB o m := ⟨_, rfl⟩
      have HP2 := Lib.hid hp2
      obtain ⟨q0, q1⟩ := (T_q.out.later (below_all (below_all (below_all (below_all (below_all (below_all S1.out S2.out) S3.out) S4.out) S5.out) S6.out) S7.out)).cells
      go_wp2_with fail
      refine (gfRight_at o (.slice B m.length d) m _ (HV.out.below (below_all BW.out (below_all (below_all (below_all (below_all (below_all (below_all S1.out S2.out) S3.out) S4.out) S5.out) S6.out) S7.out))) HR.out).mono ?_
      rintro e W8 ⟨rfl, hb⟩
      have S8 := Lib.hid hb
      clear hb
      clear q0 q1
      rw [← HP2.out]
      clear hp2
      cases p2 with
      | false =>
        go_wp2_with fail
        go_ret
        exact ⟨rfl, (below_all BW.out (below_all (below_all (below_all (below_all (below_all (below_all (below_all S1.out S2.out) S3.out) S4.out) S5.out) S6.out) S7.out) S8.out))⟩
      | true =>
        obtain ⟨k2, hnk2, hok2⟩ := Gf.okB_iff.1 HP2.out.symm
        subst hnk2
        have HOK2 := Lib.hid hok2
        clear hok2
        by_cases hkk : k = k2
        ·
          subst hkk
          have hne : ((k : Int) != (k : Int)) = false := by simp
          have HO3 := HOK2
          have HOW : Hid (Gf.Ok k (Gf.unionR k l m)) := Gf.build_ok h64 _
          have HKK : Hid (∀ j, (hj : j < k) → ∀ (h1 : j < lc.length) (h2 : j < (Rc.closeR k (Gf.unionR k l m)).length), Bi.sub lc[j] (Rc.closeR k (Gf.unionR k l m))[j] = true) := fun j _ h1 h2 => HSUB.out HO3.out j h1 h2
          have FU := Lib.hid (fun w h1 h2 => gfUnion_at k (.slice A l.length c) (.slice B m.length d) l m w h1 h2 HOK.out HO3.out)
          obtain ⟨g0, g1⟩ := (T_g.out.later (below_all (below_all (below_all (below_all (below_all (below_all (below_all S1.out S2.out) S3.out) S4.out) S5.out) S6.out) S7.out) S8.out)).cells
          obtain ⟨q0, q1⟩ := (T_q.out.later (below_all (below_all (below_all (below_all (below_all (below_all (below_all S1.out S2.out) S3.out) S4.out) S5.out) S6.out) S7.out) S8.out)).cells
          go_wp2_with fail
          refine (FU.out _ (HU.out.below (below_all BW.out (below_all (below_all (below_all (below_all (below_all (below_all (below_all S1.out S2.out) S3.out) S4.out) S5.out) S6.out) S7.out) S8.out))) (HV.out.below (below_all BW.out (below_all (below_all (below_all (below_all (below_all (below_all (below_all S1.out S2.out) S3.out) S4.out) S5.out) S6.out) S7.out) S8.out)))).mono ?_
          rintro e V ⟨v, rfl, ho, hb⟩
          obtain ⟨A_y, c_y, rfl, hu_y⟩ := own_is (k := k) ho HOW.out.2.1
          clear ho
          have b := alloc_below V (.cells #[.int .i64 k, .slice A_y k c_y] 24)
          have S9 := Lib.hid (below_all hb b)
          have T_y := Lib.hid (Two.new V 24 (.int .i64 k) (.slice A_y k c_y))
          have U_y := Lib.hid (hu_y.below b)
          clear hb b
          clear g0 g1 q0 q1
          generalize Gf.unionR k l m = ly at *
          have HOV := Lib.hid (Rc.close_ok HOW.out)
          obtain ⟨y0, y1⟩ := T_y.out.cells
          go_wp2_with fail
          generalize V.alloc (.cells #[.int .i64 k, .slice A_y k c_y] 24) = W9 at *
          generalize V.heap.size = o_y at *
          refine (rcClose_at k (.slice A_y k c_y) ly _ (HT.out.below (below_all BW.out (below_all (below_all (below_all (below_all (below_all (below_all (below_all (below_all S1.out S2.out) S3.out) S4.out) S5.out) S6.out) S7.out) S8.out) S9.out))) U_y.out HOW.out).mono ?_
          rintro e V ⟨v, rfl, ho, hb⟩
          obtain ⟨A_v, c_v, rfl, hu_v⟩ := own_is (k := k) ho HOV.out.2.1
          clear ho
          have b := alloc_below V (.cells #[.int .i64 k, .slice A_v k c_v] 24)
          have S10 := Lib.hid (below_all hb b)
          have T_v := Lib.hid (Two.new V 24 (.int .i64 k) (.slice A_v k c_v))
          have U_v := Lib.hid (hu_v.below b)
          clear hb b
          clear y0 y1
          generalize Rc.closeR k ly = lv at *
          obtain ⟨v0, v1⟩ := T_v.out.cells
          obtain ⟨c0, c1⟩ := (T_c.out.later (below_all (below_all (below_all (below_all (below_all (below_all S4.out S5.out) S6.out) S7.out) S8.out) S9.out) S10.out)).cells
          go_wp2_with fail
          generalize V.alloc (.cells #[.int .i64 k, .slice A_v k c_v] 24) = W10 at *
          generalize V.heap.size = o_v at *
          clear v0 v1 c0 c1
          have UC_c := Lib.hid ((U_c.out.below (below_all (below_all (below_all (below_all (below_all (below_all S4.out S5.out) S6.out) S7.out) S8.out) S9.out) S10.out)))
          have UC_v := Lib.hid (U_v.out)
          go_loopw [18] (fun i wr => ∃ j : Nat, j ≤ k ∧ i = .int .i64 j ∧ Hid (Below W10.heap.size W10 wr)) (fun i _ => k - (intOf i).toNat)
          case atStart => exact ⟨0, Nat.zero_le _, rfl, Below.refl _ _⟩
          case round =>
            obtain ⟨j, hj, rfl, HB⟩ := hrel
            have S11 := HB
            by_cases hlt : j < k
            ·
              have hjc : j < lc.length := by rw [HOC.out.2.1]; exact hlt
              have hjv : j < lv.length := by rw [HOV.out.2.1]; exact hlt
              have HSB := Lib.hid (HKK.out j hlt hjc hjv)
              have s1 := HOC.out.small (List.getElem_mem hjc)
              have s2 := HOV.out.small (List.getElem_mem hjv)
              have us1 := UC_c.out.below HB.out
              have us2 := UC_v.out.below HB.out
              obtain ⟨ad1, e1, hb1, hx1⟩ := us_at us1 j hjc
              obtain ⟨ad2, e2, hb2, hx2⟩ := us_at us2 j hjv
              subst e1
              subst e2
              have HB1 := Lib.hid hb1
              have HB2 := Lib.hid hb2
              have HX1 := Lib.hid hx1
              have HX2 := Lib.hid hx2
              clear us1 us2 hb1 hb2 hx1 hx2
              generalize lc[j]'hjc = r1 at *
              generalize lv[j]'hjv = r2 at *
              have FS := Lib.hid (fun w => rSub10_at r1 r2 w s1 s2)
              rw [HSB.out] at FS
              obtain ⟨c0, c1⟩ := (T_c.out.later (below_all (below_all (below_all (below_all (below_all (below_all (below_all S4.out S5.out) S6.out) S7.out) S8.out) S9.out) S10.out) S11.out)).cells
              go_wp2_with fail
              have HK : Hid (∀ W', Below wr.heap.size wr W' → W'.cell? ⟨o_c, 0, none⟩ = some (.int .i64 k) ∧ W'.cell? ⟨o_c, 1, none⟩ = some (.slice (some ad1) k c_c) ∧ W'.cell? ⟨o_v, 0, none⟩ = some (.int .i64 k) ∧ W'.cell? ⟨o_v, 1, none⟩ = some (.slice (some ad2) k c_v) ∧ W'.cell? (ad1.add j) = some (.int .u64 (r1 : Int)) ∧ W'.cell? (ad2.add j) = some (.int .u64 (r2 : Int))) := fun W' h => ⟨(T_c.out.later (below_all (below_all (below_all (below_all (below_all (below_all (below_all (below_all S4.out S5.out) S6.out) S7.out) S8.out) S9.out) S10.out) S11.out) h)).cells.1, (T_c.out.later (below_all (below_all (below_all (below_all (below_all (below_all (below_all (below_all S4.out S5.out) S6.out) S7.out) S8.out) S9.out) S10.out) S11.out) h)).cells.2, (T_v.out.later (below_all S11.out h)).cells.1, (T_v.out.later (below_all S11.out h)).cells.2, (h.cell (by rw [add_block]; exact HB1.out)).trans HX1.out, (h.cell (by rw [add_block]; exact HB2.out)).trans HX2.out⟩
              clear c0 c1
              obtain ⟨c0, c1, v0, v1, sx1, sx2⟩ := HK.out _ (Below.refl _ wr)
              have D := Lib.hid (Below.refl wr.heap.size wr).drew
              go_region_held3 (fun W' => W'.cell? ⟨o_c, 0, none⟩ = some (.int .i64 k) ∧ W'.cell? ⟨o_c, 1, none⟩ = some (.slice (some ad1) k c_c) ∧ W'.cell? ⟨o_v, 0, none⟩ = some (.int .i64 k) ∧ W'.cell? ⟨o_v, 1, none⟩ = some (.slice (some ad2) k c_v) ∧ W'.cell? (ad1.add j) = some (.int .u64 (r1 : Int)) ∧ W'.cell? (ad2.add j) = some (.int .u64 (r2 : Int)))
                (first | (exact ⟨c0, c1, v0, v1, sx1, sx2⟩) | (exact HK.out _ D.out) | (exact HK.out _ Y1.out))
                (first
                                | (go_at_call 23; (with_reducible refine (FS.out _).mono ?_); rintro e W12 ⟨rfl, hz⟩; have Y1 := Lib.hid (below_all D.out hz); clear hz))
              all_goals
                have S12 := Lib.hid Y1.out
                clear c0 c1 v0 v1 sx1 sx2 HK D Y1
                go_wp2_with fail
                go_roundw
                case rel => exact ⟨j + 1, by omega, by go_num, below_all HB.out S12.out⟩
                case measure => simp [intOf]; omega
            ·
              obtain rfl : j = k := by omega
              obtain ⟨c0, c1⟩ := (T_c.out.later (below_all (below_all (below_all (below_all (below_all (below_all (below_all S4.out S5.out) S6.out) S7.out) S8.out) S9.out) S10.out) S11.out)).cells
              go_wp2_with fail
              go_ret
              exact ⟨rfl, (below_all BW.out (below_all (below_all (below_all (below_all (below_all (below_all (below_all (below_all (below_all (below_all S1.out S2.out) S3.out) S4.out) S5.out) S6.out) S7.out) S8.out) S9.out) S10.out) S11.out))⟩
        ·
          have hne : ((k2 : Int) != (k : Int)) = true := by rw [bne_iff_ne]; omega
          obtain ⟨g0, g1⟩ := (T_g.out.later (below_all (below_all (below_all (below_all (below_all (below_all (below_all S1.out S2.out) S3.out) S4.out) S5.out) S6.out) S7.out) S8.out)).cells
          obtain ⟨q0, q1⟩ := (T_q.out.later (below_all (below_all (below_all (below_all (below_all (below_all (below_all S1.out S2.out) S3.out) S4.out) S5.out) S6.out) S7.out) S8.out)).cells
          go_wp2_with fail
          go_ret
          exact ⟨rfl, (below_all BW.out (below_all (below_all (below_all (below_all (below_all (below_all (below_all S1.out S2.out) S3.out) S4.out) S5.out) S6.out) S7.out) S8.out))⟩
end Go.Proofs.YtadgfplaabgkfaaDoor
