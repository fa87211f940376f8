/-
  The law ReachBack: a graph is cyclic just if, closed, it has an edge from a node to itself; turned it is cyclic just if it was.
  Conditions: rows hold sets below 2^64; the library's table for the lowest bit holds what its text says.
-/
import Derived.Test.YtadgfplaabgkfaaDoorRcTellsLaw
set_option maxRecDepth 4000
namespace Go.Proofs.YtadgfplaabgkfaaDoor
open Go.RowKit

namespace Rc
/-- Has one of the first j nodes an edge to itself? -/
def selfTo (l : List Nat) (j : Nat) : Bool := (List.range j).any fun x => Gf.bit l x x
theorem selfTo_next (l : List Nat) (j : Nat) : selfTo l (j + 1) = (selfTo l j || Gf.bit l j j) := by
  unfold selfTo
  rw [List.range_succ, List.any_append]
  simp
end Rc
set_option maxHeartbeats 8000000 in
theorem lawReachBack (n : Int) (u : Value) (l : List Nat) (w : World) (hT : TZ w) (hu : Us w u l) (hs : ∀ x ∈ l, x < 18446744073709551616) : Calls Tryd.prog 6 #[.agg #[.int .i64 n, u]] w (RetBool w true) := by
  have HU := Lib.hid hu
  have HS := Lib.hid hs
  have HT := Lib.hid hT
  obtain ⟨A, c, rfl, -⟩ := hu.spelled
  have T_g := Lib.hid (Two.new w 24 (.int .i64 n) (.slice A l.length c))
  have BW := Lib.hid (alloc_below w (.cells #[.int .i64 n, .slice A l.length c] 24))
  clear hu hs hT
  go_enter Tryd.func6, Tryd.ntmps6
  go_wp2_with fail
  generalize w.alloc (.cells #[.int .i64 n, .slice A l.length c] 24) = W0 at *
  go_wp2_with fail
  refine (rcAwake_at _ (HT.out.below BW.out)).mono ?_
  rintro e W1 ⟨rfl, hb⟩
  have S1 := Lib.hid hb
  clear hb
  obtain ⟨g0, g1⟩ := (T_g.out.later S1.out).cells
  by_cases h70 : 70 < l.length
  ·
    go_wp2_with fail
    go_ret
    exact ⟨rfl, (below_all BW.out S1.out)⟩
  obtain ⟨p, hp⟩ : ∃ p, p = Gf.okB n l := ⟨_, rfl⟩
  have HP := Lib.hid hp
  go_wp2_with fail
  refine (gfRight_at n (.slice A l.length c) l _ (HU.out.below (below_all BW.out S1.out)) HS.out).mono ?_
  rintro e W2 ⟨rfl, hb⟩
  have S2 := Lib.hid hb
  clear hb
  clear g0 g1
  rw [← HP.out]
  clear hp
  cases p with
  | false =>
    go_wp2_with fail
    go_ret
    exact ⟨rfl, (below_all BW.out (below_all S1.out S2.out))⟩
  | true =>
    obtain ⟨k, hnk, hok⟩ := Gf.okB_iff.1 HP.out.symm
    subst hnk
    have HOK := Lib.hid hok
    have HOC := Lib.hid (Rc.close_ok hok)
    have HOT : Hid (Gf.Ok k (Gf.turnR k l)) := Gf.build_ok hok.1 _
    have h64 := hok.1
    have HPK : Hid (Gf.okB (k : Int) l = true) := HP.out.symm
    have HCX : Hid (∀ x (h : x < (Rc.closeR k l).length), x < k → (Rc.closeR k l)[x] = Rc.fromR k l x) := fun x h hx => by rw [← Rc.from_row hx, List.getD_eq_getElem?_getD, List.getElem?_eq_getElem h]; rfl
    have HCG : Hid (Rc.cyclicA (k : Int) l = Rc.selfTo (Rc.closeR k l) k) := by rw [Hid, Rc.cyclicA, HPK.out, Int.toNat_natCast]; rfl
    have HCT : Hid (Rc.cyclicA (k : Int) (Gf.turnR k l) = Rc.selfTo (Rc.closeR k l) k) := by rw [Hid, Rc.cyclicA, (Gf.okB_nat k _).2 HOT.out, Int.toNat_natCast, Rc.cyclic_turn hok]; rfl
    have HFX : Hid (∀ x, x < k → Rc.fromA (k : Int) l (x : Int) = Rc.fromR k l x) := fun x hx => by rw [Rc.fromA, HPK.out, Gf.isN_yes hx, Int.toNat_natCast, Int.toNat_natCast]; rfl
    have HST : Hid (∀ x ∈ Gf.turnR k l, x < 18446744073709551616) := fun x hx => HOT.out.small hx
    clear hok HP HPK
    obtain ⟨g0, g1⟩ := (T_g.out.later (below_all S1.out S2.out)).cells
    go_wp2_with fail
    refine (rcClose_at k (.slice A l.length c) l _ (HT.out.below (below_all BW.out (below_all S1.out S2.out))) (HU.out.below (below_all BW.out (below_all S1.out S2.out))) HOK.out).mono ?_
    rintro e V ⟨v, rfl, ho, hb⟩
    obtain ⟨A_c, c_c, rfl, hu_c⟩ := own_is (k := k) ho HOC.out.2.1
    clear ho
    have b := alloc_below V (.cells #[.int .i64 k, .slice A_c k c_c] 24)
    have S3 := Lib.hid (below_all hb b)
    have T_c := Lib.hid (Two.new V 24 (.int .i64 k) (.slice A_c k c_c))
    have U_c := Lib.hid (hu_c.below b)
    clear hb b
    clear g0 g1
    generalize Rc.closeR k l = lc at *
    obtain ⟨g0, g1⟩ := (T_g.out.later (below_all (below_all S1.out S2.out) S3.out)).cells
    go_wp2_with fail
    generalize V.alloc (.cells #[.int .i64 k, .slice A_c k c_c] 24) = W3 at *
    generalize V.heap.size = o_c at *
    refine (gfTurn_at k (.slice A l.length c) l _ (HU.out.below (below_all BW.out (below_all (below_all S1.out S2.out) S3.out))) HOK.out).mono ?_
    rintro e V ⟨v, rfl, ho, hb⟩
    obtain ⟨A_t, c_t, rfl, hu_t⟩ := own_is (k := k) ho HOT.out.2.1
    clear ho
    have b := alloc_below V (.cells #[.int .i64 k, .slice A_t k c_t] 24)
    have S4 := Lib.hid (below_all hb b)
    have T_t := Lib.hid (Two.new V 24 (.int .i64 k) (.slice A_t k c_t))
    have U_t := Lib.hid (hu_t.below b)
    clear hb b
    clear g0 g1
    generalize Gf.turnR k l = lt at *
    have HSC : Hid (∀ x ∈ lc, x < 18446744073709551616) := fun x hx => HOC.out.small hx
    have HHX : Hid (∀ x, x < k → Gf.hasR (k : Int) lc (x : Int) (x : Int) = Gf.bit lc x x) := fun x hx => by rw [Gf.hasR, (Gf.okB_nat k lc).2 HOC.out, Gf.isN_yes hx, Int.toNat_natCast]; rfl
    have HNX := Lib.hid (fun j => Rc.selfTo_next lc j)
    have HZ : Hid (Rc.selfTo lc 0 = false) := rfl
    obtain ⟨g0, g1⟩ := (T_g.out.later (below_all (below_all (below_all S1.out S2.out) S3.out) S4.out)).cells
    go_wp2_with fail
    generalize V.alloc (.cells #[.int .i64 k, .slice A_t k c_t] 24) = W4 at *
    generalize V.heap.size = o_t at *
    clear g0 g1
    have UC_c := Lib.hid ((U_c.out.below S4.out))
    go_loopw [8, 9] (fun q i wr => ∃ j : Nat, j ≤ k ∧ i = .int .i64 j ∧ q = .bool (Rc.selfTo lc j) ∧ Hid (Below W4.heap.size W4 wr)) (fun _ i _ => k - (intOf i).toNat)
    case atStart => exact ⟨0, Nat.zero_le _, rfl, by rw [HZ.out], Below.refl _ _⟩
    case round =>
      obtain ⟨j, hj, rfl, rfl, HB⟩ := hrel
      have S5 := HB
      by_cases hlt : j < k
      ·
        have hjc : j < lc.length := by rw [HOC.out.2.1]; exact hlt
        have hcf := HCX.out j hjc hlt
        have hff := HFX.out j hlt
        have hhx := HHX.out j hlt
        have HN := Lib.hid (HNX.out j)
        have us1 := UC_c.out.below HB.out
        obtain ⟨ad1, e1, hb1, hx1⟩ := us_at us1 j hjc
        subst e1
        rw [hcf] at hx1
        have HB1 := Lib.hid hb1
        have HX1 := Lib.hid hx1
        clear us1 hb1 hx1 hcf
        have FF := Lib.hid (fun w h1 h2 => rcFrom_at (k : Int) (.slice A l.length c) l (j : Int) w h1 h2 HS.out)
        rw [hff] at FF
        clear hff
        have FH := Lib.hid (fun w h => gfHas_at (k : Int) (.slice (some ad1) k c_c) lc (j : Int) (j : Int) w h HSC.out)
        rw [hhx] at FH
        clear hhx
        generalize Rc.fromR k l j = f at *
        have hqq : ((f : Int) != (f : Int)) = false := by simp
        have hkk : ((k : Int) == (k : Int)) = true := by simp
        cases hs : Rc.selfTo lc j with
        | true =>
          have HN2 : Hid (Rc.selfTo lc (j + 1) = true) := by rw [Hid, HN.out, hs]; rfl
          clear hs
          obtain ⟨g0, g1⟩ := (T_g.out.later (below_all (below_all (below_all (below_all S1.out S2.out) S3.out) S4.out) S5.out)).cells
          go_wp2_with fail
          have UC_g := Lib.hid (HU.out.below (below_all BW.out (below_all (below_all (below_all (below_all S1.out S2.out) S3.out) S4.out) S5.out)))
          have TC := Lib.hid (HT.out.below (below_all BW.out (below_all (below_all (below_all (below_all S1.out S2.out) S3.out) S4.out) S5.out)))
          have HK : Hid (∀ W', Below wr.heap.size wr W' → W'.cell? ⟨o_c, 0, none⟩ = some (.int .i64 k) ∧ W'.cell? ⟨o_c, 1, none⟩ = some (.slice (some ad1) k c_c) ∧ W'.cell? ⟨w.heap.size, 0, none⟩ = some (.int .i64 k) ∧ W'.cell? ⟨w.heap.size, 1, none⟩ = some (.slice A l.length c) ∧ W'.cell? (ad1.add j) = some (.int .u64 (f : Int))) := fun W' h => ⟨(T_c.out.later (below_all (below_all S4.out S5.out) h)).cells.1, (T_c.out.later (below_all (below_all S4.out S5.out) h)).cells.2, (T_g.out.later (below_all (below_all (below_all (below_all (below_all S1.out S2.out) S3.out) S4.out) S5.out) h)).cells.1, (T_g.out.later (below_all (below_all (below_all (below_all (below_all S1.out S2.out) S3.out) S4.out) S5.out) h)).cells.2, (h.cell (by rw [add_block]; exact HB1.out)).trans HX1.out⟩
          clear g0 g1
          obtain ⟨c0, c1, g0, g1, sx⟩ := HK.out _ (Below.refl _ wr)
          have D := Lib.hid (Below.refl wr.heap.size wr).drew
          go_region_held3 (fun W' => W'.cell? ⟨o_c, 0, none⟩ = some (.int .i64 k) ∧ W'.cell? ⟨o_c, 1, none⟩ = some (.slice (some ad1) k c_c) ∧ W'.cell? ⟨w.heap.size, 0, none⟩ = some (.int .i64 k) ∧ W'.cell? ⟨w.heap.size, 1, none⟩ = some (.slice A l.length c) ∧ W'.cell? (ad1.add j) = some (.int .u64 (f : Int)))
            (first | (exact ⟨c0, c1, g0, g1, sx⟩) | (exact HK.out _ D.out) | (exact HK.out _ Y1.out))
            (first
                        | (go_at_call 13; (with_reducible refine (FF.out _ (TC.out.below D.out) (UC_g.out.below D.out)).mono ?_); rintro e W6 ⟨rfl, hz⟩; have Y1 := Lib.hid (below_all D.out hz); clear hz))
          all_goals
            have S6 := Lib.hid Y1.out
            clear c0 c1 g0 g1 sx HK D Y1
            go_wp2_with fail
            go_roundw
            case rel => exact ⟨j + 1, by omega, by go_num, by rw [HN2.out], below_all HB.out S6.out⟩
            case measure => simp [intOf]; omega
        | false =>
          have HN2 : Hid (Rc.selfTo lc (j + 1) = Gf.bit lc j j) := by rw [Hid, HN.out, hs]; rfl
          clear hs
          obtain ⟨g0, g1⟩ := (T_g.out.later (below_all (below_all (below_all (below_all S1.out S2.out) S3.out) S4.out) S5.out)).cells
          obtain ⟨c0, c1⟩ := (T_c.out.later (below_all S4.out S5.out)).cells
          go_wp2_with fail
          refine (FH.out _ (UC_c.out.below HB.out)).mono ?_
          rintro e W6 ⟨rfl, hb⟩
          have S6 := Lib.hid hb
          clear hb
          clear g0 g1 c0 c1
          generalize Gf.bit lc j j = s at *
          go_wp2_with fail
          have UC_g := Lib.hid (HU.out.below (below_all BW.out (below_all (below_all (below_all (below_all (below_all S1.out S2.out) S3.out) S4.out) S5.out) S6.out)))
          have TC := Lib.hid (HT.out.below (below_all BW.out (below_all (below_all (below_all (below_all (below_all S1.out S2.out) S3.out) S4.out) S5.out) S6.out)))
          have HK : Hid (∀ W', Below W6.heap.size W6 W' → W'.cell? ⟨o_c, 0, none⟩ = some (.int .i64 k) ∧ W'.cell? ⟨o_c, 1, none⟩ = some (.slice (some ad1) k c_c) ∧ W'.cell? ⟨w.heap.size, 0, none⟩ = some (.int .i64 k) ∧ W'.cell? ⟨w.heap.size, 1, none⟩ = some (.slice A l.length c) ∧ W'.cell? (ad1.add j) = some (.int .u64 (f : Int))) := fun W' h => ⟨(T_c.out.later (below_all (below_all (below_all S4.out S5.out) S6.out) h)).cells.1, (T_c.out.later (below_all (below_all (below_all S4.out S5.out) S6.out) h)).cells.2, (T_g.out.later (below_all (below_all (below_all (below_all (below_all (below_all S1.out S2.out) S3.out) S4.out) S5.out) S6.out) h)).cells.1, (T_g.out.later (below_all (below_all (below_all (below_all (below_all (below_all S1.out S2.out) S3.out) S4.out) S5.out) S6.out) h)).cells.2, ((below_all S6.out h).cell (by rw [add_block]; exact HB1.out)).trans HX1.out⟩
          obtain ⟨c0, c1, g0, g1, sx⟩ := HK.out _ (Below.refl _ W6)
          have D := Lib.hid (Below.refl W6.heap.size W6).drew
          go_region_held3 (fun W' => W'.cell? ⟨o_c, 0, none⟩ = some (.int .i64 k) ∧ W'.cell? ⟨o_c, 1, none⟩ = some (.slice (some ad1) k c_c) ∧ W'.cell? ⟨w.heap.size, 0, none⟩ = some (.int .i64 k) ∧ W'.cell? ⟨w.heap.size, 1, none⟩ = some (.slice A l.length c) ∧ W'.cell? (ad1.add j) = some (.int .u64 (f : Int)))
            (first | (exact ⟨c0, c1, g0, g1, sx⟩) | (exact HK.out _ D.out) | (exact HK.out _ Y1.out))
            (first
                        | (go_at_call 13; (with_reducible refine (FF.out _ (TC.out.below D.out) (UC_g.out.below D.out)).mono ?_); rintro e W7 ⟨rfl, hz⟩; have Y1 := Lib.hid (below_all D.out hz); clear hz))
          all_goals
            have S7 := Lib.hid Y1.out
            clear c0 c1 g0 g1 sx HK D Y1
            go_wp2_with fail
            go_roundw
            case rel => exact ⟨j + 1, by omega, by go_num, by rw [HN2.out], below_all HB.out (below_all S6.out S7.out)⟩
            case measure => simp [intOf]; omega
      ·
        obtain rfl : j = k := by omega
        have FC1 := Lib.hid (fun w h1 h2 => rcCyclic_at (j : Int) (.slice A l.length c) l w h1 h2 HS.out)
        rw [HCG.out] at FC1
        have FC2 := Lib.hid (fun w h1 h2 => rcCyclic_at (j : Int) (.slice A_t j c_t) lt w h1 h2 HST.out)
        rw [HCT.out] at FC2
        generalize Rc.selfTo lc j = s at *
        have hss : (s == s) = true := by simp
        obtain ⟨g0, g1⟩ := (T_g.out.later (below_all (below_all (below_all (below_all S1.out S2.out) S3.out) S4.out) S5.out)).cells
        go_wp2_with fail
        refine (FC1.out _ (HT.out.below (below_all BW.out (below_all (below_all (below_all (below_all S1.out S2.out) S3.out) S4.out) S5.out))) (HU.out.below (below_all BW.out (below_all (below_all (below_all (below_all S1.out S2.out) S3.out) S4.out) S5.out)))).mono ?_
        rintro e W6 ⟨rfl, hb⟩
        have S6 := Lib.hid hb
        clear hb
        clear g0 g1
        obtain ⟨t0, t1⟩ := (T_t.out.later (below_all S5.out S6.out)).cells
        go_wp2_with fail
        refine (FC2.out _ (HT.out.below (below_all BW.out (below_all (below_all (below_all (below_all (below_all S1.out S2.out) S3.out) S4.out) S5.out) S6.out))) (U_t.out.below (below_all S5.out S6.out))).mono ?_
        rintro e W7 ⟨rfl, hb⟩
        have S7 := Lib.hid hb
        clear hb
        clear t0 t1
        go_wp2_with fail
        go_ret
        exact ⟨rfl, (below_all BW.out (below_all (below_all (below_all (below_all (below_all (below_all S1.out S2.out) S3.out) S4.out) S5.out) S6.out) S7.out))⟩
end Go.Proofs.YtadgfplaabgkfaaDoor
