/-
  The law TopoLess: an order of a graph is one of each graph with fewer edges, and of the graph of its ways.
  Conditions: rows hold sets below 2^64; the library's table for the lowest bit holds what its text says.
-/
import Derived.Test.YtpmimmaaeaifhaaDoorToAwake
import Derived.Test.YtpmimmaaeaifhaaDoorRcAll
set_option maxRecDepth 4000
namespace Go.Proofs.YtpmimmaaeaifhaaDoor
open Go.RowKit
set_option maxHeartbeats 8000000 in
theorem lawTopoLess (n : Int) (u : Value) (l : List Nat) (o : Int) (v : Value) (m : List Nat) (w : World) (hT : TZ w) (hu : Us w u l) (hs : ∀ x ∈ l, x < 18446744073709551616) (hv : Us w v m) (hr : ∀ x ∈ m, x < 18446744073709551616) : Calls Tryd.prog 4 #[.agg #[.int .i64 n, u], .agg #[.int .i64 o, v]] w (RetBool w true) := by
  have HU := Lib.hid hu
  have HS := Lib.hid hs
  have HV := Lib.hid hv
  have HR := Lib.hid hr
  have HT := Lib.hid hT
  obtain ⟨A, c, rfl, -⟩ := hu.spelled
  obtain ⟨B, d, rfl, -⟩ := hv.spelled
  clear hu hs hv hr hT
  go_enter Tryd.func4, Tryd.ntmps4
  go_wp2_with fail
  obtain ⟨t0, t1, bw⟩ := gl_two w n o (.slice A l.length c) (.slice B m.length d) rfl
  have T_g := Lib.hid t0
  have T_q := Lib.hid t1
  have BW := Lib.hid bw
  clear t0 t1 bw
  generalize (w.alloc (.cells #[.int .i64 n, .slice A l.length c] 24)).alloc (.cells #[.int .i64 o, .slice B m.length d] 24) = W0 at *
  go_wp2_with fail
  refine (toAwake_at _).mono ?_
  rintro e W1 ⟨rfl, hb⟩
  have S1 := Lib.hid hb
  clear hb
  obtain ⟨g0, g1⟩ := (T_g.out.later S1.out).cells
  obtain ⟨q0, q1⟩ := (T_q.out.later S1.out).cells
  by_cases h70 : 70 < l.length
  ·
    go_wp2_with fail
    go_ret
    exact ⟨rfl, (below_all BW.out S1.out)⟩
  by_cases h71 : 70 < m.length
  ·
    go_wp2_with fail
    go_ret
    exact ⟨rfl, (below_all BW.out S1.out)⟩
  cases hm : Gf.matchR n o l m with
  | false =>
    go_wp2_with fail
    refine (gfUnion_no n o (.slice A l.length c) (.slice B m.length d) l m _ (HU.out.below (below_all BW.out S1.out)) (HV.out.below (below_all BW.out S1.out)) HS.out HR.out hm).mono ?_
    rintro e W2 ⟨rfl, hb⟩
    have S2 := Lib.hid hb
    clear hb
    clear g0 g1 q0 q1
    go_wp2_with fail
    go_ret
    exact ⟨rfl, below_all (below_all BW.out (below_all S1.out S2.out)) (alloc_below _ _)⟩
  | true =>
    obtain ⟨k, hnk, hok2, oka, okb⟩ := Gf.match_iff.1 hm
    subst hnk
    subst hok2
    clear hm
    have HOA := Lib.hid oka
    have HOB := Lib.hid okb
    have h64 := oka.1
    have HOU : Hid (Gf.Ok k (Gf.unionR k l m)) := Gf.build_ok h64 _
    have HSU : Hid (∀ x ∈ Gf.unionR k l m, x < 18446744073709551616) := fun x hx => HOU.out.small hx
    have HLA : Hid (∀ x y, Gf.bit l x y = true → Rc.Leads (Gf.unionR k l m) x y) := fun x y h => .edge (by rw [Gf.union_bit HOA.out HOB.out, h]; rfl)
    have HLB : Hid (∀ x y, Gf.bit m x y = true → Rc.Leads (Gf.unionR k l m) x y) := fun x y h => .edge (by rw [Gf.union_bit HOA.out HOB.out, h, Bool.or_true])
    clear oka okb
    go_wp2_with fail
    refine (gfUnion_at k (.slice A l.length c) (.slice B m.length d) l m _ (HU.out.below (below_all BW.out S1.out)) (HV.out.below (below_all BW.out S1.out)) HOA.out HOB.out).mono ?_
    rintro e V ⟨v, rfl, ho, hb⟩
    obtain ⟨A_u, c_u, rfl, hu_u⟩ := own_is (k := k) ho HOU.out.2.1
    clear ho
    have b := alloc_below V (.cells #[.int .i64 k, .slice A_u k c_u] 24)
    have S2 := Lib.hid (below_all hb b)
    have T_u := Lib.hid (Two.new V 24 (.int .i64 k) (.slice A_u k c_u))
    have U_u := Lib.hid (hu_u.below b)
    clear hb b
    clear g0 g1 q0 q1
    generalize Gf.unionR k l m = lu at *
    have FO := Lib.hid (fun w h1 => toOrder_at (k : Int) (.slice A_u k c_u) lu w h1 HSU.out)
    rw [To.orderA_yes HOU.out] at FO
    cases hlo : To.orderR k lu with
    | none =>
      have HCY : Hid (Rc.cyclicA (k : Int) lu = true) := by rw [Hid, Rc.cyclicA, (Gf.okB_nat k lu).2 HOU.out, Int.toNat_natCast, To.order_none HOU.out hlo]; rfl
      rw [hlo] at FO
      clear hlo
      obtain ⟨u0, u1⟩ := T_u.out.cells
      go_wp2_with fail
      generalize V.alloc (.cells #[.int .i64 k, .slice A_u k c_u] 24) = W2 at *
      generalize V.heap.size = o_u at *
      refine (FO.out _ U_u.out).mono ?_
      rintro e W3 ⟨v1, rfl, hn1, hb⟩
      have S3 := Lib.hid hb
      clear hb
      clear u0 u1
      obtain ⟨A1, c1, rfl, -⟩ := hn1.spelled
      dsimp only [Bi.nums, List.map, List.length_nil, Option.isSome, Option.getD]
      clear hn1
      obtain ⟨u0, u1⟩ := (T_u.out.later S3.out).cells
      go_wp2_with fail
      refine (rcCyclic_at k (.slice A_u k c_u) lu _ (HT.out.below (below_all BW.out (below_all (below_all S1.out S2.out) S3.out))) (U_u.out.below S3.out) HSU.out).mono ?_
      rintro e W4 ⟨rfl, hb⟩
      have S4 := Lib.hid hb
      clear hb
      clear u0 u1
      rw [HCY.out]
      go_wp2_with fail
      go_ret
      exact ⟨rfl, (below_all BW.out (below_all (below_all (below_all S1.out S2.out) S3.out) S4.out))⟩
    | some lo =>
      have hord := To.order_some hlo
      have HLO := Lib.hid hord.len
      have HIA := Lib.hid (To.IsA.of HOA.out (hord.less HOU.out HLA.out))
      have HIB := Lib.hid (To.IsA.of HOB.out (hord.less HOU.out HLB.out))
      have HOC := Lib.hid (Rc.close_ok HOU.out)
      have HIC := Lib.hid (To.IsA.of HOC.out (hord.less HOU.out fun x y h => (Rc.close_iff HOU.out).1 h))
      rw [hlo] at FO
      clear hlo hord
      have HML : Hid ((Bi.nums lo).length ≤ 4294967296) := by rw [Hid, Bi.nums_len, HLO.out]; omega
      obtain ⟨u0, u1⟩ := T_u.out.cells
      go_wp2_with fail
      generalize V.alloc (.cells #[.int .i64 k, .slice A_u k c_u] 24) = W2 at *
      generalize V.heap.size = o_u at *
      refine (FO.out _ U_u.out).mono ?_
      rintro e W3 ⟨v1, rfl, hn1, hb⟩
      have S3 := Lib.hid hb
      clear hb
      clear u0 u1
      obtain ⟨A1, c1, rfl, -⟩ := (show Ns _ _ (Bi.nums lo) from hn1).spelled
      have N1 := Lib.hid (show Ns _ _ (Bi.nums lo) from hn1)
      dsimp only [Option.isSome, Option.getD]
      clear hn1
      obtain ⟨u0, u1⟩ := (T_u.out.later S3.out).cells
      go_wp2_with fail
      refine (rcClose_at k (.slice A_u k c_u) lu _ (HT.out.below (below_all BW.out (below_all (below_all S1.out S2.out) S3.out))) (U_u.out.below S3.out) HOU.out).mono ?_
      rintro e V ⟨v, rfl, ho, hb⟩
      obtain ⟨A_c, c_c, rfl, hu_c⟩ := own_is (k := k) ho HOC.out.2.1
      clear ho
      have b := alloc_below V (.cells #[.int .i64 k, .slice A_c k c_c] 24)
      have S4 := Lib.hid (below_all hb b)
      have T_c := Lib.hid (Two.new V 24 (.int .i64 k) (.slice A_c k c_c))
      have U_c := Lib.hid (hu_c.below b)
      clear hb b
      clear u0 u1
      generalize Rc.closeR k lu = lc at *
      have HSC : Hid (∀ x ∈ lc, x < 18446744073709551616) := fun x hx => HOC.out.small hx
      obtain ⟨g0, g1⟩ := (T_g.out.later (below_all (below_all (below_all S1.out S2.out) S3.out) S4.out)).cells
      go_wp2_with fail
      generalize V.alloc (.cells #[.int .i64 k, .slice A_c k c_c] 24) = W4 at *
      generalize V.heap.size = o_c at *
      refine (toIs_at k (.slice A l.length c) l (Bi.nums lo) _ _ (HU.out.below (below_all BW.out (below_all (below_all (below_all S1.out S2.out) S3.out) S4.out))) HS.out (N1.out.below S4.out) HML.out).mono ?_
      rintro e W5 ⟨b, rfl, hi, hb⟩
      have S5 := Lib.hid hb
      clear hb
      clear g0 g1
      obtain rfl : b = true := hi.2 HIA.out
      clear hi
      obtain ⟨q0, q1⟩ := (T_q.out.later (below_all (below_all (below_all (below_all S1.out S2.out) S3.out) S4.out) S5.out)).cells
      go_wp2_with fail
      refine (toIs_at k (.slice B m.length d) m (Bi.nums lo) _ _ (HV.out.below (below_all BW.out (below_all (below_all (below_all (below_all S1.out S2.out) S3.out) S4.out) S5.out))) HR.out (N1.out.below (below_all S4.out S5.out)) HML.out).mono ?_
      rintro e W6 ⟨b, rfl, hi, hb⟩
      have S6 := Lib.hid hb
      clear hb
      clear q0 q1
      obtain rfl : b = true := hi.2 HIB.out
      clear hi
      obtain ⟨c0, c1⟩ := (T_c.out.later (below_all S5.out S6.out)).cells
      go_wp2_with fail
      refine (toIs_at k (.slice A_c k c_c) lc (Bi.nums lo) _ _ (U_c.out.below (below_all S5.out S6.out)) HSC.out (N1.out.below (below_all (below_all S4.out S5.out) S6.out)) HML.out).mono ?_
      rintro e W7 ⟨b, rfl, hi, hb⟩
      have S7 := Lib.hid hb
      clear hb
      clear c0 c1
      obtain rfl : b = true := hi.2 HIC.out
      clear hi
      go_wp2_with fail
      go_ret
      exact ⟨rfl, (below_all BW.out (below_all (below_all (below_all (below_all (below_all (below_all S1.out S2.out) S3.out) S4.out) S5.out) S6.out) S7.out))⟩
end Go.Proofs.YtpmimmaaeaifhaaDoor
