/-
  The law SccReach: two nodes are in one component just if ways lead from each to the other one, or they are the same; a node is inner just if a way leads back to it.
  Conditions: rows hold sets below 2^64; the library's table for the lowest bit holds what its text says.
-/
import Derived.Test.YtameeegmbpiiaaaDoorScAwake
import Derived.Test.YtameeegmbpiiaaaDoorRcAll
import Derived.Lib.QuietBelow
set_option maxRecDepth 4000
namespace Go.Proofs.YtameeegmbpiiaaaDoor
open Go.RowKit

namespace Sc
/-- Is a number among the first j of a row? -/
def hereTo (l : List Nat) (x j : Nat) : Bool := (l.take j).any fun y => (y : Int) == (x : Int)
theorem hereTo_next {l : List Nat} (x : Nat) {j : Nat} (h : j < l.length) : hereTo l x (j + 1) = (hereTo l x j || ((l[j] : Int) == (x : Int))) := by
  unfold hereTo
  rw [List.take_succ_eq_append_getElem h, List.any_append]
  simp
theorem here_inner {k : Nat} {l : List Nat} (h : Gf.Ok k l) (x : Nat) : hereTo (innerR k l) x (innerR k l).length = Gf.bit (Rc.closeR k l) x x := by
  unfold hereTo
  rw [List.take_length, Bool.eq_iff_iff, List.any_eq_true, Rc.close_iff h, ← inner_mem h]
  constructor
  · rintro ⟨y, hy, e⟩
    rw [beq_iff_eq] at e
    obtain rfl : y = x := by omega
    exact hy
  · exact fun hy => ⟨x, hy, by rw [beq_iff_eq]⟩
theorem which_same {k : Nat} {l : List Nat} (h : Gf.Ok k l) {x y : Nat} (h1 : x < (which (tog k l) k).length) (h2 : y < (which (tog k l) k).length) :
    (((which (tog k l) k)[x] : Int) == ((which (tog k l) k)[y] : Int)) = (decide (x = y) || (Gf.bit (Rc.closeR k l) x y && Gf.bit (Rc.closeR k l) y x)) := by
  rw [which_at, which_at]
  show _ = tog k l x y
  rw [Bool.eq_iff_iff, ← wh_same (tog_eqv h), beq_iff_eq]
  omega
end Sc
set_option maxHeartbeats 8000000 in
theorem lawSccReach (n : Int) (u : Value) (l : List Nat) (a b : Int) (w : World) (hT : TZ w) (hu : Us w u l) (hs : ∀ x ∈ l, x < 18446744073709551616) : Calls Tryd.prog 3 #[.agg #[.int .i64 n, u], .int .i64 a, .int .i64 b] w (RetBool w true) := by
  have HU := Lib.hid hu
  have HS := Lib.hid hs
  have HT := Lib.hid hT
  obtain ⟨A, c, rfl, -⟩ := hu.spelled
  have T_g := Lib.hid (Two.new w 24 (.int .i64 n) (.slice A l.length c))
  have BW := Lib.hid (alloc_below w (.cells #[.int .i64 n, .slice A l.length c] 24))
  clear hu hs hT
  go_enter Tryd.func3, Tryd.ntmps3
  go_wp2_with fail
  generalize w.alloc (.cells #[.int .i64 n, .slice A l.length c] 24) = W0 at *
  go_wp2_with fail
  refine (scAwake_at _).mono ?_
  rintro e W1 ⟨rfl, hb⟩
  have S1 := Lib.hid hb
  clear hb
  obtain ⟨g0, g1⟩ := (T_g.out.later S1.out).cells
  by_cases h70 : 70 < l.length
  ·
    go_wp2_with fail
    go_ret
    exact ⟨rfl, (below_all BW.out S1.out)⟩
  obtain ⟨p, hp⟩ : ∃ p, p = Gf.okB n l := ⟨_, rfl⟩
  have HP := Lib.hid hp
  go_wp2_with fail
  refine (gfRight_at n (.slice A l.length c) l _ (HU.out.below (below_all BW.out S1.out)) HS.out).mono ?_
  rintro e W2 ⟨rfl, hb⟩
  have S2 := Lib.hid hb
  clear hb
  clear g0 g1
  rw [← HP.out]
  clear hp
  cases p with
  | false =>
    go_wp2_with fail
    go_ret
    exact ⟨rfl, (below_all BW.out (below_all S1.out S2.out))⟩
  | true =>
    obtain ⟨k, hnk, hok⟩ := Gf.okB_iff.1 HP.out.symm
    subst hnk
    have h64 := hok.1
    have HOK := Lib.hid hok
    clear hok HP
    by_cases ha0 : a < 0
    ·
      obtain ⟨g0, g1⟩ := (T_g.out.later (below_all S1.out S2.out)).cells
      go_wp2_with fail
      go_ret
      exact ⟨rfl, (below_all BW.out (below_all S1.out S2.out))⟩
    by_cases ha1 : (k : Int) ≤ a
    ·
      obtain ⟨g0, g1⟩ := (T_g.out.later (below_all S1.out S2.out)).cells
      go_wp2_with fail
      go_ret
      exact ⟨rfl, (below_all BW.out (below_all S1.out S2.out))⟩
    by_cases hb0 : b < 0
    ·
      obtain ⟨g0, g1⟩ := (T_g.out.later (below_all S1.out S2.out)).cells
      go_wp2_with fail
      go_ret
      exact ⟨rfl, (below_all BW.out (below_all S1.out S2.out))⟩
    by_cases hb1 : (k : Int) ≤ b
    ·
      obtain ⟨g0, g1⟩ := (T_g.out.later (below_all S1.out S2.out)).cells
      go_wp2_with fail
      go_ret
      exact ⟨rfl, (below_all BW.out (below_all S1.out S2.out))⟩
    obtain ⟨x, rfl⟩ : ∃ x : Nat, a = (x : Int) := ⟨a.toNat, by omega⟩
    obtain ⟨y, rfl⟩ : ∃ y : Nat, b = (y : Int) := ⟨b.toNat, by omega⟩
    have hxk : x < k := by omega
    have hyk : y < k := by omega
    have HOC := Lib.hid (Rc.close_ok HOK.out)
    have FW := Lib.hid (fun w h => scWhich_at (k : Int) (.slice A l.length c) l w h HS.out)
    rw [Sc.whichA_yes HOK.out] at FW
    have FI := Lib.hid (fun w h => scInner_at (k : Int) (.slice A l.length c) l w h HS.out)
    rw [Sc.innerA_yes HOK.out] at FI
    have HWL := Lib.hid (Sc.which_len (t := Sc.tog k l) k)
    have HIL := Lib.hid (Sc.inner_len k l)
    have HW : Hid (∀ (h1 : x < (Sc.which (Sc.tog k l) k).length) (h2 : y < (Sc.which (Sc.tog k l) k).length), (((Sc.which (Sc.tog k l) k)[x] : Int) == ((Sc.which (Sc.tog k l) k)[y] : Int)) = (decide (x = y) || (Gf.bit (Rc.closeR k l) x y && Gf.bit (Rc.closeR k l) y x))) := fun h1 h2 => Sc.which_same HOK.out h1 h2
    have HIN : Hid (Sc.hereTo (Sc.innerR k l) x (Sc.innerR k l).length = Gf.bit (Rc.closeR k l) x x) := Sc.here_inner HOK.out x
    generalize Sc.which (Sc.tog k l) k = ws at *
    generalize Sc.innerR k l = ns at *
    obtain ⟨g0, g1⟩ := (T_g.out.later (below_all S1.out S2.out)).cells
    go_wp2_with fail
    refine (rcClose_at k (.slice A l.length c) l _ (HT.out.below (below_all BW.out (below_all S1.out S2.out))) (HU.out.below (below_all BW.out (below_all S1.out S2.out))) HOK.out).mono ?_
    rintro e V ⟨v, rfl, ho, hb⟩
    obtain ⟨A_c, c_c, rfl, hu_c⟩ := own_is (k := k) ho HOC.out.2.1
    clear ho
    have b := alloc_below V (.cells #[.int .i64 k, .slice A_c k c_c] 24)
    have S3 := Lib.hid (below_all hb b)
    have T_c := Lib.hid (Two.new V 24 (.int .i64 k) (.slice A_c k c_c))
    have U_c := Lib.hid (hu_c.below b)
    clear hb b
    clear g0 g1
    generalize Rc.closeR k l = lc at *
    have HSC : Hid (∀ x ∈ lc, x < 18446744073709551616) := fun x hx => HOC.out.small hx
    obtain ⟨g0, g1⟩ := (T_g.out.later (below_all (below_all S1.out S2.out) S3.out)).cells
    go_wp2_with fail
    generalize V.alloc (.cells #[.int .i64 k, .slice A_c k c_c] 24) = W3 at *
    generalize V.heap.size = o_c at *
    refine (FW.out _ (HU.out.below (below_all BW.out (below_all (below_all S1.out S2.out) S3.out)))).mono ?_
    rintro e W4 ⟨v1, rfl, ho1, hb⟩
    have S4 := Lib.hid hb
    clear hb
    clear g0 g1
    obtain ⟨A_w, c_w, rfl, hn_w⟩ := ints_is (k := k) ho1 HWL.out
    have N_w := Lib.hid hn_w
    clear ho1 hn_w
    have hkk : ((k : Int) != (k : Int)) = false := by simp
    obtain ⟨g0, g1⟩ := (T_g.out.later (below_all (below_all (below_all S1.out S2.out) S3.out) S4.out)).cells
    go_wp2_with fail
    refine (FI.out _ (HU.out.below (below_all BW.out (below_all (below_all (below_all S1.out S2.out) S3.out) S4.out)))).mono ?_
    rintro e W5 ⟨v2, rfl, ho2, hb⟩
    have S5 := Lib.hid hb
    clear hb
    clear g0 g1
    obtain ⟨A_i, c_i, rfl, hn_i⟩ := ints_is (k := ns.length) ho2 rfl
    have N_i := Lib.hid hn_i
    clear ho2 hn_i
    have HH0 : Hid (Sc.hereTo ns x 0 = false) := rfl
    have HHN := Lib.hid (fun j (h : j < ns.length) => Sc.hereTo_next x h)
    have hnl := HIL.out
    go_wp2_with fail
    go_loopw [11, 13] (fun q i wr => ∃ j : Nat, j ≤ ns.length ∧ i = .int .i64 j ∧ q = .bool (Sc.hereTo ns x j) ∧ Hid (Below W5.heap.size W5 wr)) (fun _ i _ => ns.length - (intOf i).toNat)
    case atStart => exact ⟨0, Nat.zero_le _, rfl, by rw [HH0.out], Below.refl _ _⟩
    case round =>
      obtain ⟨j, hj, rfl, rfl, HB⟩ := hrel
      have S6 := HB
      by_cases hlt : j < ns.length
      ·
        have us1 := N_i.out.below S6.out
        obtain ⟨ad1, e1, hb1, hx1⟩ := ints_at us1 j hlt
        subst e1
        have hhn := HHN.out j hlt
        clear us1
        generalize ((ns[j]'hlt : Nat) : Int) = z at *
        cases hs : Sc.hereTo ns x j with
        | true =>
          rw [hs, Bool.true_or] at hhn
          have HN2 := Lib.hid hhn
          clear hhn hs
          go_wp2_with fail
          go_roundw
          case rel => exact ⟨j + 1, by omega, by go_num, by rw [HN2.out], HB.out⟩
          case measure => simp [intOf]; omega
        | false =>
          rw [hs, Bool.false_or] at hhn
          have HN2 := Lib.hid hhn
          clear hhn hs
          go_wp2_with fail
          go_roundw
          case rel => exact ⟨j + 1, by omega, by go_num, by rw [HN2.out], HB.out⟩
          case measure => simp [intOf]; omega
      ·
        obtain rfl : j = ns.length := by omega
        have hxl : x < ws.length := by rw [HWL.out]; exact hxk
        have hyl : y < ws.length := by rw [HWL.out]; exact hyk
        rw [HIN.out]
        have us1 := N_w.out.below (below_all S5.out S6.out)
        obtain ⟨ad1, e1, hb1, hx1⟩ := ints_at us1 x hxl
        obtain ⟨ad1', e1', hb1', hx2⟩ := ints_at us1 y hyl
        cases e1.symm.trans e1'
        subst e1
        have HB1 := Lib.hid hb1
        have HX1 := Lib.hid hx1
        have HX2 := Lib.hid hx2
        clear us1 hb1 hb1' hx1 hx2 e1'
        have hww := HW.out hxl hyl
        have UC_c := Lib.hid ((U_c.out.below (below_all (below_all S4.out S5.out) S6.out)))
        have FXY := Lib.hid (fun w h => gfHas_at (k : Int) (.slice A_c k c_c) lc (x : Int) (y : Int) w h HSC.out)
        rw [Gf.hasR_nat HOC.out hxk hyk] at FXY
        have FYX := Lib.hid (fun w h => gfHas_at (k : Int) (.slice A_c k c_c) lc (y : Int) (x : Int) w h HSC.out)
        rw [Gf.hasR_nat HOC.out hyk hxk] at FYX
        have FXX := Lib.hid (fun w h => gfHas_at (k : Int) (.slice A_c k c_c) lc (x : Int) (x : Int) w h HSC.out)
        rw [Gf.hasR_nat HOC.out hxk hxk] at FXX
        generalize ((ws[x]'hxl : Nat) : Int) = z1 at *
        generalize ((ws[y]'hyl : Nat) : Int) = z2 at *
        generalize Gf.bit lc x y = f1 at *
        generalize Gf.bit lc y x = f2 at *
        generalize Gf.bit lc x x = f0 at *
        have hff : (f0 == f0) = true := by simp
        by_cases hxy : x = y
        ·
          have hd : ((x : Int) == (y : Int)) = true := by rw [beq_iff_eq, hxy]
          rw [decide_eq_true hxy, Bool.true_or] at hww
          clear hxy
          go_wp2_with fail
          have HK : Hid (∀ W', Below wr.heap.size wr W' → W'.cell? ⟨o_c, 0, none⟩ = some (.int .i64 k) ∧ W'.cell? ⟨o_c, 1, none⟩ = some (.slice A_c k c_c) ∧ W'.cell? (ad1.add x) = some (.int .i64 z1) ∧ W'.cell? (ad1.add y) = some (.int .i64 z2)) := fun W' h => ⟨(T_c.out.later (below_all (below_all (below_all S4.out S5.out) S6.out) h)).cells.1, (T_c.out.later (below_all (below_all (below_all S4.out S5.out) S6.out) h)).cells.2, (h.cell (by rw [add_block]; exact HB1.out)).trans HX1.out, (h.cell (by rw [add_block]; exact HB1.out)).trans HX2.out⟩
          obtain ⟨c0, c1, sx, sy⟩ := HK.out _ (Below.refl _ wr)
          have k0 := cell_regrown c0
          have k1 := cell_regrown c1
          have k2 := cell_regrown sx
          have k3 := cell_regrown sy
          have q0 : ∀ rd os, Calls Tryd.prog 10 #[.agg #[.int .i64 (k : Int), .slice A_c k c_c], .int .i64 (x : Int), .int .i64 (x : Int)] (Sort.grow (redrawn wr rd) os) fun e w'' => e = .returned (.bool f0) ∧ ∃ p : Regrown, w'' = Sort.grow (redrawn wr p.d) p.os := fun rd os => Calls.regrown_of ((FXX.out _ (UC_c.out.below (below_regrown wr rd os))).mono fun _ _ h => h)
          clear HK c0 c1 sx sy
          refine wp_region_quiet_below (by kernel_rfl) (by kernel_rfl) ?_
          repeat (go_big_quiet_step (first | (with_reducible exact q0 _ _)))
          refine wpQuiet_nil ?_
          intro _ hw1
          obtain ⟨⟨dq, osq⟩, hw2⟩ := hw1
          subst hw2
          have S7 := Lib.hid (below_regrown wr dq osq)
          clear k0 k1 k2 k3 q0
          generalize Sort.grow (redrawn wr dq) osq = W7 at *
          go_wp2_with fail
          go_ret
          exact ⟨rfl, (below_all BW.out (below_all (below_all (below_all (below_all (below_all (below_all S1.out S2.out) S3.out) S4.out) S5.out) S6.out) S7.out))⟩
        ·
          have hd : ((x : Int) == (y : Int)) = false := by rw [beq_eq_false_iff_ne]; omega
          rw [decide_eq_false hxy, Bool.false_or] at hww
          clear hxy
          cases f1 with
          | false =>
            rw [Bool.false_and] at hww
            go_wp2_with fail
            have HK : Hid (∀ W', Below wr.heap.size wr W' → W'.cell? ⟨o_c, 0, none⟩ = some (.int .i64 k) ∧ W'.cell? ⟨o_c, 1, none⟩ = some (.slice A_c k c_c) ∧ W'.cell? (ad1.add x) = some (.int .i64 z1) ∧ W'.cell? (ad1.add y) = some (.int .i64 z2)) := fun W' h => ⟨(T_c.out.later (below_all (below_all (below_all S4.out S5.out) S6.out) h)).cells.1, (T_c.out.later (below_all (below_all (below_all S4.out S5.out) S6.out) h)).cells.2, (h.cell (by rw [add_block]; exact HB1.out)).trans HX1.out, (h.cell (by rw [add_block]; exact HB1.out)).trans HX2.out⟩
            obtain ⟨c0, c1, sx, sy⟩ := HK.out _ (Below.refl _ wr)
            have k0 := cell_regrown c0
            have k1 := cell_regrown c1
            have k2 := cell_regrown sx
            have k3 := cell_regrown sy
            have q0 : ∀ rd os, Calls Tryd.prog 10 #[.agg #[.int .i64 (k : Int), .slice A_c k c_c], .int .i64 (x : Int), .int .i64 (y : Int)] (Sort.grow (redrawn wr rd) os) fun e w'' => e = .returned (.bool false) ∧ ∃ p : Regrown, w'' = Sort.grow (redrawn wr p.d) p.os := fun rd os => Calls.regrown_of ((FXY.out _ (UC_c.out.below (below_regrown wr rd os))).mono fun _ _ h => h)
            have q1 : ∀ rd os, Calls Tryd.prog 10 #[.agg #[.int .i64 (k : Int), .slice A_c k c_c], .int .i64 (x : Int), .int .i64 (x : Int)] (Sort.grow (redrawn wr rd) os) fun e w'' => e = .returned (.bool f0) ∧ ∃ p : Regrown, w'' = Sort.grow (redrawn wr p.d) p.os := fun rd os => Calls.regrown_of ((FXX.out _ (UC_c.out.below (below_regrown wr rd os))).mono fun _ _ h => h)
            clear HK c0 c1 sx sy
            refine wp_region_quiet_below (by kernel_rfl) (by kernel_rfl) ?_
            repeat (go_big_quiet_step (first | (with_reducible exact q0 _ _) | (with_reducible exact q1 _ _)))
            refine wpQuiet_nil ?_
            intro _ hw1
            obtain ⟨⟨dq, osq⟩, hw2⟩ := hw1
            subst hw2
            have S7 := Lib.hid (below_regrown wr dq osq)
            clear k0 k1 k2 k3 q0 q1
            generalize Sort.grow (redrawn wr dq) osq = W7 at *
            go_wp2_with fail
            go_ret
            exact ⟨rfl, (below_all BW.out (below_all (below_all (below_all (below_all (below_all (below_all S1.out S2.out) S3.out) S4.out) S5.out) S6.out) S7.out))⟩
          | true =>
            rw [Bool.true_and] at hww
            have hf2 : (f2 == f2) = true := by simp
            go_wp2_with fail
            have HK : Hid (∀ W', Below wr.heap.size wr W' → W'.cell? ⟨o_c, 0, none⟩ = some (.int .i64 k) ∧ W'.cell? ⟨o_c, 1, none⟩ = some (.slice A_c k c_c) ∧ W'.cell? (ad1.add x) = some (.int .i64 z1) ∧ W'.cell? (ad1.add y) = some (.int .i64 z2)) := fun W' h => ⟨(T_c.out.later (below_all (below_all (below_all S4.out S5.out) S6.out) h)).cells.1, (T_c.out.later (below_all (below_all (below_all S4.out S5.out) S6.out) h)).cells.2, (h.cell (by rw [add_block]; exact HB1.out)).trans HX1.out, (h.cell (by rw [add_block]; exact HB1.out)).trans HX2.out⟩
            obtain ⟨c0, c1, sx, sy⟩ := HK.out _ (Below.refl _ wr)
            have k0 := cell_regrown c0
            have k1 := cell_regrown c1
            have k2 := cell_regrown sx
            have k3 := cell_regrown sy
            have q0 : ∀ rd os, Calls Tryd.prog 10 #[.agg #[.int .i64 (k : Int), .slice A_c k c_c], .int .i64 (x : Int), .int .i64 (y : Int)] (Sort.grow (redrawn wr rd) os) fun e w'' => e = .returned (.bool true) ∧ ∃ p : Regrown, w'' = Sort.grow (redrawn wr p.d) p.os := fun rd os => Calls.regrown_of ((FXY.out _ (UC_c.out.below (below_regrown wr rd os))).mono fun _ _ h => h)
            have q1 : ∀ rd os, Calls Tryd.prog 10 #[.agg #[.int .i64 (k : Int), .slice A_c k c_c], .int .i64 (y : Int), .int .i64 (x : Int)] (Sort.grow (redrawn wr rd) os) fun e w'' => e = .returned (.bool f2) ∧ ∃ p : Regrown, w'' = Sort.grow (redrawn wr p.d) p.os := fun rd os => Calls.regrown_of ((FYX.out _ (UC_c.out.below (below_regrown wr rd os))).mono fun _ _ h => h)
            have q2 : ∀ rd os, Calls Tryd.prog 10 #[.agg #[.int .i64 (k : Int), .slice A_c k c_c], .int .i64 (x : Int), .int .i64 (x : Int)] (Sort.grow (redrawn wr rd) os) fun e w'' => e = .returned (.bool f0) ∧ ∃ p : Regrown, w'' = Sort.grow (redrawn wr p.d) p.os := fun rd os => Calls.regrown_of ((FXX.out _ (UC_c.out.below (below_regrown wr rd os))).mono fun _ _ h => h)
            clear HK c0 c1 sx sy
            refine wp_region_quiet_below (by kernel_rfl) (by kernel_rfl) ?_
            repeat (go_big_quiet_step (first | (with_reducible exact q0 _ _) | (with_reducible exact q1 _ _) | (with_reducible exact q2 _ _)))
            refine wpQuiet_nil ?_
            intro _ hw1
            obtain ⟨⟨dq, osq⟩, hw2⟩ := hw1
            subst hw2
            have S7 := Lib.hid (below_regrown wr dq osq)
            clear k0 k1 k2 k3 q0 q1 q2
            generalize Sort.grow (redrawn wr dq) osq = W7 at *
            go_wp2_with fail
            go_ret
            exact ⟨rfl, (below_all BW.out (below_all (below_all (below_all (below_all (below_all (below_all S1.out S2.out) S3.out) S4.out) S5.out) S6.out) S7.out))⟩
end Go.Proofs.YtameeegmbpiiaaaDoor
