/-
  The law TopoLeast: of all orders the one that is told is the least; an order the other way round is one of the graph turned.
  Conditions: rows hold sets below 2^64.
-/
import Derived.Test.YtpmimmaaeaifhaaToAwake
import Derived.Test.YtpmimmaaeaifhaaRcAll
import Derived.Lib.QuietBelow
set_option maxRecDepth 4000
namespace Go.Proofs.Ytpmimmaaeaifhaa
open Go.RowKit

namespace To
open Gf Rc
theorem iff_yes {w w' : World} {P : Prop} {e : Ending} (h : RetIff w P e w') (hp : P) : RetBool w true e w' := by
  obtain ⟨b, rfl, hi, hb⟩ := h
  exact ⟨ret_bool (hi.2 hp), hb⟩
theorem iff_no {w w' : World} {P : Prop} {e : Ending} (h : RetIff w P e w') (hp : ¬ P) : RetBool w false e w' := by
  obtain ⟨b, rfl, hi, hb⟩ := h
  cases b with
  | false => exact ⟨rfl, hb⟩
  | true => exact absurd (hi.1 rfl) hp
theorem ns_at {W : World} {A : Option Addr} {k c : Nat} {l : List Int} (h : Ns W (.slice A k c) l) (x : Nat) (hx : x < l.length) : ∃ ad : Addr, A = some ad ∧ ad.block < W.heap.size ∧ W.cell? (ad.add x) = some (.int .i64 l[x]) := by
  obtain ⟨A', c', e, hf⟩ := h.spelled
  cases e
  exact hf x hx
/-- One less than a number. -/
theorem prev_int (s : Nat) (h : s ≤ 4294967296) : ∃ z : Int, wrap64 ((s : Int) - 1) = z ∧ IntKind.i64.wrap ((s : Int) - 1) = z ∧ (s : Int) - 1 = z ∧ ((z = -1 ∧ s = 0) ∨ ∃ r : Nat, z = (r : Int) ∧ s = r + 1) := by
  refine ⟨(s : Int) - 1, by rw [IntWalk.wrap64_in _ (by omega)], by rw [IntWalk.i64_in _ (by omega)], rfl, ?_⟩
  cases s with
  | zero => exact .inl ⟨by omega, rfl⟩
  | succ r => exact .inr ⟨r, by omega, rfl⟩
/-- A row turned round, place by place: z is the place that comes next. -/
def Rev (q : List Int) (z : Int) (dd : List Int) : Prop := (z = -1 ∧ dd = q.reverse) ∨ ∃ s : Nat, z = (s : Int) ∧ s < q.length ∧ dd = (q.drop (s + 1)).reverse
theorem rev_start {q : List Int} {z : Int} (h : (z = -1 ∧ q.length = 0) ∨ ∃ r : Nat, z = (r : Int) ∧ q.length = r + 1) : Rev q z [] := by
  rcases h with ⟨h1, h2⟩ | ⟨r, h1, h2⟩
  · exact .inl ⟨h1, by rw [List.length_eq_zero_iff.1 h2]; rfl⟩
  · exact .inr ⟨r, h1, by omega, by rw [List.drop_of_length_le (by omega)]; rfl⟩
theorem rev_next {q dd : List Int} {z : Int} {s : Nat} (hs : s < q.length) (hd : dd = (q.drop (s + 1)).reverse) (h : (z = -1 ∧ s = 0) ∨ ∃ r : Nat, z = (r : Int) ∧ s = r + 1) : Rev q z (dd ++ [q[s]]) := by
  have e : dd ++ [q[s]] = (q.drop s).reverse := by rw [List.drop_eq_getElem_cons hs, List.reverse_cons, hd]
  rw [e]
  rcases h with ⟨h1, rfl⟩ | ⟨r, h1, rfl⟩
  · exact .inl ⟨h1, rfl⟩
  · exact .inr ⟨r, h1, by omega, rfl⟩
theorem rev_len {q dd : List Int} {z : Int} (h : Rev q z dd) : dd.length ≤ q.length := by
  rcases h with ⟨_, rfl⟩ | ⟨s, _, _, rfl⟩
  · rw [List.length_reverse]; exact Nat.le_refl _
  · rw [List.length_reverse, List.length_drop]; omega
theorem nums_rev (m : List Nat) : (Bi.nums m).reverse = Bi.nums m.reverse := by simp [Bi.nums]
theorem turned_isA {k : Nat} {g : List Nat} {q : List Int} (hg : Ok k g) : IsA (k : Int) (turnR k g) q.reverse ↔ IsA (k : Int) g q := by
  have key : ∀ {g : List Nat} {q : List Int}, Ok k g → IsA (k : Int) g q → IsA (k : Int) (turnR k g) q.reverse := by
    rintro g q hg ⟨k', e, hg', m, rfl, h⟩
    obtain rfl : k = k' := by omega
    rw [nums_rev]
    exact IsA.of (build_ok hg.1 _) (h.turned hg)
  refine ⟨fun h => ?_, key hg⟩
  have := key (show Ok k (turnR k g) from build_ok hg.1 _) h
  rwa [turn_turn hg, List.reverse_reverse] at this
theorem turn_isA {n nx ex : Int} {l lx : List Nat} {q : List Int} (h : IsA n l q) (hx : (okB n l = true ∧ nx = n ∧ ex = 0 ∧ lx = turnR n.toNat l) ∨ (okB n l = false ∧ nx = 0 ∧ ex = 1 ∧ lx = [])) : IsA nx lx q.reverse ∧ ex = 0 := by
  obtain ⟨k, rfl, hg, h'⟩ := h
  rcases hx with ⟨_, rfl, h2, rfl⟩ | ⟨ho, _⟩
  · rw [Int.toNat_natCast]
    exact ⟨(turned_isA hg).2 ⟨k, rfl, hg, h'⟩, h2⟩
  · rw [(okB_nat k l).2 hg] at ho
    cases ho
theorem turn_not {n nx ex : Int} {l lx : List Nat} {q bk : List Int} (hx : (okB n l = true ∧ nx = n ∧ ex = 0 ∧ lx = turnR n.toNat l) ∨ (okB n l = false ∧ nx = 0 ∧ ex = 1 ∧ lx = [])) (h2 : ¬ IsA n l q) (h1 : IsA nx lx bk) (hb : bk = q.reverse) : ex = 1 := by
  rcases hx with ⟨ho, rfl, _, rfl⟩ | ⟨_, _, h, _⟩
  · obtain ⟨k, rfl, hg⟩ := okB_iff.1 ho
    rw [Int.toNat_natCast, hb] at h1
    exact absurd ((turned_isA hg).1 h1) h2
  · exact h
theorem isA_ord {k : Nat} {g : List Nat} {q : List Int} (h : IsA (k : Int) g q) : ∃ m : List Nat, q = Bi.nums m ∧ IsOrd k g m := by
  obtain ⟨k', e, _, m, hq, h⟩ := h
  obtain rfl : k = k' := by omega
  exact ⟨m, hq, h⟩
theorem isA_some {k : Nat} {g : List Nat} {q : List Int} (hg : Ok k g) (h : IsA (k : Int) g q) : ∃ lo, orderR k g = some lo := by
  obtain ⟨m, _, h⟩ := isA_ord h
  refine (order_iff hg).2 ?_
  cases hc : cyclicR k g with
  | false => rfl
  | true =>
    obtain ⟨x, hx⟩ := (cyclic_iff hg).1 hc
    exact absurd hx (h.no_cycle hg x)
theorem isA_len {k : Nat} {g lo : List Nat} {q : List Int} (_hg : Ok k g) (h : IsA (k : Int) g q) (ho : orderR k g = some lo) : lo.length = q.length := by
  obtain ⟨m, rfl, hm⟩ := isA_ord h
  rw [Bi.nums_len, hm.len, (order_some ho).len]
theorem least_int {k : Nat} {g lo : List Nat} {q : List Int} (hg : Ok k g) (ho : orderR k g = some lo) (h : IsA (k : Int) g q) (j : Nat) (h1 : j < lo.length) (h2 : j < q.length) (hp : ∀ s (a : s < lo.length) (b : s < q.length), s < j → ((lo[s] : Nat) : Int) = q[s]) : ((lo[j] : Nat) : Int) ≤ q[j] := by
  obtain ⟨m, rfl, hord⟩ := isA_ord h
  have hm : j < m.length := by rw [Bi.nums_len] at h2; exact h2
  rw [Bi.nums_at m j hm]
  have := order_least hg ho hord j h1 hm (by
    apply List.ext_getElem
    · rw [List.length_take, List.length_take]; omega
    · intro s a b
      rw [List.length_take] at a b
      rw [List.getElem_take, List.getElem_take]
      have := hp s (by omega) (by rw [Bi.nums_len]; omega) (by omega)
      rw [Bi.nums_at m s (by omega)] at this
      omega)
  omega
end To
set_option maxHeartbeats 8000000 in
theorem lawTopoLeast (n : Int) (u : Value) (l : List Nat) (q : List Int) (v : Value) (w : World) (hu : Us w u l) (hs : ∀ x ∈ l, x < 18446744073709551616) (hv : Ns w v q) : Calls Try.prog 4 #[.agg #[.int .i64 n, u], v] w (RetBool w true) := by
  obtain ⟨i0, hi0, hz0, hz1, hz2⟩ := info_parts int_info
  have I0 := Lib.hid hi0
  have I1 := Lib.hid hz0
  have I2 := Lib.hid hz1
  have I3 := Lib.hid hz2
  clear hi0 hz0 hz1 hz2
  have HU := Lib.hid hu
  have HS := Lib.hid hs
  have HV := Lib.hid hv
  obtain ⟨A, c, rfl, -⟩ := hu.spelled
  obtain ⟨B, d, rfl, -⟩ := hv.spelled
  have T_g := Lib.hid (Two.new w 24 (.int .i64 n) (.slice A l.length c))
  have BW := Lib.hid (alloc_below w (.cells #[.int .i64 n, .slice A l.length c] 24))
  clear hu hs hv
  go_enter Try.func4, Try.ntmps4
  go_wp2_with fail
  generalize w.alloc (.cells #[.int .i64 n, .slice A l.length c] 24) = W0 at *
  go_wp2_with fail
  refine (toAwake_at _).mono ?_
  rintro e W1 ⟨rfl, hb⟩
  have S1 := Lib.hid hb
  clear hb
  obtain ⟨g0, g1⟩ := (T_g.out.later S1.out).cells
  by_cases h70 : 70 < l.length
  ·
    go_wp2_with fail
    go_ret
    exact ⟨rfl, (below_all BW.out S1.out)⟩
  by_cases h71 : 70 < q.length
  ·
    go_wp2_with fail
    go_ret
    exact ⟨rfl, (below_all BW.out S1.out)⟩
  go_wp2_with fail
  refine (gfTurn_any n (.slice A l.length c) l _ (HU.out.below (below_all BW.out S1.out)) HS.out).mono ?_
  rintro e V ⟨nx, ex, lx, vx, rfl, hux, hb, hx⟩
  obtain ⟨A_t, c_t, rfl⟩ := us_form hux
  have HX := Lib.hid hx
  clear hx
  have b := alloc_below V (.cells #[.int .i64 nx, .slice A_t lx.length c_t] 24)
  have S2 := Lib.hid (below_all hb b)
  have T_t := Lib.hid (Two.new V 24 (.int .i64 nx) (.slice A_t lx.length c_t))
  have U_t := Lib.hid (hux.below b)
  clear hb b
  clear g0 g1
  clear hux
  obtain ⟨z0, e1, e2, e3, hz0⟩ := To.prev_int q.length (by omega)
  have HZ0 := Lib.hid hz0
  clear hz0
  go_wp2_with fail
  generalize V.alloc (.cells #[.int .i64 nx, .slice A_t lx.length c_t] 24) = W2 at *
  generalize V.heap.size = o_t at *
  clear e1 e2 e3
  go_loopw [8, 9] (fun v i wr => ∃ (z : Int) (dd : List Int), i = .int .i64 z ∧ dd.length ≤ q.length ∧ Hid (To.Rev q z dd) ∧ Hid (wr.ownsRow W2.heap.size 3 1 v dd.length (dd.flatMap nC)) ∧ Hid (Below W2.heap.size W2 wr)) (fun _ i _ => (intOf i + 1).toNat)
  case atStart => exact ⟨z0, [], rfl, Nat.zero_le _, To.rev_start HZ0.out, World.ownsRow_nil _ _ _ _, Below.refl _ _⟩
  case round =>
    obtain ⟨z, dd, rfl, hdl, HRV, HW, HB⟩ := hrel
    obtain ⟨A', cp, rfl⟩ := own_form HW.out
    have S3 := HB
    rcases HRV.out with ⟨hz, hdd⟩ | ⟨s, hz, hs, hdd⟩
    ·
      subst hz
      subst hdd
      have NB := Lib.hid (show Ns wr _ q.reverse from Rows'.own HW.out)
      have hlr : q.reverse.length = q.length := List.length_reverse
      have HLR : Hid (q.reverse.length ≤ 4294967296) := (by rw [Hid, hlr]; omega)
      clear hlr hdl HRV HW HZ0
      have HSX : Hid (∀ x ∈ lx, x < 18446744073709551616) := by
        rcases HX.out with ⟨ho, _, _, e⟩ | ⟨_, _, _, e⟩
        · intro x hx
          obtain ⟨k, _, hok⟩ := Gf.okB_iff.1 ho
          rw [e] at hx
          have hk : n.toNat = k := by omega
          rw [hk] at hx
          exact (show Gf.Ok k (Gf.turnR k l) from Gf.build_ok hok.1 _).small hx
        · rw [e]
          exact fun x hx => by cases hx
      have HTU := Lib.hid (fun h => @To.turn_isA n nx ex l lx q h HX.out)
      have HQL : Hid (q.length ≤ 4294967296) := by rw [Hid]; omega
      obtain ⟨bk, hbk⟩ : ∃ b, b = q.reverse := ⟨_, rfl⟩
      rw [← hbk] at NB HLR HTU ⊢
      have HBK := Lib.hid hbk
      clear hbk
      have FT := Lib.hid (fun w h1 h2 => toIs_at nx (.slice A_t lx.length c_t) lx bk (.slice A' bk.length cp) w h1 HSX.out h2 HLR.out)
      have FG := Lib.hid (fun w h1 h2 => toIs_at n (.slice A l.length c) l q (.slice B q.length d) w h1 HS.out h2 HQL.out)
      by_cases hP2 : To.IsA n l q
      ·
        have HP2 := Lib.hid hP2
        obtain ⟨hP1, hex⟩ := HTU.out hP2
        subst hex
        have HP1 := Lib.hid hP1
        clear hP1 HTU
        obtain ⟨k, hnk, hok, _⟩ := hP2
        subst hnk
        have HOK := Lib.hid hok
        clear HX hok
        have UC_g := Lib.hid (HU.out.below (below_all BW.out (below_all (below_all S1.out S2.out) S3.out)))
        have UC_t := Lib.hid ((U_t.out.below S3.out))
        have NC := Lib.hid (HV.out.below (below_all BW.out (below_all (below_all S1.out S2.out) S3.out)))
        go_wp2_with fail
        have HK : Hid (∀ W', Below wr.heap.size wr W' → W'.cell? ⟨o_t, 0, none⟩ = some (.int .i64 nx) ∧ W'.cell? ⟨o_t, 1, none⟩ = some (.slice A_t lx.length c_t) ∧ W'.cell? ⟨w.heap.size, 0, none⟩ = some (.int .i64 k) ∧ W'.cell? ⟨w.heap.size, 1, none⟩ = some (.slice A l.length c)) := fun W' h => ⟨(T_t.out.later (below_all S3.out h)).cells.1, (T_t.out.later (below_all S3.out h)).cells.2, (T_g.out.later (below_all (below_all (below_all S1.out S2.out) S3.out) h)).cells.1, (T_g.out.later (below_all (below_all (below_all S1.out S2.out) S3.out) h)).cells.2⟩
        obtain ⟨t0, t1, g0, g1⟩ := HK.out _ (Below.refl _ wr)
        have k0 := cell_regrown t0
        have k1 := cell_regrown t1
        have k2 := cell_regrown g0
        have k3 := cell_regrown g1
        have q0 : ∀ rd os, Calls Try.prog 11 #[.agg #[.int .i64 nx, .slice A_t lx.length c_t], .slice A' bk.length cp] (Sort.grow (redrawn wr rd) os) fun e w'' => e = .returned (.bool true) ∧ ∃ p : Regrown, w'' = Sort.grow (redrawn wr p.d) p.os := fun rd os => Calls.regrown_of (((FT.out _ (UC_t.out.below (below_regrown wr rd os)) (NB.out.below (below_regrown wr rd os))).mono fun _ _ h => To.iff_yes h HP1.out).mono fun _ _ h => h)
        have q1 : ∀ rd os, Calls Try.prog 11 #[.agg #[.int .i64 k, .slice A l.length c], .slice B q.length d] (Sort.grow (redrawn wr rd) os) fun e w'' => e = .returned (.bool true) ∧ ∃ p : Regrown, w'' = Sort.grow (redrawn wr p.d) p.os := fun rd os => Calls.regrown_of (((FG.out _ (UC_g.out.below (below_regrown wr rd os)) (NC.out.below (below_regrown wr rd os))).mono fun _ _ h => To.iff_yes h HP2.out).mono fun _ _ h => h)
        clear HK t0 t1 g0 g1
        refine wp_region_quiet_below (by kernel_rfl) (by kernel_rfl) ?_
        repeat (go_big_quiet_step (first | (with_reducible exact q0 _ _) | (with_reducible exact q1 _ _)))
        refine wpQuiet_nil ?_
        intro _ hw1
        obtain ⟨⟨dq, osq⟩, hw2⟩ := hw1
        subst hw2
        have S4 := Lib.hid (below_regrown wr dq osq)
        clear k0 k1 k2 k3 q0 q1
        generalize Sort.grow (redrawn wr dq) osq = W4 at *
        obtain ⟨lo, hlo⟩ := To.isA_some HOK.out HP2.out
        have hl1 : lo.length = q.length := To.isA_len HOK.out HP2.out hlo
        have HLE := Lib.hid (fun j h1 h2 hp => To.least_int HOK.out hlo HP2.out j h1 h2 hp)
        have FO := Lib.hid (fun w h1 => toOrder_at (k : Int) (.slice A l.length c) l w h1 HS.out)
        rw [To.orderA_yes HOK.out, hlo] at FO
        clear hlo
        obtain ⟨g0, g1⟩ := (T_g.out.later (below_all (below_all (below_all S1.out S2.out) S3.out) S4.out)).cells
        go_wp2_with fail
        refine ((FG.out _ (HU.out.below (below_all BW.out (below_all (below_all (below_all S1.out S2.out) S3.out) S4.out))) (HV.out.below (below_all BW.out (below_all (below_all (below_all S1.out S2.out) S3.out) S4.out)))).mono fun _ _ h => To.iff_yes h HP2.out).mono ?_
        rintro e W5 ⟨rfl, hb⟩
        have S5 := Lib.hid hb
        clear hb
        clear g0 g1
        obtain ⟨g0, g1⟩ := (T_g.out.later (below_all (below_all (below_all (below_all S1.out S2.out) S3.out) S4.out) S5.out)).cells
        go_wp2_with fail
        refine (FO.out _ (HU.out.below (below_all BW.out (below_all (below_all (below_all (below_all S1.out S2.out) S3.out) S4.out) S5.out)))).mono ?_
        rintro e W6 ⟨v1, rfl, hn1, hb⟩
        have S6 := Lib.hid hb
        clear hb
        clear g0 g1
        obtain ⟨A1, c1, rfl, -⟩ := (show Ns _ _ (Bi.nums lo) from hn1).nums
        have N1 := Lib.hid (show Ns _ _ (Bi.nums lo) from hn1)
        dsimp only [Option.isSome, Option.getD]
        clear hn1
        have hll : ((lo.length : Int) != (q.length : Int)) = false := by rw [hl1]; simp
        have HL1 := Lib.hid hl1
        have hlo70 : lo.length ≤ 70 := by omega
        clear hl1
        have NC := Lib.hid (HV.out.below (below_all BW.out (below_all (below_all (below_all (below_all (below_all S1.out S2.out) S3.out) S4.out) S5.out) S6.out)))
        go_wp2_with fail
        go_loopw [12] (fun i wq => ∃ j : Nat, j ≤ lo.length ∧ i = .int .i64 j ∧ Hid (∀ s (a : s < lo.length) (b : s < q.length), s < j → ((lo[s] : Nat) : Int) = q[s]) ∧ Hid (Below W6.heap.size W6 wq)) (fun i _ => lo.length - (intOf i).toNat)
        case atStart => exact ⟨0, Nat.zero_le _, rfl, fun s _ _ h => absurd h (Nat.not_lt_zero s), Below.refl _ _⟩
        case round =>
          obtain ⟨j, hj, rfl, HEQ, HB3⟩ := hrel
          have HB := HB3
          have S7 := HB
          by_cases hlt : j < lo.length
          ·
            have hjq : j < q.length := by have := HL1.out; omega
            have n1 := N1.out.below HB.out
            obtain ⟨ad1, e1, hb1, hx1⟩ := ints_at n1 j hlt
            subst e1
            have n2 := NC.out.below HB.out
            obtain ⟨ad2, e2, hb2, hx2⟩ := To.ns_at n2 j hjq
            subst e2
            clear n1 n2 hb1 hb2
            have hle := HLE.out j hlt hjq fun s a b h => HEQ.out s a b h
            have HEN : Hid (((lo[j]'hlt : Nat) : Int) = q[j]'hjq → ∀ s (a : s < lo.length) (b : s < q.length), s < j + 1 → ((lo[s] : Nat) : Int) = q[s]) := fun h s a b hs => by
              rcases Nat.lt_or_ge s j with r | r
              · exact HEQ.out s a b r
              · obtain rfl : s = j := by omega
                exact h
            have hq1 : (j : Int) < (lo.length : Int) := by omega
            have hq2 : (j : Int) < (q.length : Int) := by omega
            generalize ((lo[j]'hlt : Nat) : Int) = x at *
            generalize q[j]'hjq = y at *
            by_cases hxy : x = y
            ·
              have hne : (x != y) = false := by rw [hxy]; simp
              have HE2 := Lib.hid (HEN.out hxy)
              clear hxy hle
              go_wp2_with fail
              go_quiet (fail)
              go_wp2_with fail
              go_roundw
              case rel => exact ⟨j + 1, by omega, by go_num, HE2.out, below_drewN HB.out _⟩
              case measure => simp [intOf]; omega
            ·
              have hne : (x != y) = true := by rw [bne_iff_ne]; exact hxy
              have hlt2 : decide (x < y) = true := decide_eq_true (by omega)
              have HXX := Lib.hid hx1
              have HYY := Lib.hid hx2
              clear hxy hle
              go_wp2_with fail
              go_quiet (fail)
              have HD := Lib.hid (drewN_below wr nq)
              go_wp2_with fail
              go_quiet (fail)
              go_wp2_with fail
              go_ret
              exact ⟨rfl, below_drewN (below_all (below_all BW.out (below_all (below_all (below_all (below_all (below_all (below_all S1.out S2.out) S3.out) S4.out) S5.out) S6.out) S7.out)) HD.out) _⟩
          ·
            go_wp2_with fail
            go_ret
            exact ⟨rfl, (below_all BW.out (below_all (below_all (below_all (below_all (below_all (below_all S1.out S2.out) S3.out) S4.out) S5.out) S6.out) S7.out))⟩
      ·
        have HP2 := Lib.hid hP2
        by_cases hP1 : To.IsA nx lx bk
        ·
          have HP1 := Lib.hid hP1
          have hex : ex = 1 := (To.turn_not HX.out hP2 hP1 HBK.out)
          subst hex
          clear hP1
          have UC_g := Lib.hid (HU.out.below (below_all BW.out (below_all (below_all S1.out S2.out) S3.out)))
          have UC_t := Lib.hid ((U_t.out.below S3.out))
          have NC := Lib.hid (HV.out.below (below_all BW.out (below_all (below_all S1.out S2.out) S3.out)))
          go_wp2_with fail
          have HK : Hid (∀ W', Below wr.heap.size wr W' → W'.cell? ⟨o_t, 0, none⟩ = some (.int .i64 nx) ∧ W'.cell? ⟨o_t, 1, none⟩ = some (.slice A_t lx.length c_t) ∧ W'.cell? ⟨w.heap.size, 0, none⟩ = some (.int .i64 n) ∧ W'.cell? ⟨w.heap.size, 1, none⟩ = some (.slice A l.length c)) := fun W' h => ⟨(T_t.out.later (below_all S3.out h)).cells.1, (T_t.out.later (below_all S3.out h)).cells.2, (T_g.out.later (below_all (below_all (below_all S1.out S2.out) S3.out) h)).cells.1, (T_g.out.later (below_all (below_all (below_all S1.out S2.out) S3.out) h)).cells.2⟩
          obtain ⟨t0, t1, g0, g1⟩ := HK.out _ (Below.refl _ wr)
          have k0 := cell_regrown t0
          have k1 := cell_regrown t1
          have k2 := cell_regrown g0
          have k3 := cell_regrown g1
          have q0 : ∀ rd os, Calls Try.prog 11 #[.agg #[.int .i64 nx, .slice A_t lx.length c_t], .slice A' bk.length cp] (Sort.grow (redrawn wr rd) os) fun e w'' => e = .returned (.bool true) ∧ ∃ p : Regrown, w'' = Sort.grow (redrawn wr p.d) p.os := fun rd os => Calls.regrown_of (((FT.out _ (UC_t.out.below (below_regrown wr rd os)) (NB.out.below (below_regrown wr rd os))).mono fun _ _ h => To.iff_yes h HP1.out).mono fun _ _ h => h)
          have q1 : ∀ rd os, Calls Try.prog 11 #[.agg #[.int .i64 n, .slice A l.length c], .slice B q.length d] (Sort.grow (redrawn wr rd) os) fun e w'' => e = .returned (.bool false) ∧ ∃ p : Regrown, w'' = Sort.grow (redrawn wr p.d) p.os := fun rd os => Calls.regrown_of (((FG.out _ (UC_g.out.below (below_regrown wr rd os)) (NC.out.below (below_regrown wr rd os))).mono fun _ _ h => To.iff_no h HP2.out).mono fun _ _ h => h)
          clear HK t0 t1 g0 g1
          refine wp_region_quiet_below (by kernel_rfl) (by kernel_rfl) ?_
          repeat (go_big_quiet_step (first | (with_reducible exact q0 _ _) | (with_reducible exact q1 _ _)))
          refine wpQuiet_nil ?_
          intro _ hw1
          obtain ⟨⟨dq, osq⟩, hw2⟩ := hw1
          subst hw2
          have S4 := Lib.hid (below_regrown wr dq osq)
          clear k0 k1 k2 k3 q0 q1
          generalize Sort.grow (redrawn wr dq) osq = W4 at *
          obtain ⟨g0, g1⟩ := (T_g.out.later (below_all (below_all (below_all S1.out S2.out) S3.out) S4.out)).cells
          go_wp2_with fail
          refine ((FG.out _ (HU.out.below (below_all BW.out (below_all (below_all (below_all S1.out S2.out) S3.out) S4.out))) (HV.out.below (below_all BW.out (below_all (below_all (below_all S1.out S2.out) S3.out) S4.out)))).mono fun _ _ h => To.iff_no h HP2.out).mono ?_
          rintro e W5 ⟨rfl, hb⟩
          have S5 := Lib.hid hb
          clear hb
          clear g0 g1
          go_wp2_with fail
          go_ret
          exact ⟨rfl, (below_all BW.out (below_all (below_all (below_all (below_all S1.out S2.out) S3.out) S4.out) S5.out))⟩
        ·
          have HP1 := Lib.hid hP1
          clear hP1
          have UC_g := Lib.hid (HU.out.below (below_all BW.out (below_all (below_all S1.out S2.out) S3.out)))
          have UC_t := Lib.hid ((U_t.out.below S3.out))
          have NC := Lib.hid (HV.out.below (below_all BW.out (below_all (below_all S1.out S2.out) S3.out)))
          go_wp2_with fail
          have HK : Hid (∀ W', Below wr.heap.size wr W' → W'.cell? ⟨o_t, 0, none⟩ = some (.int .i64 nx) ∧ W'.cell? ⟨o_t, 1, none⟩ = some (.slice A_t lx.length c_t) ∧ W'.cell? ⟨w.heap.size, 0, none⟩ = some (.int .i64 n) ∧ W'.cell? ⟨w.heap.size, 1, none⟩ = some (.slice A l.length c)) := fun W' h => ⟨(T_t.out.later (below_all S3.out h)).cells.1, (T_t.out.later (below_all S3.out h)).cells.2, (T_g.out.later (below_all (below_all (below_all S1.out S2.out) S3.out) h)).cells.1, (T_g.out.later (below_all (below_all (below_all S1.out S2.out) S3.out) h)).cells.2⟩
          obtain ⟨t0, t1, g0, g1⟩ := HK.out _ (Below.refl _ wr)
          have k0 := cell_regrown t0
          have k1 := cell_regrown t1
          have k2 := cell_regrown g0
          have k3 := cell_regrown g1
          have q0 : ∀ rd os, Calls Try.prog 11 #[.agg #[.int .i64 nx, .slice A_t lx.length c_t], .slice A' bk.length cp] (Sort.grow (redrawn wr rd) os) fun e w'' => e = .returned (.bool false) ∧ ∃ p : Regrown, w'' = Sort.grow (redrawn wr p.d) p.os := fun rd os => Calls.regrown_of (((FT.out _ (UC_t.out.below (below_regrown wr rd os)) (NB.out.below (below_regrown wr rd os))).mono fun _ _ h => To.iff_no h HP1.out).mono fun _ _ h => h)
          have q1 : ∀ rd os, Calls Try.prog 11 #[.agg #[.int .i64 n, .slice A l.length c], .slice B q.length d] (Sort.grow (redrawn wr rd) os) fun e w'' => e = .returned (.bool false) ∧ ∃ p : Regrown, w'' = Sort.grow (redrawn wr p.d) p.os := fun rd os => Calls.regrown_of (((FG.out _ (UC_g.out.below (below_regrown wr rd os)) (NC.out.below (below_regrown wr rd os))).mono fun _ _ h => To.iff_no h HP2.out).mono fun _ _ h => h)
          clear HK t0 t1 g0 g1
          refine wp_region_quiet_below (by kernel_rfl) (by kernel_rfl) ?_
          repeat (go_big_quiet_step (first | (with_reducible exact q0 _ _) | (with_reducible exact q1 _ _)))
          refine wpQuiet_nil ?_
          intro _ hw1
          obtain ⟨⟨dq, osq⟩, hw2⟩ := hw1
          subst hw2
          have S4 := Lib.hid (below_regrown wr dq osq)
          clear k0 k1 k2 k3 q0 q1
          generalize Sort.grow (redrawn wr dq) osq = W4 at *
          obtain ⟨g0, g1⟩ := (T_g.out.later (below_all (below_all (below_all S1.out S2.out) S3.out) S4.out)).cells
          go_wp2_with fail
          refine ((FG.out _ (HU.out.below (below_all BW.out (below_all (below_all (below_all S1.out S2.out) S3.out) S4.out))) (HV.out.below (below_all BW.out (below_all (below_all (below_all S1.out S2.out) S3.out) S4.out)))).mono fun _ _ h => To.iff_no h HP2.out).mono ?_
          rintro e W5 ⟨rfl, hb⟩
          have S5 := Lib.hid hb
          clear hb
          clear g0 g1
          go_wp2_with fail
          go_ret
          exact ⟨rfl, (below_all BW.out (below_all (below_all (below_all (below_all S1.out S2.out) S3.out) S4.out) S5.out))⟩
    ·
      subst hz
      obtain ⟨z1, e1, e2, e3, hz1⟩ := To.prev_int s (by omega)
      have HR2 := Lib.hid (To.rev_next hs hdd hz1)
      clear hz1 hdd HRV
      have n1 : Ns wr (.slice B q.length d) q := (HV.out.below (below_all BW.out (below_all (below_all S1.out S2.out) S3.out)))
      obtain ⟨ad, e0, hblk, hx0⟩ := To.ns_at n1 s hs
      subst e0
      clear n1 hblk
      have hq0 : (0 : Int) ≤ (s : Int) := by omega
      have hq1 : (s : Int) < (q.length : Int) := by omega
      generalize q[s]'hs = x at *
      have HW2 := Lib.hid (HW.out.alloc (.cells #[.int .i64 x] 3))
      have HB2 := Lib.hid (below_all HB.out (alloc_below wr (.cells #[.int .i64 x] 3)))
      have HN := Lib.hid (new_nC wr x 3)
      have hsz : z1 + 1 = (s : Int) := by omega
      go_wp2_with (at_builtin; refine wpList_append_own_at _ rfl _ _ 25 rfl W2.heap.size 3 i0 _ 1 8 Try.underlying25 I0.out I1.out I2.out I3.out rfl (by decide) _ dd.length _ rfl HW2.out ⟨wr.heap.size, 0, none⟩ 1 1 (nC x) rfl rfl HN.out (one_nC _) (by simp only [maxLen]; omega) (by omega) HB2.out.size ?_; intro v2 w3 hown2 hgrow2 hnil2 hat2; have HO2 := Lib.hid hown2; have HB3 := Lib.hid (below_append HB2.out HB2.out.size HW2.out hgrow2); clear hown2 hgrow2 hnil2 hat2)
      go_roundw
      case rel => exact ⟨z1, dd ++ [x], rfl, To.rev_len HR2.out, HR2.out, Rows'.own_snoc HO2.out, HB3.out⟩
      case measure => simp [intOf]; omega
end Go.Proofs.Ytpmimmaaeaifhaa
