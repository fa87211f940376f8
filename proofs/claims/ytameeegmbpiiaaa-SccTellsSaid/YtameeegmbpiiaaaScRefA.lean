/-
  What the reference's together, Which and Inner of layer 14 answer.
  Conditions: the graph is valid.
-/
import Derived.Test.YtameeegmbpiiaaaScPlain
import Derived.Test.YtameeegmbpiiaaaRcRfs
import Derived.Test.YtameeegmbpiiaaaRrMem
set_option maxRecDepth 4000
namespace Go.Proofs.Ytameeegmbpiiaaa
open Go.RowKit

theorem rTog14_at (n : Nat) (v : Value) (cl : List Nat) (x y : Nat) (w : World) (hu : Us w v cl) (hok : Gf.Ok n cl) (hx : x < n) (hy : y < n) : Calls Try.prog 25 #[.agg #[.int .i64 n, v], .int .i64 x, .int .i64 y] w (RetBool w (decide (x = y) || (Gf.bit cl x y && Gf.bit cl y x))) := by
  have HU := Lib.hid hu
  have T0 := Lib.hid (Two.new w 26 (.int .i64 n) v)
  have BW := Lib.hid (alloc_below w (.cells #[.int .i64 n, v] 26))
  obtain ⟨A, c, rfl, -⟩ := hu.spelled
  have h64 := hok.1
  have hxl : x < cl.length := by rw [hok.2.1]; exact hx
  have hyl : y < cl.length := by rw [hok.2.1]; exact hy
  have F1 := Lib.hid (fun w hw => rHas12_at n (.slice A cl.length c) cl x y w hw hxl (hok.small (List.getElem_mem hxl)))
  have F2 := Lib.hid (fun w hw => rHas12_at n (.slice A cl.length c) cl y x w hw hyl (hok.small (List.getElem_mem hyl)))
  rw [Bi.has_nat _ y (by omega), ← Gf.bit_at hxl] at F1
  rw [Bi.has_nat _ x (by omega), ← Gf.bit_at hyl] at F2
  clear hu hok
  generalize Gf.bit cl x y = p at *
  generalize Gf.bit cl y x = q at *
  have hxy : (decide (x = y) = true ∧ ((x : Int) == (y : Int)) = true ∧ (x == y) = true) ∨ (decide (x = y) = false ∧ ((x : Int) == (y : Int)) = false ∧ (x == y) = false) := by
    by_cases h : x = y
    · exact .inl ⟨decide_eq_true h, by rw [beq_iff_eq]; omega, by rw [beq_iff_eq]; exact h⟩
    · exact .inr ⟨decide_eq_false h, by rw [beq_eq_false_iff_ne]; omega, by rw [beq_eq_false_iff_ne]; exact h⟩
  obtain ⟨d, hd⟩ : ∃ d, d = decide (x = y) := ⟨_, rfl⟩
  rw [← hd]
  rw [← hd] at hxy
  clear hd
  go_enter Try.func25, Try.ntmps25
  go_wp2_with fail
  generalize w.alloc (.cells #[.int .i64 n, .slice A cl.length c] 26) = W at *
  refine (F1.out _ (HU.out.below BW.out)).mono ?_
  rintro e w1 ⟨rfl, hb1⟩
  have T1 := Lib.hid (T0.out.later hb1)
  have B1 := Lib.hid (below_all BW.out hb1)
  clear hb1 T0 BW
  obtain ⟨a0, a1⟩ := T1.out.cells
  go_wp2_with fail
  refine (F2.out _ (HU.out.below B1.out)).mono ?_
  rintro e w2 ⟨rfl, hb2⟩
  have B2 := Lib.hid (below_all B1.out hb2)
  clear hb2 B1 T1 a0 a1
  rcases hxy with ⟨rfl, h1, h2⟩ | ⟨rfl, h1, h2⟩
  · go_wp2_with fail
    go_ret
    exact ⟨rfl, B2.out⟩
  · cases p with
    | false =>
      go_wp2_with fail
      go_ret
      exact ⟨rfl, B2.out⟩
    | true =>
      go_wp2_with fail
      go_ret
      exact ⟨by cases q <;> rfl, B2.out⟩

set_option maxHeartbeats 4000000 in
theorem rWhich14_at (n : Nat) (u : Value) (g : List Nat) (w : World) (hu : Us w u g) (hg : Gf.Ok n g) : Calls Try.prog 14 #[.agg #[.int .i64 n, u]] w (RetElems w (Sc.which (Sc.tog n g) n)) := by
  obtain ⟨i0, hi0, hz0, hz1, hz2⟩ := info_parts int_info
  have I0 := Lib.hid hi0
  have I1 := Lib.hid hz0
  have I2 := Lib.hid hz1
  have I3 := Lib.hid hz2
  clear hi0 hz0 hz1 hz2
  have HU := Lib.hid hu
  have T0 := Lib.hid (Two.new w 26 (.int .i64 n) u)
  have BW := Lib.hid (alloc_below w (.cells #[.int .i64 n, u] 26))
  obtain ⟨A0, c0', rfl, -⟩ := hu.spelled
  have h64 := hg.1
  have FC := Lib.hid (fun w h => rClose13_at n (.slice A0 g.length c0') g w h hg)
  have HOC := Lib.hid (Rc.close_ok hg)
  have HE := Lib.hid (Sc.tog_eqv hg)
  have HTG : Hid (∀ x y, Sc.tog n g x y = (decide (x = y) || (Gf.bit (Rc.closeR n g) x y && Gf.bit (Rc.closeR n g) y x))) := fun x y => rfl
  clear hu hg
  generalize Sc.tog n g = t at *
  generalize Rc.closeR n g = cl at *
  have HZ : Hid (Sc.which t 0 = []) := rfl
  have HM0 := Lib.hid (Sc.many_zero (t := t))
  have HWL := Lib.hid (fun x => Sc.which_len (t := t) x)
  have HWA := Lib.hid (fun x y h => Sc.which_at (t := t) (n := x) (x := y) h)
  have HWN := Lib.hid (fun x => Sc.which_next (t := t) x)
  have HSZ := Lib.hid (fun x => Sc.seek_zero (t := t) x)
  have HSY := Lib.hid (fun x y h => Sc.seek_yes (t := t) (n := x) (y := y) h)
  have HSN := Lib.hid (fun x y h => Sc.seek_no (t := t) (n := x) (y := y) h)
  have HSA := Lib.hid (fun x => Sc.seek_all HE.out x)
  have HSL := Lib.hid (fun x => Sc.seek_lead HE.out x)
  have HMY := Lib.hid (fun x h => Sc.many_yes (t := t) (k := x) h)
  have HMN := Lib.hid (fun x h => Sc.many_no (t := t) (k := x) h)
  have HML := Lib.hid (fun x => Sc.many_le (t := t) x)
  go_enter Try.func14, Try.ntmps14
  go_wp2_with fail
  generalize w.alloc (.cells #[.int .i64 n, .slice A0 g.length c0'] 26) = W at *
  refine (FC.out _ (HU.out.below BW.out)).mono ?_
  rintro e w1 ⟨v1, rfl, hu1, hb1⟩
  obtain ⟨A1, c1, rfl⟩ := us_form hu1
  have b2 := alloc_below w1 (.cells #[.int .i64 n, .slice A1 cl.length c1] 26)
  have T2 := Lib.hid (T0.out.later (below_all hb1 b2))
  have B2 := Lib.hid (below_all BW.out (below_all hb1 b2))
  have U2 := Lib.hid (hu1.below b2)
  have C2 := Lib.hid (Two.new w1 26 (.int .i64 n) (.slice A1 cl.length c1))
  clear hb1 b2 hu1 T0 BW
  go_wp2_with fail
  generalize w1.alloc (.cells #[.int .i64 n, .slice A1 cl.length c1] 26) = w2 at *
  generalize w1.heap.size = oc at *
  have FT := Lib.hid (fun w x y h hx hy => rTog14_at n (.slice A1 cl.length c1) cl x y w h HOC.out hx hy)
  go_loopw [4, 5, 6] (fun v m i wr => ∃ (x k : Nat), x ≤ n ∧ i = .int .i64 x ∧ m = .int .i64 k ∧ k ≤ x ∧ Hid (k = Sc.many t x) ∧ Hid (wr.ownsRow w2.heap.size 3 1 v x ((Bi.nums (Sc.which t x)).flatMap nC)) ∧ Hid (Below w2.heap.size w2 wr)) (fun _ _ i _ => n - (intOf i).toNat)
  case atStart => exact ⟨0, 0, Nat.zero_le _, rfl, rfl, Nat.le_refl _, HM0.out.symm, by rw [HZ.out]; exact World.ownsRow_nil _ _ _ _, Below.refl _ _⟩
  case round =>
    obtain ⟨x, k, hx, rfl, rfl, hkx, HK, HO, HB⟩ := hrel
    obtain ⟨AV, cV, hv⟩ := own_form HO.out
    subst hv
    obtain ⟨a0, a1⟩ := (T2.out.later HB.out).cells
    by_cases hlt : x < n
    · go_wp2_with fail
      clear a0 a1
      generalize hwk : wr = WK at *
      clear hwk
      go_loopw [7, 8] (fun q i wq => ∃ (y s : Nat), y ≤ x ∧ i = .int .i64 y ∧ q = .int .i64 s ∧ Hid (s = Sc.seekTo t x y) ∧ Hid (Below WK.heap.size WK wq)) (fun _ i _ => x - (intOf i).toNat)
      case atStart => exact ⟨0, k, Nat.zero_le _, rfl, rfl, by rw [Hid, HSZ.out]; exact HK.out, Below.refl _ _⟩
      case round =>
        obtain ⟨y, s, hy, rfl, rfl, HS, HBQ⟩ := hrel
        by_cases hlty : y < x
        · obtain ⟨q0, q1⟩ := (C2.out.later (below_all HB.out HBQ.out)).cells
          have G := Lib.hid (fun w h => FT.out w x y h hlt (by omega))
          rw [← HTG.out x y] at G
          go_wp2_with fail
          refine (G.out _ (U2.out.below (below_all HB.out HBQ.out))).mono ?_
          rintro e w4 ⟨rfl, hb4⟩
          have HBQ2 := Lib.hid (below_all HBQ.out hb4)
          clear hb4 q0 q1
          cases ht : t x y with
          | false =>
            have HS2 := Lib.hid (HSN.out x y ht)
            go_wp2_with fail
            go_roundw
            case rel => exact ⟨y + 1, s, by omega, by go_num, rfl, by rw [Hid, HS2.out]; exact HS.out, HBQ2.out⟩
            case measure => simp [intOf]; omega
          | true =>
            have HS2 := Lib.hid (HSY.out x y ht)
            have hyw : y < (Sc.which t x).length := by rw [HWL.out]; exact hlty
            obtain ⟨AW, cW, hvv, hfw⟩ := (Ns.nums (l := Sc.which t x) (w := w4) (v := .slice AV x cV) (nums_own (base := w2.heap.size) (e := 3) (by rw [HWL.out]; exact own_below HO.out HBQ2.out)))
            rw [HWL.out] at hvv
            cases hvv
            obtain ⟨adw, rfl, hbw, hcw⟩ := hfw y hyw
            rw [HWA.out x y hyw] at hcw
            clear hfw ht
            go_wp2_with fail
            go_roundw
            case rel => exact ⟨y + 1, Sc.wh t y, by omega, by go_num, rfl, by rw [Hid, HS2.out], HBQ2.out⟩
            case measure => simp [intOf]; omega
        · have hyx : y = x := by omega
          subst hyx
          rw [HSA.out y] at HS
          have HSE := Lib.hid (HSL.out y)
          have HMY2 := Lib.hid (HMY.out y)
          have HMN2 := Lib.hid (HMN.out y)
          have hsb : s ≤ y := by have h1 := HS.out; have h2 := HML.out y; have h3 := Sc.wh_lt HE.out (x := y) (n := y + 1) (Nat.lt_succ_self y); have h4 := HML.out (y + 1); omega
          have HW2 : Hid (Sc.which t (y + 1) = Sc.which t y ++ [s]) := by rw [Hid, HWN.out, ← HS.out]
          have b5 := alloc_below wr (.cells #[.int .i64 (s : Int)] 3)
          have HO5 := Lib.hid (own_below HO.out (below_all HBQ.out b5))
          have HB5 := Lib.hid (below_all HB.out (below_all HBQ.out b5))
          have HNW := Lib.hid (new_nC wr (s : Int) 3)
          clear b5
          by_cases hsk : s = k
          · have hq : ((s : Int) == (k : Int)) = true := by rw [beq_iff_eq]; omega
            have hq2 : (s == k) = true := by rw [beq_iff_eq]; exact hsk
            have HL : Hid (Sc.isL t y = true) := HSE.out.1 (by rw [← HS.out, ← HK.out]; exact hsk)
            have HK2 : Hid (k + 1 = Sc.many t (y + 1)) := by rw [Hid, HMY2.out HL.out, ← HK.out]
            clear hsk
            go_wp2_with (at_builtin; refine wpList_append_own_at _ rfl _ _ 31 rfl w2.heap.size 3 i0 _ 1 8 Try.underlying31 I0.out I1.out I2.out I3.out rfl (by decide) _ y _ rfl HO5.out ⟨wr.heap.size, 0, none⟩ 1 1 (nC (s : Int)) rfl rfl HNW.out (one_nC _) (by simp only [maxLen]; omega) (by omega) HB5.out.size ?_; intro v6 w6 hown6 hgrow6 hnil6 hat6; have HO6 := Lib.hid hown6; have HB6 := Lib.hid (below_append HB5.out HB5.out.size HO5.out hgrow6); clear hown6 hgrow6 hnil6 hat6)
            go_roundw
            case rel => exact ⟨y + 1, k + 1, by omega, by go_num, by go_num, by omega, HK2.out, by rw [Hid, HW2.out, Bi.nums_snoc, flat_snoc]; exact HO6.out, HB6.out⟩
            case measure => simp [intOf]; omega
          · have hq : ((s : Int) == (k : Int)) = false := by rw [beq_eq_false_iff_ne]; omega
            have hq2 : (s == k) = false := by rw [beq_eq_false_iff_ne]; exact hsk
            have HL : Hid (Sc.isL t y = false) := by
              rw [Hid, ← Bool.not_eq_true]
              intro h
              have := HSE.out.2 h
              rw [← HS.out, ← HK.out] at this
              exact hsk this
            have HK2 : Hid (k = Sc.many t (y + 1)) := by rw [Hid, HMN2.out HL.out, ← HK.out]
            clear hsk
            go_wp2_with (at_builtin; refine wpList_append_own_at _ rfl _ _ 31 rfl w2.heap.size 3 i0 _ 1 8 Try.underlying31 I0.out I1.out I2.out I3.out rfl (by decide) _ y _ rfl HO5.out ⟨wr.heap.size, 0, none⟩ 1 1 (nC (s : Int)) rfl rfl HNW.out (one_nC _) (by simp only [maxLen]; omega) (by omega) HB5.out.size ?_; intro v6 w6 hown6 hgrow6 hnil6 hat6; have HO6 := Lib.hid hown6; have HB6 := Lib.hid (below_append HB5.out HB5.out.size HO5.out hgrow6); clear hown6 hgrow6 hnil6 hat6)
            go_roundw
            case rel => exact ⟨y + 1, k, by omega, by go_num, rfl, by omega, HK2.out, by rw [Hid, HW2.out, Bi.nums_snoc, flat_snoc]; exact HO6.out, HB6.out⟩
            case measure => simp [intOf]; omega
    · have hxn : x = n := by omega
      subst hxn
      go_wp2_with fail
      go_ret
      exact ⟨_, rfl, by rw [HWL.out]; exact HO.out.mono B2.out.size, below_all B2.out HB.out⟩

set_option maxHeartbeats 2000000 in
theorem rInner14_at (n : Nat) (u : Value) (g : List Nat) (w : World) (hu : Us w u g) (hg : Gf.Ok n g) : Calls Try.prog 15 #[.agg #[.int .i64 n, u]] w (RetElems w (Sc.innerR n g)) := by
  obtain ⟨i0, hi0, hz0, hz1, hz2⟩ := info_parts int_info
  have I0 := Lib.hid hi0
  have I1 := Lib.hid hz0
  have I2 := Lib.hid hz1
  have I3 := Lib.hid hz2
  clear hi0 hz0 hz1 hz2
  have HU := Lib.hid hu
  have T0 := Lib.hid (Two.new w 26 (.int .i64 n) u)
  have BW := Lib.hid (alloc_below w (.cells #[.int .i64 n, u] 26))
  obtain ⟨A0, c0', rfl, -⟩ := hu.spelled
  have h64 := hg.1
  have FC := Lib.hid (fun w h => rClose13_at n (.slice A0 g.length c0') g w h hg)
  have HOC := Lib.hid (Rc.close_ok hg)
  have HIN : Hid (Sc.innerR n g = (List.range n).filter fun x => Gf.bit (Rc.closeR n g) x x) := rfl
  clear hu hg
  generalize Rc.closeR n g = cl at *
  generalize Sc.innerR n g = res at *
  go_enter Try.func15, Try.ntmps15
  go_wp2_with fail
  generalize w.alloc (.cells #[.int .i64 n, .slice A0 g.length c0'] 26) = W at *
  refine (FC.out _ (HU.out.below BW.out)).mono ?_
  rintro e w1 ⟨v1, rfl, hu1, hb1⟩
  obtain ⟨A1, c1, rfl⟩ := us_form hu1
  have b2 := alloc_below w1 (.cells #[.int .i64 n, .slice A1 cl.length c1] 26)
  have T2 := Lib.hid (T0.out.later (below_all hb1 b2))
  have B2 := Lib.hid (below_all BW.out (below_all hb1 b2))
  have U2 := Lib.hid (hu1.below b2)
  have C2 := Lib.hid (Two.new w1 26 (.int .i64 n) (.slice A1 cl.length c1))
  clear hb1 b2 hu1 T0 BW
  go_wp2_with fail
  generalize w1.alloc (.cells #[.int .i64 n, .slice A1 cl.length c1] 26) = w2 at *
  generalize w1.heap.size = oc at *
  have FH := Lib.hid (fun w x h hw => rHas12_at n (.slice A1 cl.length c1) cl x (x : Int) w hw h (HOC.out.small (List.getElem_mem h)))
  have HLN := Lib.hid HOC.out.2.1
  have HBB : Hid (∀ x (h : x < cl.length), x < n → Bi.has cl[x] (x : Int) = Gf.bit cl x x) := fun x h hx => by
    rw [Bi.has_nat _ x (by omega), Gf.bit_at h]
  go_loopw [4, 5] (fun v i wr => ∃ (x : Nat) (d : List Nat), x ≤ n ∧ i = .int .i64 x ∧ d.length ≤ x ∧ Hid (d = (List.range x).filter fun x => Gf.bit cl x x) ∧ Hid (wr.ownsRow w2.heap.size 3 1 v d.length ((Bi.nums d).flatMap nC)) ∧ Hid (Below w2.heap.size w2 wr)) (fun _ i _ => n - (intOf i).toNat)
  case atStart => exact ⟨0, [], Nat.zero_le _, rfl, Nat.le_refl _, rfl, World.ownsRow_nil _ _ _ _, Below.refl _ _⟩
  case round =>
    obtain ⟨x, d, hx, rfl, hdl, HD, HO, HB⟩ := hrel
    obtain ⟨AV, cV, hv⟩ := own_form HO.out
    subst hv
    obtain ⟨a0, a1⟩ := (T2.out.later HB.out).cells
    by_cases hlt : x < n
    · have hxl : x < cl.length := by have := HLN.out; omega
      have G := Lib.hid (fun w hw => FH.out w x hxl hw)
      rw [HBB.out x hxl hlt] at G
      obtain ⟨q0, q1⟩ := (C2.out.later HB.out).cells
      have HNX : Hid ((List.range (x + 1)).filter (fun x => Gf.bit cl x x) = d ++ if Gf.bit cl x x = true then [x] else []) := by
        rw [Hid, List.range_succ, List.filter_append, ← HD.out]
        congr 1
        simp [List.filter_cons]
      cases hb : Gf.bit cl x x with
      | false =>
        rw [hb] at G HNX
        have HD2 : Hid (d = (List.range (x + 1)).filter fun x => Gf.bit cl x x) := by rw [Hid, HNX.out]; simp
        clear hb HNX
        go_wp2_with fail
        refine (G.out _ (U2.out.below HB.out)).mono ?_
        rintro e w4 ⟨rfl, hb4⟩
        have HO4 := Lib.hid (own_below HO.out hb4)
        have HB4 := Lib.hid (below_all HB.out hb4)
        go_wp2_with fail
        go_roundw
        case rel => exact ⟨x + 1, d, by omega, by go_num, by omega, HD2.out, HO4.out, HB4.out⟩
        case measure => simp [intOf]; omega
      | true =>
        rw [hb] at G HNX
        have HD2 : Hid (d ++ [x] = (List.range (x + 1)).filter fun x => Gf.bit cl x x) := by rw [Hid, HNX.out]; simp
        clear hb HNX
        go_wp2_with fail
        refine (G.out _ (U2.out.below HB.out)).mono ?_
        rintro e w4 ⟨rfl, hb4⟩
        have b5 := alloc_below w4 (.cells #[.int .i64 (x : Int)] 3)
        have HO5 := Lib.hid (own_below HO.out (below_all hb4 b5))
        have HB5 := Lib.hid (below_all HB.out (below_all hb4 b5))
        have HNW := Lib.hid (new_nC w4 (x : Int) 3)
        clear b5 hb4 q0 q1
        go_wp2_with (at_builtin; refine wpList_append_own_at _ rfl _ _ 31 rfl w2.heap.size 3 i0 _ 1 8 Try.underlying31 I0.out I1.out I2.out I3.out rfl (by decide) _ d.length _ rfl HO5.out ⟨w4.heap.size, 0, none⟩ 1 1 (nC (x : Int)) rfl rfl HNW.out (one_nC _) (by simp only [maxLen]; omega) (by omega) HB5.out.size ?_; intro v6 w6 hown6 hgrow6 hnil6 hat6; have HO6 := Lib.hid hown6; have HB6 := Lib.hid (below_append HB5.out HB5.out.size HO5.out hgrow6); clear hown6 hgrow6 hnil6 hat6)
        go_roundw
        case rel => exact ⟨x + 1, d ++ [x], by omega, by go_num, by simp; omega, HD2.out, nums_more HO6.out, HB6.out⟩
        case measure => simp [intOf]; omega
    · have hxn : x = n := by omega
      subst hxn
      have HR := Lib.hid (HIN.out.trans HD.out.symm)
      go_wp2_with fail
      go_ret
      exact ⟨_, rfl, by rw [HR.out]; exact HO.out.mono B2.out.size, below_all B2.out HB.out⟩
end Go.Proofs.Ytameeegmbpiiaaa
