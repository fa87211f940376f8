/-
  What the reference's Full of layer 18 answers.
  Conditions: choices that may be, of a history that may be.
-/
import Derived.Test.YtahacjfeopjbaaaChRefB
import Derived.Test.YtahacjfeopjbaaaChRefE
import Derived.Test.YtahacjfeopjbaaaKnRefD
set_option maxRecDepth 4000
namespace Go.Proofs.Ytahacjfeopjbaaa
open Go.RowKit

set_option maxHeartbeats 4000000 in
theorem rFull18_at (h : List So.Txn) (u : Value) (level : Int) (l : List (Int × Int × Int)) (v : Value) (w : World) (hv : Txns w u h) (hl : Tris w v l) (hr : Hi.Right h) (ho : ∀ c ∈ l, Ch.oneB h c = true) (hs : Ix.Small h) (hn : l.length ≤ 4294967296) : Calls Try.prog 20 #[.agg #[u], .int .i64 level, v] w (RetR w h.length (Ch.fullR (decide (level = 1)) h l)) := by
  have HV := Lib.hid hv
  have HL := Lib.hid hl
  obtain ⟨A0, c0', rfl, -⟩ := hv.spelled
  obtain ⟨B, d, rfl, -⟩ := hl.spelled
  have F1 := Lib.hid (fun w hv => rPast17_at h (.slice A0 h.length c0') w hv hr)
  have F2 := Lib.hid (fun w hv hl => rWw18_at h (.slice A0 h.length c0') l (.slice B l.length d) w hv hl hr ho hn)
  have F3 := Lib.hid (fun u v w hu hv => rUnion12_at h.length u v _ _ w hu hv (Kn.past_ok hr) (Ch.ww_ok (l := l) hr))
  have F4 := Lib.hid (fun w hv hl => rRw18_at h (.slice A0 h.length c0') l (.slice B l.length d) w hv hl hr ho hs hn)
  have HSL : Hid ((Kn.pastR h).length = h.length) := (Kn.past_ok hr).2.1
  have HWL : Hid ((Ch.wwR h l).length = h.length) := (Ch.ww_ok hr).2.1
  have HPL : Hid ((Gf.unionR h.length (Kn.pastR h) (Ch.wwR h l)).length = h.length) := (Ch.dir_ok hr).2.1
  have HRL : Hid ((Ch.rwR h l).length = h.length) := (Ch.rw_ok hr).2.1
  have HDO : Hid (Gf.Ok h.length (Gf.unionR h.length (Kn.pastR h) (Ch.wwR h l))) := Ch.dir_ok hr
  have HRO : Hid (Gf.Ok h.length (Ch.rwR h l)) := Ch.rw_ok hr
  have HCO : Hid (Gf.Ok h.length (Gf.composeR h.length (Gf.unionR h.length (Kn.pastR h) (Ch.wwR h l)) (Ch.rwR h l))) := Gf.build_ok (Kn.len64 hr) _
  have HF1 : Hid (level = 1 → Ch.fullR (decide (level = 1)) h l = Gf.unionR h.length (Gf.unionR h.length (Kn.pastR h) (Ch.wwR h l)) (Gf.composeR h.length (Gf.unionR h.length (Kn.pastR h) (Ch.wwR h l)) (Ch.rwR h l))) := fun e => by rw [decide_eq_true e]; rfl
  have HF0 : Hid (level ≠ 1 → Ch.fullR (decide (level = 1)) h l = Gf.unionR h.length (Gf.unionR h.length (Kn.pastR h) (Ch.wwR h l)) (Ch.rwR h l)) := fun e => by rw [decide_eq_false e]; rfl
  generalize Ch.fullR (decide (level = 1)) h l = res at *
  clear hv hl hr ho hs
  go_enter Try.func20, Try.ntmps20
  go_wp2_with fail
  obtain ⟨t0, t1, bw⟩ := kn_one w (.slice A0 h.length c0') rfl
  have T0 := Lib.hid t0
  have T1 := Lib.hid t1
  have BW := Lib.hid bw
  clear t0 t1 bw
  generalize (w.alloc (.cells #[.slice A0 h.length c0'] 24)).alloc (.cells #[.int .i64 0, .slice none 0 0] 30) = W at *
  have HK : Hid (∀ W', Below W.heap.size W W' → W'.cell? ⟨w.heap.size, 0, none⟩ = some (.slice A0 h.length c0')) := fun W' hb => st_stays hb T0.out.cell
  have D := Lib.hid (Below.refl W.heap.size W).drew
  refine wp_region_held_drew (S := fun W' => W'.cell? ⟨w.heap.size, 0, none⟩ = some (.slice A0 h.length c0')) (by kernel_rfl) (HK.out _ D.out) (fun hHeld => ?_)
  refine wpAnyH_take (i := 0) (oi := ({ dst := some 9, op := Op.load 24 (Operand.tmp 3), type := 24, pos := "ref.go:65", after := #[], guard := none } : Oper)) (v := ?_) rfl (by kernel_rfl) (by kernel_rfl) (by kernel_rfl) (fun _ _ _ h => h) (Or.inl ⟨by rfl, ?_⟩) (by assumption) ?_
  rotate_left
  · intro w hSw; (try dsimp only at hSw); go_simp
    try (with_reducible rfl)
  try simp only [Act.put, List.setIfInBounds_toArray, List.set_cons_zero, List.set_cons_succ]
  refine wpAnyH_take (i := 2) (oi := ({ dst := some 11, op := Op.load 24 (Operand.tmp 3), type := 24, pos := "ref.go:65", after := #[], guard := none } : Oper)) (v := ?_) rfl (by kernel_rfl) (by kernel_rfl) (by kernel_rfl) (fun _ _ _ h => h) (Or.inl ⟨by rfl, ?_⟩) (by assumption) ?_
  rotate_left
  · intro w hSw; (try dsimp only at hSw); go_simp
    try (with_reducible rfl)
  try simp only [Act.put, List.setIfInBounds_toArray, List.set_cons_zero, List.set_cons_succ]
  refine wpAnyH_take (i := 3) (oi := ({ dst := some 12, op := Op.move (Operand.tmp 2), type := 25, pos := "ref.go:65", after := #[], guard := none } : Oper)) (v := ?_) rfl (by kernel_rfl) (by kernel_rfl) (by kernel_rfl) (fun _ _ _ h => h) (Or.inl ⟨by rfl, ?_⟩) (by assumption) ?_
  rotate_left
  · intro w hSw; (try dsimp only at hSw); go_simp
    try (with_reducible rfl)
  try simp only [Act.put, List.setIfInBounds_toArray, List.set_cons_zero, List.set_cons_succ]
  refine anyOrder (fun listed a X => ∃ (c0 c1 c2 c3 c4 : Bool) (v0 v1 v2 v3 : Value), listed = #[true, c0, true, true, c1, c2, c3, c4] ∧ a = ⟨#[.agg #[.slice A0 h.length c0'], .int .i64 level, .slice B l.length d, .pointer (some ⟨w.heap.size, 0, none⟩), undef, undef, .pointer (some ⟨w.heap.size + 1, 0, none⟩), v3, undef, .agg #[.slice A0 h.length c0'], v0, .agg #[.slice A0 h.length c0'], .slice B l.length d, v1, v2, undef, undef, undef, undef, undef, undef, undef, undef, undef, undef, undef], []⟩ ∧ Hid (Pst W X h.length (Kn.pastR h) (Ch.wwR h l) (Gf.unionR h.length (Kn.pastR h) (Ch.wwR h l)) c0 c1 c2 c3 c4 v0 v1 v2 v3)) (by kernel_rfl) ?size ?fuel ?start ?fin ?step
  case size => rintro listed a X ⟨c0, c1, c2, c3, c4, v0, v1, v2, v3, rfl, -⟩; rfl
  case fuel => exact Nat.le_of_eq (by kernel_rfl)
  case start => exact ⟨false, false, false, false, false, undef, undef, undef, undef, by kernel_rfl, rfl, Pst.start D.out⟩
  case fin =>
    rintro listed a X ⟨c0, c1, c2, c3, c4, v0, v1, v2, v3, rfl, rfl, HP⟩ hall
    have h4 : c4 = true := hall 7 (by decide)
    obtain ⟨-, b, A, c, hv3, tb, ob⟩ := HP.out.st h4
    subst hv3
    have LOW := Lib.hid HP.out.low
    have TB := Lib.hid tb
    have OB := Lib.hid ob
    have hbX := tb.lt
    clear tb ob HP hall hHeld HK
    have b0 := (Boxed.later T0.out LOW.out).cell
    go_wp2_with fail
    refine (F4.out X (HV.out.below (below_all BW.out LOW.out)) (HL.out.below (below_all BW.out LOW.out))).mono ?_
    rintro e z ⟨v, rfl, hr1, hz⟩
    obtain ⟨A5, c5, rfl, hu5⟩ := own_is (k := h.length) hr1 HRL.out
    have b6 := alloc_below z (.cells #[.int .i64 (h.length : Int), .slice A5 h.length c5] 30)
    have TR5 := Lib.hid (Two.new z 30 (.int .i64 (h.length : Int)) (.slice A5 h.length c5))
    have U5 := Lib.hid (hu5.below b6)
    have TB5 := Lib.hid ((TB.out.later hz).later b6)
    have OB5 := Lib.hid ((OB.out.below hz).below b6)
    have LOW5 := Lib.hid (below_all LOW.out (below_all hz b6))
    have hzb : b < z.heap.size := Nat.lt_of_lt_of_le hbX hz.size
    have hWz : W.heap.size ≤ z.heap.size := Nat.le_trans LOW.out.size hz.size
    clear hr1 hu5 hz b6 b0 TB OB
    go_upto_region 3 with fail
    generalize z.alloc (.cells #[.int .i64 (h.length : Int), .slice A5 h.length c5] 30) = Z at *
    generalize z.heap.size = o5 at *
    have HW5 := Lib.hid (T1.out.later LOW5.out)
    have hwo : w.heap.size + 1 < W.heap.size := T1.out.lt
    have hwz := LOW5.out.size
    by_cases h1 : level = 1
    · have q1 : (level == 1) = true := by rw [beq_iff_eq]; exact h1
      have HRES := Lib.hid (HF1.out h1)
      clear h1 HF1 HF0
      obtain ⟨p0, p1⟩ := TB5.out.cells
      obtain ⟨s0, s1⟩ := TR5.out.cells
      go_wp2_with fail
      refine (rCompose12_at h.length _ _ _ _ Z OB5.out.us U5.out HDO.out HRO.out).mono ?_
      rintro e z2 ⟨v9, rfl, ho2, hz2⟩
      obtain ⟨A6, c6, rfl, -⟩ := own_is (k := h.length) ho2 HCO.out.2.1
      have hlt5 := TR5.out.lt
      have TR6 := TR5.out.later hz2
      have hne : (Value.slice A h.length c).ownBlock ≠ some o5 := fun e => own_not_two OB5.out TR5.out e
      have TRS := Lib.hid (TR6.put (x := .int .i64 (h.length : Int)) (y := .slice A6 h.length c6))
      have U6 := Lib.hid (own_setCell (own_setCell (show OwnU z2 Z.heap.size (.slice A6 h.length c6) _ from ho2) hlt5 (o := 0) (x := .int .i64 (h.length : Int))) hlt5 (o := 1) (x := .slice A6 h.length c6))
      have OB6 := Lib.hid (own_aside (o := 1) (u := .slice A6 h.length c6) (own_aside (o := 0) (u := .int .i64 (h.length : Int)) (OB5.out.below hz2) hne) hne)
      have TB6 := Lib.hid (two_far (two_far (TB5.out.later hz2) ⟨o5, 0, none⟩ (by show o5 ≠ b; omega) (.int .i64 (h.length : Int))) ⟨o5, 1, none⟩ (by show o5 ≠ b; omega) (.slice A6 h.length c6))
      have HW6 := Lib.hid (two_far (two_far (HW5.out.later hz2) ⟨o5, 0, none⟩ (by show o5 ≠ w.heap.size + 1; omega) (.int .i64 (h.length : Int))) ⟨o5, 1, none⟩ (by show o5 ≠ w.heap.size + 1; omega) (.slice A6 h.length c6))
      have LOW6 := Lib.hid (((below_all LOW5.out hz2).setCell (p := ⟨o5, 0, none⟩) (by show W.heap.size ≤ o5; omega) (.int .i64 (h.length : Int))).setCell (p := ⟨o5, 1, none⟩) (by show W.heap.size ≤ o5; omega) (.slice A6 h.length c6))
      have f0 := TR6.frozen 0
      have f1 := TR6.frozen 1
      obtain ⟨s0, s1⟩ := TR6.cells
      clear p0 p1 ho2 hz2 TR6 hne
      go_upto_region 5 with fail
      generalize (z2.setCell ⟨o5, 0, none⟩ (.int .i64 (h.length : Int))).setCell ⟨o5, 1, none⟩ (.slice A6 h.length c6) = Z2 at *
      obtain ⟨p0, p1⟩ := TB6.out.cells
      obtain ⟨s0, s1⟩ := TRS.out.cells
      go_wp2_with fail
      refine (rUnion12_at h.length _ _ _ _ Z2 OB6.out.us (show Us Z2 _ _ from OwnU.us U6.out) HDO.out HCO.out).mono ?_
      rintro e z3 ⟨v9, rfl, ho3, hz3⟩
      rw [← HRES.out] at ho3
      obtain ⟨A7, c7, rfl⟩ := ho3.form
      have TR7 := Lib.hid (HW6.out.later hz3)
      have O7 := Lib.hid ho3
      have LOW7 := Lib.hid (below_all BW.out (below_all LOW6.out hz3))
      have hlt7 := HW6.out.lt
      obtain ⟨r0, r1⟩ := TR7.out.cells
      have g0 := TR7.out.frozen 0
      have g1 := TR7.out.frozen 1
      clear p0 p1 s0 s1 f0 f1 ho3 hz3
      go_wp2_with fail
      exact end_r (p := 6) rfl TR7.out O7.out hlt7 LOW7.out (by omega) _ rfl
    · have q1 : (level == 1) = false := by rw [beq_eq_false_iff_ne]; exact h1
      have HRES := Lib.hid (HF0.out h1)
      clear h1 HF1 HF0
      obtain ⟨p0, p1⟩ := TB5.out.cells
      obtain ⟨s0, s1⟩ := TR5.out.cells
      go_wp2_with fail
      refine (rUnion12_at h.length _ _ _ _ Z OB5.out.us U5.out HDO.out HRO.out).mono ?_
      rintro e z3 ⟨v9, rfl, ho3, hz3⟩
      rw [← HRES.out] at ho3
      obtain ⟨A7, c7, rfl⟩ := ho3.form
      have TR7 := Lib.hid (HW5.out.later hz3)
      have O7 := Lib.hid ho3
      have LOW7 := Lib.hid (below_all BW.out (below_all LOW5.out hz3))
      have hlt7 := HW5.out.lt
      obtain ⟨r0, r1⟩ := TR7.out.cells
      have g0 := TR7.out.frozen 0
      have g1 := TR7.out.frozen 1
      clear p0 p1 s0 s1 ho3 hz3
      go_wp2_with fail
      exact end_r (p := 6) rfl TR7.out O7.out hlt7 LOW7.out (by omega) _ rfl
  case step =>
    intro i o ho listed a X hj hu haf K hK
    obtain ⟨c0, c1, c2, c3, c4, v0, v1, v2, v3, rfl, rfl, HP⟩ := hj
    have hi : i < 8 := (Array.getElem?_eq_some_iff.1 ho).1
    have hcases : i = 1 ∨ i = 4 ∨ i = 5 ∨ i = 6 ∨ i = 7 := by
      clear ho haf hK HP
      match i, hi, hu with
      | 0, _, h => cases h
      | 1, _, _ => simp
      | 2, _, h => cases h
      | 3, _, h => cases h
      | 4, _, _ => simp
      | 5, _, _ => simp
      | 6, _, _ => simp
      | 7, _, _ => simp
      | (k + 8), h, _ => omega
    clear hHeld
    rcases hcases with rfl | rfl | rfl | rfl | rfl
    · obtain rfl : ({ dst := some 10, op := Op.call { callee := Callee.value (Operand.func 49), args := #[Operand.tmp 9], argTypes := #[24] }, type := 30, pos := "ref.go:65", after := #[{ on := 0, ground := Ground.data }], guard := none } : Oper) = o := Option.some.inj ho
      have hu0 : c0 = false := hu
      have hc4 : c4 = false := by
        cases e : c4 with
        | false => rfl
        | true => exact absurd (HP.out.st e).1.1 (by rw [hu0]; simp)
      clear hu
      subst hc4 hu0
      clear ho haf
      go_simp
      go_at_call 49
      refine (F1.out X (HV.out.below (below_all BW.out HP.out.low))).mono ?_
      rintro e z ⟨v, rfl, hv, hz⟩
      obtain ⟨A, c, rfl, hus⟩ := own_is hv HSL.out
      have h1 := HP.out.later hz
      have HP2 : Hid (Pst W z h.length (Kn.pastR h) (Ch.wwR h l) (Gf.unionR h.length (Kn.pastR h) (Ch.wwR h l)) true c1 c2 c3 false (.agg #[.int .i64 (h.length : Int), .slice A h.length c]) v1 v2 v3) := ⟨h1.low, fun _ _ => ⟨A, c, rfl, hus⟩, h1.wr, h1.un, h1.al, (fun q => by cases q)⟩
      clear h1 hv hus hz HP
      try go_simp
      exact hK.out _ _ ⟨HK.out _ HP2.out.low, true, c1, c2, c3, false, _, v1, v2, v3, rfl, rfl, HP2.out⟩
    · obtain rfl : ({ dst := some 13, op := Op.call { callee := Callee.value (Operand.func 18), args := #[Operand.tmp 11, Operand.tmp 12], argTypes := #[24, 25] }, type := 30, pos := "ref.go:65", after := #[{ on := 2, ground := Ground.data }, { on := 3, ground := Ground.data }, { on := 1, ground := Ground.chain }], guard := none } : Oper) = o := Option.some.inj ho
      have hu0 : c1 = false := hu
      have hc4 : c4 = false := by
        cases e : c4 with
        | false => rfl
        | true => exact absurd (HP.out.st e).1.2.1 (by rw [hu0]; simp)
      clear hu
      subst hc4 hu0
      clear ho haf
      go_simp
      go_at_call 18
      refine (F2.out X (HV.out.below (below_all BW.out HP.out.low)) (HL.out.below (below_all BW.out HP.out.low))).mono ?_
      rintro e z ⟨v, rfl, hv, hz⟩
      obtain ⟨A, c, rfl, hus⟩ := own_is hv HWL.out
      have h1 := HP.out.later hz
      have HP2 : Hid (Pst W z h.length (Kn.pastR h) (Ch.wwR h l) (Gf.unionR h.length (Kn.pastR h) (Ch.wwR h l)) c0 true c2 c3 false v0 (.agg #[.int .i64 (h.length : Int), .slice A h.length c]) v2 v3) := ⟨h1.low, h1.so, fun _ _ => ⟨A, c, rfl, hus⟩, h1.un, h1.al, (fun q => by cases q)⟩
      clear h1 hv hus hz HP
      try go_simp
      exact hK.out _ _ ⟨HK.out _ HP2.out.low, c0, true, c2, c3, false, v0, _, v2, v3, rfl, rfl, HP2.out⟩
    · obtain rfl : ({ dst := some 14, op := Op.call { callee := Callee.value (Operand.func 48), args := #[Operand.tmp 10, Operand.tmp 13], argTypes := #[30, 30] }, type := 30, pos := "ref.go:65", after := #[{ on := 1, ground := Ground.data }, { on := 4, ground := Ground.data }, { on := 4, ground := Ground.chain }], guard := none } : Oper) = o := Option.some.inj ho
      have hu0 : c2 = false := hu
      have hc4 : c4 = false := by
        cases e : c4 with
        | false => rfl
        | true => exact absurd (HP.out.st e).1.2.2.1 (by rw [hu0]; simp)
      clear hu
      subst hc4 hu0
      have k0 : c0 = true := haf ⟨1, .data⟩ (by simp) rfl
      have k1 : c1 = true := haf ⟨4, .data⟩ (by simp) rfl
      obtain ⟨A1, d1, e1, u1⟩ := HP.out.so rfl k0
      obtain ⟨A2, d2, e2, u2⟩ := HP.out.wr rfl k1
      subst e1 e2
      have U1 := Lib.hid u1
      have U2 := Lib.hid u2
      clear ho haf k0 k1 u1 u2
      go_simp
      go_at_call 48
      refine (F3.out _ _ X U1.out U2.out).mono ?_
      rintro e z ⟨v, rfl, hv, hz⟩
      obtain ⟨A, c, rfl⟩ := hv.form
      rw [HPL.out] at hv
      have h1 := HP.out.later hz
      have hbs := HP.out.low.size
      have HP2 : Hid (Pst W z h.length (Kn.pastR h) (Ch.wwR h l) (Gf.unionR h.length (Kn.pastR h) (Ch.wwR h l)) c0 c1 true c3 false (.agg #[.int .i64 (h.length : Int), .slice A1 h.length d1]) (.agg #[.int .i64 (h.length : Int), .slice A2 h.length d2]) (.agg #[.int .i64 (h.length : Int), .slice A h.length c]) v3) := ⟨h1.low, h1.so, h1.wr, fun _ => ⟨A, c, rfl, World.ownsRow.mono hv hbs⟩, h1.al, (fun q => by cases q)⟩
      have HL2 : Hid (Value.slice A (Gf.unionR h.length (Kn.pastR h) (Ch.wwR h l)).length c = .slice A h.length c) := by rw [Hid, HPL.out]
      clear h1 hv hz HP hbs
      try go_simp
      exact hK.out _ _ ⟨HK.out _ HP2.out.low, c0, c1, true, c3, false, _, _, _, v3, rfl, (by rw [HL2.out]), HP2.out⟩
    · obtain rfl : ({ dst := some 7, op := Op.alloc 30, type := 0, pos := "ref.go:65", after := #[], guard := none } : Oper) = o := Option.some.inj ho
      have hu0 : c3 = false := hu
      have hc4 : c4 = false := by
        cases e : c4 with
        | false => rfl
        | true => exact absurd (HP.out.st e).1.2.2.2 (by rw [hu0]; simp)
      clear hu
      subst hc4 hu0
      clear ho haf
      have h1 := HP.out.later (alloc_below X (.cells #[.int .i64 0, .slice none 0 0] 30))
      have hbs := HP.out.low.size
      have HP2 : Hid (Pst W (X.alloc (.cells #[.int .i64 0, .slice none 0 0] 30)) h.length (Kn.pastR h) (Ch.wwR h l) (Gf.unionR h.length (Kn.pastR h) (Ch.wwR h l)) c0 c1 c2 true false v0 v1 v2 (.pointer (some ⟨X.heap.size, 0, none⟩))) := ⟨h1.low, h1.so, h1.wr, h1.un, fun _ _ => ⟨_, rfl, hbs, Two.new _ _ _ _⟩, (fun q => by cases q)⟩
      clear h1 hbs HP
      go_simp
      exact hK.out _ _ ⟨HK.out _ HP2.out.low, c0, c1, c2, true, false, v0, v1, v2, _, rfl, rfl, HP2.out⟩
    · obtain rfl : ({ dst := none, op := Op.store 30 (Operand.tmp 7) (Operand.tmp 14), type := 0, pos := "ref.go:65", after := #[{ on := 6, ground := Ground.data }, { on := 5, ground := Ground.data }, { on := 5, ground := Ground.chain }, { on := 0, ground := Ground.phase }, { on := 1, ground := Ground.phase }, { on := 2, ground := Ground.phase }, { on := 3, ground := Ground.phase }, { on := 4, ground := Ground.phase }, { on := 5, ground := Ground.phase }, { on := 6, ground := Ground.phase }], guard := none } : Oper) = o := Option.some.inj ho
      obtain rfl : c4 = false := hu
      have k2 : c2 = true := haf ⟨5, .data⟩ (by simp) rfl
      have k3 : c3 = true := haf ⟨6, .data⟩ (by simp) rfl
      obtain ⟨A, c, e2, ou⟩ := HP.out.un k2
      obtain ⟨b, e3, hbb, tb⟩ := HP.out.al k3 rfl
      have k0 : c0 = true := haf ⟨0 + 1, .phase⟩ (by simp) rfl
      have k1 : c1 = true := haf ⟨4, .phase⟩ (by simp) rfl
      subst e2 e3
      obtain ⟨p0, p1⟩ := tb.cells
      have f0 := tb.frozen 0
      have f1 := tb.frozen 1
      have hne : (Value.slice A h.length c).ownBlock ≠ some b := fun e => own_not_two ou tb e
      have HP2 : Hid (Pst W ((X.setCell ⟨b, 0, none⟩ (.int .i64 (h.length : Int))).setCell ⟨b, 1, none⟩ (.slice A h.length c)) h.length (Kn.pastR h) (Ch.wwR h l) (Gf.unionR h.length (Kn.pastR h) (Ch.wwR h l)) c0 c1 c2 c3 true v0 v1 (.agg #[.int .i64 (h.length : Int), .slice A h.length c]) (.pointer (some ⟨b, 0, none⟩))) :=
        ⟨(HP.out.low.setCell (p := ⟨b, 0, none⟩) hbb _).setCell (p := ⟨b, 1, none⟩) hbb _, fun q => (by cases q), fun q => (by cases q), fun _ => ⟨A, c, rfl, own_aside (own_aside ou hne) hne⟩, fun _ q => (by cases q), fun _ => ⟨⟨k0, k1, k2, k3⟩, b, A, c, rfl, tb.put, own_aside (own_aside ou hne) hne⟩⟩
      clear ho haf k0 k1 k2 k3 ou tb hne HP hbb
      go_simp
      exact hK.out _ _ ⟨HK.out _ HP2.out.low, c0, c1, c2, c3, true, v0, v1, _, _, rfl, rfl, HP2.out⟩
end Go.Proofs.Ytahacjfeopjbaaa
