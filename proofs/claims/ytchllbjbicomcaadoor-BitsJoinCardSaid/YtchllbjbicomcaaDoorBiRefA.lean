/-
  What the reference's functions of layer 10 answer: Power, In, Has, With, Without, Of, List, Least, Sub, Join; what was in memory stays as it was.
  Conditions: sets are below 2^64; a row has at most 2^32 elements.
-/
import Derived.Test.YtchllbjbicomcaaDoorBiMem
import Derived.Test.YtchllbjbicomcaaDoorSoAll
set_option maxRecDepth 4000
namespace Go.Proofs.YtchllbjbicomcaaDoor
open Go.RowKit

theorem Bi.ok_cases (i : Int) : (decide (0 ≤ i) = false ∧ Bi.ok i = false) ∨ (decide (0 ≤ i) = true ∧ decide (i ≤ 63) = Bi.ok i) := by
  by_cases h : 0 ≤ i
  · refine .inr ⟨decide_eq_true h, ?_⟩
    rw [Bi.ok, decide_eq_true h, Bool.true_and]
    exact decide_eq_decide.2 (by omega)
  · refine .inl ⟨decide_eq_false h, ?_⟩
    rw [Bi.ok, decide_eq_false h, Bool.false_and]
theorem Bi.pow_twice {k : Nat} (h : k + 1 < 64) : IntKind.u64.wrap (((2 ^ k : Nat) : Int) + ((2 ^ k : Nat) : Int)) = ((2 ^ (k + 1) : Nat) : Int) := by
  have h2 := Bi.pow_lt h
  rw [Nat.pow_succ] at h2 ⊢
  rw [IntKind.wrap_u64]
  generalize 2 ^ k = p at *
  omega

theorem rIn10_at (i : Int) (w : World) : Calls Tryd.prog 27 #[.int .i64 i] w fun e w' => e = .returned (.bool (Bi.ok i)) ∧ w' = w := by
  rcases Bi.ok_cases i with ⟨h0, h1⟩ | ⟨h0, h1⟩
  · rw [h1]
    go_enter Tryd.func27, Tryd.ntmps27
    go_wp2
    go_ret
    exact ⟨rfl, rfl⟩
  · go_enter Tryd.func27, Tryd.ntmps27
    go_wp2
    go_ret
    exact ⟨rfl, rfl⟩
theorem rPower_at (n : Nat) (hn : n < 64) (w : World) : Calls Tryd.prog 30 #[.int .i64 n] w fun e w' => e = .returned (.int .u64 (2 ^ n : Nat)) ∧ w' = w := by
  go_enter Tryd.func30, Tryd.ntmps30
  go_wp2_with fail
  go_loopw [3, 4] (fun s i wr => ∃ (k p : Nat), k ≤ n ∧ i = .int .i64 k ∧ s = .int .u64 p ∧ Hid (p = 2 ^ k) ∧ wr = w) (fun _ i _ => n - (intOf i).toNat)
  case atStart => exact ⟨0, 1, Nat.zero_le _, rfl, rfl, rfl, rfl⟩
  case round =>
    obtain ⟨k, p, hk, rfl, rfl, HP, rfl⟩ := hrel
    by_cases hlt : k < n
    · have h2 := Bi.pow_twice (k := k) (by omega)
      rw [← HP.out] at h2
      generalize hq : 2 ^ (k + 1) = q at *
      go_wp2_with fail
      go_roundw
      case rel => exact ⟨k + 1, q, by omega, by go_num, rfl, hq.symm, trivial⟩
      case measure => simp [intOf]; omega
    · obtain rfl : k = n := by omega
      go_wp2_with fail
      go_ret
      have e := HP.out
      subst e
      exact ⟨rfl, rfl⟩
theorem rHas10_at (s : Nat) (i : Int) (w : World) (hs : s < 18446744073709551616) : Calls Tryd.prog 21 #[.int .u64 s, .int .i64 i] w fun e w' => e = .returned (.bool (Bi.has s i)) ∧ w' = w := by
  cases h : Bi.ok i with
  | false =>
    rw [Bi.has_no h]
    go_enter Tryd.func21, Tryd.ntmps21
    go_wp2_with fail
    refine (rIn10_at i _).mono ?_
    rintro e w1 ⟨rfl, rfl⟩
    rw [h]
    go_wp2_with fail
    go_ret
    exact ⟨rfl, rfl⟩
  | true =>
    obtain ⟨k, rfl, hk⟩ := Bi.ok_nat h
    have key : ((IntKind.u64.wrap ((s : Int) / ((2 ^ k : Nat) : Int))).tmod 2 == 1) = Bi.has s (k : Int) := by
      rw [Bi.has_nat s k hk, Bi.has_div]
      generalize 2 ^ k = p
      have e : IntKind.u64.wrap ((s : Int) / (p : Int)) = ((s / p : Nat) : Int) := by
        have h1 := Nat.div_le_self s p
        rw [← Int.natCast_ediv, IntKind.wrap_u64]
        generalize s / p = y at *
        omega
      rw [e]
      generalize s / p = y
      rw [Int.tmod_eq_emod_of_nonneg (by omega)]
      cases hd : decide (y % 2 = 1) with
      | true => have := of_decide_eq_true hd; rw [beq_iff_eq]; omega
      | false =>
        have := of_decide_eq_false hd
        rw [beq_eq_false_iff_ne]
        omega
    have hpos := Nat.two_pow_pos k
    have hlt := Bi.pow_lt hk
    have HP := Lib.hid (fun w => rPower_at k hk w)
    generalize Bi.has s (k : Int) = b at *
    generalize 2 ^ k = p at *
    have hp0 : ((p : Nat) : Int) ≠ 0 := by omega
    go_enter Tryd.func21, Tryd.ntmps21
    go_wp2_with fail
    refine (rIn10_at k _).mono ?_
    rintro e w1 ⟨rfl, rfl⟩
    rw [h]
    go_wp2_with fail
    refine (HP.out _).mono ?_
    rintro e w1 ⟨rfl, rfl⟩
    go_wp2_with fail
    go_ret
    exact ⟨rfl, rfl⟩
theorem rWith10_at (s : Nat) (i : Int) (w : World) (hs : s < 18446744073709551616) : Calls Tryd.prog 17 #[.int .u64 s, .int .i64 i] w fun e w' => e = .returned (.int .u64 (Bi.withN s i : Nat)) ∧ w' = w := by
  cases hh : Bi.has s i with
  | true =>
    rw [Bi.with_there hh]
    go_enter Tryd.func17, Tryd.ntmps17
    go_wp2_with fail
    refine (rHas10_at s i _ hs).mono ?_
    rintro e w1 ⟨rfl, rfl⟩
    rw [hh]
    go_wp2_with fail
    go_ret
    exact ⟨rfl, rfl⟩
  | false =>
    cases h : Bi.ok i with
    | false =>
      rw [Bi.with_no h]
      go_enter Tryd.func17, Tryd.ntmps17
      go_wp2_with fail
      refine (rHas10_at s i _ hs).mono ?_
      rintro e w1 ⟨rfl, rfl⟩
      rw [hh]
      go_wp2_with fail
      refine (rIn10_at i _).mono ?_
      rintro e w1 ⟨rfl, rfl⟩
      rw [h]
      go_wp2_with fail
      go_ret
      exact ⟨rfl, rfl⟩
    | true =>
      obtain ⟨k, rfl, hk⟩ := Bi.ok_nat h
      have hb : s.testBit k = false := by rw [← Bi.has_nat s k hk]; exact hh
      have hw := Bi.with_lt hs (k : Int)
      have key : IntKind.u64.wrap ((s : Int) + ((2 ^ k : Nat) : Int)) = ((Bi.withN s (k : Int) : Nat) : Int) := by
        rw [Bi.with_add hk hb] at hw ⊢
        rw [IntKind.wrap_u64]
        generalize 2 ^ k = p at *
        omega
      have HP := Lib.hid (fun w => rPower_at k hk w)
      generalize Bi.withN s (k : Int) = b at *
      generalize 2 ^ k = p at *
      go_enter Tryd.func17, Tryd.ntmps17
      go_wp2_with fail
      refine (rHas10_at s k _ hs).mono ?_
      rintro e w1 ⟨rfl, rfl⟩
      rw [hh]
      go_wp2_with fail
      refine (rIn10_at k _).mono ?_
      rintro e w1 ⟨rfl, rfl⟩
      rw [h]
      go_wp2_with fail
      refine (HP.out _).mono ?_
      rintro e w1 ⟨rfl, rfl⟩
      go_wp2_with fail
      go_ret
      exact ⟨rfl, rfl⟩
theorem rWithout10_at (s : Nat) (i : Int) (w : World) (hs : s < 18446744073709551616) : Calls Tryd.prog 19 #[.int .u64 s, .int .i64 i] w fun e w' => e = .returned (.int .u64 (Bi.without s i : Nat)) ∧ w' = w := by
  cases hh : Bi.has s i with
  | false =>
    rw [Bi.without_no hh]
    go_enter Tryd.func19, Tryd.ntmps19
    go_wp2_with fail
    refine (rHas10_at s i _ hs).mono ?_
    rintro e w1 ⟨rfl, rfl⟩
    rw [hh]
    go_wp2_with fail
    go_ret
    exact ⟨rfl, rfl⟩
  | true =>
    have h : Bi.ok i = true := by rw [Bi.has, Bool.and_eq_true] at hh; exact hh.1
    obtain ⟨k, rfl, hk⟩ := Bi.ok_nat h
    have hb : s.testBit k = true := by rw [← Bi.has_nat s k hk]; exact hh
    have hle := (Bi.sub_bit hb).2.2
    have key : IntKind.u64.wrap ((s : Int) - ((2 ^ k : Nat) : Int)) = ((Bi.without s (k : Int) : Nat) : Int) := by
      rw [Bi.without_nat hk hb, IntKind.wrap_u64]
      generalize 2 ^ k = p at *
      omega
    have HP := Lib.hid (fun w => rPower_at k hk w)
    generalize Bi.without s (k : Int) = b at *
    generalize 2 ^ k = p at *
    go_enter Tryd.func19, Tryd.ntmps19
    go_wp2_with fail
    refine (rHas10_at s k _ hs).mono ?_
    rintro e w1 ⟨rfl, rfl⟩
    rw [hh]
    go_wp2_with fail
    refine (HP.out _).mono ?_
    rintro e w1 ⟨rfl, rfl⟩
    go_wp2_with fail
    go_ret
    exact ⟨rfl, rfl⟩

set_option maxHeartbeats 1000000 in
theorem rOf_at (l : List Int) (u : Value) (w : World) (hu : Ns w u l) (hl : l.length ≤ 4294967296) : Calls Tryd.prog 9 #[u] w fun e w' => e = .returned (.tuple #[.int .u64 ((Bi.ofR l).1 : Nat), .int .i64 (Bi.ofR l).2]) ∧ w' = w := by
  obtain ⟨A, c, rfl, hf⟩ := hu.spelled
  have HF := Lib.hid hf
  have HO := Lib.hid (fun h => @Bi.of_all l h)
  have HX := Lib.hid (fun k h hb => @Bi.of_bad l k h hb)
  clear hf hu
  generalize Bi.ofR l = r at *
  go_enter Tryd.func9, Tryd.ntmps9
  go_wp2_with fail
  go_loopw [4, 5] (fun s i wr => ∃ k : Nat, k ≤ l.length ∧ i = .int .i64 k ∧ s = .int .u64 (Bi.foldTo l k : Nat) ∧ Hid (Bi.allTo l k = true) ∧ wr = w) (fun _ i _ => l.length - (intOf i).toNat)
  case atStart => exact ⟨0, Nat.zero_le _, rfl, rfl, rfl, rfl⟩
  case round =>
    obtain ⟨k, hk, rfl, rfl, HA, rfl⟩ := hrel
    by_cases hlt : k < l.length
    · obtain ⟨ad, rfl, hblk, hE⟩ := HF.out k hlt
      have hfl := Bi.foldTo_lt l k
      have HN := Lib.hid (Bi.foldTo_next hlt)
      have HAN := Lib.hid (Bi.allTo_next hlt)
      have HB := Lib.hid (HX.out k hlt)
      generalize l[k]'hlt = x at *
      cases hx : Bi.ok x with
      | false =>
        have hr := HB.out hx
        subst hr
        go_wp2_with fail
        refine (rIn10_at x _).mono ?_
        rintro e w1 ⟨rfl, rfl⟩
        rw [hx]
        go_wp2_with fail
        go_ret2
        exact ⟨rfl, rfl⟩
      | true =>
        rw [hx] at HAN
        go_wp2_with fail
        refine (rIn10_at x _).mono ?_
        rintro e w1 ⟨rfl, rfl⟩
        rw [hx]
        go_wp2_with fail
        refine (rWith10_at _ x _ hfl).mono ?_
        rintro e w1 ⟨rfl, rfl⟩
        go_wp2_with fail
        go_roundw
        case rel => exact ⟨k + 1, by omega, by go_num, by rw [HN.out], by rw [Hid, HAN.out, HA.out]; rfl, trivial⟩
        case measure => simp [intOf]; omega
    · obtain rfl : k = l.length := by omega
      have hr := HO.out HA.out
      subst hr
      go_wp2_with fail
      go_ret2
      exact ⟨rfl, rfl⟩

set_option maxHeartbeats 1000000 in
theorem rList_at (s : Nat) (w : World) (hs : s < 18446744073709551616) : Calls Tryd.prog 10 #[.int .u64 s] w (RetElems w (Bi.list s)) := by
  obtain ⟨i0, hi0, hz0, hz1, hz2⟩ := info_parts int_info
  have I0 := Lib.hid hi0
  have I1 := Lib.hid hz0
  have I2 := Lib.hid hz1
  have I3 := Lib.hid hz2
  clear hi0 hz0 hz1 hz2
  go_enter Tryd.func10, Tryd.ntmps10
  go_wp2_with fail
  go_loopw [3, 4] (fun v i wr => ∃ (k : Nat) (d : List Nat), k ≤ 64 ∧ i = .int .i64 k ∧ d.length ≤ k ∧ Hid (d = Bi.listTo s k) ∧ wr.ownsRow w.heap.size 3 1 v d.length ((Bi.nums d).flatMap nC) ∧ Hid (Below w.heap.size w wr)) (fun _ i _ => 64 - (intOf i).toNat)
  case atStart => exact ⟨0, [], Nat.zero_le _, rfl, Nat.le_refl _, rfl, World.ownsRow_nil _ _ _ _, Below.refl _ _⟩
  case round =>
    obtain ⟨k, d, hk, rfl, hdl, HD, hown, HB⟩ := hrel
    have HW := Lib.hid hown
    obtain ⟨A', cp, rfl⟩ := own_form hown
    clear hown
    by_cases hlt : k < 64
    · have HYes := Lib.hid (fun q => @Bi.listTo_yes s k q)
      have HNo := Lib.hid (fun q => @Bi.listTo_no s k q)
      have hh := Bi.has_nat s k hlt
      go_wp2_with fail
      refine (rHas10_at s (k : Int) _ hs).mono ?_
      rintro e w2 ⟨rfl, rfl⟩
      rw [hh]
      cases hg : s.testBit k with
      | false =>
        have HD2 : Hid (d = Bi.listTo s (k + 1)) := by rw [Hid, HNo.out hg]; exact HD.out
        clear hg hh
        go_wp2_with fail
        go_roundw
        case rel => exact ⟨k + 1, d, by omega, by go_num, by omega, HD2, HW.out, HB⟩
        case measure => simp [intOf]; omega
      | true =>
        have HD2 : Hid (d ++ [k] = Bi.listTo s (k + 1)) := by rw [Hid, HYes.out hg, ← HD.out]
        have HW2 := Lib.hid (HW.out.alloc (.cells #[.int .i64 (k : Int)] 3))
        have HB2 := Lib.hid (below_all HB.out (alloc_below w2 (.cells #[.int .i64 (k : Int)] 3)))
        have HN := Lib.hid (new_nC w2 (k : Int) 3)
        clear hg hh
        go_wp2_with (at_builtin; refine wpList_append_own_at _ rfl _ _ 22 rfl w.heap.size 3 i0 _ 1 8 Tryd.underlying22 I0.out I1.out I2.out I3.out rfl (by decide) _ d.length _ rfl HW2.out ⟨w2.heap.size, 0, none⟩ 1 1 (nC (k : Int)) rfl rfl HN.out (one_nC _) (by simp only [maxLen]; omega) (by omega) HB2.out.size ?_; intro v2 w3 hown2 hgrow2 hnil2 hat2; have HO2 := Lib.hid hown2; have HB3 := Lib.hid (below_append HB2.out HB2.out.size HW2.out hgrow2); clear hown2 hgrow2 hnil2 hat2)
        go_roundw
        case rel => exact ⟨k + 1, d ++ [k], by omega, by go_num, by simp; omega, HD2, nums_more HO2.out, HB3⟩
        case measure => simp [intOf]; omega
    · obtain rfl : k = 64 := by omega
      go_wp2_with fail
      go_ret
      refine ⟨_, rfl, ?_, HB.out⟩
      rw [show Bi.list s = d from HD.out.symm]
      exact HW.out

theorem rLeast_at (s : Nat) (w : World) (hs : s < 18446744073709551616) : Calls Tryd.prog 14 #[.int .u64 s] w fun e w' => e = .returned (.int .i64 (Bi.least s)) ∧ Below w.heap.size w w' := by
  have HN := Lib.hid (fun q => @Bi.least_nil s q)
  have HC := Lib.hid (fun k r q => @Bi.least_cons s k r q)
  generalize Bi.least s = z at *
  go_enter Tryd.func14, Tryd.ntmps14
  go_wp2_with fail
  refine (rList_at s _ hs).mono ?_
  rintro e w1 ⟨v, rfl, ho, hb⟩
  have HB := Lib.hid hb
  obtain ⟨A, c, rfl, hf⟩ := (nums_own ho).nums
  have HF := Lib.hid hf
  clear ho hb hf
  cases hl : Bi.list s with
  | nil =>
    have hz := HN.out hl
    subst hz
    go_wp2_with fail
    go_ret
    exact ⟨rfl, HB.out⟩
  | cons k r =>
    have hz := HC.out k r hl
    subst hz
    have hlen : 0 < (k :: r).length := by simp
    obtain ⟨ad, rfl, hblk, hE⟩ := HF.out 0 (by rw [hl]; exact hlen)
    have hk0 : (Bi.list s)[0]'(by rw [hl]; exact hlen) = k := by simp [hl]
    rw [hk0, add_zero'] at hE
    have hne : ((((k :: r).length : Nat) : Int) == 0) = false := by simp; omega
    clear hk0
    generalize (k :: r).length = m at *
    go_wp2_with fail
    go_ret
    exact ⟨rfl, HB.out⟩

set_option maxHeartbeats 1000000 in
theorem rSub_at (a b : Nat) (w : World) (ha : a < 18446744073709551616) (hb : b < 18446744073709551616) : Calls Tryd.prog 25 #[.int .u64 a, .int .u64 b] w (RetBool w (Bi.sub a b)) := by
  go_enter Tryd.func25, Tryd.ntmps25
  go_wp2_with fail
  refine (rList_at a _ ha).mono ?_
  rintro e w1 ⟨v, rfl, ho, hb1⟩
  have HB := Lib.hid hb1
  obtain ⟨A, c, rfl, hf⟩ := (nums_own ho).nums
  have HF := Lib.hid hf
  have HL := Lib.hid (show Bi.sub a b = (Bi.list a).all b.testBit from rfl)
  have HM := Lib.hid (fun k (h : k < (Bi.list a).length) => (Bi.mem_list.1 (List.getElem_mem h)).1)
  have hlen := Bi.list_len a
  clear ho hb1 hf
  generalize Bi.sub a b = r at *
  generalize Bi.list a = l at *
  go_wp2_with fail
  go_loopw [6] (fun i wr => ∃ k : Nat, k ≤ l.length ∧ i = .int .i64 k ∧ Hid (∀ x ∈ l.take k, b.testBit x = true) ∧ wr = w1) (fun i _ => l.length - (intOf i).toNat)
  case atStart => exact ⟨0, Nat.zero_le _, rfl, (fun x hx => by cases hx), rfl⟩
  case round =>
    obtain ⟨k, hk, rfl, HA, rfl⟩ := hrel
    by_cases hlt : k < l.length
    · obtain ⟨ad, rfl, hblk, hE⟩ := HF.out k hlt
      have hh := Bi.has_nat b (l[k]'hlt) (HM.out k hlt)
      obtain ⟨x, hx⟩ : ∃ x, x = l[k]'hlt := ⟨_, rfl⟩
      have HX := Lib.hid hx
      rw [← hx] at hE hh
      clear hx
      go_wp2_with fail
      refine (rHas10_at b (x : Int) _ hb).mono ?_
      rintro e w2 ⟨rfl, rfl⟩
      rw [hh]
      cases hg : b.testBit x with
      | false =>
        have hr : r = false := by
          rw [HL.out, List.all_eq_false]
          exact ⟨x, by rw [HX.out]; exact List.getElem_mem hlt, by rw [hg]; simp⟩
        clear hg hh
        subst hr
        go_wp2_with fail
        go_ret
        exact ⟨rfl, HB.out⟩
      | true =>
        have HA2 : Hid (∀ y ∈ l.take (k + 1), b.testBit y = true) := by
          intro y hy
          rw [List.take_succ_eq_append_getElem hlt, List.mem_append, List.mem_singleton] at hy
          rcases hy with h | h
          · exact HA.out y h
          · rw [h, ← HX.out]; exact hg
        clear hg hh
        go_wp2_with fail
        go_roundw
        case rel => exact ⟨k + 1, by omega, by go_num, HA2, trivial⟩
        case measure => simp [intOf]; omega
    · obtain rfl : k = l.length := by omega
      have hr : r = true := by
        rw [HL.out, List.all_eq_true]
        intro x hx
        exact HA.out x (by rw [List.take_length]; exact hx)
      subst hr
      go_wp2_with fail
      go_ret
      exact ⟨rfl, HB.out⟩

/-! All numbers of a set, put into another one, one by one. -/
def Bi.putTo (s : Nat) (l : List Nat) (k : Nat) : Nat := (Bi.nums (l.take k)).foldl Bi.withN s
theorem Bi.putTo_zero (s : Nat) (l : List Nat) : Bi.putTo s l 0 = s := rfl
theorem Bi.putTo_next {s : Nat} {l : List Nat} {k : Nat} (h : k < l.length) : Bi.putTo s l (k + 1) = Bi.withN (Bi.putTo s l k) (l[k] : Int) := by
  unfold Bi.putTo
  rw [List.take_succ_eq_append_getElem h, Bi.nums_snoc, List.foldl_append]
  rfl
theorem Bi.putTo_lt {s : Nat} (hs : s < 18446744073709551616) (l : List Nat) (k : Nat) : Bi.putTo s l k < 18446744073709551616 := Bi.fold_lt _ hs
theorem Bi.putTo_all {s x : Nat} (hs : s < 18446744073709551616) (hx : x < 18446744073709551616) : Bi.putTo s (Bi.list x) (Bi.list x).length = s ||| x := by
  unfold Bi.putTo
  rw [List.take_length]
  exact Bi.or_list hs hx

set_option maxHeartbeats 2000000 in
theorem rJoin_at (l : List Nat) (u : Value) (w : World) (hu : Us w u l) (hl : l.length ≤ 4294967296) (hs : ∀ x ∈ l, x < 18446744073709551616) : Calls Tryd.prog 24 #[u] w fun e w' => e = .returned (.int .u64 (Bi.join l : Nat)) ∧ Below w.heap.size w w' := by
  obtain ⟨A, c, rfl, hf⟩ := hu.spelled
  have HF := Lib.hid hf
  have HS := Lib.hid hs
  have HJ := Lib.hid (Bi.joinTo_all l)
  clear hf hu hs
  generalize Bi.join l = j at *
  go_enter Tryd.func24, Tryd.ntmps24
  go_wp2_with fail
  go_loopw [3, 4] (fun s i wr => ∃ (k p : Nat), k ≤ l.length ∧ i = .int .i64 k ∧ s = .int .u64 p ∧ Hid (p = Bi.joinTo l k) ∧ Hid (Below w.heap.size w wr)) (fun _ i _ => l.length - (intOf i).toNat)
  case atStart => exact ⟨0, 0, Nat.zero_le _, rfl, rfl, rfl, Below.refl _ _⟩
  case round =>
    obtain ⟨k, p, hk, rfl, rfl, HP, HB⟩ := hrel
    by_cases hlt : k < l.length
    · obtain ⟨ad, rfl, hblk, hE0⟩ := HF.out k hlt
      have hE := (HB.out.cell (by rw [add_block]; exact hblk)).trans hE0
      clear hE0
      have hp : p < 18446744073709551616 := by rw [HP.out]; exact Bi.joinTo_lt HS.out k
      have hx := HS.out _ (List.getElem_mem hlt)
      have HN := Lib.hid (Bi.joinTo_next hlt)
      generalize l[k]'hlt = x at *
      go_wp2_with fail
      refine (rList_at x _ hx).mono ?_
      rintro e w1 ⟨v, rfl, ho, hb1⟩
      have HB1 := Lib.hid (below_all HB.out hb1)
      obtain ⟨A1, c1, rfl, hf1⟩ := (nums_own ho).nums
      have HF1 := Lib.hid hf1
      have hlen := Bi.list_len x
      have HA := Lib.hid (Bi.putTo_all hp hx)
      clear ho hb1 hf1
      generalize hm : Bi.list x = m at *
      clear hm
      go_wp2_with fail
      go_loopw [3, 6] (fun s i wq => ∃ (h q : Nat), h ≤ m.length ∧ i = .int .i64 h ∧ s = .int .u64 q ∧ Hid (q = Bi.putTo p m h) ∧ wq = w1) (fun _ i _ => m.length - (intOf i).toNat)
      case atStart => exact ⟨0, p, Nat.zero_le _, rfl, rfl, rfl, rfl⟩
      case round =>
        obtain ⟨h, q, hh, rfl, rfl, HQ, rfl⟩ := hrel
        by_cases hlt2 : h < m.length
        · obtain ⟨ad2, rfl, hblk2, hE2⟩ := HF1.out h hlt2
          have hq : q < 18446744073709551616 := by rw [HQ.out]; exact Bi.putTo_lt hp m h
          have HN2 := Lib.hid (Bi.putTo_next (s := p) hlt2)
          generalize m[h]'hlt2 = y at *
          go_wp2_with fail
          refine (rWith10_at q (y : Int) _ hq).mono ?_
          rintro e w2 ⟨rfl, rfl⟩
          go_wp2_with fail
          go_roundw
          case rel => exact ⟨h + 1, _, by omega, by go_num, rfl, by rw [Hid, HN2.out, ← HQ.out], trivial⟩
          case measure => simp [intOf]; omega
        · obtain rfl : h = m.length := by omega
          have HQ2 : Hid (q = Bi.joinTo l (k + 1)) := by rw [Hid, HN.out, ← HP.out, ← HA.out]; exact HQ.out
          go_wp2_with fail
          go_roundw
          case rel => exact ⟨k + 1, q, by omega, by go_num, rfl, HQ2, HB1⟩
          case measure => simp [intOf]; omega
    · obtain rfl : k = l.length := by omega
      have hr : j = p := by rw [HP.out, HJ.out]
      subst hr
      go_wp2_with fail
      go_ret
      exact ⟨rfl, HB.out⟩
end Go.Proofs.YtchllbjbicomcaaDoor
