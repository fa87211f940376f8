/-
  What graph's functions that make nothing answer: mayCount, nodesOf, isNode, Right, match, Has.
  Conditions: rows hold sets below 2^64.
-/
import Derived.Test.YtcpiaddohiokkaaGfMem
import Derived.Test.YtcpiaddohiokkaaBiAll
import Derived.Laws.Bits64b
set_option maxRecDepth 4000
namespace Go.Proofs.Ytcpiaddohiokkaa
open Go.RowKit

theorem gfMay_at (n : Int) (w : World) : Calls Try.prog 29 #[.int .i64 n] w fun e w' => e = .returned (.bool (decide (0 ≤ n) && decide (n ≤ 64))) ∧ w' = w := by
  by_cases h0 : 0 ≤ n
  · have d0 : decide (0 ≤ n) = true := decide_eq_true h0
    rw [d0]
    go_enter Try.func29, Try.ntmps29
    go_wp2
    go_ret
    exact ⟨rfl, rfl⟩
  · have d0 : decide (0 ≤ n) = false := decide_eq_false h0
    rw [d0]
    go_enter Try.func29, Try.ntmps29
    go_wp2
    go_ret
    exact ⟨rfl, rfl⟩

theorem gfNodes_at (n : Nat) (hn : n ≤ 64) (w : World) : Calls Try.prog 30 #[.int .i64 n] w fun e w' => e = .returned (.int .u64 (2 ^ n - 1 : Nat)) ∧ w' = w := by
  have key : IntKind.u64.wrap (IntKind.u64.wrap ((2 : Int) ^ n) - 1) = ((2 ^ n - 1 : Nat) : Int) := by
    have h1 : (2 : Int) ^ n = ((2 ^ n : Nat) : Int) := by simp
    have h2 : 2 ^ n ≤ 2 ^ 64 := Nat.pow_le_pow_right (by decide) hn
    have h3 := Nat.two_pow_pos n
    rw [h1, IntKind.wrap_u64, IntKind.wrap_u64]
    generalize 2 ^ n = p at *
    omega
  go_enter Try.func30, Try.ntmps30
  go_wp2
  go_ret
  exact ⟨rfl, rfl⟩

theorem gfNode_at (n : Int) (v : Value) (a : Int) (w : World) : Calls Try.prog 26 #[.agg #[.int .i64 n, v], .int .i64 a] w (RetBool w (Gf.isN n a)) := by
  have HB := Lib.hid (alloc_below w (.cells #[.int .i64 n, v] 24))
  by_cases h0 : 0 ≤ a
  · have d0 : decide (0 ≤ a) = true := decide_eq_true h0
    have hr : Gf.isN n a = decide (a < n) := by rw [Gf.isN, d0]; rfl
    rw [hr]
    go_enter Try.func26, Try.ntmps26
    go_wp2
    go_ret
    exact ⟨rfl, HB.out⟩
  · have d0 : decide (0 ≤ a) = false := decide_eq_false h0
    have hr : Gf.isN n a = false := by rw [Gf.isN, d0]; rfl
    rw [hr]
    go_enter Try.func26, Try.ntmps26
    go_wp2
    go_ret
    exact ⟨rfl, HB.out⟩

set_option maxHeartbeats 1000000 in
theorem gfRight_at (n : Int) (v : Value) (l : List Nat) (w : World) (hv : Us w v l) (hs : ∀ x ∈ l, x < 18446744073709551616) : Calls Try.prog 12 #[.agg #[.int .i64 n, v]] w (RetBool w (Gf.okB n l)) := by
  have HB := Lib.hid (alloc_below w (.cells #[.int .i64 n, v] 24))
  obtain ⟨A, c, rfl, hf⟩ := (hv.below HB.out).spelled
  have HF := Lib.hid hf
  have HS := Lib.hid hs
  clear hf hv hs
  cases hm : (decide (0 ≤ n) && decide (n ≤ 64)) with
  | false =>
    have HR : Hid (Gf.okB n l = false) := by
      rw [Hid, Gf.okB, ← Bool.and_assoc, hm]
      rfl
    go_enter Try.func12, Try.ntmps12
    go_wp2_with fail
    refine (gfMay_at n _).mono ?_
    rintro e w1 ⟨rfl, rfl⟩
    rw [hm]
    go_wp2_with fail
    go_ret
    exact ⟨ret_bool HR.out.symm, HB.out⟩
  | true =>
    obtain ⟨k, rfl, hk⟩ : ∃ k : Nat, n = (k : Int) ∧ k ≤ 64 := by
      rw [Bool.and_eq_true, decide_eq_true_iff, decide_eq_true_iff] at hm
      exact ⟨n.toNat, by omega, by omega⟩
    by_cases hlen : l.length = k
    · subst hlen
      have hq : (((l.length : Nat) : Int) != (l.length : Int)) = false := by simp
      have HNo := Lib.hid (fun i (hi : i < l.length) (h : ¬ l[i] < 2 ^ l.length) => show Gf.okB (l.length : Int) l = false by
        rw [← Bool.not_eq_true, Gf.okB_nat]
        exact fun h2 => h (h2.2.2 _ (List.getElem_mem hi)))
      have HYes := Lib.hid (fun (h : Gf.clearTo l.length l l.length) => show Gf.okB (l.length : Int) l = true from (Gf.okB_nat l.length l).2 (Gf.clearTo_all h hk rfl))
      have HFull := Lib.hid (Gf.full_lt hk)
      have HSub := Lib.hid (fun s (h : s < 18446744073709551616) => @Gf.sub_full l.length s h)
      have HNx := Lib.hid (fun i => @Gf.clearTo_next l.length l i)
      have HZ := Lib.hid (Gf.clearTo_zero l.length l)
      go_enter Try.func12, Try.ntmps12
      go_wp2_with fail
      refine (gfMay_at (l.length : Int) _).mono ?_
      rintro e w1 ⟨rfl, rfl⟩
      rw [hm]
      go_wp2_with fail
      refine (gfNodes_at l.length hk _).mono ?_
      rintro e w1 ⟨rfl, rfl⟩
      generalize Gf.okB (l.length : Int) l = r at *
      generalize 2 ^ l.length - 1 = full at *
      go_wp2_with fail
      generalize w.alloc (.cells #[.int .i64 (l.length : Int), .slice A l.length c] 24) = W at *
      go_loopw [24] (fun i wr => ∃ j : Nat, j ≤ l.length ∧ i = .int .i64 j ∧ Hid (Gf.clearTo l.length l j) ∧ wr = W) (fun i _ => l.length - (intOf i).toNat)
      case atStart => exact ⟨0, Nat.zero_le _, rfl, HZ.out, rfl⟩
      case round =>
        obtain ⟨j, hj, rfl, HC, rfl⟩ := hrel
        by_cases hlt : j < l.length
        · obtain ⟨ad, rfl, hblk, hE⟩ := HF.out j hlt
          have hx := HS.out _ (List.getElem_mem hlt)
          have hsub := HSub.out _ hx
          have HN1 := Lib.hid (HNo.out j hlt)
          have HN2 := Lib.hid (HNx.out j HC.out hlt)
          have hfull := HFull.out
          generalize l[j]'hlt = x at *
          cases hd : decide (x < 2 ^ l.length) with
          | false =>
            have HR := Lib.hid (HN1.out (of_decide_eq_false hd))
            rw [hd] at hsub
            clear hd
            go_wp2_with fail
            refine (biSub_at x full _ hx hfull).mono ?_
            rintro e w1 ⟨rfl, rfl⟩
            rw [hsub]
            go_wp2_with fail
            go_ret
            exact ⟨ret_bool HR.out.symm, HB.out⟩
          | true =>
            have HC2 := Lib.hid (HN2.out (of_decide_eq_true hd))
            rw [hd] at hsub
            clear hd
            go_wp2_with fail
            refine (biSub_at x full _ hx hfull).mono ?_
            rintro e w1 ⟨rfl, rfl⟩
            rw [hsub]
            go_wp2_with fail
            go_roundw
            case rel => exact ⟨j + 1, by omega, by go_num, HC2, trivial⟩
            case measure => simp [intOf]; omega
        · obtain rfl : j = l.length := by omega
          have HR := Lib.hid (HYes.out HC.out)
          go_wp2_with fail
          go_ret
          exact ⟨ret_bool HR.out.symm, HB.out⟩
    · have hq : (((l.length : Nat) : Int) != (k : Int)) = true := by rw [bne_iff_ne]; omega
      have HR : Hid (Gf.okB (k : Int) l = false) := by
        rw [Hid, ← Bool.not_eq_true, Gf.okB_nat]
        exact fun h => hlen h.2.1
      go_enter Try.func12, Try.ntmps12
      go_wp2_with fail
      refine (gfMay_at (k : Int) _).mono ?_
      rintro e w1 ⟨rfl, rfl⟩
      rw [hm]
      go_wp2_with fail
      go_ret
      exact ⟨ret_bool HR.out.symm, HB.out⟩
end Go.Proofs.Ytcpiaddohiokkaa
