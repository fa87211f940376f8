/-
  The law BitsBack: a set is that of its numbers; its numbers rise, and each is in it; no other is.
  Conditions: the set is below 2^64; the library's table for the lowest bit holds what its text says.
-/
import Derived.Test.YtchllbjbicomcaaDoorBiAwake
set_option maxRecDepth 4000
namespace Go.Proofs.YtchllbjbicomcaaDoor
open Go.RowKit

theorem TZ.drew {w : World} (h : TZ w) (n : Nat) : TZ (w.drewN n) := h.below (drewN_below w n)
/-- Whether a number is among the first ones of a row. -/
def Bi.amongTo (l : List Nat) (i : Int) (k : Nat) : Bool := (l.take k).any fun (x : Nat) => (x : Int) == i
theorem Bi.among_zero (l : List Nat) (i : Int) : Bi.amongTo l i 0 = false := rfl
theorem Bi.among_next {l : List Nat} {k : Nat} (i : Int) (h : k < l.length) : Bi.amongTo l i (k + 1) = (Bi.amongTo l i k || ((l[k] : Int) == i)) := by
  unfold Bi.amongTo
  rw [List.take_succ_eq_append_getElem h, List.any_append]
  simp
theorem Bi.among_all (s : Nat) (i : Int) : Bi.amongTo (Bi.list s) i (Bi.list s).length = Bi.has s i := by
  unfold Bi.amongTo
  rw [List.take_length]
  cases h : Bi.has s i with
  | true =>
    obtain ⟨k, hk, rfl⟩ := Bi.has_iff.1 h
    rw [List.any_eq_true]
    exact ⟨k, hk, by simp⟩
  | false =>
    rw [List.any_eq_false]
    intro x hx q
    rw [beq_iff_eq] at q
    have := Bi.has_iff.2 ⟨x, hx, q.symm⟩
    rw [this] at h
    cases h
theorem Bi.rise_at {s j k : Nat} (hj : j < k) (hl : j < (Bi.list s).length) (hk : k < (Bi.list s).length) : (Bi.list s)[j]'hl < (Bi.list s)[k]'hk :=
  List.pairwise_iff_getElem.1 (Bi.list_rise s) j k hl hk hj

set_option maxHeartbeats 4000000 in
theorem lawBitsBack (s : Nat) (i : Int) (w : World) (hT : TZ w) (hs : s < 18446744073709551616) : Calls Tryd.prog 5 #[.int .u64 s, .int .i64 i] w (RetBool w true) := by
  have HT := Lib.hid hT
  clear hT
  go_enter Tryd.func5, Tryd.ntmps5
  go_wp2_with fail
  refine (biAwake_at _ HT.out).mono ?_
  rintro e w1 ⟨rfl, hb1⟩
  have B1 := Lib.hid hb1
  clear hb1
  go_wp2_with fail
  refine (biList_at s _ hs).mono ?_
  rintro e w2 ⟨v2, rfl, ho2, hb2⟩
  have B2 := Lib.hid (below_all B1.out hb2)
  have T2 := Lib.hid (HT.out.below B2.out)
  have N2 := Lib.hid (nums_own ho2)
  clear ho2 hb2 B1 HT
  have hlen := Bi.list_len s
  have HOF := Lib.hid (Bi.of_list hs)
  have HR := Lib.hid (fun j k hj hl hk => @Bi.rise_at s j k hj hl hk)
  have HH := Lib.hid (fun k (hk : k < (Bi.list s).length) => Bi.has_iff.2 ⟨_, List.getElem_mem hk, rfl⟩ : ∀ k (hk : k < (Bi.list s).length), Bi.has s ((Bi.list s)[k] : Nat) = true)
  have HA := Lib.hid (Bi.among_all s i)
  have HLN := Lib.hid (fun q => @Bi.least_nil s q)
  have HLC := Lib.hid (fun k r q => @Bi.least_cons s k r q)
  have FC := Lib.hid (fun w => biCount_at s w hs)
  have FH := Lib.hid (fun i w => biHas_at s i w hs)
  have FL := Lib.hid (fun w hT => biLeast_at s w hs hT)
  have FO := Lib.hid (fun v w hu => biOf_at (Bi.nums (Bi.list s)) v w hu (by rw [Bi.nums_len]; omega))
  rw [show Bi.ofR (Bi.nums (Bi.list s)) = (s, 0) from HOF.out] at FO
  clear HOF
  generalize hb : Bi.has s i = b at *
  generalize Bi.least s = z at *
  generalize Bi.list s = l at *
  obtain ⟨A, c, rfl, hf⟩ := N2.out.nums
  have HF := Lib.hid hf
  clear hf
  go_wp2_with fail
  refine (FO.out _ _ N2.out).mono ?_
  rintro e w3 ⟨rfl, rfl⟩
  go_wp2_with fail
  refine (FC.out _).mono ?_
  rintro e w4 ⟨rfl, rfl⟩
  go_wp2_with fail
  go_loopw [9, 10] (fun bv iv wr => ∃ (k : Nat) (q : Bool), k ≤ l.length ∧ iv = .int .i64 k ∧ bv = .bool q ∧ Hid (q = Bi.amongTo l i k) ∧ Hid (Below w4.heap.size w4 wr)) (fun _ iv _ => l.length - (intOf iv).toNat)
  case atStart => exact ⟨0, false, Nat.zero_le _, rfl, rfl, rfl, Below.refl _ _⟩
  case round =>
    obtain ⟨k, q, hk, rfl, rfl, HQ, HB⟩ := hrel
    by_cases hlt : k < l.length
    · obtain ⟨ad, rfl, hblk, hE0⟩ := HF.out k hlt
      have hE := (HB.out.cell (by rw [add_block]; exact hblk)).trans hE0
      have hh := HH.out k hlt
      have HN := Lib.hid (Bi.among_next i hlt)
      have hki : (k : Int) < (l.length : Int) := by omega
      clear hE0
      have hne : (!Bi.has s ((l[k]'hlt : Nat) : Int)) = false := by rw [hh]; rfl
      by_cases hk0 : k = 0
      · have p1 : decide ((0 : Int) < (k : Int)) = false := decide_eq_false (by omega)
        have p2 : decide (0 < k) = false := decide_eq_false (by omega)
        clear hk0
        generalize l[k]'hlt = x at *
        have FX := Lib.hid (fun w => FH.out (x : Int) w)
        rw [hh] at FX
        go_wp2_with fail
        go_quiet (first | (go_at_call 20; exact Calls.quiet_of_same (FX.out _)))
        have HB2 := Lib.hid (below_drewN HB.out nq)
        have hE2 : (wr.drewN nq).cell? (ad.add k) = some (.int .i64 (x : Int)) := hE
        cases q with
        | true =>
          go_wp2_with fail
          go_roundw
          case rel => exact ⟨k + 1, true, by omega, by go_num, rfl, by rw [Hid, HN.out, ← HQ.out]; rfl, HB2⟩
          case measure => simp [intOf]; omega
        | false =>
          go_wp2_with fail
          go_roundw
          case rel => exact ⟨k + 1, _, by omega, by go_num, rfl, by rw [Hid, HN.out, ← HQ.out]; rfl, HB2⟩
          case measure => simp [intOf]; omega
      · have p1 : decide ((0 : Int) < (k : Int)) = true := decide_eq_true (by omega)
        have p2 : decide (0 < k) = true := decide_eq_true (by omega)
        obtain ⟨j, hj⟩ : ∃ j, k = j + 1 := ⟨k - 1, by omega⟩
        have hjl : j < l.length := by omega
        obtain ⟨_, e9, _, hI0⟩ := HF.out j hjl
        cases e9
        have hI := (HB.out.cell (by rw [add_block]; exact hblk)).trans hI0
        have hlt2 := HR.out j k (by omega) hjl hlt
        have p3 : decide (((l[k]'hlt : Nat) : Int) ≤ ((l[j]'hjl : Nat) : Int)) = false := decide_eq_false (by omega)
        have p4 : decide ((l[k]'hlt) ≤ (l[j]'hjl)) = false := decide_eq_false (by omega)
        have hs1 : IntKind.i64.wrap ((k : Int) - 1) = (j : Int) := by rw [IntWalk.i64_in _ (by omega)]; omega
        have hs2 : (k : Int) - 1 = (j : Int) := by omega
        have hji : (j : Int) < (l.length : Int) := by omega
        clear hI0 hlt2 hj hk0
        generalize l[j]'hjl = y at *
        generalize l[k]'hlt = x at *
        have FX := Lib.hid (fun w => FH.out (x : Int) w)
        rw [hh] at FX
        go_wp2_with fail
        go_quiet (first | (go_at_call 20; exact Calls.quiet_of_same (FX.out _)))
        have HB2 := Lib.hid (below_drewN HB.out nq)
        have hE2 : (wr.drewN nq).cell? (ad.add k) = some (.int .i64 (x : Int)) := hE
        cases q with
        | true =>
          go_wp2_with fail
          go_roundw
          case rel => exact ⟨k + 1, true, by omega, by go_num, rfl, by rw [Hid, HN.out, ← HQ.out]; rfl, HB2⟩
          case measure => simp [intOf]; omega
        | false =>
          go_wp2_with fail
          go_roundw
          case rel => exact ⟨k + 1, _, by omega, by go_num, rfl, by rw [Hid, HN.out, ← HQ.out]; rfl, HB2⟩
          case measure => simp [intOf]; omega
    · obtain rfl : k = l.length := by omega
      have hq : q = b := by rw [HQ.out, HA.out]
      subst hq
      have FX := Lib.hid (fun w => FH.out i w)
      rw [hb] at FX
      have TR := Lib.hid (T2.out.below HB.out)
      clear HQ HA
      cases l with
      | nil =>
        have hz := HLN.out rfl
        subst hz
        dsimp only [List.length_nil] at *
        go_wp2_with fail
        go_quiet (first | (go_at_call 20; exact Calls.quiet_of_same (FX.out _)) | (go_at_call 13; exact Calls.quiet_of_same (FL.out _ (TR.out.drew _))))
        go_wp2_with fail
        go_ret
        exact ⟨rfl, below_drewN (below_all B2.out HB.out) _⟩
      | cons x r =>
        have hz := HLC.out x r rfl
        subst hz
        obtain ⟨ad, rfl, hblk, hE0⟩ := HF.out 0 (by simp)
        rw [add_zero'] at hE0
        have hE := (HB.out.cell hblk).trans hE0
        have hp : (0 : Int) < (((x :: r).length : Nat) : Int) := by simp
        have hp' : 0 < (x :: r).length := by simp
        have hz1 : ((((x :: r).length : Nat) : Int) == 0) = false := by rw [beq_eq_false_iff_ne]; omega
        have hz2 : (((x : Nat) : Int) == -1) = false := by rw [beq_eq_false_iff_ne]; omega
        dsimp only [List.getElem_cons_zero] at hE
        clear hE0 HF HR HH HLN HLC hlt
        generalize (x :: r).length = m at *
        go_wp2_with fail
        go_quiet (first | (go_at_call 20; exact Calls.quiet_of_same (FX.out _)) | (go_at_call 13; exact Calls.quiet_of_same (FL.out _ (TR.out.drew _))))
        go_wp2_with fail
        go_ret
        exact ⟨rfl, below_drewN (below_all B2.out HB.out) _⟩
end Go.Proofs.YtchllbjbicomcaaDoor
