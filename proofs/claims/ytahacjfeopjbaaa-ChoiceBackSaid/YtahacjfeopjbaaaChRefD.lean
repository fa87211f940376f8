/-
  What the reference's In of layer 18 answers.
  Conditions: a row of at most 4294967296.
-/
import Derived.Test.YtahacjfeopjbaaaChRefC
set_option maxRecDepth 4000
namespace Go.Proofs.Ytahacjfeopjbaaa
open Go.RowKit

theorem tri_ne {z0 z1 z2 k a b : Int} (h : (z0, z1, z2) ≠ (k, a, b)) : (z0 == k) = false ∨ ((z0 == k) = true ∧ (z1 == a) = false) ∨ ((z0 == k) = true ∧ (z1 == a) = true ∧ (z2 == b) = false) := by
  by_cases h0 : z0 = k
  · by_cases h1 : z1 = a
    · exact .inr (.inr ⟨by rw [beq_iff_eq]; exact h0, by rw [beq_iff_eq]; exact h1, by rw [beq_eq_false_iff_ne]; exact fun e => h (by rw [h0, h1, e])⟩)
    · exact .inr (.inl ⟨by rw [beq_iff_eq]; exact h0, by rw [beq_eq_false_iff_ne]; exact h1⟩)
  · exact .inl (by rw [beq_eq_false_iff_ne]; exact h0)
set_option maxHeartbeats 2000000 in
theorem rIn18_at (l : List (Int × Int × Int)) (v : Value) (k a b : Int) (w : World) (hl : Tris w v l) (hn : l.length ≤ 4294967296) : Calls Try.prog 43 #[v, .agg #[.int .i64 k, .int .i64 a, .int .i64 b]] w (RetBool w (l.contains (k, a, b))) := by
  obtain ⟨B, d, rfl, hf⟩ := hl.spelled
  have HF := Lib.hid hf
  have TQ := Lib.hid (Three.new w 38 (.int .i64 k) (.int .i64 a) (.int .i64 b))
  have BW := Lib.hid (alloc_below w (.cells #[.int .i64 k, .int .i64 a, .int .i64 b] 38))
  have HY : Hid ((k, a, b) ∈ l → l.contains (k, a, b) = true) := fun h => List.contains_iff_mem.2 h
  have HN : Hid ((k, a, b) ∉ l → l.contains (k, a, b) = false) := fun h => by
    cases e : l.contains (k, a, b) with
    | false => rfl
    | true => exact absurd (List.contains_iff_mem.1 e) h
  generalize l.contains (k, a, b) = res at *
  clear hl hf
  go_enter Try.func43, Try.ntmps43
  go_wp2_with fail
  generalize w.alloc (.cells #[.int .i64 k, .int .i64 a, .int .i64 b] 38) = W at *
  go_loopw [5] (fun ix wr => ∃ i : Nat, i ≤ l.length ∧ ix = .int .i64 i ∧ Hid (∀ j (hj : j < l.length), j < i → l[j] ≠ (k, a, b)) ∧ Hid (Below W.heap.size W wr)) (fun ix _ => l.length - (intOf ix).toNat)
  case atStart => exact ⟨0, Nat.zero_le _, rfl, fun j _ q => absurd q (Nat.not_lt_zero j), Below.refl _ _⟩
  case round =>
    obtain ⟨i, hi, rfl, HI, HB⟩ := hrel
    have B2 := Lib.hid (below_all BW.out HB.out)
    by_cases hlt : i < l.length
    · obtain ⟨ad, rfl, hbl, hin⟩ := HF.out i hlt
      obtain ⟨z0, z1, z2⟩ := hin.below hbl B2.out
      obtain ⟨q0, q1, q2⟩ := (TQ.out.later HB.out).cells
      have HM := Lib.hid (List.getElem_mem hlt)
      have HI2 : Hid (l[i]'hlt ≠ (k, a, b) → ∀ j (hj : j < l.length), j < i + 1 → l[j] ≠ (k, a, b)) := fun hne j hj hji => by
        rcases Nat.lt_succ_iff_lt_or_eq.1 hji with q | q
        · exact HI.out j hj q
        · subst q; exact hne
      have hi1 : (0 : Int) ≤ (i : Int) := Int.natCast_nonneg _
      have hi2 : (i : Int) < (l.length : Int) := by omega
      generalize l[i]'hlt = z at *
      obtain ⟨x0, x1, x2⟩ := z
      dsimp only at z0 z1 z2
      clear hin
      by_cases hz : (x0, x1, x2) = (k, a, b)
      · obtain ⟨rfl, rfl, rfl⟩ : x0 = k ∧ x1 = a ∧ x2 = b := by simpa using hz
        have r0 : (x0 == x0) = true := by simp
        have r1 : (x1 == x1) = true := by simp
        have r2 : (x2 == x2) = true := by simp
        obtain rfl : res = true := HY.out HM.out
        clear hz
        go_wp2_with fail
        go_quiet (fail)
        go_wp2_with fail
        go_ret
        exact ⟨rfl, below_drewN B2.out _⟩
      · have HN2 := Lib.hid (HI2.out hz)
        rcases tri_ne hz with r0 | ⟨r0, r1⟩ | ⟨r0, r1, r2⟩
        all_goals
          clear hz
          go_wp2_with fail
          go_quiet (fail)
          go_wp2_with fail
          go_roundw
          case rel => exact ⟨i + 1, by omega, by go_num, HN2.out, below_drewN HB.out _⟩
          case measure => simp [intOf]; omega
    · obtain rfl : res = false := HN.out fun hm => by
        obtain ⟨j, hj, e⟩ := List.getElem_of_mem hm
        exact HI.out j hj (by omega) e
      go_wp2_with fail
      go_ret
      exact ⟨rfl, B2.out⟩
end Go.Proofs.Ytahacjfeopjbaaa
