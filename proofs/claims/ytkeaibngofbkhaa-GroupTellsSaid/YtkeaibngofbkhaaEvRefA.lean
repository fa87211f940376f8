/-
  What the reference's word, digits, Right and Show of layer 3 answer: Ev.word, Nm.showS, Ev.right, Ev.showR; what was in memory stays as it was.
  Conditions: word: a kind from 0 to 4.
  (This program has not all of these functions: rWord_at, rDigs_at, rEvShow_at are left out here.)
-/
import Derived.Test.YtkeaibngofbkhaaEvWalkB
import Derived.Test.YtkeaibngofbkhaaNumRefB
import Derived.Deep.RegionHeld3
namespace Go.Proofs.Ytkeaibngofbkhaa
open Go.RowKit

theorem rEvRight_at (x : Ev.Event) (w : World) : Calls Try.prog 17 #[evV x] w (RetBool w (Ev.right x)) := by
  obtain ⟨a, b, c, d⟩ := x
  unfold evV
  dsimp only
  by_cases h1 : 0 ≤ a ∧ a < 5 ∧ 0 ≤ b ∧ b < 8
  · obtain ⟨h1, h2, h3, h4⟩ := h1
    have q1 : decide (a < 0) = false := by simp; omega
    have q2 : decide (4 < a) = false := by simp; omega
    have q3 : decide (b < 0) = false := by simp; omega
    have q4 : decide (7 < b) = false := by simp; omega
    have HR : Hid (Ev.right ⟨a, b, c, d⟩ = decide (if Ev.hasKey a = true then 0 ≤ c ∧ c < 16 ∧ Nm.isNum d = true else c = 0 ∧ d = 0)) := by
      rw [Hid, Ev.right]
      simp only [h1, h2, h3, h4, true_and]
    clear h1 h2 h3 h4
    by_cases hk : a = 1 ∨ a = 2
    · have HR2 : Hid (Ev.right ⟨a, b, c, d⟩ = decide (0 ≤ c ∧ c < 16 ∧ Nm.isNum d = true)) := by rw [Hid, HR.out]; simp only [(Ev.hasKey_iff a).2 hk, if_true]
      have key : (a == 1) = true ∨ (a == 1) = false ∧ (a == 2) = true := by
        rcases hk with h | h
        · exact .inl (by rw [beq_iff_eq]; exact h)
        · exact .inr ⟨by rw [beq_eq_false_iff_ne]; omega, by rw [beq_iff_eq]; exact h⟩
      clear HR hk
      by_cases hc : 0 ≤ c ∧ c < 16
      · have q5 : decide (0 ≤ c) = true := by simp; omega
        have q6 : decide (c ≤ 15) = true := by simp; omega
        have HR3 : Hid (Ev.right ⟨a, b, c, d⟩ = Nm.isNum d) := by rw [Hid, HR2.out]; simp [hc.1, hc.2]
        clear HR2 hc
        rcases key with k1 | ⟨k1, k2⟩
        all_goals
          go_enter Try.func17, Try.ntmps17
          go_wp2_with fail
          refine (rIs_at _ _).mono ?_
          rintro e w1 ⟨rfl, rfl⟩
          go_wp2_with fail
          go_ret
          exact ⟨ret_bool (by rw [HR3.out]), (Below.refl _ w).alloc (Nat.le_refl _) _⟩
      · have HR3 : Hid (Ev.right ⟨a, b, c, d⟩ = false) := by
          rw [Hid, HR2.out, decide_eq_false_iff_not]
          exact fun h => hc ⟨h.1, h.2.1⟩
        have kc : decide (0 ≤ c) = false ∨ decide (0 ≤ c) = true ∧ decide (c ≤ 15) = false := by
          simp only [decide_eq_true_eq, decide_eq_false_iff_not]; omega
        clear HR2 hc
        rcases key with k1 | ⟨k1, k2⟩ <;> rcases kc with q5 | ⟨q5, q6⟩
        all_goals
          go_enter Try.func17, Try.ntmps17
          go_wp2_with fail
          refine (rIs_at _ _).mono ?_
          rintro e w1 ⟨rfl, rfl⟩
          go_wp2_with fail
          go_ret
          exact ⟨ret_bool (by rw [HR3.out]), (Below.refl _ w).alloc (Nat.le_refl _) _⟩
    · have HR2 : Hid (Ev.right ⟨a, b, c, d⟩ = decide (c = 0 ∧ d = 0)) := by
        rw [Hid, HR.out]
        have : ¬ Ev.hasKey a = true := fun h => hk ((Ev.hasKey_iff a).1 h)
        simp only [this, if_false, Bool.false_eq_true]
      have k1 : (a == 1) = false := by rw [beq_eq_false_iff_ne]; omega
      have k2 : (a == 2) = false := by rw [beq_eq_false_iff_ne]; omega
      clear HR hk
      by_cases hc : c = 0
      · have q5 : (c == 0) = true := by rw [beq_iff_eq]; exact hc
        have HR3 : Hid (Ev.right ⟨a, b, c, d⟩ = (d == 0)) := by rw [Hid, HR2.out]; simp only [hc, true_and]; rfl
        clear HR2 hc
        go_enter Try.func17, Try.ntmps17
        go_wp2_with fail
        go_ret
        exact ⟨ret_bool (by rw [HR3.out]), (Below.refl _ w).alloc (Nat.le_refl _) _⟩
      · have q5 : (c == 0) = false := by rw [beq_eq_false_iff_ne]; exact hc
        have HR3 : Hid (Ev.right ⟨a, b, c, d⟩ = false) := by rw [Hid, HR2.out]; simp [hc]
        clear HR2 hc
        go_enter Try.func17, Try.ntmps17
        go_wp2_with fail
        go_ret
        exact ⟨ret_bool (by rw [HR3.out]), (Below.refl _ w).alloc (Nat.le_refl _) _⟩
  · have HR : Hid (Ev.right ⟨a, b, c, d⟩ = false) := by
      rw [Hid, Ev.right, decide_eq_false_iff_not]
      exact fun h => h1 ⟨h.1, h.2.1, h.2.2.1, h.2.2.2.1⟩
    have key : decide (a < 0) = true ∨ decide (a < 0) = false ∧ (decide (4 < a) = true ∨ decide (4 < a) = false ∧ (decide (b < 0) = true ∨ decide (b < 0) = false ∧ decide (7 < b) = true)) := by
      simp only [decide_eq_true_eq, decide_eq_false_iff_not]; omega
    clear h1
    rcases key with q1 | ⟨q1, q2 | ⟨q2, q3 | ⟨q3, q4⟩⟩⟩
    all_goals
      go_enter Try.func17, Try.ntmps17
      go_wp2_with fail
      go_ret
      exact ⟨ret_bool (by rw [HR.out]), (Below.refl _ w).alloc (Nat.le_refl _) _⟩

theorem cell_on {w w' : World} {a : Addr} {v : Value} (hb : Below w.heap.size w w') (h : w.cell? a = some v) : w'.cell? a = some v := (hb.cell (World.block_lt_of_cell? w a h)).trans h
theorem hid_below {w w1 w2 : World} (h : Hid (Below w.heap.size w w1)) (hb : Below w1.heap.size w1 w2) : Hid (Below w.heap.size w w2) := below_all h.out hb
theorem hid_drew (w : World) : Hid (Below w.heap.size w w.drew) := (Below.refl _ _).drew

theorem held_two {w W w3 : World} {p q : Addr} {u v : Value} (h : W.cell? p = some u ∧ W.cell? q = some v ∧ Hid (Below w.heap.size w W)) (hb : Below W.heap.size W w3) : w3.cell? p = some u ∧ w3.cell? q = some v ∧ Hid (Below w.heap.size w w3) :=
  ⟨cell_on hb h.1, cell_on hb h.2.1, hid_below h.2.2 hb⟩

end Go.Proofs.Ytkeaibngofbkhaa
