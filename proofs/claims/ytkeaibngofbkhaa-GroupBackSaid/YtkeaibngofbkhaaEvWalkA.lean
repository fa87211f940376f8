/-
  Words for events in memory and for the kinds' words; what event.hasKey, numbersOf, isNumber, Right and kindOf answer, for every input: Ev.hasKey, Ev.many, Nm.isNum, Ev.right, Ev.kindI; what was in memory stays as it was.
  Conditions: kindOf: the variable that lists the kinds' words holds them.
  (This program has not all of these functions: KW, KW.below, numbersOf_at are left out here.)
-/
import Derived.Test.YtkeaibngofbkhaaEvPlain
import Derived.Test.YtkeaibngofbkhaaLnWalkC
import Derived.Test.YtkeaibngofbkhaaNumWalkC
namespace Go.Proofs.Ytkeaibngofbkhaa
open Go.RowKit

/-- An event as a value. -/
def evV (e : Ev.Event) : Value := .agg #[.int .i64 e.kind, .int .i64 e.session, .int .i64 e.key, .int .i64 e.value]
/-- An event, and a number beside it. -/
def RetEv (w : World) (r : Ev.Event × Int) (e : Ending) (w' : World) : Prop := e = .returned (.tuple #[evV r.1, .int .i64 r.2]) ∧ Below w.heap.size w w'

theorem hasKey_at (k : Int) (w : World) :
    Calls Try.prog 22 #[.int .i64 k] w fun e w' => e = .returned (.bool (Ev.hasKey k)) ∧ w = w' := by
  by_cases h : k = 1
  · have HR : Hid (Ev.hasKey k = true) := by rw [Hid, Ev.hasKey_iff]; exact .inl h
    have hb : (k == 1) = true := by rw [beq_iff_eq]; exact h
    clear h
    go_enter Try.func22, Try.ntmps22
    go_wp2
    go_ret
    exact ⟨ret_bool HR.out.symm, rfl⟩
  · have HR : Hid ((k == 2) = Ev.hasKey k) := by
      rw [Hid, Ev.hasKey, decide_eq_false h, Bool.false_or]; rfl
    have hb : (k == 1) = false := by rw [beq_eq_false_iff_ne]; exact h
    clear h
    go_enter Try.func22, Try.ntmps22
    go_wp2
    go_ret
    exact ⟨ret_bool HR.out, rfl⟩

theorem isNumber_at (n : Int) (w : World) : Calls Try.prog 23 #[.int .i64 n] w (RetBool w (Nm.isNum n)) := by
  go_enter Try.func23, Try.ntmps23
  go_wp2_with fail
  refine (show_any n w).mono ?_
  rintro e w1 ⟨rfl, hg⟩
  have HB := Lib.hid hg
  clear hg
  cases h : Nm.isNum n with
  | true =>
    have he : Nm.showE n = 0 := if_pos h
    have HR := Lib.hid h
    rw [he]
    clear h he
    go_wp2
    go_ret
    exact ⟨ret_bool (by rw [HR.out]), HB.out⟩
  | false =>
    have he : Nm.showE n = 1 := if_neg (by rw [h]; simp)
    have HR := Lib.hid h
    rw [he]
    clear h he
    go_wp2
    go_ret
    exact ⟨ret_bool (by rw [HR.out]), HB.out⟩

theorem evRight_at (x : Ev.Event) (w : World) : Calls Try.prog 20 #[evV x] w (RetBool w (Ev.right x)) := by
  obtain ⟨a, b, c, d⟩ := x
  unfold evV
  dsimp only
  by_cases h1 : 0 ≤ a ∧ a < 5 ∧ 0 ≤ b ∧ b < 8
  · obtain ⟨h1, h2, h3, h4⟩ := h1
    have q1 : decide (a < 0) = false := by simp; omega
    have q2 : decide (5 ≤ a) = false := by simp; omega
    have q3 : decide (b < 0) = false := by simp; omega
    have q4 : decide (8 ≤ b) = false := by simp; omega
    have HR : Hid (Ev.right ⟨a, b, c, d⟩ = decide (if Ev.hasKey a = true then 0 ≤ c ∧ c < 16 ∧ Nm.isNum d = true else c = 0 ∧ d = 0)) := by
      rw [Hid, Ev.right]
      simp only [h1, h2, h3, h4, true_and]
    clear h1 h2 h3 h4
    go_enter Try.func20, Try.ntmps20
    go_wp2_with fail
    refine (hasKey_at _ _).mono ?_
    rintro e w' ⟨rfl, rfl⟩
    cases hk : Ev.hasKey a with
    | true =>
      have HR2 : Hid (Ev.right ⟨a, b, c, d⟩ = decide (0 ≤ c ∧ c < 16 ∧ Nm.isNum d = true)) := by rw [Hid, HR.out]; simp only [hk, if_true]
      clear HR hk
      by_cases hc : 0 ≤ c ∧ c < 16
      · have q5 : decide (0 ≤ c) = true := by simp; omega
        have q6 : decide (c < 16) = true := by simp; omega
        have HR3 : Hid (Ev.right ⟨a, b, c, d⟩ = Nm.isNum d) := by rw [Hid, HR2.out]; simp [hc.1, hc.2]
        clear HR2 hc
        go_wp2_with fail
        refine (isNumber_at _ _).mono ?_
        rintro e w1 ⟨rfl, hb⟩
        have HB := Lib.hid (below_all ((Below.refl _ w).alloc (Nat.le_refl _) _) hb)
        clear hb
        go_wp2
        go_ret
        exact ⟨ret_bool (by rw [HR3.out]), HB.out⟩
      · have HR3 : Hid (Ev.right ⟨a, b, c, d⟩ = false) := by
          rw [Hid, HR2.out, decide_eq_false_iff_not]
          exact fun h => hc ⟨h.1, h.2.1⟩
        by_cases hc0 : 0 ≤ c
        · have q5 : decide (0 ≤ c) = true := by simp; omega
          have q6 : decide (c < 16) = false := by simp; omega
          clear HR2 hc hc0
          go_wp2_with fail
          go_ret
          exact ⟨ret_bool (by rw [HR3.out]), (Below.refl _ w).alloc (Nat.le_refl _) _⟩
        · have q5 : decide (0 ≤ c) = false := by simp; omega
          clear HR2 hc hc0
          go_wp2_with fail
          go_ret
          exact ⟨ret_bool (by rw [HR3.out]), (Below.refl _ w).alloc (Nat.le_refl _) _⟩
    | false =>
      have HR2 : Hid (Ev.right ⟨a, b, c, d⟩ = decide (c = 0 ∧ d = 0)) := by rw [Hid, HR.out]; simp only [hk, if_false, Bool.false_eq_true]
      clear HR hk
      by_cases hc : c = 0
      · have q5 : (c == 0) = true := by rw [beq_iff_eq]; exact hc
        have HR3 : Hid (Ev.right ⟨a, b, c, d⟩ = (d == 0)) := by rw [Hid, HR2.out]; simp only [hc, true_and]; rfl
        clear HR2 hc
        go_wp2_with fail
        go_ret
        exact ⟨ret_bool (by rw [HR3.out]), (Below.refl _ w).alloc (Nat.le_refl _) _⟩
      · have q5 : (c == 0) = false := by rw [beq_eq_false_iff_ne]; exact hc
        have HR3 : Hid (Ev.right ⟨a, b, c, d⟩ = false) := by rw [Hid, HR2.out]; simp [hc]
        clear HR2 hc
        go_wp2_with fail
        go_ret
        exact ⟨ret_bool (by rw [HR3.out]), (Below.refl _ w).alloc (Nat.le_refl _) _⟩
  · have HR : Hid (Ev.right ⟨a, b, c, d⟩ = false) := by
      rw [Hid, Ev.right, decide_eq_false_iff_not]
      exact fun h => h1 ⟨h.1, h.2.1, h.2.2.1, h.2.2.2.1⟩
    have key : decide (a < 0) = true ∨ decide (a < 0) = false ∧ (decide (5 ≤ a) = true ∨ decide (5 ≤ a) = false ∧ (decide (b < 0) = true ∨ decide (b < 0) = false ∧ decide (8 ≤ b) = true)) := by
      simp only [decide_eq_true_eq, decide_eq_false_iff_not]; omega
    clear h1
    rcases key with q1 | ⟨q1, q2 | ⟨q2, q3 | ⟨q3, q4⟩⟩⟩
    all_goals
      go_enter Try.func20, Try.ntmps20
      go_wp2_with fail
      go_ret
      exact ⟨ret_bool (by rw [HR.out]), (Below.refl _ w).alloc (Nat.le_refl _) _⟩
end Go.Proofs.Ytkeaibngofbkhaa
