/-
  Plain facts on histories with one transaction more, or less (no Go in it).
  Conditions: none beyond those that each theorem states.
-/
import Derived.Test.YtfjamdpgbbnmcaaDoorHiPlain
set_option maxRecDepth 4000
namespace Go.Proofs.YtfjamdpgbbnmcaaDoor.Hi
open So (Txn Rises)

theorem rises_nil : Rises [] := ⟨(fun k hk => by cases hk), List.Pairwise.nil⟩
/-- An empty one more. -/
theorem right_more (h : List Txn) (hr : Right h) (s : Int) (hs : 0 ≤ s ∧ s < 8) : Right (h ++ [⟨s, [], []⟩]) ↔ h.length < 32 := by
  constructor
  · intro q
    have := q.1
    rw [List.length_append, List.length_singleton] at this
    omega
  · intro hl
    refine ⟨by rw [List.length_append, List.length_singleton]; omega, fun n hn => ?_⟩
    rw [List.length_append, List.length_singleton] at hn
    by_cases e : n < h.length
    · rw [List.getElem_append_left e]
      have ok := hr.2 n e
      refine ⟨ok.session, ok.writes, ok.reads, fun y hy => ?_⟩
      rcases ok.froms y hy with q | ⟨j, hj, q1, q2, q3⟩
      · exact .inl q
      · exact .inr ⟨j, by rw [List.length_append]; omega, q1, q2, by rw [List.getElem_append_left hj]; exact q3⟩
    · obtain rfl : n = h.length := by omega
      rw [List.getElem_append_right (Nat.le_refl _)]
      simp only [Nat.sub_self, List.getElem_cons_zero]
      exact ⟨hs, rises_nil, rises_nil, fun y hy => by cases hy⟩
/-- Without the last one. -/
theorem right_less (h : List Txn) (hr : Right h) (n : Nat) (hn : h.length = n + 1) : Right (h.take n) ↔ ∀ i (hi : i < h.length), i < n → ∀ y ∈ h[i].reads, y.2 ≠ (n : Int) := by
  have hlen : (h.take n).length = n := by rw [List.length_take]; omega
  constructor
  · intro q i hi hin y hy e
    have ok := q.2 i (by omega)
    rw [List.getElem_take] at ok
    rcases ok.froms y hy with q1 | ⟨j, hj, q1, _⟩
    · omega
    · rw [hlen] at hj
      omega
  · intro q
    refine ⟨by have := hr.1; omega, fun i hi => ?_⟩
    rw [hlen] at hi
    rw [List.getElem_take]
    have ok := hr.2 i (by omega)
    refine ⟨ok.session, ok.writes, ok.reads, fun y hy => ?_⟩
    rcases ok.froms y hy with q1 | ⟨j, hj, q1, q2, q3⟩
    · exact .inl q1
    · have := q i (by omega) hi y hy
      exact .inr ⟨j, by rw [hlen]; omega, q1, q2, by rw [List.getElem_take]; exact q3⟩
end Go.Proofs.YtfjamdpgbbnmcaaDoor.Hi
