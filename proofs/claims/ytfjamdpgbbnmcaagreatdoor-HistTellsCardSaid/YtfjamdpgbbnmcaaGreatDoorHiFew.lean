/-
  What Few answers: whether there are few transactions, with few reads and writes.
  Conditions: none.
-/
import Derived.Test.YtfjamdpgbbnmcaaGreatDoorHiIter
import Derived.Test.YtfjamdpgbbnmcaaGreatDoorHiWalkC
import Derived.Test.YtfjamdpgbbnmcaaGreatDoorHiFrame
set_option maxRecDepth 4000
namespace Go.Proofs.YtfjamdpgbbnmcaaGreatDoor
open Go.RowKit

namespace Hi
def fewB (h : List So.Txn) : Bool := decide (h.length ≤ 40) && h.all (fun t => decide (t.writes.length ≤ 20) && decide (t.reads.length ≤ 20))
theorem fewB_iff (h : List So.Txn) : fewB h = true ↔ h.length ≤ 40 ∧ ∀ t ∈ h, t.writes.length ≤ 20 ∧ t.reads.length ≤ 20 := by
  rw [fewB, Bool.and_eq_true, decide_eq_true_eq, List.all_eq_true]
  simp
theorem fewB_no {h : List So.Txn} (q : ¬ (h.length ≤ 40 ∧ ∀ t ∈ h, t.writes.length ≤ 20 ∧ t.reads.length ≤ 20)) : fewB h = false := by
  rw [← Bool.not_eq_true, fewB_iff]
  exact q
theorem few_small {h : List So.Txn} (q : fewB h = true) : h.length ≤ 40 ∧ h.length ≤ 4294967296 ∧ ∀ t ∈ h, t.writes.length ≤ 4294967296 ∧ t.reads.length ≤ 4294967296 := by
  obtain ⟨h1, h2⟩ := (fewB_iff h).1 q
  refine ⟨h1, by omega, fun t ht => ?_⟩
  have := h2 t ht
  omega
/-- How a text of a history may be. -/
theorem show_cases (h : List So.Txn) (hr : Right h) : (showR h).2 = 0 ∨ showR h = ([], 4) := by
  by_cases hl : (events h).length ≤ 400
  · exact .inl (show_few h hr hl)
  · exact .inr (show_many h hr (by omega))
theorem show_short (h : List So.Txn) : (showR h).1.length ≤ maxLen := by
  by_cases hr : Right h
  · rw [show_is h hr]
    have := Di.show_len (events h)
    unfold maxLen
    omega
  · rw [show_not h hr]
    simp [maxLen]
theorem diary_place (s : List UInt8) : 0 ≤ (Di.parseR s).2.1 := by
  by_cases h1 : (Ln.splitR s).2 = 0
  · by_cases h2 : Di.bad (Ln.splitR s).1 = 0
    · rw [Di.parse_ok s h1 h2]; exact Int.le_refl _
    · rw [Di.parse_bad s h1 h2]; dsimp only; omega
  · rw [Di.parse_split s h1]; exact Int.le_refl _
theorem first_pos (s : List UInt8) (h2 : (Gr.groupR (Di.parseR s).1).2.2 = 0) (h3 : (So.histR (Gr.groupR (Di.parseR s).1).1).2.2 ≠ 0) : 0 ≤ firstOf (Gr.groupR (Di.parseR s).1).1 (So.histR (Gr.groupR (Di.parseR s).1).1).2.1 + 1 := by
  obtain ⟨k, hk, e⟩ := hist_place _ h3
  rw [e, first_at _ k hk]
  have := ((group_small _ h2).2 _ (List.getElem_mem hk)).2.1
  omega
theorem parse_nothing (s : List UInt8) (h : (parseR s).2.2 ≠ 0) : (parseR s).1 = [] ∧ 0 ≤ (parseR s).2.1 := by
  unfold parseR at h ⊢
  by_cases h1 : (Di.parseR s).2.2 ≠ 0
  · rw [if_pos h1]
    exact ⟨rfl, diary_place s⟩
  · rw [if_neg h1] at h ⊢
    by_cases h2 : (Gr.groupR (Di.parseR s).1).2.2 ≠ 0
    · rw [if_pos h2]
      refine ⟨rfl, ?_⟩
      cases hq : Gr.run 0 [] (Di.parseR s).1 with
      | none => rw [Gr.group_ok _ hq]; dsimp only; omega
      | some p => obtain ⟨k, q⟩ := p; rw [Gr.group_bad _ k q hq]; dsimp only; omega
    · rw [if_neg h2] at h ⊢
      by_cases h3 : (So.histR (Gr.groupR (Di.parseR s).1).1).2.2 ≠ 0
      · rw [if_pos h3]
        exact ⟨rfl, first_pos s (Decidable.byContradiction h2) h3⟩
      · rw [if_neg h3] at h; exact absurd rfl h
end Hi

theorem few8_at (h : List So.Txn) (u : Value) (w : World) (hv : Txns w u h) : Calls Tryz.prog 5 #[.agg #[u], .int .i64 40] w (RetBool w (Hi.fewB h)) := by
  have HB0 := Lib.hid (alloc_below w (.cells #[u] 24))
  obtain ⟨A, c, rfl, hform⟩ := (hv.below HB0.out).spelled
  have HF := Lib.hid hform
  have c0 := (Boxed.new w 24 (.slice A h.length c)).cell
  clear hform hv
  go_enter Tryz.func5, Tryz.ntmps5
  by_cases h4 : 40 < h.length
  · have hd : decide ((40 : Int) < (h.length : Int)) = true := by simp; omega
    have HR : Hid (Hi.fewB h = false) := Hi.fewB_no (fun q => by omega)
    go_wp2_with fail
    go_ret
    exact ⟨ret_bool HR.out.symm, HB0.out⟩
  have hd : decide ((40 : Int) < (h.length : Int)) = false := by simp; omega
  have h40 : h.length ≤ 40 := by omega
  clear h4
  go_wp2_with fail
  generalize w.alloc (.cells #[.slice A h.length c] 24) = w1 at *
  go_loop [5] (fun i => ∃ k : Nat, k ≤ h.length ∧ i = .int .i64 k ∧ Hid (∀ t ∈ h.take k, t.writes.length ≤ 20 ∧ t.reads.length ≤ 20)) (fun i => h.length - (intOf i).toNat)
  case atStart => exact ⟨0, Nat.zero_le _, rfl, fun t ht => by cases ht⟩
  case round =>
    obtain ⟨k, hk, rfl, hall⟩ := hrel
    by_cases hlt : k < h.length
    · obtain ⟨ad, x, y, rfl, hblk, hT, hx, hy⟩ := HF.out k hlt
      have HM := Lib.hid (List.getElem_mem hlt)
      have HTK := Lib.hid (List.take_succ_eq_append_getElem hlt)
      obtain ⟨_, e1, e2⟩ := hT
      generalize h[k] = t at *
      obtain ⟨A1, c1, rfl, _⟩ := hx.spelled
      obtain ⟨A2, c2, rfl, _⟩ := hy.spelled
      clear hx hy
      by_cases q1 : 20 < t.writes.length
      · have d1 : decide ((20 : Int) < (t.writes.length : Int)) = true := by simp; omega
        have HR : Hid (Hi.fewB h = false) := Hi.fewB_no (fun q => by have := q.2 t HM.out; omega)
        clear q1
        go_wp2_with fail
        go_ret
        exact ⟨ret_bool HR.out.symm, HB0.out⟩
      have d1 : decide ((20 : Int) < (t.writes.length : Int)) = false := by simp; omega
      by_cases q2 : 20 < t.reads.length
      · have d2 : decide ((20 : Int) < (t.reads.length : Int)) = true := by simp; omega
        have HR : Hid (Hi.fewB h = false) := Hi.fewB_no (fun q => by have := q.2 t HM.out; omega)
        clear q1 q2
        go_wp2_with fail
        go_ret
        exact ⟨ret_bool HR.out.symm, HB0.out⟩
      have d2 : decide ((20 : Int) < (t.reads.length : Int)) = false := by simp; omega
      have HN : Hid (∀ t ∈ h.take (k + 1), t.writes.length ≤ 20 ∧ t.reads.length ≤ 20) := fun z hz => by
        rw [HTK.out] at hz
        rcases List.mem_append.1 hz with hz | hz
        · exact hall.out z hz
        · rw [List.mem_singleton.1 hz]; omega
      clear q1 q2
      go_wp2_with fail
      go_round
      case rel => exact ⟨k + 1, by omega, by go_num, HN⟩
      case measure => simp [intOf]; omega
    · have HR : Hid (Hi.fewB h = true) := (Hi.fewB_iff h).2 ⟨h40, fun t ht => hall.out t (by rw [List.take_of_length_le (by omega)]; exact ht)⟩
      go_wp2_with fail
      go_ret
      exact ⟨ret_bool HR.out.symm, HB0.out⟩
end Go.Proofs.YtfjamdpgbbnmcaaGreatDoor
