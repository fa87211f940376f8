/-
  Plain facts for walks of layer 7, the reference's among them (no Go in it): each loop's step: writes counted, writes that are unlike, whose a value is, reads in their order.
  Conditions: none beyond those that each theorem states.
-/
import Derived.Test.YtodahdnooidmaaaSoRight
set_option maxRecDepth 4000
namespace Go.Proofs.Ytodahdnooidmaaa.So
open In (isK isK_iff lastOf lookR readsTo writesTo rd wr)

/-- How often a value of a key is written. -/
def times (key v : Int) (ops : List Ev.Event) : Nat := ops.countP (isW key v)
theorem times_zero (key v : Int) (ops : List Ev.Event) : times key v ops = 0 ↔ wrote key v ops = false := by
  rw [times, List.countP_eq_zero, wrote, List.any_eq_false]
theorem times_take (key v : Int) (ops : List Ev.Event) (i : Nat) (hi : i < ops.length) : times key v (ops.take (i + 1)) = times key v (ops.take i) + if isW key v ops[i] = true then 1 else 0 := by
  rw [List.take_succ_eq_append_getElem hi, times, List.countP_append, times]
  congr 1
  cases h : isW key v ops[i] <;> simp [h]
theorem times_append (key v : Int) (a b : List Ev.Event) : times key v (a ++ b) = times key v a + times key v b := List.countP_append
theorem times_le (key v : Int) (ops : List Ev.Event) : times key v ops ≤ ops.length := List.countP_le_length
/-- All ahead, transaction by transaction. -/
theorem times_flat (key v : Int) (l : List Gr.Tx) (i : Nat) (hi : i < l.length) : times key v ((l.take (i + 1)).flatMap (·.ops)) = times key v ((l.take i).flatMap (·.ops)) + times key v l[i].ops := by
  rw [List.take_succ_eq_append_getElem hi, List.flatMap_append, times_append]
  simp
/-- Writes that are unlike, op by op. -/
theorem unlike_step (a ops : List Ev.Event) (i : Nat) (hi : i < ops.length) : unlikeR (a ++ ops.take i) (ops.drop i) = if opBad (a ++ ops.take i) ops[i] ≠ 0 then opBad (a ++ ops.take i) ops[i] else unlikeR (a ++ ops.take (i + 1)) (ops.drop (i + 1)) := by
  rw [List.drop_eq_getElem_cons hi, unlikeR, List.take_succ_eq_append_getElem hi, List.append_assoc]
theorem unlike_end (a ops : List Ev.Event) (i : Nat) (hi : ops.length ≤ i) : unlikeR (a ++ ops.take i) (ops.drop i) = 0 := by rw [List.drop_eq_nil_of_le hi, unlikeR]
theorem opBad_cases (a : List Ev.Event) (e : Ev.Event) : (e.kind ≠ 2 ∧ opBad a e = 0) ∨ e.kind = 2 ∧ ((e.value = 0 ∧ opBad a e = 7) ∨ e.value ≠ 0 ∧ ((times e.key e.value a = 0 ∧ opBad a e = 0) ∨ (0 < times e.key e.value a ∧ opBad a e = 8))) := by
  unfold opBad
  by_cases h1 : e.kind = 2
  · refine .inr ⟨h1, ?_⟩
    rw [if_neg (by simpa using h1)]
    by_cases h2 : e.value = 0
    · exact .inl ⟨h2, by rw [if_pos h2]⟩
    · refine .inr ⟨h2, ?_⟩
      rw [if_neg h2]
      cases h3 : wrote e.key e.value a with
      | false => exact .inl ⟨(times_zero _ _ _).2 h3, by simp⟩
      | true =>
        refine .inr ⟨Nat.pos_of_ne_zero fun h => ?_, by simp⟩
        rw [(times_zero _ _ _).1 h] at h3
        cases h3
  · exact .inl ⟨h1, by rw [if_pos h1]⟩
/-- Whose a value is, transaction by transaction. -/
theorem from_step (key v : Int) (l : List Gr.Tx) (n i : Nat) (hi : i < l.length) (h : wrote key v l[i].ops = false) : fromGo key v n (l.drop i) = fromGo key v (if l[i].done = true then n + 1 else n) (l.drop (i + 1)) := by
  rw [List.drop_eq_getElem_cons hi, fromGo, if_neg (by rw [h]; simp)]
theorem from_hit (key v : Int) (l : List Gr.Tx) (n i : Nat) (hi : i < l.length) (h : wrote key v l[i].ops = true) : fromGo key v n (l.drop i) = if l[i].done = false then (0, 13) else if lastOf 2 key l[i].ops ≠ some v then (0, 14) else ((n : Int), 0) := by
  rw [List.drop_eq_getElem_cons hi, fromGo, if_pos h]
theorem from_end (key v : Int) (l : List Gr.Tx) (n i : Nat) (hi : l.length ≤ i) : fromGo key v n (l.drop i) = (0, 12) := by rw [List.drop_eq_nil_of_le hi, fromGo]
/-- So far nobody wrote it: the number of those ahead that were committed goes with it. -/
theorem from_number (key v : Int) (l : List Gr.Tx) (i : Nat) (hi : i ≤ l.length) (h : ∀ j (hj : j < l.length), j < i → wrote key v l[j].ops = false) : fromGo key v 0 l = fromGo key v ((l.take i).filter (·.done)).length (l.drop i) := by
  induction i with
  | zero => rfl
  | succ i ih =>
    rw [ih (by omega) (fun j hj hji => h j hj (by omega)), from_step key v l _ i (by omega) (h i (by omega) (by omega)), done_next l i (by omega)]
    congr 1
    split <;> rfl
/-- What was written over, by the face's writes. -/
theorem middle_iff (ops : List Ev.Event) (k : Nat) (hk : k < 16) (v : Int) (h : wrote (k : Int) v ops = true) : (∃ y ∈ writesTo ops 16, y.1 = (k : Int) ∧ y.2 ≠ v) ↔ lastOf 2 (k : Int) ops ≠ some v := by
  have hs : ∃ u, lastOf 2 (k : Int) ops = some u := by
    cases hl : lastOf 2 (k : Int) ops with
    | some u => exact ⟨u, rfl⟩
    | none =>
      rw [wrote, List.any_eq_true] at h
      obtain ⟨e, he, hw⟩ := h
      obtain ⟨h1, h2, _⟩ := (isW_iff _ _ _).1 hw
      have := (In.lastOf_none _ _ _).1 hl e he
      rw [(isK_iff _ _ _).2 ⟨h1, h2⟩] at this
      cases this
  obtain ⟨u, hu⟩ := hs
  rw [hu]
  constructor
  · rintro ⟨y, hy, h1, h2⟩ h3
    obtain ⟨j, hj, hw⟩ := List.mem_filterMap.1 hy
    have hjk := In.wr_key ops j y hw
    have : j = k := by omega
    subst this
    rw [wr, hu] at hw
    cases hw
    exact h2 (by simpa using h3)
  · intro h2
    refine ⟨((k : Int), u), ?_, rfl, fun e => h2 (by rw [← e])⟩
    exact mem_keys _ k 16 hk _ (by rw [wr, hu]; rfl)
/-- Reads in their order. -/
theorem readsErr_step (l : List Gr.Tx) (ys : List (Int × Int)) (i : Nat) (hi : i < ys.length) : readsErr l (ys.drop i) = if (fromR l ys[i]).2 ≠ 0 then (fromR l ys[i]).2 else readsErr l (ys.drop (i + 1)) := by rw [List.drop_eq_getElem_cons hi, readsErr]
theorem readsErr_end (l : List Gr.Tx) (ys : List (Int × Int)) (i : Nat) (hi : ys.length ≤ i) : readsErr l (ys.drop i) = 0 := by rw [List.drop_eq_nil_of_le hi, readsErr]
/-- Transactions in their order, as the history is filled. -/
theorem txns_step (l : List Gr.Tx) (i : Nat) (hi : i < l.length) : ((l.take (i + 1)).filter (·.done)).map (txnOf l) = ((l.take i).filter (·.done)).map (txnOf l) ++ if l[i].done = true then [txnOf l l[i]] else [] := by
  rw [List.take_succ_eq_append_getElem hi, List.filter_append, List.map_append]
  congr 1
  cases h : l[i].done <;> simp [h]
theorem mayT_iff (t : Gr.Tx) : mayT t = true ↔ (∀ e ∈ t.ops, (Ev.right e && Ev.hasKey e.kind) = true) ∧ 0 ≤ t.session ∧ t.session < 8 := by
  rw [mayT, Bool.and_eq_true, List.all_eq_true, decide_eq_true_eq]
end Go.Proofs.Ytodahdnooidmaaa.So
