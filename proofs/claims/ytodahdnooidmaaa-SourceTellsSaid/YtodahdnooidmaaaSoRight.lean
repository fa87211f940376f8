/-
  Plain facts on what a history tells (no Go in it): all that were committed, in order, each with rising keys, and reads from others that write that key, or from none.
  Conditions: none beyond those that each theorem states.
-/
import Derived.Test.YtodahdnooidmaaaSoPlain
set_option maxRecDepth 4000
namespace Go.Proofs.Ytodahdnooidmaaa.So
open In (isK isK_iff lastOf lookR readsTo writesTo rd wr errAt wrong future)

/-- The place of a committed one among the committed. -/
theorem done_at (l : List Gr.Tx) (i : Nat) (hi : i < l.length) (hd : l[i].done = true) : (l.filter (·.done))[((l.take i).filter (·.done)).length]? = some l[i] := by
  induction l generalizing i with
  | nil => simp at hi
  | cons t r ih =>
    cases i with
    | zero =>
      have : t.done = true := hd
      rw [List.filter_cons_of_pos (by simpa using this)]
      rfl
    | succ i =>
      have hi' : i < r.length := by simpa using hi
      have h := ih i hi' hd
      cases ht : t.done with
      | true =>
        rw [List.take_succ_cons, List.filter_cons_of_pos (by simpa using ht), List.filter_cons_of_pos (by simpa using ht), List.length_cons, List.getElem?_cons_succ]
        exact h
      | false =>
        rw [List.take_succ_cons, List.filter_cons_of_neg (by simp [ht]), List.filter_cons_of_neg (by simp [ht])]
        exact h
theorem done_next (l : List Gr.Tx) (i : Nat) (hi : i < l.length) : ((l.take (i + 1)).filter (·.done)).length = ((l.take i).filter (·.done)).length + if l[i].done = true then 1 else 0 := by
  rw [List.take_succ_eq_append_getElem hi, List.filter_append, List.length_append]
  congr 1
  cases h : l[i].done with
  | true => rw [List.filter_cons_of_pos (by simpa using h)]; rfl
  | false => rw [List.filter_cons_of_neg (by simp [h])]; rfl
theorem txns_len (l : List Gr.Tx) : (txns l).length = (l.filter (·.done)).length := by rw [txns, List.length_map]

/-- Keys rise. -/
def Rises (ks : List Int) : Prop := (∀ k ∈ ks, 0 ≤ k ∧ k < 16) ∧ ks.Pairwise (· < ·)
theorem rises_at {ks : List Int} (h : Rises ks) (j : Nat) (hj : j < ks.length) : 0 ≤ ks[j] ∧ ks[j] < 16 ∧ ∀ i (hi : i < j), ks[i] < ks[j] :=
  ⟨(h.1 _ (List.getElem_mem hj)).1, (h.1 _ (List.getElem_mem hj)).2, fun i hi => List.pairwise_iff_getElem.1 h.2 i j (by omega) hj hi⟩
theorem keys_rise (f : Nat → Option (Int × Int)) (hf : ∀ k y, f k = some y → y.1 = (k : Int)) (n : Nat) : (∀ k ∈ ((List.range n).filterMap f).map (·.1), 0 ≤ k ∧ k < (n : Int)) ∧ (((List.range n).filterMap f).map (·.1)).Pairwise (· < ·) := by
  induction n with
  | zero => exact ⟨fun k hk => by simp at hk, by simp⟩
  | succ n ih =>
    rw [List.range_succ, List.filterMap_append, List.map_append]
    cases h : f n with
    | none =>
      have e : ([n].filterMap f) = [] := by simp [h]
      rw [e, List.map_nil, List.append_nil]
      exact ⟨fun k hk => by have := ih.1 k hk; omega, ih.2⟩
    | some y =>
      have e : ([n].filterMap f) = [y] := by simp [h]
      have hy := hf n y h
      rw [e, List.map_cons, List.map_nil]
      refine ⟨fun k hk => ?_, ?_⟩
      · rcases List.mem_append.1 hk with hk | hk
        · have := ih.1 k hk; omega
        · rw [List.mem_singleton.1 hk, hy]; omega
      · rw [List.pairwise_append]
        refine ⟨ih.2, by simp, fun a ha b hb => ?_⟩
        rw [List.mem_singleton.1 hb, hy]
        exact (ih.1 a ha).2
theorem writes_rise (ops : List Ev.Event) : Rises ((writesTo ops 16).map (·.1)) := keys_rise _ (In.wr_key ops) 16
theorem reads_rise (ops : List Ev.Event) : Rises ((readsTo ops 16).map (·.1)) := keys_rise _ (In.rd_key ops) 16
theorem txn_reads (l : List Gr.Tx) (t : Gr.Tx) : (txnOf l t).reads.map (·.1) = (readsTo t.ops 16).map (·.1) := by
  rw [txnOf, List.map_map]
  rfl

/-- Whose a value is: a committed one's that wrote it last. -/
theorem fromGo_who (key v : Int) (l : List Gr.Tx) : ∀ n, (fromGo key v n l).2 = 0 → ∃ j, ∃ hj : j < (l.filter (·.done)).length, (fromGo key v n l).1 = ((n + j : Nat) : Int) ∧ wrote key v (l.filter (·.done))[j].ops = true ∧ lastOf 2 key (l.filter (·.done))[j].ops = some v := by
  induction l with
  | nil => exact fun _ h => by cases h
  | cons t r ih =>
    intro n h
    rw [fromGo] at h ⊢
    by_cases hw : wrote key v t.ops = true
    · rw [if_pos hw] at h ⊢
      by_cases hd : t.done = false
      · rw [if_pos hd] at h; cases h
      · rw [if_neg hd] at h ⊢
        have hd' : t.done = true := by simpa using hd
        by_cases hl : lastOf 2 key t.ops ≠ some v
        · rw [if_pos hl] at h; cases h
        · rw [if_neg hl]
          have e : (t :: r).filter (·.done) = t :: r.filter (·.done) := List.filter_cons_of_pos (by simpa using hd')
          simp only [e]
          exact ⟨0, by simp, rfl, hw, Decidable.byContradiction hl⟩
    · rw [if_neg hw] at h ⊢
      obtain ⟨j, hj, h1, h2, h3⟩ := ih _ h
      cases hd : t.done with
      | true =>
        have e : (t :: r).filter (·.done) = t :: r.filter (·.done) := List.filter_cons_of_pos (by simpa using hd)
        simp only [e]
        refine ⟨j + 1, by simpa using hj, ?_, by simpa using h2, by simpa using h3⟩
        rw [hd] at h1
        simp only [if_true] at h1 ⊢
        rw [h1]
        omega
      | false =>
        have e : (t :: r).filter (·.done) = r.filter (·.done) := List.filter_cons_of_neg (by simp [hd])
        simp only [e]
        refine ⟨j, hj, ?_, h2, h3⟩
        rw [hd] at h1
        simpa using h1
theorem mem_keys (f : Nat → Option (Int × Int)) (k n : Nat) (hk : k < n) (y : Int × Int) (h : f k = some y) : y ∈ (List.range n).filterMap f := List.mem_filterMap.2 ⟨k, List.mem_range.2 hk, h⟩
/-- What is read of others is not one's own. -/
theorem own_no {ops : List Ev.Event} (hg : In.good ops) (k : Nat) (y : Int × Int) (hy : rd ops k = some y) : wrote (k : Int) y.2 ops = false := by
  unfold rd at hy
  cases hf : ops.find? fun e => decide (e.key = (k : Int)) with
  | none => rw [hf] at hy; cases hy
  | some e =>
    rw [hf] at hy
    simp only at hy
    by_cases hk : e.kind = 1
    · rw [if_pos hk] at hy
      cases hy
      obtain ⟨h1, p, hp, he, h2⟩ := List.find?_eq_some_iff_getElem.1 hf
      have hkey : e.key = (k : Int) := by simpa using h1
      have hne : ∀ i (hi : i < ops.length), i < p → ops[i].key ≠ (k : Int) := fun i hi hip => by simpa using h2 i hip
      have hno : ∀ kind, lastOf kind e.key (ops.take p) = none := fun kind => by
        rw [In.lastOf_none]
        intro x hx
        obtain ⟨i, hi, rfl⟩ := List.getElem_of_mem hx
        rw [List.length_take] at hi
        rw [List.getElem_take]
        cases hq : isK kind e.key ops[i] with
        | false => rfl
        | true => exact absurd (((isK_iff _ _ _).1 hq).2.trans hkey) (hne i (by omega) (by omega))
      have h0 := hg p
      have hr := (In.right_of_good hg p hp).1
      rw [he] at hr
      rw [In.errAt_at ops p hp, he, In.wrong_read _ _ _ hr hk, hno 2, hno 1] at h0
      have hfu : future e (ops.drop (p + 1)) = false := by
        cases hq : future e (ops.drop (p + 1)) with
        | false => rfl
        | true => rw [hq] at h0; simp at h0
      rw [wrote, List.any_eq_false]
      intro x hx hw
      obtain ⟨w1, w2, w3⟩ := (isW_iff _ _ _).1 hw
      obtain ⟨i, hi, rfl⟩ := List.getElem_of_mem hx
      rcases Nat.lt_trichotomy i p with h | h | h
      · exact hne i hi h w2
      · subst h
        rw [he, hk] at w1
        cases w1
      · rw [future, List.any_eq_false] at hfu
        have hm : ops[i] ∈ ops.drop (p + 1) := by
          rw [List.mem_iff_getElem]
          exact ⟨i - (p + 1), by rw [List.length_drop]; omega, by rw [List.getElem_drop]; congr 1; omega⟩
        refine hfu _ hm ?_
        rw [Bool.and_eq_true, isK_iff, decide_eq_true_eq]
        exact ⟨⟨w1, w2.trans hkey.symm⟩, w3⟩
    · rw [if_neg hk] at hy
      cases hy
/-- P7.2: what a read of a history tells: from none, or from another one that writes that key. -/
theorem read_from (l : List Gr.Tx) (h2 : Clean l 2) (h3 : Clean l 3) (i : Nat) (hi : i < (txns l).length) (y : Int × Int) (hy : y ∈ (txns l)[i].reads) :
    y.2 = -1 ∨ ∃ j, ∃ hj : j < (txns l).length, y.2 = (j : Int) ∧ j ≠ i ∧ y.1 ∈ (txns l)[j].writes := by
  have hlen := txns_len l
  have ht : ∀ j (hj : j < (txns l).length), (txns l)[j] = txnOf l ((l.filter (·.done))[j]'(by omega)) := fun j hj => by simp [txns]
  rw [ht i hi, txnOf] at hy
  obtain ⟨z, hz, rfl⟩ := List.mem_map.1 hy
  obtain ⟨hmem, hdone⟩ := List.mem_filter.1 (List.getElem_mem (l := l.filter (·.done)) (n := i) (by omega))
  have hok := (clean_reads l).1 h3 _ hmem (by simpa using hdone) z hz
  have hgood : In.good ((l.filter (·.done))[i]'(by omega)).ops := by
    rcases In.look_cases ((l.filter (·.done))[i]'(by omega)).ops with h | ⟨j, hj, q1, q2⟩
    · exact h
    · have := (clean_look l).1 h2 _ hmem (by simpa using hdone)
      rw [In.look_bad _ j q2 q1] at this
      exact absurd this q1
  obtain ⟨k, hk, hrd⟩ := List.mem_filterMap.1 hz
  have hk16 : k < 16 := List.mem_range.1 hk
  have hzk := In.rd_key _ _ _ hrd
  show (fromR l z).1 = -1 ∨ _
  unfold fromR at hok ⊢
  by_cases h0 : z.2 = 0
  · rw [if_pos h0]; exact .inl rfl
  · rw [if_neg h0] at hok ⊢
    obtain ⟨j, hj, e1, e2, e3⟩ := fromGo_who z.1 z.2 l 0 hok
    refine .inr ⟨j, by omega, by rw [e1]; simp, fun e => ?_, ?_⟩
    · subst e
      have := own_no hgood k z hrd
      rw [← hzk, e2] at this
      cases this
    · rw [ht j (by omega), txnOf]
      refine List.mem_map.2 ⟨(z.1, z.2), ?_, rfl⟩
      refine mem_keys _ k 16 hk16 _ ?_
      rw [wr, ← hzk, e3]
      rfl
end Go.Proofs.Ytodahdnooidmaaa.So
