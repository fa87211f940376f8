/-
  Plain facts on cycles of graphs: how many edges lead to a node, the cycle that is found, that it is one and none is shorter.
  Conditions: none beyond those that each theorem states.
-/
import Derived.Test.YtpmimmaaeaifhaaDoorToPlain
set_option maxRecDepth 4000
namespace Go.Proofs.YtpmimmaaeaifhaaDoor
namespace Cy
open Gf Rc To

/-- Do just j + 1 edges lead from x to v? -/
def st (n : Nat) (g : List Nat) (v : Nat) : Nat → Nat → Bool
  | 0, x => bit g x v
  | j + 1, x => (List.range n).any fun y => bit g x y && st n g v j y
theorem st_zero (n : Nat) (g : List Nat) (v x : Nat) : st n g v 0 x = bit g x v := rfl
theorem st_next {n : Nat} {g : List Nat} {v j x : Nat} (hg : Ok n g) : st n g v (j + 1) x = true ↔ ∃ y, bit g x y = true ∧ st n g v j y = true := by
  rw [st, List.any_eq_true]
  constructor
  · rintro ⟨y, _, h⟩
    rw [Bool.and_eq_true] at h
    exact ⟨y, h⟩
  · rintro ⟨y, h1, h2⟩
    exact ⟨y, List.mem_range.2 (hg.node h1).2, by rw [h1, h2]; rfl⟩
theorem st_way {n : Nat} {g : List Nat} (hg : Ok n g) {v : Nat} : ∀ {j x : Nat}, st n g v j x = true → Leads g x v
  | 0, _, h => .edge h
  | _ + 1, _, h => by
    obtain ⟨y, h1, h2⟩ := (st_next hg).1 h
    exact Leads.ahead h1 (st_way hg h2)
theorem way_st {n : Nat} {g : List Nat} (hg : Ok n g) {v x : Nat} (h : Leads g x v) : ∃ j, st n g v j x = true := by
  have key : ∀ {a b : Nat}, Leads g a b → ∀ j, st n g v j b = true → ∃ i, st n g v i a = true := fun {a b} hab => by
    induction hab with
    | single q => exact fun j hj => ⟨j + 1, (st_next hg).2 ⟨_, q, hj⟩⟩
    | tail _ q ih => exact fun j hj => ih (j + 1) ((st_next hg).2 ⟨_, q, hj⟩)
  rcases way_last h with q | ⟨z, h1, h2⟩
  · exact ⟨0, q⟩
  · exact key h1 0 h2

/-- How many edges lead from x to v, at least one and at most k; 0: none do. -/
def far (n : Nat) (g : List Nat) (v k x : Nat) : Nat := match (List.range k).find? (fun j => st n g v j x) with
  | some j => j + 1
  | none => 0
theorem first_of {p : Nat → Bool} {k j : Nat} (h : (List.range k).find? p = some j) : j < k ∧ p j = true ∧ ∀ i, i < j → p i = false := by
  have h0 := List.find?_some h
  have hm := List.mem_of_find?_eq_some h
  refine ⟨List.mem_range.1 hm, h0, fun u hu => ?_⟩
  rw [List.find?_eq_some_iff_append] at h
  obtain ⟨_, ps, qs, e, hall⟩ := h
  have hu2 : u ∈ ps := by
    have hp : (List.range k).Pairwise (· < ·) := List.pairwise_lt_range
    have hun : u ∈ List.range k := List.mem_range.2 (Nat.lt_trans hu (List.mem_range.1 hm))
    rw [e] at hun hp
    rcases List.mem_append.1 hun with q | q
    · exact q
    · rcases List.mem_cons.1 q with rfl | q
      · exact absurd hu (Nat.lt_irrefl _)
      · have := (List.pairwise_cons.1 (List.pairwise_append.1 hp).2.1).1 u q
        omega
  simpa using hall u hu2
theorem first_none {p : Nat → Bool} {k : Nat} (h : (List.range k).find? p = none) : ∀ i, i < k → p i = false := fun i hi => by
  have := List.find?_eq_none.1 h i (List.mem_range.2 hi)
  simpa using this
theorem first_is {p : Nat → Bool} {k j : Nat} (hj : j < k) (hp : p j = true) (hl : ∀ i, i < j → p i = false) : (List.range k).find? p = some j := by
  cases h : (List.range k).find? p with
  | none => rw [first_none h j hj] at hp; cases hp
  | some i =>
    obtain ⟨_, h2, h3⟩ := first_of h
    rcases Nat.lt_trichotomy i j with q | q | q
    · rw [hl i q] at h2; cases h2
    · rw [q]
    · rw [h3 j q] at hp; cases hp
theorem far_none {n : Nat} {g : List Nat} {v k x : Nat} : far n g v k x = 0 ↔ ∀ j, j < k → st n g v j x = false := by
  unfold far
  constructor
  · intro h
    split at h
    · omega
    · rename_i hn
      exact first_none hn
  · intro h
    split
    · rename_i j hj
      obtain ⟨h1, h2, _⟩ := first_of hj
      rw [h j h1] at h2
      cases h2
    · rfl
theorem far_some {n : Nat} {g : List Nat} {v k x j : Nat} : far n g v k x = j + 1 ↔ j < k ∧ st n g v j x = true ∧ ∀ i, i < j → st n g v i x = false := by
  unfold far
  constructor
  · intro h
    split at h
    · rename_i i hi
      obtain rfl : i = j := by omega
      exact first_of hi
    · omega
  · rintro ⟨h1, h2, h3⟩
    rw [first_is h1 h2 h3]
theorem far_le (n : Nat) (g : List Nat) (v k x : Nat) : far n g v k x ≤ k := by
  cases h : far n g v k x with
  | zero => exact Nat.zero_le _
  | succ j => exact (far_some.1 h).1
/-- One round: a node that had no number gets k + 1 just if an edge leads from it to one that has k. -/
theorem far_one (n : Nat) (g : List Nat) (v x : Nat) : far n g v 1 x = if bit g x v = true then 1 else 0 := by
  split
  · rename_i h
    exact far_some.2 ⟨by omega, h, fun i hi => by omega⟩
  · rename_i h
    refine far_none.2 fun j hj => ?_
    obtain rfl : j = 0 := by omega
    cases hb : st n g v 0 x with
    | false => rfl
    | true => exact absurd hb h
theorem far_stays {n : Nat} {g : List Nat} {v k x : Nat} (h : far n g v k x ≠ 0) : far n g v (k + 1) x = far n g v k x := by
  obtain ⟨j, hj⟩ : ∃ j, far n g v k x = j + 1 := ⟨far n g v k x - 1, by omega⟩
  obtain ⟨h1, h2, h3⟩ := far_some.1 hj
  rw [hj]
  exact far_some.2 ⟨by omega, h2, h3⟩
theorem far_new {n : Nat} {g : List Nat} (hg : Ok n g) {v k x y : Nat} (hk : 0 < k) (h : far n g v k x = 0) (hb : bit g x y = true) (hy : far n g v k y = k) : far n g v (k + 1) x = k + 1 := by
  obtain ⟨m, rfl⟩ : ∃ m, k = m + 1 := ⟨k - 1, by omega⟩
  obtain ⟨_, h2, _⟩ := far_some.1 hy
  exact far_some.2 ⟨Nat.lt_succ_self _, (st_next hg).2 ⟨y, hb, h2⟩, far_none.1 h⟩
theorem far_not {n : Nat} {g : List Nat} (hg : Ok n g) {v k x : Nat} (hk : 0 < k) (h : far n g v k x = 0) (hn : ∀ y, bit g x y = true → far n g v k y ≠ k) : far n g v (k + 1) x = 0 := by
  obtain ⟨m, rfl⟩ : ∃ m, k = m + 1 := ⟨k - 1, by omega⟩
  have h0 := far_none.1 h
  refine far_none.2 fun j hj => ?_
  rcases Nat.lt_or_ge j (m + 1) with q | q
  · exact h0 j q
  · obtain rfl : j = m + 1 := by omega
    cases hs : st n g v (m + 1) x with
    | false => rfl
    | true =>
      exfalso
      obtain ⟨y, h1, h2⟩ := (st_next hg).1 hs
      refine hn y h1 (far_some.2 ⟨Nat.lt_succ_self _, h2, fun i hi => ?_⟩)
      cases hi2 : st n g v i y with
      | false => rfl
      | true =>
        have := h0 (i + 1) (by omega)
        rw [(st_next hg).2 ⟨y, h1, hi2⟩] at this
        cases this

/-- Behind a node from which just so many edges lead, at least two, is one from which one less do. -/
theorem far_next {n : Nat} {g : List Nat} (hg : Ok n g) {v k x j : Nat} (h : far n g v k x = j + 2) : ∃ y, bit g x y = true ∧ far n g v k y = j + 1 := by
  obtain ⟨h1, h2, h3⟩ := far_some.1 h
  obtain ⟨y, h4, h5⟩ := (st_next hg).1 h2
  refine ⟨y, h4, far_some.2 ⟨by omega, h5, fun i hi => ?_⟩⟩
  cases hi2 : st n g v i y with
  | false => rfl
  | true =>
    have := h3 (i + 1) (by omega)
    rw [(st_next hg).2 ⟨y, h4, hi2⟩] at this
    cases this
/-- No more edges are wanted than there are nodes. -/
theorem far_nodes {n : Nat} {g : List Nat} (hg : Ok n g) {v k : Nat} : ∀ (j x : Nat), far n g v k x = j + 1 → ∃ l : List Nat, l.length = j + 1 ∧ l.Nodup ∧ (∀ y ∈ l, y < n) ∧ ∀ y ∈ l, far n g v k y ≤ j + 1 ∧ far n g v k y ≠ 0
  | 0, x, h => ⟨[x], rfl, by simp, fun y hy => by rw [List.mem_singleton.1 hy]; exact (hg.node (far_some.1 h).2.1).1, fun y hy => by rw [List.mem_singleton.1 hy, h]; omega⟩
  | j + 1, x, h => by
    obtain ⟨y, h1, h2⟩ := far_next hg h
    obtain ⟨l, e1, e2, e3, e4⟩ := far_nodes hg j y h2
    refine ⟨x :: l, by rw [List.length_cons, e1], List.nodup_cons.2 ⟨fun hm => ?_, e2⟩, fun z hz => ?_, fun z hz => ?_⟩
    · have := (e4 x hm).1
      omega
    · rcases List.mem_cons.1 hz with rfl | q
      · exact (hg.node h1).1
      · exact e3 z q
    · rcases List.mem_cons.1 hz with rfl | q
      · rw [h]; omega
      · have := e4 z q
        omega
theorem far_bound {n : Nat} {g : List Nat} (hg : Ok n g) {v k j x : Nat} (h : far n g v k x = j + 1) : j < n := by
  obtain ⟨l, e1, e2, e3, _⟩ := far_nodes hg j x h
  have := sub_len (m := List.range n) e2 fun y hy => List.mem_range.2 (e3 y hy)
  rw [List.length_range, e1] at this
  omega
theorem far_iff {n : Nat} {g : List Nat} (hg : Ok n g) {v x : Nat} : far n g v n x ≠ 0 ↔ Leads g x v := by
  constructor
  · intro h
    obtain ⟨j, hj⟩ : ∃ j, far n g v n x = j + 1 := ⟨far n g v n x - 1, by omega⟩
    exact st_way hg (far_some.1 hj).2.1
  · intro h h0
    obtain ⟨j, hj⟩ := way_st hg h
    have hk : far n g v (j + 1) x ≠ 0 := fun e => by
      rw [far_none.1 e j (Nat.lt_succ_self j)] at hj
      cases hj
    obtain ⟨i, hi⟩ : ∃ i, far n g v (j + 1) x = i + 1 := ⟨far n g v (j + 1) x - 1, by omega⟩
    have hb := far_bound hg hi
    obtain ⟨_, h2, _⟩ := far_some.1 hi
    rw [far_none.1 h0 i hb] at h2
    cases h2

/-- A cycle. -/
structure IsCyc (n : Nat) (g l : List Nat) : Prop where
  pos : l ≠ []
  node : ∀ x ∈ l, x < n
  once : l.Nodup
  edge : ∀ i (hi : i < l.length), bit g l[i] (l[(i + 1) % l.length]'(Nat.mod_lt _ (by omega))) = true

/-- The way back, node by node: of each the least one from which so many edges lead. -/
def back (n : Nat) (g : List Nat) (v : Nat) : Nat → Nat → List Nat
  | 0, _ => []
  | j + 1, x => match (List.range n).find? (fun y => bit g x y && decide (far n g v n y = j + 1)) with
    | some y => y :: back n g v j y
    | none => []
theorem back_some {n : Nat} {g : List Nat} {v j x y : Nat} (h : (List.range n).find? (fun y => bit g x y && decide (far n g v n y = j + 1)) = some y) : back n g v (j + 1) x = y :: back n g v j y := by rw [back, h]
theorem back_is {n : Nat} {g : List Nat} (hg : Ok n g) {v j x : Nat} (h : far n g v n x = j + 2) : ∃ y, (List.range n).find? (fun y => bit g x y && decide (far n g v n y = j + 1)) = some y ∧ bit g x y = true ∧ far n g v n y = j + 1 := by
  obtain ⟨y, h1, h2⟩ := far_next hg h
  cases hf : (List.range n).find? (fun y => bit g x y && decide (far n g v n y = j + 1)) with
  | none =>
    have := first_none hf y (hg.node h1).2
    rw [h1, h2] at this
    simp at this
  | some z =>
    obtain ⟨_, h3, _⟩ := first_of hf
    rw [Bool.and_eq_true, decide_eq_true_iff] at h3
    exact ⟨z, rfl, h3.1, h3.2⟩
/-- Its length, its numbers, and its edges. -/
theorem back_all {n : Nat} {g : List Nat} (hg : Ok n g) {v : Nat} : ∀ (j x : Nat), far n g v n x = j + 1 →
    (back n g v j x).length = j ∧ (∀ i (hi : i < (back n g v j x).length), far n g v n (back n g v j x)[i] = j - i ∧ (back n g v j x)[i] < n) ∧
    (∀ i (hi : i < (x :: back n g v j x).length), bit g (x :: back n g v j x)[i] (if h : i + 1 < (x :: back n g v j x).length then (x :: back n g v j x)[i + 1] else v) = true)
  | 0, x, h => by
    refine ⟨rfl, fun i hi => absurd hi (Nat.not_lt_zero i), fun i hi => ?_⟩
    obtain rfl : i = 0 := by simp [back] at hi; exact hi
    have := (far_some.1 h).2.1
    rw [dif_neg (by simp [back])]
    exact this
  | j + 1, x, h => by
    obtain ⟨y, h1, h2, h3⟩ := back_is hg h
    obtain ⟨e1, e2, e3⟩ := back_all hg j y h3
    rw [back_some h1]
    refine ⟨by rw [List.length_cons, e1], fun i hi => ?_, fun i hi => ?_⟩
    · cases i with
      | zero => exact ⟨h3, (hg.node h2).2⟩
      | succ i =>
        simp only [List.length_cons] at hi
        obtain ⟨q1, q2⟩ := e2 i (by omega)
        refine ⟨?_, q2⟩
        rw [List.getElem_cons_succ, q1]
        omega
    · cases i with
      | zero =>
        rw [dif_pos (by simp)]
        exact h2
      | succ i =>
        have := e3 i (by simp only [List.length_cons] at hi ⊢; omega)
        simp only [List.length_cons, List.getElem_cons_succ] at this ⊢
        by_cases q : i + 1 < (back n g v j y).length + 1
        · rw [dif_pos q] at this
          rw [dif_pos (by omega)]
          exact this
        · rw [dif_neg q] at this
          rw [dif_neg (by omega)]
          exact this
/-- The cycle that is found. -/
def findR (n : Nat) (g : List Nat) : List Nat := match (List.range n).find? (fun v => decide (far n g v n v ≠ 0)) with
  | some v => v :: back n g v (far n g v n v - 1) v
  | none => []
theorem find_none {n : Nat} {g : List Nat} (hg : Ok n g) (h : cyclicR n g = false) : findR n g = [] := by
  unfold findR
  split
  · rename_i v hv
    obtain ⟨_, h2, _⟩ := first_of hv
    rw [decide_eq_true_iff] at h2
    rw [(cyclic_iff hg).2 ⟨v, (far_iff hg).1 h2⟩] at h
    cases h
  · rfl
theorem find_some {n : Nat} {g : List Nat} (hg : Ok n g) (h : cyclicR n g = true) : ∃ v j, v < n ∧ far n g v n v = j + 1 ∧ (∀ u, u < v → ¬ Leads g u u) ∧ findR n g = v :: back n g v j v := by
  obtain ⟨x, hx⟩ := (cyclic_iff hg).1 h
  cases hf : (List.range n).find? (fun v => decide (far n g v n v ≠ 0)) with
  | none =>
    have := first_none hf x (way_node hg hx).1
    rw [decide_eq_false_iff_not] at this
    exact absurd ((far_iff hg).2 hx) this
  | some v =>
    obtain ⟨h1, h2, h3⟩ := first_of hf
    rw [decide_eq_true_iff] at h2
    refine ⟨v, far n g v n v - 1, h1, by omega, fun u hu hl => ?_, by rw [findR, hf]⟩
    have := h3 u hu
    rw [decide_eq_false_iff_not] at this
    exact this ((far_iff hg).2 hl)
/-- What is found is a cycle. -/
theorem find_cyc {n : Nat} {g : List Nat} (hg : Ok n g) (h : cyclicR n g = true) : IsCyc n g (findR n g) := by
  obtain ⟨v, j, hv, hj, _, e⟩ := find_some hg h
  obtain ⟨e1, e2, e3⟩ := back_all hg j v hj
  rw [e]
  refine ⟨by simp, fun x hx => ?_, ?_, fun i hi => ?_⟩
  · rcases List.mem_cons.1 hx with rfl | q
    · exact hv
    · obtain ⟨i, hi, rfl⟩ := List.getElem_of_mem q
      exact (e2 i hi).2
  · rw [List.nodup_cons]
    refine ⟨fun q => ?_, ?_⟩
    · obtain ⟨i, hi, e4⟩ := List.getElem_of_mem q
      have := (e2 i hi).1
      rw [e4, hj] at this
      omega
    · refine List.pairwise_iff_getElem.2 fun a b ha hb hab q => ?_
      have h1 := (e2 a ha).1
      have h2 := (e2 b hb).1
      rw [q, h2] at h1
      omega
  · have := e3 i hi
    by_cases q : i + 1 < (v :: back n g v j v).length
    · rw [dif_pos q] at this
      have hm : (i + 1) % (v :: back n g v j v).length = i + 1 := Nat.mod_eq_of_lt q
      simp only [hm]
      exact this
    · rw [dif_neg q] at this
      have hm : (i + 1) % (v :: back n g v j v).length = 0 := by
        have : i + 1 = (v :: back n g v j v).length := by omega
        rw [this, Nat.mod_self]
      simp only [hm, List.getElem_cons_zero]
      exact this
/-- A cycle leads back to each of its nodes. -/
theorem IsCyc.leads {n : Nat} {g l : List Nat} (h : IsCyc n g l) : ∀ x ∈ l, Leads g x x := by
  have hlen : 0 < l.length := List.length_pos_iff.2 h.pos
  have key : ∀ (k i : Nat) (hi : i < l.length), Leads g l[i] (l[(i + (k + 1)) % l.length]'(Nat.mod_lt _ hlen)) := fun k => by
    induction k with
    | zero => exact fun i hi => .edge (h.edge i hi)
    | succ k ih =>
      intro i hi
      have h1 := ih i hi
      have h2 := h.edge ((i + (k + 1)) % l.length) (Nat.mod_lt _ hlen)
      have e : ((i + (k + 1)) % l.length + 1) % l.length = (i + (k + 1 + 1)) % l.length := by
        rw [Nat.mod_add_mod]
        rfl
      simp only [e] at h2
      exact h1.behind h2
  intro x hx
  obtain ⟨i, hi, rfl⟩ := List.getElem_of_mem hx
  have := key (l.length - 1) i hi
  have e : (i + (l.length - 1 + 1)) % l.length = i := by
    rw [Nat.sub_add_cancel hlen, Nat.add_mod_right, Nat.mod_eq_of_lt hi]
  simp only [e] at this
  exact this
end Cy
end Go.Proofs.YtpmimmaaeaifhaaDoor
