/-
  Plain facts on who writes and reads what in a history (no Go in it): the answers of layer 9, how many pairs there are and in which order they stand, and that each read is told once.
  Conditions: none beyond those that each theorem states.
-/
import Derived.Test.YtehnmpbongabeaaHiAll
set_option maxRecDepth 4000
namespace Go.Proofs.Ytehnmpbongabeaa.Ix
open So (Txn Rises)
open Hi (Right)

/-! The answers, over histories that may be. -/
def writes (h : List Txn) (key : Int) (t : Nat) : Bool := match h[t]? with
  | some x => decide (key ∈ x.writes)
  | none => false
/-- The numbers of those that write a key. -/
def writers (h : List Txn) (key : Int) : List Nat := (List.range h.length).filter (writes h key)
/-- From whom the transaction with number t reads a key. -/
def fromO (h : List Txn) (t : Nat) (key : Int) : Option Int := match h[t]? with
  | some x => (x.reads.find? fun y => y.1 == key).map (·.2)
  | none => none
def readers (h : List Txn) (key f : Int) : List Nat := (List.range h.length).filter fun t => fromO h t key == some f
def keys (h : List Txn) : List Nat := (List.range 16).filter fun (k : Nat) => !(writers h (k : Int)).isEmpty
/-- All two of a row, the one ahead first. -/
def twos : List Nat → List (Nat × Nat)
  | [] => []
  | a :: r => r.map (fun b => (a, b)) ++ twos r
def pairs (h : List Txn) : List (Nat × Nat × Nat) := (List.range 16).flatMap fun (k : Nat) => (twos (writers h (k : Int))).map fun ab => (k, ab.1, ab.2)

theorem writes_iff (h : List Txn) (key : Int) (t : Nat) : writes h key t = true ↔ ∃ ht : t < h.length, key ∈ h[t].writes := by
  unfold writes
  by_cases ht : t < h.length
  · rw [List.getElem?_eq_getElem ht]
    simp [ht]
  · rw [List.getElem?_eq_none (by omega)]
    simp [ht]
theorem mem_writers {h : List Txn} {key : Int} {t : Nat} : t ∈ writers h key ↔ ∃ ht : t < h.length, key ∈ h[t].writes := by
  unfold writers
  rw [List.mem_filter, List.mem_range, writes_iff]
  exact ⟨fun q => q.2, fun q => ⟨q.1, q⟩⟩
theorem range_rises (n : Nat) : (List.range n).Pairwise (· < ·) := List.pairwise_lt_range
theorem writers_rise (h : List Txn) (key : Int) : (writers h key).Pairwise (· < ·) := (range_rises _).filter _
theorem writers_len (h : List Txn) (key : Int) : (writers h key).length ≤ h.length := by
  have := List.length_filter_le (writes h key) (List.range h.length)
  rw [List.length_range] at this
  exact this
theorem writers_none {h : List Txn} (hr : Right h) (key : Int) (hk : ¬ (0 ≤ key ∧ key < 16)) : writers h key = [] := by
  rw [List.eq_nil_iff_forall_not_mem]
  intro t ht
  obtain ⟨hl, hm⟩ := mem_writers.1 ht
  exact hk ((hr.2 t hl).writes.1 key hm)
theorem readers_rise (h : List Txn) (key f : Int) : (readers h key f).Pairwise (· < ·) := (range_rises _).filter _
theorem keys_rise (h : List Txn) : (keys h).Pairwise (· < ·) := (range_rises _).filter _
theorem mem_keys {h : List Txn} {k : Nat} : k ∈ keys h ↔ k < 16 ∧ writers h (k : Int) ≠ [] := by
  unfold keys
  rw [List.mem_filter, List.mem_range, Bool.not_eq_true', ← Bool.not_eq_true, List.isEmpty_iff]

/-! All two of a row. -/
theorem twos_len (l : List Nat) : (twos l).length * 2 = l.length * (l.length - 1) := by
  induction l with
  | nil => rfl
  | cons a r ih =>
    rw [twos, List.length_append, List.length_map, List.length_cons, Nat.add_mul, ih, Nat.add_sub_cancel]
    cases r.length with
    | zero => rfl
    | succ n => rw [Nat.add_sub_cancel]; simp only [Nat.add_mul, Nat.mul_add]; omega
theorem mem_twos {l : List Nat} (hl : l.Pairwise (· < ·)) {p : Nat × Nat} (hp : p ∈ twos l) : p.1 ∈ l ∧ p.2 ∈ l ∧ p.1 < p.2 := by
  induction l with
  | nil => cases hp
  | cons a r ih =>
    rw [twos] at hp
    rw [List.pairwise_cons] at hl
    rcases List.mem_append.1 hp with q | q
    · obtain ⟨b, hb, rfl⟩ := List.mem_map.1 q
      exact ⟨List.mem_cons_self, List.mem_cons_of_mem _ hb, hl.1 b hb⟩
    · obtain ⟨h1, h2, h3⟩ := ih hl.2 q
      exact ⟨List.mem_cons_of_mem _ h1, List.mem_cons_of_mem _ h2, h3⟩
def lt2 (p q : Nat × Nat) : Prop := p.1 < q.1 ∨ p.1 = q.1 ∧ p.2 < q.2
theorem twos_rise {l : List Nat} (hl : l.Pairwise (· < ·)) : (twos l).Pairwise lt2 := by
  induction l with
  | nil => exact List.Pairwise.nil
  | cons a r ih =>
    rw [twos, List.pairwise_append]
    rw [List.pairwise_cons] at hl
    refine ⟨?_, ih hl.2, fun p hp q hq => ?_⟩
    · rw [List.pairwise_map]
      exact hl.2.imp fun h => .inr ⟨rfl, h⟩
    · obtain ⟨b, _, rfl⟩ := List.mem_map.1 hp
      exact .inl (hl.1 _ (mem_twos hl.2 hq).1)

/-! The pairs. -/
def lt3 (p q : Nat × Nat × Nat) : Prop := p.1 < q.1 ∨ p.1 = q.1 ∧ lt2 p.2 q.2
theorem flat_rise (g : Nat → List (Nat × Nat)) (hg : ∀ k, (g k).Pairwise lt2) : ∀ l : List Nat, l.Pairwise (· < ·) → (l.flatMap fun k => (g k).map fun ab => (k, ab.1, ab.2)).Pairwise lt3
  | [], _ => List.Pairwise.nil
  | k :: l, hl => by
    rw [List.pairwise_cons] at hl
    rw [List.flatMap_cons, List.pairwise_append]
    refine ⟨?_, flat_rise g hg l hl.2, fun p hp q hq => ?_⟩
    · rw [List.pairwise_map]
      exact (hg k).imp fun h => .inr ⟨rfl, h⟩
    · obtain ⟨x, _, rfl⟩ := List.mem_map.1 hp
      obtain ⟨j, hj, hq⟩ := List.mem_flatMap.1 hq
      obtain ⟨y, _, rfl⟩ := List.mem_map.1 hq
      exact .inl (hl.1 j hj)
theorem pairs_rise (h : List Txn) : (pairs h).Pairwise lt3 := flat_rise (fun k : Nat => twos (writers h (k : Int))) (fun k => twos_rise (writers_rise h (k : Int))) _ (range_rises 16)
theorem mem_pairs {h : List Txn} {p : Nat × Nat × Nat} (hp : p ∈ pairs h) : p.1 < 16 ∧ p.2.1 < p.2.2 ∧ p.2.1 ∈ writers h (p.1 : Int) ∧ p.2.2 ∈ writers h (p.1 : Int) := by
  obtain ⟨k, hk, hp⟩ := List.mem_flatMap.1 hp
  obtain ⟨ab, hab, rfl⟩ := List.mem_map.1 hp
  obtain ⟨h1, h2, h3⟩ := mem_twos (writers_rise h _) hab
  exact ⟨List.mem_range.1 hk, h3, h1, h2⟩
/-- So many pairs are there of the first k keys. -/
def manyTo (h : List Txn) (k : Nat) : Nat := ((List.range k).map fun (j : Nat) => (writers h (j : Int)).length * ((writers h (j : Int)).length - 1) / 2).sum
theorem pairs_len (h : List Txn) : (pairs h).length = manyTo h 16 := by
  unfold pairs manyTo
  rw [List.length_flatMap]
  congr 1
  refine List.map_congr_left fun k _ => ?_
  rw [List.length_map]
  have := twos_len (writers h (k : Int))
  omega
theorem manyTo_succ (h : List Txn) (k : Nat) : manyTo h (k + 1) = manyTo h k + (writers h (k : Int)).length * ((writers h (k : Int)).length - 1) / 2 := by
  unfold manyTo
  rw [List.range_succ, List.map_append, List.sum_append]
  simp

/-! Reads. -/
theorem keys_apart {l : List (Int × Int)} (h : (l.map (·.1)).Pairwise (· < ·)) {x y : Int × Int} (hx : x ∈ l) (hy : y ∈ l) (e : x.1 = y.1) : x = y := by
  induction l with
  | nil => cases hx
  | cons z r ih =>
    rw [List.map_cons, List.pairwise_cons] at h
    have far : ∀ w ∈ r, z.1 < w.1 := fun w hw => h.1 w.1 (List.mem_map_of_mem hw)
    rcases List.mem_cons.1 hx with q1 | q1
    · rcases List.mem_cons.1 hy with q2 | q2
      · rw [q1, q2]
      · have := far y q2
        rw [q1] at e
        omega
    · rcases List.mem_cons.1 hy with q2 | q2
      · have := far x q1
        rw [q2] at e
        omega
      · exact ih h.2 q1 q2
theorem from_iff {h : List Txn} (hr : Right h) {t : Nat} {key f : Int} : fromO h t key = some f ↔ ∃ ht : t < h.length, (key, f) ∈ h[t].reads := by
  unfold fromO
  by_cases ht : t < h.length
  · rw [List.getElem?_eq_getElem ht]
    simp only
    constructor
    · intro q
      obtain ⟨y, hy, rfl⟩ := Option.map_eq_some_iff.1 q
      have h1 := List.mem_of_find?_eq_some hy
      have h2 := List.find?_some hy
      refine ⟨ht, ?_⟩
      have e : y.1 = key := by simpa using h2
      rw [← e]
      exact h1
    · rintro ⟨_, hm⟩
      cases hq : h[t].reads.find? fun y => y.1 == key with
      | none =>
        have := List.find?_eq_none.1 hq _ hm
        simp at this
      | some y =>
        have h1 := List.mem_of_find?_eq_some hq
        have h2 : y.1 = key := by simpa using List.find?_some hq
        have := keys_apart (hr.2 t ht).reads.2 h1 hm h2
        rw [this]
        rfl
  · rw [List.getElem?_eq_none (by omega)]
    constructor
    · intro q; cases q
    · rintro ⟨q, _⟩; exact absurd q ht
theorem mem_readers {h : List Txn} (hr : Right h) {t : Nat} {key f : Int} : t ∈ readers h key f ↔ ∃ ht : t < h.length, (key, f) ∈ h[t].reads := by
  unfold readers
  rw [List.mem_filter, List.mem_range, beq_iff_eq, from_iff hr]
  exact ⟨fun q => q.2, fun q => ⟨q.1, q⟩⟩

/-! How many reads there are: told by key and From, and by transaction. -/
theorem sum_zero {α : Type} (l : List α) : (l.map fun _ => 0).sum = 0 := by
  induction l with
  | nil => rfl
  | cons a r ih => rw [List.map_cons, List.sum_cons, ih]
theorem sum_add {α : Type} (l : List α) (f g : α → Nat) : (l.map fun a => f a + g a).sum = (l.map f).sum + (l.map g).sum := by
  induction l with
  | nil => rfl
  | cons a r ih => rw [List.map_cons, List.sum_cons, ih, List.map_cons, List.sum_cons, List.map_cons, List.sum_cons]; omega
/-- Two sums, one inside the other, in either order. -/
theorem sum_swap {α β : Type} (l : List α) (m : List β) (f : α → β → Nat) : (l.map fun a => (m.map fun b => f a b).sum).sum = (m.map fun b => (l.map fun a => f a b).sum).sum := by
  induction l with
  | nil => rw [List.map_nil, List.sum_nil]; exact (sum_zero m).symm
  | cons a r ih =>
    rw [List.map_cons, List.sum_cons, ih, ← sum_add]
    rfl
theorem filter_sum {α : Type} (l : List α) (p : α → Bool) : (l.filter p).length = (l.map fun a => if p a = true then 1 else 0).sum := by
  induction l with
  | nil => rfl
  | cons a r ih =>
    rw [List.map_cons, List.sum_cons, List.filter_cons]
    by_cases h : p a = true
    · rw [if_pos h, if_pos h, List.length_cons, ih]; omega
    · rw [if_neg h, if_neg h, ih]; omega
/-- Just one of a row that has no two the same. -/
theorem sum_one {l : List Int} (hl : l.Pairwise (· < ·)) (x : Int) : (l.map fun a => if x == a then 1 else 0).sum = if x ∈ l then 1 else 0 := by
  induction l with
  | nil => rfl
  | cons a r ih =>
    rw [List.pairwise_cons] at hl
    rw [List.map_cons, List.sum_cons, ih hl.2]
    by_cases h1 : x = a
    · have h2 : x ∉ r := fun q => by have := hl.1 x q; omega
      rw [if_pos (by simpa using h1), if_neg h2, if_pos (by rw [h1]; exact List.mem_cons_self)]
    · by_cases h2 : x ∈ r
      · rw [if_neg (by simpa using h1), if_pos h2, if_pos (List.mem_cons_of_mem _ h2)]
      · rw [if_neg (by simpa using h1), if_neg h2, if_neg (by simp [h1, h2])]
/-- The numbers from -1 on. -/
def froms (n : Nat) : List Int := (List.range (n + 1)).map fun (j : Nat) => (j : Int) - 1
theorem froms_rise (n : Nat) : (froms n).Pairwise (· < ·) := by
  unfold froms
  rw [List.pairwise_map]
  exact (range_rises _).imp fun h => by omega
theorem mem_froms {n : Nat} {f : Int} : f ∈ froms n ↔ -1 ≤ f ∧ f < (n : Int) := by
  unfold froms
  rw [List.mem_map]
  constructor
  · rintro ⟨j, hj, rfl⟩
    have := List.mem_range.1 hj
    omega
  · rintro ⟨h1, h2⟩
    exact ⟨(f + 1).toNat, List.mem_range.2 (by omega), by omega⟩
theorem sum_ones {α : Type} (l : List α) (f : α → Nat) (h : ∀ a ∈ l, f a = 1) : (l.map f).sum = l.length := by
  induction l with
  | nil => rfl
  | cons a r ih => rw [List.map_cons, List.sum_cons, h a List.mem_cons_self, ih (fun b hb => h b (List.mem_cons_of_mem _ hb)), List.length_cons]; omega
theorem count_keys {l : List Int} (hl : Rises l) : ((List.range 16).map fun (k : Nat) => if (k : Int) ∈ l then 1 else 0).sum = l.length := by
  have e1 : ((List.range 16).map fun (k : Nat) => if (k : Int) ∈ l then 1 else 0) = (List.range 16).map fun (k : Nat) => (l.map fun a => if (k : Int) == a then 1 else 0).sum :=
    List.map_congr_left fun k _ => (sum_one hl.2 (k : Int)).symm
  rw [e1, sum_swap]
  refine sum_ones l _ fun a ha => ?_
  have hm : ((List.range 16).map fun (k : Nat) => (k : Int)).Pairwise (· < ·) := by
    rw [List.pairwise_map]
    exact (range_rises 16).imp fun h => by omega
  have e2 : ((List.range 16).map fun (k : Nat) => if (k : Int) == a then 1 else 0) = ((List.range 16).map fun (k : Nat) => (k : Int)).map fun x => if a == x then 1 else 0 := by
    rw [List.map_map]
    refine List.map_congr_left fun k _ => ?_
    show (if ((k : Int) == a) = true then 1 else 0) = if (a == (k : Int)) = true then 1 else 0
    rw [BEq.comm]
  rw [e2, sum_one hm a, if_pos]
  have := hl.1 a ha
  exact List.mem_map.2 ⟨a.toNat, List.mem_range.2 (by omega), by omega⟩
theorem from_key {h : List Txn} (hr : Right h) {t : Nat} (ht : t < h.length) (key : Int) : (fromO h t key).isSome = true ↔ key ∈ h[t].reads.map (·.1) := by
  rw [Option.isSome_iff_exists, List.mem_map]
  constructor
  · rintro ⟨f, q⟩
    obtain ⟨_, hm⟩ := (from_iff hr).1 q
    exact ⟨_, hm, rfl⟩
  · rintro ⟨⟨k, f⟩, hm, rfl⟩
    exact ⟨f, (from_iff hr).2 ⟨ht, hm⟩⟩
theorem from_range {h : List Txn} (hr : Right h) {t : Nat} {key f : Int} (q : fromO h t key = some f) : -1 ≤ f ∧ f < (h.length : Int) := by
  obtain ⟨ht, hm⟩ := (from_iff hr).1 q
  rcases (hr.2 t ht).froms _ hm with e | ⟨j, hj, e, _⟩
  · dsimp only at e; omega
  · dsimp only at e; omega
/-- Each read is told by Readers, once. -/
theorem reads_told {h : List Txn} (hr : Right h) : ((List.range 16).map fun (k : Nat) => ((froms h.length).map fun f => (readers h (k : Int) f).length).sum).sum = ((List.range h.length).map fun t => ((h[t]?).map fun x => x.reads.length).getD 0).sum := by
  have e1 : ∀ k : Nat, ((froms h.length).map fun f => (readers h (k : Int) f).length).sum = ((List.range h.length).map fun t => if (fromO h t (k : Int)).isSome = true then 1 else 0).sum := fun k => by
    have e2 : ((froms h.length).map fun f => (readers h (k : Int) f).length) = (froms h.length).map fun f => ((List.range h.length).map fun t => if (fromO h t (k : Int) == some f) = true then 1 else 0).sum :=
      List.map_congr_left fun f _ => filter_sum _ _
    rw [e2, sum_swap]
    refine congrArg List.sum (List.map_congr_left fun t _ => ?_)
    cases hq : fromO h t (k : Int) with
    | none =>
      refine Eq.trans ?_ (sum_zero (froms h.length))
      congr 1
    | some x =>
      have := sum_one (froms_rise h.length) x
      rw [if_pos (mem_froms.2 (from_range hr hq))] at this
      refine Eq.trans ?_ this
      congr 1
  have e3 : ((List.range 16).map fun (k : Nat) => ((froms h.length).map fun f => (readers h (k : Int) f).length).sum) = (List.range 16).map fun (k : Nat) => ((List.range h.length).map fun t => if (fromO h t (k : Int)).isSome = true then 1 else 0).sum :=
    List.map_congr_left fun k _ => e1 k
  rw [e3, sum_swap]
  refine congrArg List.sum (List.map_congr_left fun t ht => ?_)
  have ht' : t < h.length := List.mem_range.1 ht
  rw [List.getElem?_eq_getElem ht']
  show _ = h[t].reads.length
  have e4 := count_keys (hr.2 t ht').reads
  rw [List.length_map] at e4
  refine Eq.trans (congrArg List.sum (List.map_congr_left fun k _ => ?_)) e4
  by_cases q : (k : Int) ∈ h[t].reads.map (·.1)
  · rw [if_pos q, if_pos ((from_key hr ht' _).2 q)]
  · rw [if_neg q, if_neg (fun q' => q ((from_key hr ht' _).1 q'))]
end Go.Proofs.Ytehnmpbongabeaa.Ix
