/-
  Plain facts on all reads of a history, each with the number of the transaction that reads (no Go in it): who reads a key from somebody, and from whom somebody reads it, told by going through them.
  Conditions: none beyond those that each theorem states.
-/
import Derived.Test.YtehnmpbongabeaaIxPlain
import Derived.Test.YtehnmpbongabeaaHiAll
set_option maxRecDepth 4000
namespace Go.Proofs.Ytehnmpbongabeaa.Ix
open So (Txn Rises)
open Hi (Right)

/-- The reads of the transaction with number t, each with t. -/
def readsOf (h : List Txn) (t : Nat) : List (Nat × Int × Int) := match h[t]? with
  | some x => x.reads.map fun y => (t, y)
  | none => []
def readsTo (h : List Txn) (k : Nat) : List (Nat × Int × Int) := (List.range k).flatMap (readsOf h)
def all (h : List Txn) : List (Nat × Int × Int) := readsTo h h.length
theorem readsOf_at {h : List Txn} {k : Nat} (hk : k < h.length) : readsOf h k = h[k].reads.map fun y => (k, y) := by
  unfold readsOf
  rw [List.getElem?_eq_getElem hk]
theorem readsTo_succ (h : List Txn) (k : Nat) : readsTo h (k + 1) = readsTo h k ++ readsOf h k := by
  unfold readsTo
  rw [List.range_succ, List.flatMap_append]
  simp
theorem readsTo_front (h : List Txn) (k n : Nat) (hk : k ≤ n) : readsTo h k <+: readsTo h n := by
  induction n with
  | zero => rw [Nat.le_zero.1 hk]; exact List.prefix_refl _
  | succ n ih =>
    by_cases e : k = n + 1
    · rw [e]; exact List.prefix_refl _
    · rw [readsTo_succ]
      exact (ih (by omega)).trans (List.prefix_append _ _)
theorem part_front (h : List Txn) (k j : Nat) (hk : k < h.length) : readsTo h k ++ (readsOf h k).take j <+: all h := by
  refine List.IsPrefix.trans ?_ (readsTo_front h (k + 1) h.length hk)
  rw [readsTo_succ]
  exact List.prefix_append_right_inj _ |>.2 (List.take_prefix _ _)
theorem part_next (h : List Txn) (k j : Nat) (hk : k < h.length) (hj : j < h[k].reads.length) : readsTo h k ++ (readsOf h k).take (j + 1) = readsTo h k ++ (readsOf h k).take j ++ [(k, h[k].reads[j])] := by
  have hl : j < (readsOf h k).length := by rw [readsOf_at hk, List.length_map]; exact hj
  rw [List.take_succ_eq_append_getElem hl, List.append_assoc]
  congr 3
  simp [readsOf_at hk]
theorem part_less (h : List Txn) (k j : Nat) (hk : k < h.length) (hj : j < h[k].reads.length) : (readsTo h k ++ (readsOf h k).take j).length < (all h).length := by
  have := (part_front h k (j + 1) hk).length_le
  rw [part_next h k j hk hj, List.length_append] at this
  simp only [List.length_singleton] at this
  omega
theorem part_whole (h : List Txn) (k j : Nat) (hk : k < h.length) (hj : h[k].reads.length ≤ j) : readsTo h k ++ (readsOf h k).take j = readsTo h (k + 1) := by
  rw [readsTo_succ, List.take_of_length_le (by rw [readsOf_at hk, List.length_map]; exact hj)]

theorem mem_all {h : List Txn} {x : Nat × Int × Int} : x ∈ all h ↔ ∃ ht : x.1 < h.length, x.2 ∈ h[x.1].reads := by
  unfold all readsTo
  rw [List.mem_flatMap]
  constructor
  · rintro ⟨t, ht, hx⟩
    have ht' := List.mem_range.1 ht
    rw [readsOf_at ht'] at hx
    obtain ⟨y, hy, rfl⟩ := List.mem_map.1 hx
    exact ⟨ht', hy⟩
  · rintro ⟨ht, hx⟩
    refine ⟨x.1, List.mem_range.2 ht, ?_⟩
    rw [readsOf_at ht]
    exact List.mem_map.2 ⟨x.2, hx, rfl⟩
theorem all_len {h : List Txn} (hr : Right h) : (all h).length ≤ 512 := by
  have step : ∀ k, k ≤ h.length → (readsTo h k).length ≤ k * 16 := by
    intro k
    induction k with
    | zero => intro _; simp [readsTo]
    | succ k ih =>
      intro hk
      have h1 := ih (by omega)
      rw [readsTo_succ, List.length_append, readsOf_at (by omega), List.length_map]
      have h2 := count_keys (hr.2 k (by omega)).reads
      rw [List.length_map] at h2
      have h3 : ∀ l : List Nat, (l.map fun (k' : Nat) => if (k' : Int) ∈ h[k].reads.map (·.1) then 1 else 0).sum ≤ l.length := by
        intro l
        induction l with
        | nil => simp
        | cons a r ih => rw [List.map_cons, List.sum_cons, List.length_cons]; split <;> omega
      have h4 := h3 (List.range 16)
      rw [List.length_range] at h4
      omega
  have := step h.length (Nat.le_refl _)
  have := hr.1
  unfold all
  omega

/-! What is gathered in going through them. -/
def isRead (key f : Int) (x : Nat × Int × Int) : Bool := x.2.1 == key && x.2.2 == f
def gathered (key f : Int) (l : List (Nat × Int × Int)) : List Nat := (l.filter (isRead key f)).map (·.1)
theorem gathered_snoc (key f : Int) (l : List (Nat × Int × Int)) (x : Nat × Int × Int) : gathered key f (l ++ [x]) = if isRead key f x = true then gathered key f l ++ [x.1] else gathered key f l := by
  unfold gathered
  rw [List.filter_append, List.map_append]
  by_cases q : isRead key f x = true
  · rw [if_pos q]; simp [q]
  · rw [if_neg q]; simp [q]
theorem gathered_of {h : List Txn} (hr : Right h) (key f : Int) (t : Nat) (ht : t < h.length) : gathered key f (readsOf h t) = if fromO h t key == some f then [t] else [] := by
  rw [readsOf_at ht]
  have apart := (hr.2 t ht).reads.2
  have iff := @from_iff h hr t key f
  unfold gathered
  rw [List.filter_map, List.map_map]
  have e : ∀ l : List (Int × Int), (l.map (·.1)).Pairwise (· < ·) → (l.filter (isRead key f ∘ fun y => (t, y))).map (Prod.fst ∘ fun y => (t, y)) = if (key, f) ∈ l then [t] else [] := by
    intro l
    induction l with
    | nil => intro _; rfl
    | cons y r ih =>
      intro hp
      rw [List.map_cons, List.pairwise_cons] at hp
      rw [List.filter_cons]
      by_cases q : (isRead key f ∘ fun y => (t, y)) y = true
      · have hy : y = (key, f) := by
          obtain ⟨a, b⟩ := y
          simp [isRead] at q
          rw [q.1, q.2]
        have hn : (key, f) ∉ r := fun m => by
          have := hp.1 key (List.mem_map.2 ⟨_, m, rfl⟩)
          rw [hy] at this
          simp at this
        rw [if_pos q, List.map_cons, ih hp.2, if_neg hn, if_pos (by rw [hy]; exact List.mem_cons_self)]
        rfl
      · have hy : (key, f) ≠ y := fun e => q (by rw [← e]; simp [isRead])
        rw [if_neg q, ih hp.2]
        simp [hy]
  rw [e _ apart]
  by_cases q : fromO h t key = some f
  · obtain ⟨_, m⟩ := iff.1 q
    rw [if_pos m, if_pos (by simpa using q)]
  · have m : (key, f) ∉ h[t].reads := fun m => q (iff.2 ⟨ht, m⟩)
    rw [if_neg m, if_neg (by simpa using q)]
theorem gathered_all {h : List Txn} (hr : Right h) (key f : Int) : gathered key f (all h) = readers h key f := by
  have step : ∀ k, k ≤ h.length → gathered key f (readsTo h k) = (List.range k).filter fun t => fromO h t key == some f := by
    intro k
    induction k with
    | zero => intro _; rfl
    | succ k ih =>
      intro hk
      have app : ∀ a b, gathered key f (a ++ b) = gathered key f a ++ gathered key f b := fun a b => by unfold gathered; rw [List.filter_append, List.map_append]
      rw [readsTo_succ, app, ih (by omega), gathered_of hr key f k (by omega), List.range_succ, List.filter_append]
      congr 1
      by_cases q : fromO h k key == some f
      · rw [if_pos q]; simp [q]
      · rw [if_neg q]; simp [q]
  exact step _ (Nat.le_refl _)
/-- A read of t, of the key. -/
def isAt (t key : Int) (x : Nat × Int × Int) : Bool := (x.1 : Int) == t && x.2.1 == key
/-- From whom the transaction that is named by any integer reads a key. -/
def fromI (h : List Txn) (t key : Int) : Option Int := if 0 ≤ t then fromO h t.toNat key else none
theorem fromI_nat (h : List Txn) (t : Nat) (key : Int) : fromI h (t : Int) key = fromO h t key := by unfold fromI; simp
theorem from_none {h : List Txn} (hr : Right h) {t key : Int} (q : ∀ x ∈ all h, isAt t key x = false) : fromI h t key = none := by
  unfold fromI
  by_cases h0 : 0 ≤ t
  · rw [if_pos h0]
    cases e : fromO h t.toNat key with
    | none => rfl
    | some f =>
      obtain ⟨ht, m⟩ := (from_iff hr).1 e
      have := q (t.toNat, key, f) (mem_all.2 ⟨ht, m⟩)
      simp [isAt] at this
      omega
  · rw [if_neg h0]
theorem from_some {h : List Txn} (hr : Right h) {t key : Int} {x : Nat × Int × Int} (hx : x ∈ all h) (q : isAt t key x = true) : fromI h t key = some x.2.2 := by
  obtain ⟨n, k, f⟩ := x
  simp [isAt] at q
  obtain ⟨rfl, rfl⟩ := q
  obtain ⟨ht, m⟩ := mem_all.1 hx
  rw [fromI_nat]
  exact (from_iff hr).2 ⟨ht, m⟩
theorem fromI_out {h : List Txn} {t key : Int} (q : (h.length : Int) ≤ t ∨ t < 0) : fromI h t key = none := by
  unfold fromI
  by_cases h0 : 0 ≤ t
  · rw [if_pos h0]
    unfold fromO
    rw [List.getElem?_eq_none (by omega)]
  · rw [if_neg h0]

/-! Who writes a key, and all pairs, step by step. -/
def writersTo (h : List Txn) (key : Int) (k : Nat) : List Nat := (List.range k).filter (writes h key)
theorem writersTo_yes {h : List Txn} {key : Int} {k : Nat} (hk : k < h.length) (q : decide (key ∈ h[k].writes) = true) : writersTo h key (k + 1) = writersTo h key k ++ [k] := by
  have e : writes h key k = true := (writes_iff h key k).2 ⟨hk, of_decide_eq_true q⟩
  unfold writersTo
  rw [List.range_succ, List.filter_append]
  simp [e]
theorem writersTo_no {h : List Txn} {key : Int} {k : Nat} (hk : k < h.length) (q : decide (key ∈ h[k].writes) = false) : writersTo h key (k + 1) = writersTo h key k := by
  have e : writes h key k = false := by
    rw [← Bool.not_eq_true, writes_iff]
    rintro ⟨_, m⟩
    exact of_decide_eq_false q m
  unfold writersTo
  rw [List.range_succ, List.filter_append]
  simp [e]
theorem writersTo_all (h : List Txn) (key : Int) : writersTo h key h.length = writers h key := rfl
def keysTo (h : List Txn) (k : Nat) : List Nat := (List.range k).filter fun (k : Nat) => !(writers h (k : Int)).isEmpty
theorem keysTo_yes {h : List Txn} {k : Nat} (q : 0 < (writers h (k : Int)).length) : keysTo h (k + 1) = keysTo h k ++ [k] := by
  have e : (writers h (k : Int)).isEmpty = false := by
    rw [← Bool.not_eq_true, List.isEmpty_iff]
    intro e
    rw [e] at q
    simp at q
  unfold keysTo
  rw [List.range_succ, List.filter_append]
  simp [e]
theorem keysTo_no {h : List Txn} {k : Nat} (q : ¬ 0 < (writers h (k : Int)).length) : keysTo h (k + 1) = keysTo h k := by
  have e : (writers h (k : Int)).isEmpty = true := by
    rw [List.isEmpty_iff]
    exact List.length_eq_zero_iff.1 (by omega)
  unfold keysTo
  rw [List.range_succ, List.filter_append]
  simp [e]
theorem keysTo_len (h : List Txn) (k : Nat) : (keysTo h k).length ≤ k := by
  have := List.length_filter_le (fun (k : Nat) => !(writers h (k : Int)).isEmpty) (List.range k)
  rw [List.length_range] at this
  exact this
/-- All two of a row whose first one is among the first i. -/
def twosTo (l : List Nat) (i : Nat) : List (Nat × Nat) := (List.range i).flatMap fun a => (l.drop (a + 1)).map fun b => ((l[a]?).getD 0, b)
theorem twosTo_succ (l : List Nat) (i : Nat) (hi : i < l.length) : twosTo l (i + 1) = twosTo l i ++ (l.drop (i + 1)).map fun b => (l[i], b) := by
  unfold twosTo
  rw [List.range_succ, List.flatMap_append]
  simp [List.getElem?_eq_getElem hi]
theorem twosTo_all (l : List Nat) : twosTo l l.length = twos l := by
  induction l with
  | nil => rfl
  | cons a r ih =>
    rw [twos, ← ih]
    unfold twosTo
    rw [List.length_cons, List.range_succ_eq_map, List.flatMap_cons, List.flatMap_map]
    simp
def pairsTo (h : List Txn) (k : Nat) : List (Nat × Nat × Nat) := (List.range k).flatMap fun (k : Nat) => (twos (writers h (k : Int))).map fun ab => (k, ab.1, ab.2)
theorem pairsTo_succ (h : List Txn) (k : Nat) : pairsTo h (k + 1) = pairsTo h k ++ (twosTo (writers h (k : Int)) (writers h (k : Int)).length).map fun ab => (k, ab.1, ab.2) := by
  unfold pairsTo
  rw [List.range_succ, List.flatMap_append, twosTo_all]
  simp
/-- Those of the first k keys, and of this key those whose first one is among the first i of its writers l; and of the i-th so many. -/
def midTo (h : List Txn) (k : Nat) (l : List Nat) (i : Nat) : List (Nat × Nat × Nat) := pairsTo h k ++ (twosTo l i).map fun ab => (k, ab.1, ab.2)
def inTo (h : List Txn) (k : Nat) (l : List Nat) (i a j : Nat) : List (Nat × Nat × Nat) := midTo h k l i ++ ((l.drop (i + 1)).take j).map fun b => (k, a, b)
theorem midTo_zero (h : List Txn) (k : Nat) (l : List Nat) : midTo h k l 0 = pairsTo h k := by simp [midTo, twosTo]
theorem midTo_all (h : List Txn) (k : Nat) : midTo h k (writers h (k : Int)) (writers h (k : Int)).length = pairsTo h (k + 1) := (pairsTo_succ h k).symm
theorem inTo_zero (h : List Txn) (k : Nat) (l : List Nat) (i a : Nat) : inTo h k l i a 0 = midTo h k l i := by simp [inTo]
theorem inTo_all (h : List Txn) (k : Nat) (l : List Nat) (i : Nat) (hi : i < l.length) : inTo h k l i l[i] (l.length - (i + 1)) = midTo h k l (i + 1) := by
  unfold inTo midTo
  rw [twosTo_succ l i hi, List.map_append, List.map_map, List.append_assoc, List.take_of_length_le (by rw [List.length_drop]; omega)]
  rfl
theorem inTo_next (h : List Txn) (k : Nat) (l : List Nat) (i a j : Nat) (hj : j < (l.drop (i + 1)).length) : inTo h k l i a (j + 1) = inTo h k l i a j ++ [(k, a, (l.drop (i + 1))[j])] := by
  unfold inTo
  rw [List.take_succ_eq_append_getElem hj, List.map_append, List.append_assoc]
  rfl
theorem twosTo_len (l : List Nat) (i : Nat) (hl : l.length ≤ 32) (hi : i ≤ l.length) : (twosTo l i).length ≤ i * 32 := by
  induction i with
  | zero => simp [twosTo]
  | succ i ih =>
    have := ih (by omega)
    rw [twosTo_succ l i (by omega), List.length_append, List.length_map, List.length_drop]
    omega
theorem pairsTo_len {h : List Txn} (hl : h.length ≤ 32) (k : Nat) : (pairsTo h k).length ≤ k * 1024 := by
  induction k with
  | zero => simp [pairsTo]
  | succ k ih =>
    have h1 : (writers h (k : Int)).length ≤ 32 := Nat.le_trans (writers_len h _) hl
    have h2 := twosTo_len (writers h (k : Int)) _ h1 (Nat.le_refl _)
    rw [pairsTo_succ, List.length_append, List.length_map]
    omega
theorem inTo_len {h : List Txn} (hl : h.length ≤ 32) (k : Nat) (hk : k < 16) (l : List Nat) (h1 : l.length ≤ 32) (i a j : Nat) (hi : i < l.length) : (inTo h k l i a j).length ≤ 20000 := by
  have h2 := twosTo_len l i h1 (by omega)
  have h3 := pairsTo_len hl k
  unfold inTo midTo
  rw [List.length_append, List.length_append, List.length_map, List.length_map, List.length_take, List.length_drop]
  omega

/-! The answers over any history: what is not valid has none. -/
noncomputable def writersA (h : List Txn) (key : Int) : List Nat := if Hi.rightB h = true then writers h key else []
noncomputable def readersA (h : List Txn) (key f : Int) : List Nat := if Hi.rightB h = true then readers h key f else []
noncomputable def keysA (h : List Txn) : List Nat := if Hi.rightB h = true then keys h else []
noncomputable def pairsA (h : List Txn) : List (Nat × Nat × Nat) := if Hi.rightB h = true then pairs h else []
noncomputable def fromA (h : List Txn) (t key : Int) : Option Int := if Hi.rightB h = true then fromI h t key else none
theorem writersA_yes {h : List Txn} (q : Hi.rightB h = true) (key : Int) : writersA h key = writers h key := if_pos q
theorem readersA_yes {h : List Txn} (q : Hi.rightB h = true) (key f : Int) : readersA h key f = readers h key f := if_pos q
theorem keysA_yes {h : List Txn} (q : Hi.rightB h = true) : keysA h = keys h := if_pos q
theorem pairsA_yes {h : List Txn} (q : Hi.rightB h = true) : pairsA h = pairs h := if_pos q
theorem fromA_yes {h : List Txn} (q : Hi.rightB h = true) (t key : Int) : fromA h t key = fromI h t key := if_pos q
theorem writersA_no {h : List Txn} (q : Hi.rightB h = false) (key : Int) : writersA h key = [] := if_neg (by rw [q]; simp)
theorem readersA_no {h : List Txn} (q : Hi.rightB h = false) (key f : Int) : readersA h key f = [] := if_neg (by rw [q]; simp)
theorem keysA_no {h : List Txn} (q : Hi.rightB h = false) : keysA h = [] := if_neg (by rw [q]; simp)
theorem pairsA_no {h : List Txn} (q : Hi.rightB h = false) : pairsA h = [] := if_neg (by rw [q]; simp)
theorem fromA_no {h : List Txn} (q : Hi.rightB h = false) (t key : Int) : fromA h t key = none := if_neg (by rw [q]; simp)
/-- A number and whether there is one. -/
def numOf (o : Option Int) : Int := o.getD 0
/-- Rows that are short enough. -/
def Small (h : List Txn) : Prop := h.length ≤ 4294967296 ∧ ∀ t ∈ h, t.writes.length ≤ 4294967296 ∧ t.reads.length ≤ 4294967296
end Go.Proofs.Ytehnmpbongabeaa.Ix
