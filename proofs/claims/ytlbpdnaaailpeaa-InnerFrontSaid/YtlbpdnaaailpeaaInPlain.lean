/-
  Plain facts on what a transaction reads and writes, as seen from outside (no Go in it): which op is the first wrong one, and how; the face; a read more behind all, and one ahead of all.
  Conditions: none beyond those that each theorem states.
-/
import Derived.Test.YtlbpdnaaailpeaaEvAll
namespace Go.Proofs.Ytlbpdnaaailpeaa.In
open Ev (right hasKey)

def isK (kind key : Int) (e : Ev.Event) : Bool := decide (e.kind = kind) && decide (e.key = key)
theorem isK_iff (kind key : Int) (e : Ev.Event) : isK kind key e = true ↔ e.kind = kind ∧ e.key = key := by simp [isK]
/-- The value of the last op of a kind and a key. -/
def lastOf (kind key : Int) : List Ev.Event → Option Int
  | [] => none
  | e :: r => (lastOf kind key r).or (if isK kind key e = true then some e.value else none)
theorem lastOf_append (kind key : Int) (a b : List Ev.Event) : lastOf kind key (a ++ b) = (lastOf kind key b).or (lastOf kind key a) := by
  induction a with
  | nil => simp [lastOf]
  | cons e a ih => rw [List.cons_append, lastOf, ih, lastOf, Option.or_assoc]
theorem lastOf_snoc (kind key : Int) (a : List Ev.Event) (e : Ev.Event) : lastOf kind key (a ++ [e]) = if isK kind key e = true then some e.value else lastOf kind key a := by
  rw [lastOf_append, lastOf, lastOf]
  split <;> simp
theorem lastOf_none (kind key : Int) (a : List Ev.Event) : lastOf kind key a = none ↔ ∀ x ∈ a, isK kind key x = false := by
  induction a with
  | nil => simp [lastOf]
  | cons e a ih =>
    rw [lastOf, Option.or_eq_none_iff, ih]
    constructor
    · rintro ⟨h1, h2⟩ x hx
      rcases List.mem_cons.1 hx with rfl | hx
      · cases h : isK kind key x with
        | false => rfl
        | true => rw [h, if_pos rfl] at h2; cases h2
      · exact h1 x hx
    · intro h
      refine ⟨fun x hx => h x (List.mem_cons_of_mem _ hx), ?_⟩
      rw [h e (by simp), if_neg (by simp)]
theorem lastOf_some (kind key : Int) (a : List Ev.Event) (v : Int) (h : lastOf kind key a = some v) : ∃ x ∈ a, isK kind key x = true ∧ x.value = v := by
  induction a with
  | nil => cases h
  | cons e a ih =>
    rw [lastOf] at h
    cases h1 : lastOf kind key a with
    | some u =>
      rw [h1, Option.some_or] at h
      cases h
      obtain ⟨x, hx, h2⟩ := ih h1
      exact ⟨x, List.mem_cons_of_mem _ hx, h2⟩
    | none =>
      rw [h1, Option.none_or] at h
      split at h
      · rename_i hk
        cases h
        exact ⟨e, by simp, hk, rfl⟩
      · cases h

/-- A later write of its key has its value. -/
def future (e : Ev.Event) (r : List Ev.Event) : Bool := r.any fun x => isK 2 e.key x && decide (x.value = e.value)
/-- What is wrong with an op, those ahead being p, and those behind r: 0 if nothing is. -/
def wrong (p : List Ev.Event) (e : Ev.Event) (r : List Ev.Event) : Int :=
  if right e = false ∨ hasKey e.kind = false then 1
  else if e.kind = 2 then 0
  else match lastOf 2 e.key p with
    | some v => if v = e.value then 0 else 10
    | none => match lastOf 1 e.key p with
      | some v => if v = e.value then 0 else 11
      | none => if future e r = true then 9 else 0
def errAt (l : List Ev.Event) (j : Nat) : Int :=
  match l[j]? with
  | some e => wrong (l.take j) e (l.drop (j + 1))
  | none => 0
theorem errAt_at (l : List Ev.Event) (j : Nat) (hj : j < l.length) : errAt l j = wrong (l.take j) l[j] (l.drop (j + 1)) := by rw [errAt, List.getElem?_eq_getElem hj]
theorem errAt_out (l : List Ev.Event) (j : Nat) (hj : l.length ≤ j) : errAt l j = 0 := by rw [errAt, List.getElem?_eq_none hj]
def firstBad (l : List Ev.Event) : Option Nat := (List.range l.length).find? fun j => decide (errAt l j ≠ 0)

/-- What is read first of a key, from outside; what is left of it. -/
def rd (l : List Ev.Event) (k : Nat) : Option (Int × Int) :=
  match l.find? fun e => decide (e.key = (k : Int)) with
  | some e => if e.kind = 1 then some ((k : Int), e.value) else none
  | none => none
def wr (l : List Ev.Event) (k : Nat) : Option (Int × Int) := (lastOf 2 (k : Int) l).map fun v => ((k : Int), v)
def readsTo (l : List Ev.Event) (n : Nat) : List (Int × Int) := (List.range n).filterMap (rd l)
def writesTo (l : List Ev.Event) (n : Nat) : List (Int × Int) := (List.range n).filterMap (wr l)
def faceR (l : List Ev.Event) : List (Int × Int) × List (Int × Int) := (readsTo l 16, writesTo l 16)
/-- Look's answer: P6.1, P6.2. -/
def lookR (l : List Ev.Event) : (List (Int × Int) × List (Int × Int)) × Int × Int :=
  match firstBad l with
  | none => (faceR l, 0, 0)
  | some j => (([], []), (j : Int), errAt l j)

def good (l : List Ev.Event) : Prop := ∀ j, errAt l j = 0
theorem bad_none (l : List Ev.Event) (h : good l) : firstBad l = none := by
  rw [firstBad, List.find?_eq_none]
  intro j _
  simp [h j]
theorem bad_some (l : List Ev.Event) (j : Nat) (h0 : ∀ i, i < j → errAt l i = 0) (hq : errAt l j ≠ 0) : firstBad l = some j := by
  have hj : j < l.length := by
    rcases Nat.lt_or_ge j l.length with h | h
    · exact h
    · exact absurd (errAt_out l j h) hq
  rw [firstBad, List.find?_range_eq_some]
  refine ⟨by simpa using hq, by simpa using hj, fun i hi => ?_⟩
  simp [h0 i hi]
theorem look_ok (l : List Ev.Event) (h : good l) : lookR l = (faceR l, 0, 0) := by rw [lookR, bad_none l h]
theorem look_bad (l : List Ev.Event) (j : Nat) (h0 : ∀ i, i < j → errAt l i = 0) (hq : errAt l j ≠ 0) : lookR l = (([], []), (j : Int), errAt l j) := by rw [lookR, bad_some l j h0 hq]
theorem look_cases (l : List Ev.Event) : good l ∨ ∃ j, j < l.length ∧ errAt l j ≠ 0 ∧ ∀ i, i < j → errAt l i = 0 := by
  cases h : firstBad l with
  | none =>
    refine .inl fun j => ?_
    rcases Nat.lt_or_ge j l.length with hj | hj
    · rw [firstBad, List.find?_eq_none] at h
      have := h j (by simpa using hj)
      simpa using this
    · exact errAt_out l j hj
  | some j =>
    rw [firstBad, List.find?_range_eq_some] at h
    obtain ⟨h1, h2, h3⟩ := h
    refine .inr ⟨j, by simpa using h2, by simpa using h1, fun i hi => ?_⟩
    have := h3 i hi
    simpa using this
/-- All ahead of a place being right, what stands there tells. -/
theorem good_of_all (l : List Ev.Event) (h : ∀ i, i < l.length → errAt l i = 0) : good l := fun j => by
  rcases Nat.lt_or_ge j l.length with hj | hj
  · exact h j hj
  · exact errAt_out l j hj

/-! By keys. -/
theorem readsTo_succ (l : List Ev.Event) (n : Nat) : readsTo l (n + 1) = readsTo l n ++ (rd l n).toList := by
  rw [readsTo, readsTo, List.range_succ, List.filterMap_append]
  cases h : rd l n <;> simp [h]
theorem writesTo_succ (l : List Ev.Event) (n : Nat) : writesTo l (n + 1) = writesTo l n ++ (wr l n).toList := by
  rw [writesTo, writesTo, List.range_succ, List.filterMap_append]
  cases h : wr l n <;> simp [h]
theorem filterMap_front {f : Nat → Option (Int × Int)} (n m : Nat) (h : n ≤ m) : ∃ r, (List.range m).filterMap f = (List.range n).filterMap f ++ r := by
  obtain ⟨d, rfl⟩ := Nat.exists_eq_add_of_le h
  rw [List.range_add, List.filterMap_append]
  exact ⟨_, rfl⟩
theorem filterMap_at {f : Nat → Option (Int × Int)} (n m : Nat) (h : n < m) (y : Int × Int) (hy : f n = some y) : ((List.range m).filterMap f)[((List.range n).filterMap f).length]? = some y := by
  obtain ⟨r, hr⟩ := filterMap_front (f := f) (n + 1) m (by omega)
  rw [hr, List.range_succ, List.filterMap_append]
  simp [hy]
theorem reads_at (l : List Ev.Event) (n : Nat) (h : n < 16) (y : Int × Int) (hy : rd l n = some y) : (readsTo l 16)[(readsTo l n).length]? = some y := filterMap_at n 16 h y hy
theorem writes_at (l : List Ev.Event) (n : Nat) (h : n < 16) (y : Int × Int) (hy : wr l n = some y) : (writesTo l 16)[(writesTo l n).length]? = some y := filterMap_at n 16 h y hy
theorem reads_len (l : List Ev.Event) (n : Nat) : (readsTo l n).length ≤ n := Nat.le_trans (List.length_filterMap_le _ _) (by simp)
theorem writes_len (l : List Ev.Event) (n : Nat) : (writesTo l n).length ≤ n := Nat.le_trans (List.length_filterMap_le _ _) (by simp)
theorem rd_key (l : List Ev.Event) (k : Nat) (y : Int × Int) (h : rd l k = some y) : y.1 = (k : Int) := by
  unfold rd at h
  split at h
  · split at h
    · cases h; rfl
    · cases h
  · cases h
theorem wr_key (l : List Ev.Event) (k : Nat) (y : Int × Int) (h : wr l k = some y) : y.1 = (k : Int) := by
  unfold wr at h
  cases h1 : lastOf 2 (k : Int) l with
  | none => rw [h1] at h; cases h
  | some v => rw [h1] at h; cases h; rfl
/-- What a row of items says of a key. -/
def says (key : Int) : List (Int × Int) → Option Int
  | [] => none
  | y :: r => (says key r).or (if y.1 = key then some y.2 else none)
theorem says_append (key : Int) (a b : List (Int × Int)) : says key (a ++ b) = (says key b).or (says key a) := by
  induction a with
  | nil => simp [says]
  | cons y a ih => rw [List.cons_append, says, ih, says, Option.or_assoc]
theorem says_range (f : Nat → Option (Int × Int)) (hf : ∀ k y, f k = some y → y.1 = (k : Int)) (n k : Nat) : says (k : Int) ((List.range n).filterMap f) = if k < n then (f k).map (·.2) else none := by
  induction n with
  | zero => simp [says]
  | succ n ih =>
    rw [List.range_succ, List.filterMap_append, says_append, ih]
    by_cases hk : k = n
    · subst hk
      rw [if_neg (by omega), if_pos (by omega)]
      cases h : f k with
      | none => simp [h, says]
      | some y => simp [h, says, hf k y h]
    · have h1 : says (k : Int) (List.filterMap f [n]) = none := by
        cases h : f n with
        | none => simp [h, says]
        | some y =>
          have := hf n y h
          simp [h, says, this]
          omega
      rw [h1, Option.none_or]
      by_cases h2 : k < n
      · rw [if_pos h2, if_pos (by omega)]
      · rw [if_neg h2, if_neg (by omega)]
theorem says_reads (l : List Ev.Event) (k : Nat) (hk : k < 16) : says (k : Int) (readsTo l 16) = (rd l k).map (·.2) := by
  rw [readsTo, says_range _ (fun k y h => rd_key l k y h), if_pos hk]
theorem says_writes (l : List Ev.Event) (k : Nat) (hk : k < 16) : says (k : Int) (writesTo l 16) = lastOf 2 (k : Int) l := by
  rw [writesTo, says_range _ (fun k y h => wr_key l k y h), if_pos hk, wr, Option.map_map]
  cases lastOf 2 (k : Int) l <;> rfl

/-! What a right row of ops is like. -/
theorem right_of_good {l : List Ev.Event} (h : good l) (j : Nat) (hj : j < l.length) : right l[j] = true ∧ hasKey l[j].kind = true := by
  have h1 := h j
  rw [errAt_at l j hj, wrong] at h1
  split at h1
  · cases h1
  · rename_i h2
    refine ⟨?_, ?_⟩
    · cases h3 : right l[j] with
      | true => rfl
      | false => exact absurd (.inl h3) h2
    · cases h3 : hasKey l[j].kind with
      | true => rfl
      | false => exact absurd (.inr h3) h2
theorem kind_of_good {l : List Ev.Event} (h : good l) (j : Nat) (hj : j < l.length) : l[j].kind = 1 ∨ l[j].kind = 2 := (Ev.hasKey_iff _).1 (right_of_good h j hj).2
/-- A read that is right, one case at a time. -/
theorem wrong_read (p r : List Ev.Event) (e : Ev.Event) (hr : right e = true) (hk : e.kind = 1) : wrong p e r = match lastOf 2 e.key p with
    | some v => if v = e.value then 0 else 10
    | none => match lastOf 1 e.key p with
      | some v => if v = e.value then 0 else 11
      | none => if future e r = true then 9 else 0 := by
  rw [wrong, if_neg (by rw [hr, hk]; decide), if_neg (by rw [hk]; decide)]
theorem wrong_write (p r : List Ev.Event) (e : Ev.Event) (hr : right e = true) (hk : e.kind = 2) : wrong p e r = 0 := by
  rw [wrong, if_neg (by rw [hr, hk]; decide), if_pos hk]
theorem take_cons_at (l : List Ev.Event) (j : Nat) (hj : j < l.length) : l.take (j + 1) = l.take j ++ [l[j]] := List.take_succ_eq_append_getElem hj
/-- Where a key is not written, all its reads have the value of the first. -/
theorem reads_agree {l : List Ev.Event} (h : good l) (key v : Int) (n : Nat) (hw : lastOf 2 key (l.take n) = none) (hl : lastOf 1 key (l.take n) = some v) : ∀ x ∈ l.take n, isK 1 key x = true → x.value = v := by
  induction n generalizing v with
  | zero => simp [lastOf] at hl
  | succ n ih =>
    rcases Nat.lt_or_ge n l.length with hn | hn
    · rw [take_cons_at l n hn] at hw hl ⊢
      rw [lastOf_snoc] at hw hl
      have hw2 : isK 2 key l[n] = false ∧ lastOf 2 key (l.take n) = none := by
        cases h2 : isK 2 key l[n] with
        | true => rw [h2, if_pos rfl] at hw; cases hw
        | false => rw [h2, if_neg (by simp)] at hw; exact ⟨rfl, hw⟩
      intro x hx hxk
      rcases List.mem_append.1 hx with hx | hx
      · cases h1 : lastOf 1 key (l.take n) with
        | none =>
          rw [lastOf_none] at h1
          rw [h1 x hx] at hxk
          cases hxk
        | some u =>
          have hu := ih v hw2.2
          cases h3 : isK 1 key l[n] with
          | false =>
            rw [h3, if_neg (by simp)] at hl
            exact hu hl x hx hxk
          | true =>
            rw [h3, if_pos rfl] at hl
            cases hl
            obtain ⟨k1, k2⟩ := (isK_iff _ _ _).1 h3
            have he := h n
            rw [errAt_at l n hn, wrong_read _ _ _ (right_of_good h n hn).1 k1, k2, hw2.2, h1] at he
            simp only at he
            split at he
            · rename_i he2
              rw [← he2]
              exact ih u hw2.2 h1 x hx hxk
            · cases he
      · rw [List.mem_singleton.1 hx] at hxk ⊢
        rw [hxk, if_pos rfl] at hl
        cases hl
        rfl
    · rw [List.take_of_length_le (by omega)] at hw hl ⊢
      rw [List.take_of_length_le hn] at ih
      exact ih v hw hl

/-! One read more, behind all. -/
theorem future_snoc (e x : Ev.Event) (r : List Ev.Event) (hx : x.kind = 1) : future e (r ++ [x]) = future e r := by
  have : isK 2 e.key x = false := by
    cases h : isK 2 e.key x with
    | false => rfl
    | true => have := ((isK_iff _ _ _).1 h).1; omega
  simp [future, this]
theorem wrong_snoc (p r : List Ev.Event) (e x : Ev.Event) (hx : x.kind = 1) : wrong p e (r ++ [x]) = wrong p e r := by
  unfold wrong
  rw [future_snoc e x r hx]
theorem errAt_snoc (l : List Ev.Event) (x : Ev.Event) (hx : x.kind = 1) (j : Nat) (hj : j < l.length) : errAt (l ++ [x]) j = errAt l j := by
  rw [errAt_at l j hj, errAt_at (l ++ [x]) j (by simp; omega)]
  rw [List.getElem_append_left hj, List.take_append_of_le_length (by omega), List.drop_append_of_le_length (by omega), wrong_snoc _ _ _ _ hx]
theorem errAt_last (l : List Ev.Event) (x : Ev.Event) : errAt (l ++ [x]) l.length = wrong l x [] := by
  rw [errAt_at (l ++ [x]) l.length (by simp)]
  simp
theorem good_snoc {l : List Ev.Event} (h : good l) (x : Ev.Event) (hx : x.kind = 1) (hq : wrong l x [] = 0) : good (l ++ [x]) := good_of_all _ fun i hi => by
  rcases Nat.lt_or_ge i l.length with h' | h'
  · rw [errAt_snoc l x hx i h']; exact h i
  · obtain rfl : i = l.length := by simp at hi; omega
    rw [errAt_last]; exact hq
theorem look_snoc_bad {l : List Ev.Event} (h : good l) (x : Ev.Event) (hx : x.kind = 1) (hq : wrong l x [] ≠ 0) : lookR (l ++ [x]) = (([], []), (l.length : Int), wrong l x []) := by
  rw [look_bad (l ++ [x]) l.length (fun i hi => by rw [errAt_snoc l x hx i hi]; exact h i) (by rw [errAt_last]; exact hq), errAt_last]
theorem find_snoc (l : List Ev.Event) (x : Ev.Event) (k : Nat) : (l ++ [x]).find? (fun e => decide (e.key = (k : Int))) = (l.find? fun e => decide (e.key = (k : Int))).or (if x.key = (k : Int) then some x else none) := by
  rw [List.find?_append]
  congr 1
  by_cases hk : x.key = (k : Int)
  · simp [hk]
  · simp [hk]
theorem wr_snoc (l : List Ev.Event) (x : Ev.Event) (hx : x.kind = 1) (k : Nat) : wr (l ++ [x]) k = wr l k := by
  rw [wr, wr, lastOf_snoc, if_neg (by rw [isK_iff]; omega)]
theorem writes_snoc (l : List Ev.Event) (x : Ev.Event) (hx : x.kind = 1) : writesTo (l ++ [x]) 16 = writesTo l 16 := by
  unfold writesTo
  congr 1
  funext k
  exact wr_snoc l x hx k
theorem rd_snoc_other (l : List Ev.Event) (x : Ev.Event) (k : Nat) (h : x.key ≠ (k : Int) ∨ ∃ e ∈ l, e.key = (k : Int)) : rd (l ++ [x]) k = rd l k := by
  unfold rd
  rw [find_snoc]
  rcases h with h | ⟨e, he, hk⟩
  · rw [if_neg h, Option.or_none]
  · cases hf : l.find? fun e => decide (e.key = (k : Int)) with
    | some y => rfl
    | none =>
      rw [List.find?_eq_none] at hf
      exact absurd (by simpa using hk) (hf e he)
theorem reads_snoc_same (l : List Ev.Event) (x : Ev.Event) (h : ∃ e ∈ l, e.key = x.key) : readsTo (l ++ [x]) 16 = readsTo l 16 := by
  unfold readsTo
  congr 1
  funext k
  refine rd_snoc_other l x k ?_
  by_cases hk : x.key = (k : Int)
  · obtain ⟨e, he, h2⟩ := h
    exact .inr ⟨e, he, h2.trans hk⟩
  · exact .inl hk
theorem filterMap_same (f g : Nat → Option (Int × Int)) (L : List Nat) (h : ∀ k ∈ L, g k = f k) : L.filterMap g = L.filterMap f := by
  induction L with
  | nil => rfl
  | cons k L ih => rw [List.filterMap_cons, List.filterMap_cons, h k (by simp), ih (fun j hj => h j (List.mem_cons_of_mem _ hj))]
theorem filterMap_one (f g : Nat → Option (Int × Int)) (n m : Nat) (hn : n < m) (h : ∀ k, k ≠ n → g k = f k) (hf : f n = none) (y : Int × Int) (hg : g n = some y) : ((List.range m).filterMap g).length = ((List.range m).filterMap f).length + 1 := by
  induction m with
  | zero => omega
  | succ m ih =>
    rw [List.range_succ, List.filterMap_append, List.filterMap_append, List.length_append, List.length_append]
    by_cases hm : n = m
    · subst hm
      have e : ∀ j, j ≤ n → ((List.range j).filterMap g) = ((List.range j).filterMap f) := fun j hj => by
        refine filterMap_same f g _ fun k hk => ?_
        have := List.mem_range.1 hk
        exact h k (by omega)
      rw [e n (Nat.le_refl _)]
      simp [hf, hg]
    · rw [ih (by omega)]
      have : (List.filterMap g [m]).length = (List.filterMap f [m]).length := by rw [filterMap_same f g [m] (fun k hk => by rw [List.mem_singleton.1 hk]; exact h m (fun e => hm e.symm))]
      omega
theorem reads_snoc_new (l : List Ev.Event) (x : Ev.Event) (hx : x.kind = 1) (k : Nat) (hk : x.key = (k : Int)) (h16 : k < 16) (h : ∀ e ∈ l, e.key ≠ x.key) : (readsTo (l ++ [x]) 16).length = (readsTo l 16).length + 1 := by
  have hf : (l.find? fun e => decide (e.key = (k : Int))) = none := by
    rw [List.find?_eq_none]
    intro e he
    have := h e he
    rw [hk] at this
    simpa using this
  refine filterMap_one (rd l) (rd (l ++ [x])) k 16 h16 (fun j hj => rd_snoc_other l x j (.inl (by rw [hk]; omega))) ?_ ((k : Int), x.value) ?_
  · rw [rd, hf]
  · rw [rd, find_snoc, hf, if_pos hk]
    simp [hx]
theorem first_some (l : List Ev.Event) (k : Nat) (h : ∃ e ∈ l, e.key = (k : Int)) : ∃ e ∈ l, e.key = (k : Int) ∧ (l.find? fun e => decide (e.key = (k : Int))) = some e := by
  cases hf : l.find? fun e => decide (e.key = (k : Int)) with
  | some y => exact ⟨y, List.mem_of_find?_eq_some hf, by simpa using List.find?_some hf, rfl⟩
  | none =>
    obtain ⟨e, he, hk⟩ := h
    rw [List.find?_eq_none] at hf
    exact absurd (by simpa using hk) (hf e he)
theorem kind_mem {l : List Ev.Event} (h : good l) (e : Ev.Event) (he : e ∈ l) : e.kind = 1 ∨ e.kind = 2 := by
  obtain ⟨j, hj, rfl⟩ := List.getElem_of_mem he
  exact kind_of_good h j hj
/-- What one read more behind all comes to: of what was written last, of what was read, of a key that has no op. -/
theorem more_cases {l : List Ev.Event} (h : good l) (x : Ev.Event) (hr : right x = true) (hx : x.kind = 1) (k : Nat) (hk : x.key = (k : Int)) :
    (∃ u, lastOf 2 x.key l = some u ∧ wrong l x [] = (if u = x.value then 0 else 10) ∧ ∃ e ∈ l, e.key = x.key) ∨
    (lastOf 2 x.key l = none ∧ ∃ v, rd l k = some ((k : Int), v) ∧ wrong l x [] = (if v = x.value then 0 else 11) ∧ ∃ e ∈ l, e.key = x.key) ∨
    (lastOf 2 x.key l = none ∧ rd l k = none ∧ wrong l x [] = 0 ∧ ∀ e ∈ l, e.key ≠ x.key) := by
  have hw := wrong_read l [] x hr hx
  cases h2 : lastOf 2 x.key l with
  | some u =>
    rw [h2] at hw
    obtain ⟨e, he, hek, _⟩ := lastOf_some 2 x.key l u h2
    exact .inl ⟨u, rfl, hw, e, he, ((isK_iff _ _ _).1 hek).2⟩
  | none =>
    rw [h2] at hw
    by_cases hex : ∃ e ∈ l, e.key = (k : Int)
    · obtain ⟨e, he, hek, hfind⟩ := first_some l k hex
      have hkind : e.kind = 1 := by
        rcases kind_mem h e he with h1 | h1
        · exact h1
        · have := (lastOf_none 2 x.key l).1 h2 e he
          rw [(isK_iff 2 x.key e).2 ⟨h1, by rw [hk]; exact hek⟩] at this
          cases this
      have hisK : isK 1 x.key e = true := (isK_iff _ _ _).2 ⟨hkind, by rw [hk]; exact hek⟩
      cases h1 : lastOf 1 x.key l with
      | none =>
        have := (lastOf_none 1 x.key l).1 h1 e he
        rw [hisK] at this
        cases this
      | some v =>
        rw [h1] at hw
        have hag := reads_agree h x.key v l.length (by rw [List.take_length]; exact h2) (by rw [List.take_length]; exact h1) e (by rw [List.take_length]; exact he) hisK
        refine .inr (.inl ⟨rfl, v, ?_, hw, e, he, by rw [hk]; exact hek⟩)
        rw [rd, hfind]
        simp [hkind, hag]
    · have hno : ∀ e ∈ l, e.key ≠ (k : Int) := fun e he h' => hex ⟨e, he, h'⟩
      have h1 : lastOf 1 x.key l = none := (lastOf_none 1 x.key l).2 fun e he => by
        cases h3 : isK 1 x.key e with
        | false => rfl
        | true => exact absurd (((isK_iff _ _ _).1 h3).2.trans hk) (hno e he)
      rw [h1] at hw
      refine .inr (.inr ⟨rfl, ?_, hw, fun e he => by rw [hk]; exact hno e he⟩)
      have : (l.find? fun e => decide (e.key = (k : Int))) = none := by
        rw [List.find?_eq_none]
        intro e he
        simpa using hno e he
      rw [rd, this]

/-! One read more, ahead of all. -/
def isFirst (l : List Ev.Event) (key : Int) (f : Nat) : Prop := ∃ hf : f < l.length, l[f].key = key ∧ ∀ j (hj : j < l.length), j < f → l[j].key ≠ key
theorem errAt_front_zero (x : Ev.Event) (l : List Ev.Event) (hr : right x = true) (hx : x.kind = 1) : errAt (x :: l) 0 = if future x l = true then 9 else 0 := by
  rw [errAt_at (x :: l) 0 (by simp)]
  show wrong [] x l = _
  rw [wrong_read [] l x hr hx]
  rfl
theorem errAt_front_succ (x : Ev.Event) (l : List Ev.Event) (j : Nat) (hj : j < l.length) : errAt (x :: l) (j + 1) = wrong (x :: l.take j) l[j] (l.drop (j + 1)) := by
  rw [errAt_at (x :: l) (j + 1) (by simp; omega)]
  rfl
theorem lastOf_front (kind key : Int) (x : Ev.Event) (p : List Ev.Event) (h : isK kind key x = false) : lastOf kind key (x :: p) = lastOf kind key p := by
  rw [lastOf, h, if_neg (by simp), Option.or_none]
/-- An op of another key, or one that is no first op of that key, stays right. -/
theorem wrong_front_same (x : Ev.Event) (hx : x.kind = 1) (p r : List Ev.Event) (e : Ev.Event) (h : e.key ≠ x.key ∨ lastOf 2 e.key p ≠ none ∨ lastOf 1 e.key p ≠ none) : wrong (x :: p) e r = wrong p e r := by
  have h2 : lastOf 2 e.key (x :: p) = lastOf 2 e.key p := lastOf_front 2 e.key x p (by
    cases hk : isK 2 e.key x with
    | false => rfl
    | true => have := ((isK_iff _ _ _).1 hk).1; omega)
  unfold wrong
  rw [h2]
  rcases h with h | h | h
  · have h1 : lastOf 1 e.key (x :: p) = lastOf 1 e.key p := lastOf_front 1 e.key x p (by
      cases hk : isK 1 e.key x with
      | false => rfl
      | true => exact absurd ((isK_iff _ _ _).1 hk).2.symm h)
    rw [h1]
  · cases h3 : lastOf 2 e.key p with
    | none => exact absurd h3 h
    | some v => rfl
  · have h1 : lastOf 1 e.key (x :: p) = lastOf 1 e.key p := by
      cases h3 : lastOf 1 e.key p with
      | none => exact absurd h3 h
      | some v => rw [lastOf, h3, Option.some_or]
    rw [h1]
theorem wrong_front_first (x : Ev.Event) (hx : x.kind = 1) (p r : List Ev.Event) (e : Ev.Event) (hr : right e = true) (he : e.kind = 1) (hk : e.key = x.key) (h2 : lastOf 2 e.key p = none) (h1 : lastOf 1 e.key p = none) : wrong (x :: p) e r = if x.value = e.value then 0 else 11 := by
  have e2 : lastOf 2 e.key (x :: p) = none := by
    rw [lastOf_front 2 e.key x p (by
      cases hk : isK 2 e.key x with
      | false => rfl
      | true => have := ((isK_iff _ _ _).1 hk).1; omega), h2]
  have e1 : lastOf 1 e.key (x :: p) = some x.value := by
    rw [lastOf, h1, (isK_iff 1 e.key x).2 ⟨hx, hk.symm⟩, if_pos rfl, Option.none_or]
  rw [wrong_read _ _ _ hr he, e2, e1]
theorem before_none {l : List Ev.Event} {key : Int} {f : Nat} (h : isFirst l key f) (kind : Int) : lastOf kind key (l.take f) = none := by
  obtain ⟨hf, _, hb⟩ := h
  rw [lastOf_none]
  intro e he
  obtain ⟨j, hj, rfl⟩ := List.getElem_of_mem he
  rw [List.length_take] at hj
  rw [List.getElem_take]
  cases hk : isK kind key l[j] with
  | false => rfl
  | true => exact absurd ((isK_iff _ _ _).1 hk).2 (hb j (by omega) (by omega))
/-- An op of the key that is not the first has one ahead of it. -/
theorem before_some {l : List Ev.Event} (hg : good l) {key : Int} (j : Nat) (hj : j < l.length) (hn : ¬ isFirst l key j) (hk : l[j].key = key) : lastOf 2 key (l.take j) ≠ none ∨ lastOf 1 key (l.take j) ≠ none := by
  have : ∃ i, ∃ hi : i < l.length, i < j ∧ l[i].key = key := by
    refine Classical.byContradiction fun hc => hn ⟨hj, hk, fun i hi hij h' => hc ⟨i, hi, hij, h'⟩⟩
  obtain ⟨i, hi, hij, hik⟩ := this
  have hmem : l[i] ∈ l.take j := by
    rw [List.mem_iff_getElem]
    exact ⟨i, by rw [List.length_take]; omega, by rw [List.getElem_take]⟩
  rcases kind_of_good hg i hi with h1 | h1
  · refine .inr fun h' => ?_
    have := (lastOf_none _ _ _).1 h' _ hmem
    rw [(isK_iff 1 key l[i]).2 ⟨h1, hik⟩] at this
    cases this
  · refine .inl fun h' => ?_
    have := (lastOf_none _ _ _).1 h' _ hmem
    rw [(isK_iff 2 key l[i]).2 ⟨h1, hik⟩] at this
    cases this
theorem front_step {l : List Ev.Event} (hg : good l) (x : Ev.Event) (hx : x.kind = 1) (j : Nat) (hj : j < l.length) (h : ¬ isFirst l x.key j ∨ l[j].kind ≠ 1 ∨ l[j].value = x.value) : errAt (x :: l) (j + 1) = 0 := by
  rw [errAt_front_succ x l j hj]
  have h0 := hg j
  rw [errAt_at l j hj] at h0
  obtain ⟨hr, _⟩ := right_of_good hg j hj
  rcases kind_of_good hg j hj with hk | hk
  · by_cases hkey : l[j].key = x.key
    · by_cases hf : isFirst l x.key j
      · have hv : l[j].value = x.value := by
          rcases h with h | h | h
          · exact absurd hf h
          · exact absurd hk h
          · exact h
        rw [wrong_front_first x hx _ _ _ hr hk hkey (by rw [hkey]; exact before_none hf 2) (by rw [hkey]; exact before_none hf 1), if_pos hv.symm]
      · rw [wrong_front_same x hx _ _ _ (.inr (by rw [hkey]; exact before_some hg j hj hf hkey))]
        exact h0
    · rw [wrong_front_same x hx _ _ _ (.inl hkey)]
      exact h0
  · exact wrong_write _ _ _ hr hk
theorem front_good {l : List Ev.Event} (hg : good l) (x : Ev.Event) (hr : right x = true) (hx : x.kind = 1) (hfu : future x l = false) (h : ∀ f (hf : f < l.length), isFirst l x.key f → l[f].kind = 1 → l[f].value = x.value) : good (x :: l) := good_of_all _ fun i hi => by
  cases i with
  | zero => rw [errAt_front_zero x l hr hx, hfu, if_neg (by simp)]
  | succ j =>
    have hj : j < l.length := by simpa using hi
    refine front_step hg x hx j hj ?_
    by_cases hf : isFirst l x.key j
    · by_cases hk : l[j].kind = 1
      · exact .inr (.inr (h j hj hf hk))
      · exact .inr (.inl hk)
    · exact .inl hf
theorem first_one {l : List Ev.Event} {key : Int} {f j : Nat} (hf : isFirst l key f) (hj : isFirst l key j) : f = j := by
  obtain ⟨h1, h2, h3⟩ := hf
  obtain ⟨k1, k2, k3⟩ := hj
  rcases Nat.lt_trichotomy f j with h | h | h
  · exact absurd h2 (k3 f h1 h)
  · exact h
  · exact absurd k2 (h3 j k1 h)
theorem front_bad {l : List Ev.Event} (hg : good l) (x : Ev.Event) (hr : right x = true) (hx : x.kind = 1) (hfu : future x l = false) (f : Nat) (hf : f < l.length) (hfirst : isFirst l x.key f) (hk : l[f].kind = 1) (hv : l[f].value ≠ x.value) : lookR (x :: l) = (([], []), ((f + 1 : Nat) : Int), 11) := by
  have hq : errAt (x :: l) (f + 1) = 11 := by
    have hkey := hfirst.2.1
    rw [errAt_front_succ x l f hf, wrong_front_first x hx _ _ _ (right_of_good hg f hf).1 hk hkey (by rw [hkey]; exact before_none hfirst 2) (by rw [hkey]; exact before_none hfirst 1), if_neg (fun e => hv e.symm)]
  rw [look_bad (x :: l) (f + 1) (fun i hi => ?_) (by rw [hq]; decide), hq]
  cases i with
  | zero => rw [errAt_front_zero x l hr hx, hfu, if_neg (by simp)]
  | succ j =>
    refine front_step hg x hx j (by omega) (.inl fun h => ?_)
    have := first_one hfirst h
    omega
theorem front_future {l : List Ev.Event} (x : Ev.Event) (hr : right x = true) (hx : x.kind = 1) (hfu : future x l = true) : lookR (x :: l) = (([], []), 0, 9) := by
  have hq : errAt (x :: l) 0 = 9 := by rw [errAt_front_zero x l hr hx, hfu, if_pos rfl]
  rw [look_bad (x :: l) 0 (fun i hi => by omega) (by rw [hq]; decide), hq]
  rfl
theorem writes_front (x : Ev.Event) (hx : x.kind = 1) (l : List Ev.Event) : writesTo (x :: l) 16 = writesTo l 16 := by
  unfold writesTo
  congr 1
  funext k
  rw [wr, wr, lastOf_front 2 (k : Int) x l (by
    cases hk : isK 2 (k : Int) x with
    | false => rfl
    | true => have := ((isK_iff _ _ _).1 hk).1; omega)]
theorem future_iff (x : Ev.Event) (l : List Ev.Event) : future x l = true ↔ ∃ j, ∃ hj : j < l.length, l[j].kind = 2 ∧ l[j].key = x.key ∧ l[j].value = x.value := by
  rw [future, List.any_eq_true]
  constructor
  · rintro ⟨e, he, h⟩
    obtain ⟨j, hj, rfl⟩ := List.getElem_of_mem he
    rw [Bool.and_eq_true, isK_iff, decide_eq_true_eq] at h
    exact ⟨j, hj, h.1.1, h.1.2, h.2⟩
  · rintro ⟨j, hj, h1, h2, h3⟩
    exact ⟨l[j], List.getElem_mem hj, by rw [Bool.and_eq_true, isK_iff, decide_eq_true_eq]; exact ⟨⟨h1, h2⟩, h3⟩⟩
end Go.Proofs.Ytlbpdnaaailpeaa.In
