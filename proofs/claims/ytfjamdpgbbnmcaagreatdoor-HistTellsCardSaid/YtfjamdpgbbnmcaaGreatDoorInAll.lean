/-
  Several texts in one, each with its own first words: InPlain, RowMem, InStep, InMem, InWalkA, InWalkB, InLook, InWalkC.
  Conditions: as each says.
-/
import Derived.Test.YtfjamdpgbbnmcaaGreatDoorEvAll
import Derived.Test.YtfjamdpgbbnmcaaGreatDoorLow
import Derived.Test.YtfjamdpgbbnmcaaGreatDoorDiAll
import Derived.Deep.Slices
import Derived.Deep.Fields
import Derived.Laws.Cells
import Derived.Deep.RegionLaw
import Derived.BigRegion
import Derived.Deep.DeepCutAuto
import Derived.Laws.ResultCell
import Derived.StillTailTactics
import Derived.Deep.Onto
/-
  Plain facts on what a transaction reads and writes, as seen from outside (no Go in it): which op is the first wrong one, and how; the face; a read more behind all, and one ahead of all.
  Conditions: none beyond those that each theorem states.
-/
set_option maxRecDepth 4000
namespace Go.Proofs.YtfjamdpgbbnmcaaGreatDoor.In
open Ev (right hasKey)

def isK (kind key : Int) (e : Ev.Event) : Bool := decide (e.kind = kind) && decide (e.key = key)
theorem isK_iff (kind key : Int) (e : Ev.Event) : isK kind key e = true ↔ e.kind = kind ∧ e.key = key := by simp [isK]
/-- The value of the last op of a kind and a key. -/
def lastOf (kind key : Int) : List Ev.Event → Option Int
  | [] => none
  | e :: r => (lastOf kind key r).or (if isK kind key e = true then some e.value else none)
theorem lastOf_append (kind key : Int) (a b : List Ev.Event) : lastOf kind key (a ++ b) = (lastOf kind key b).or (lastOf kind key a) := by
  induction a with
  | nil => simp [lastOf]
  | cons e a ih => rw [List.cons_append, lastOf, ih, lastOf, Option.or_assoc]
theorem lastOf_snoc (kind key : Int) (a : List Ev.Event) (e : Ev.Event) : lastOf kind key (a ++ [e]) = if isK kind key e = true then some e.value else lastOf kind key a := by
  rw [lastOf_append, lastOf, lastOf]
  split <;> simp
theorem lastOf_none (kind key : Int) (a : List Ev.Event) : lastOf kind key a = none ↔ ∀ x ∈ a, isK kind key x = false := by
  induction a with
  | nil => simp [lastOf]
  | cons e a ih =>
    rw [lastOf, Option.or_eq_none_iff, ih]
    constructor
    · rintro ⟨h1, h2⟩ x hx
      rcases List.mem_cons.1 hx with rfl | hx
      · cases h : isK kind key x with
        | false => rfl
        | true => rw [h, if_pos rfl] at h2; cases h2
      · exact h1 x hx
    · intro h
      refine ⟨fun x hx => h x (List.mem_cons_of_mem _ hx), ?_⟩
      rw [h e (by simp), if_neg (by simp)]
theorem lastOf_some (kind key : Int) (a : List Ev.Event) (v : Int) (h : lastOf kind key a = some v) : ∃ x ∈ a, isK kind key x = true ∧ x.value = v := by
  induction a with
  | nil => cases h
  | cons e a ih =>
    rw [lastOf] at h
    cases h1 : lastOf kind key a with
    | some u =>
      rw [h1, Option.some_or] at h
      cases h
      obtain ⟨x, hx, h2⟩ := ih h1
      exact ⟨x, List.mem_cons_of_mem _ hx, h2⟩
    | none =>
      rw [h1, Option.none_or] at h
      split at h
      · rename_i hk
        cases h
        exact ⟨e, by simp, hk, rfl⟩
      · cases h

/-- A later write of its key has its value. -/
def future (e : Ev.Event) (r : List Ev.Event) : Bool := r.any fun x => isK 2 e.key x && decide (x.value = e.value)
/-- What is wrong with an op, those ahead being p, and those behind r: 0 if nothing is. -/
def wrong (p : List Ev.Event) (e : Ev.Event) (r : List Ev.Event) : Int :=
  if right e = false ∨ hasKey e.kind = false then 1
  else if e.kind = 2 then 0
  else match lastOf 2 e.key p with
    | some v => if v = e.value then 0 else 10
    | none => match lastOf 1 e.key p with
      | some v => if v = e.value then 0 else 11
      | none => if future e r = true then 9 else 0
def errAt (l : List Ev.Event) (j : Nat) : Int :=
  match l[j]? with
  | some e => wrong (l.take j) e (l.drop (j + 1))
  | none => 0
theorem errAt_at (l : List Ev.Event) (j : Nat) (hj : j < l.length) : errAt l j = wrong (l.take j) l[j] (l.drop (j + 1)) := by rw [errAt, List.getElem?_eq_getElem hj]
theorem errAt_out (l : List Ev.Event) (j : Nat) (hj : l.length ≤ j) : errAt l j = 0 := by rw [errAt, List.getElem?_eq_none hj]
def firstBad (l : List Ev.Event) : Option Nat := (List.range l.length).find? fun j => decide (errAt l j ≠ 0)

/-- What is read first of a key, from outside; what is left of it. -/
def rd (l : List Ev.Event) (k : Nat) : Option (Int × Int) :=
  match l.find? fun e => decide (e.key = (k : Int)) with
  | some e => if e.kind = 1 then some ((k : Int), e.value) else none
  | none => none
def wr (l : List Ev.Event) (k : Nat) : Option (Int × Int) := (lastOf 2 (k : Int) l).map fun v => ((k : Int), v)
def readsTo (l : List Ev.Event) (n : Nat) : List (Int × Int) := (List.range n).filterMap (rd l)
def writesTo (l : List Ev.Event) (n : Nat) : List (Int × Int) := (List.range n).filterMap (wr l)
def faceR (l : List Ev.Event) : List (Int × Int) × List (Int × Int) := (readsTo l 16, writesTo l 16)
/-- Look's answer: P6.1, P6.2. -/
def lookR (l : List Ev.Event) : (List (Int × Int) × List (Int × Int)) × Int × Int :=
  match firstBad l with
  | none => (faceR l, 0, 0)
  | some j => (([], []), (j : Int), errAt l j)

def good (l : List Ev.Event) : Prop := ∀ j, errAt l j = 0
theorem bad_none (l : List Ev.Event) (h : good l) : firstBad l = none := by
  rw [firstBad, List.find?_eq_none]
  intro j _
  simp [h j]
theorem bad_some (l : List Ev.Event) (j : Nat) (h0 : ∀ i, i < j → errAt l i = 0) (hq : errAt l j ≠ 0) : firstBad l = some j := by
  have hj : j < l.length := by
    rcases Nat.lt_or_ge j l.length with h | h
    · exact h
    · exact absurd (errAt_out l j h) hq
  rw [firstBad, List.find?_range_eq_some]
  refine ⟨by simpa using hq, by simpa using hj, fun i hi => ?_⟩
  simp [h0 i hi]
theorem look_ok (l : List Ev.Event) (h : good l) : lookR l = (faceR l, 0, 0) := by rw [lookR, bad_none l h]
theorem look_bad (l : List Ev.Event) (j : Nat) (h0 : ∀ i, i < j → errAt l i = 0) (hq : errAt l j ≠ 0) : lookR l = (([], []), (j : Int), errAt l j) := by rw [lookR, bad_some l j h0 hq]
theorem look_cases (l : List Ev.Event) : good l ∨ ∃ j, j < l.length ∧ errAt l j ≠ 0 ∧ ∀ i, i < j → errAt l i = 0 := by
  cases h : firstBad l with
  | none =>
    refine .inl fun j => ?_
    rcases Nat.lt_or_ge j l.length with hj | hj
    · rw [firstBad, List.find?_eq_none] at h
      have := h j (by simpa using hj)
      simpa using this
    · exact errAt_out l j hj
  | some j =>
    rw [firstBad, List.find?_range_eq_some] at h
    obtain ⟨h1, h2, h3⟩ := h
    refine .inr ⟨j, by simpa using h2, by simpa using h1, fun i hi => ?_⟩
    have := h3 i hi
    simpa using this
/-- All ahead of a place being right, what stands there tells. -/
theorem good_of_all (l : List Ev.Event) (h : ∀ i, i < l.length → errAt l i = 0) : good l := fun j => by
  rcases Nat.lt_or_ge j l.length with hj | hj
  · exact h j hj
  · exact errAt_out l j hj

/-! By keys. -/
theorem readsTo_succ (l : List Ev.Event) (n : Nat) : readsTo l (n + 1) = readsTo l n ++ (rd l n).toList := by
  rw [readsTo, readsTo, List.range_succ, List.filterMap_append]
  cases h : rd l n <;> simp [h]
theorem writesTo_succ (l : List Ev.Event) (n : Nat) : writesTo l (n + 1) = writesTo l n ++ (wr l n).toList := by
  rw [writesTo, writesTo, List.range_succ, List.filterMap_append]
  cases h : wr l n <;> simp [h]
theorem filterMap_front {f : Nat → Option (Int × Int)} (n m : Nat) (h : n ≤ m) : ∃ r, (List.range m).filterMap f = (List.range n).filterMap f ++ r := by
  obtain ⟨d, rfl⟩ := Nat.exists_eq_add_of_le h
  rw [List.range_add, List.filterMap_append]
  exact ⟨_, rfl⟩
theorem filterMap_at {f : Nat → Option (Int × Int)} (n m : Nat) (h : n < m) (y : Int × Int) (hy : f n = some y) : ((List.range m).filterMap f)[((List.range n).filterMap f).length]? = some y := by
  obtain ⟨r, hr⟩ := filterMap_front (f := f) (n + 1) m (by omega)
  rw [hr, List.range_succ, List.filterMap_append]
  simp [hy]
theorem reads_at (l : List Ev.Event) (n : Nat) (h : n < 16) (y : Int × Int) (hy : rd l n = some y) : (readsTo l 16)[(readsTo l n).length]? = some y := filterMap_at n 16 h y hy
theorem writes_at (l : List Ev.Event) (n : Nat) (h : n < 16) (y : Int × Int) (hy : wr l n = some y) : (writesTo l 16)[(writesTo l n).length]? = some y := filterMap_at n 16 h y hy
theorem reads_len (l : List Ev.Event) (n : Nat) : (readsTo l n).length ≤ n := Nat.le_trans (List.length_filterMap_le _ _) (by simp)
theorem writes_len (l : List Ev.Event) (n : Nat) : (writesTo l n).length ≤ n := Nat.le_trans (List.length_filterMap_le _ _) (by simp)
theorem rd_key (l : List Ev.Event) (k : Nat) (y : Int × Int) (h : rd l k = some y) : y.1 = (k : Int) := by
  unfold rd at h
  split at h
  · split at h
    · cases h; rfl
    · cases h
  · cases h
theorem wr_key (l : List Ev.Event) (k : Nat) (y : Int × Int) (h : wr l k = some y) : y.1 = (k : Int) := by
  unfold wr at h
  cases h1 : lastOf 2 (k : Int) l with
  | none => rw [h1] at h; cases h
  | some v => rw [h1] at h; cases h; rfl
/-- What a row of items says of a key. -/
def says (key : Int) : List (Int × Int) → Option Int
  | [] => none
  | y :: r => (says key r).or (if y.1 = key then some y.2 else none)
theorem says_append (key : Int) (a b : List (Int × Int)) : says key (a ++ b) = (says key b).or (says key a) := by
  induction a with
  | nil => simp [says]
  | cons y a ih => rw [List.cons_append, says, ih, says, Option.or_assoc]
theorem says_range (f : Nat → Option (Int × Int)) (hf : ∀ k y, f k = some y → y.1 = (k : Int)) (n k : Nat) : says (k : Int) ((List.range n).filterMap f) = if k < n then (f k).map (·.2) else none := by
  induction n with
  | zero => simp [says]
  | succ n ih =>
    rw [List.range_succ, List.filterMap_append, says_append, ih]
    by_cases hk : k = n
    · subst hk
      rw [if_neg (by omega), if_pos (by omega)]
      cases h : f k with
      | none => simp [h, says]
      | some y => simp [h, says, hf k y h]
    · have h1 : says (k : Int) (List.filterMap f [n]) = none := by
        cases h : f n with
        | none => simp [h, says]
        | some y =>
          have := hf n y h
          simp [h, says, this]
          omega
      rw [h1, Option.none_or]
      by_cases h2 : k < n
      · rw [if_pos h2, if_pos (by omega)]
      · rw [if_neg h2, if_neg (by omega)]
theorem says_reads (l : List Ev.Event) (k : Nat) (hk : k < 16) : says (k : Int) (readsTo l 16) = (rd l k).map (·.2) := by
  rw [readsTo, says_range _ (fun k y h => rd_key l k y h), if_pos hk]
theorem says_writes (l : List Ev.Event) (k : Nat) (hk : k < 16) : says (k : Int) (writesTo l 16) = lastOf 2 (k : Int) l := by
  rw [writesTo, says_range _ (fun k y h => wr_key l k y h), if_pos hk, wr, Option.map_map]
  cases lastOf 2 (k : Int) l <;> rfl

/-! What a right row of ops is like. -/
theorem right_of_good {l : List Ev.Event} (h : good l) (j : Nat) (hj : j < l.length) : right l[j] = true ∧ hasKey l[j].kind = true := by
  have h1 := h j
  rw [errAt_at l j hj, wrong] at h1
  split at h1
  · cases h1
  · rename_i h2
    refine ⟨?_, ?_⟩
    · cases h3 : right l[j] with
      | true => rfl
      | false => exact absurd (.inl h3) h2
    · cases h3 : hasKey l[j].kind with
      | true => rfl
      | false => exact absurd (.inr h3) h2
theorem kind_of_good {l : List Ev.Event} (h : good l) (j : Nat) (hj : j < l.length) : l[j].kind = 1 ∨ l[j].kind = 2 := (Ev.hasKey_iff _).1 (right_of_good h j hj).2
/-- A read that is right, one case at a time. -/
theorem wrong_read (p r : List Ev.Event) (e : Ev.Event) (hr : right e = true) (hk : e.kind = 1) : wrong p e r = match lastOf 2 e.key p with
    | some v => if v = e.value then 0 else 10
    | none => match lastOf 1 e.key p with
      | some v => if v = e.value then 0 else 11
      | none => if future e r = true then 9 else 0 := by
  rw [wrong, if_neg (by rw [hr, hk]; decide), if_neg (by rw [hk]; decide)]
theorem wrong_write (p r : List Ev.Event) (e : Ev.Event) (hr : right e = true) (hk : e.kind = 2) : wrong p e r = 0 := by
  rw [wrong, if_neg (by rw [hr, hk]; decide), if_pos hk]
theorem take_cons_at (l : List Ev.Event) (j : Nat) (hj : j < l.length) : l.take (j + 1) = l.take j ++ [l[j]] := List.take_succ_eq_append_getElem hj
/-- Where a key is not written, all its reads have the value of the first. -/
theorem reads_agree {l : List Ev.Event} (h : good l) (key v : Int) (n : Nat) (hw : lastOf 2 key (l.take n) = none) (hl : lastOf 1 key (l.take n) = some v) : ∀ x ∈ l.take n, isK 1 key x = true → x.value = v := by
  induction n generalizing v with
  | zero => simp [lastOf] at hl
  | succ n ih =>
    rcases Nat.lt_or_ge n l.length with hn | hn
    · rw [take_cons_at l n hn] at hw hl ⊢
      rw [lastOf_snoc] at hw hl
      have hw2 : isK 2 key l[n] = false ∧ lastOf 2 key (l.take n) = none := by
        cases h2 : isK 2 key l[n] with
        | true => rw [h2, if_pos rfl] at hw; cases hw
        | false => rw [h2, if_neg (by simp)] at hw; exact ⟨rfl, hw⟩
      intro x hx hxk
      rcases List.mem_append.1 hx with hx | hx
      · cases h1 : lastOf 1 key (l.take n) with
        | none =>
          rw [lastOf_none] at h1
          rw [h1 x hx] at hxk
          cases hxk
        | some u =>
          have hu := ih v hw2.2
          cases h3 : isK 1 key l[n] with
          | false =>
            rw [h3, if_neg (by simp)] at hl
            exact hu hl x hx hxk
          | true =>
            rw [h3, if_pos rfl] at hl
            cases hl
            obtain ⟨k1, k2⟩ := (isK_iff _ _ _).1 h3
            have he := h n
            rw [errAt_at l n hn, wrong_read _ _ _ (right_of_good h n hn).1 k1, k2, hw2.2, h1] at he
            simp only at he
            split at he
            · rename_i he2
              rw [← he2]
              exact ih u hw2.2 h1 x hx hxk
            · cases he
      · rw [List.mem_singleton.1 hx] at hxk ⊢
        rw [hxk, if_pos rfl] at hl
        cases hl
        rfl
    · rw [List.take_of_length_le (by omega)] at hw hl ⊢
      rw [List.take_of_length_le hn] at ih
      exact ih v hw hl

/-! One read more, behind all. -/
theorem future_snoc (e x : Ev.Event) (r : List Ev.Event) (hx : x.kind = 1) : future e (r ++ [x]) = future e r := by
  have : isK 2 e.key x = false := by
    cases h : isK 2 e.key x with
    | false => rfl
    | true => have := ((isK_iff _ _ _).1 h).1; omega
  simp [future, this]
theorem wrong_snoc (p r : List Ev.Event) (e x : Ev.Event) (hx : x.kind = 1) : wrong p e (r ++ [x]) = wrong p e r := by
  unfold wrong
  rw [future_snoc e x r hx]
theorem errAt_snoc (l : List Ev.Event) (x : Ev.Event) (hx : x.kind = 1) (j : Nat) (hj : j < l.length) : errAt (l ++ [x]) j = errAt l j := by
  rw [errAt_at l j hj, errAt_at (l ++ [x]) j (by simp; omega)]
  rw [List.getElem_append_left hj, List.take_append_of_le_length (by omega), List.drop_append_of_le_length (by omega), wrong_snoc _ _ _ _ hx]
theorem errAt_last (l : List Ev.Event) (x : Ev.Event) : errAt (l ++ [x]) l.length = wrong l x [] := by
  rw [errAt_at (l ++ [x]) l.length (by simp)]
  simp
theorem good_snoc {l : List Ev.Event} (h : good l) (x : Ev.Event) (hx : x.kind = 1) (hq : wrong l x [] = 0) : good (l ++ [x]) := good_of_all _ fun i hi => by
  rcases Nat.lt_or_ge i l.length with h' | h'
  · rw [errAt_snoc l x hx i h']; exact h i
  · obtain rfl : i = l.length := by simp at hi; omega
    rw [errAt_last]; exact hq
theorem look_snoc_bad {l : List Ev.Event} (h : good l) (x : Ev.Event) (hx : x.kind = 1) (hq : wrong l x [] ≠ 0) : lookR (l ++ [x]) = (([], []), (l.length : Int), wrong l x []) := by
  rw [look_bad (l ++ [x]) l.length (fun i hi => by rw [errAt_snoc l x hx i hi]; exact h i) (by rw [errAt_last]; exact hq), errAt_last]
theorem find_snoc (l : List Ev.Event) (x : Ev.Event) (k : Nat) : (l ++ [x]).find? (fun e => decide (e.key = (k : Int))) = (l.find? fun e => decide (e.key = (k : Int))).or (if x.key = (k : Int) then some x else none) := by
  rw [List.find?_append]
  congr 1
  by_cases hk : x.key = (k : Int)
  · simp [hk]
  · simp [hk]
theorem wr_snoc (l : List Ev.Event) (x : Ev.Event) (hx : x.kind = 1) (k : Nat) : wr (l ++ [x]) k = wr l k := by
  rw [wr, wr, lastOf_snoc, if_neg (by rw [isK_iff]; omega)]
theorem writes_snoc (l : List Ev.Event) (x : Ev.Event) (hx : x.kind = 1) : writesTo (l ++ [x]) 16 = writesTo l 16 := by
  unfold writesTo
  congr 1
  funext k
  exact wr_snoc l x hx k
theorem rd_snoc_other (l : List Ev.Event) (x : Ev.Event) (k : Nat) (h : x.key ≠ (k : Int) ∨ ∃ e ∈ l, e.key = (k : Int)) : rd (l ++ [x]) k = rd l k := by
  unfold rd
  rw [find_snoc]
  rcases h with h | ⟨e, he, hk⟩
  · rw [if_neg h, Option.or_none]
  · cases hf : l.find? fun e => decide (e.key = (k : Int)) with
    | some y => rfl
    | none =>
      rw [List.find?_eq_none] at hf
      exact absurd (by simpa using hk) (hf e he)
theorem reads_snoc_same (l : List Ev.Event) (x : Ev.Event) (h : ∃ e ∈ l, e.key = x.key) : readsTo (l ++ [x]) 16 = readsTo l 16 := by
  unfold readsTo
  congr 1
  funext k
  refine rd_snoc_other l x k ?_
  by_cases hk : x.key = (k : Int)
  · obtain ⟨e, he, h2⟩ := h
    exact .inr ⟨e, he, h2.trans hk⟩
  · exact .inl hk
theorem filterMap_same (f g : Nat → Option (Int × Int)) (L : List Nat) (h : ∀ k ∈ L, g k = f k) : L.filterMap g = L.filterMap f := by
  induction L with
  | nil => rfl
  | cons k L ih => rw [List.filterMap_cons, List.filterMap_cons, h k (by simp), ih (fun j hj => h j (List.mem_cons_of_mem _ hj))]
theorem filterMap_one (f g : Nat → Option (Int × Int)) (n m : Nat) (hn : n < m) (h : ∀ k, k ≠ n → g k = f k) (hf : f n = none) (y : Int × Int) (hg : g n = some y) : ((List.range m).filterMap g).length = ((List.range m).filterMap f).length + 1 := by
  induction m with
  | zero => omega
  | succ m ih =>
    rw [List.range_succ, List.filterMap_append, List.filterMap_append, List.length_append, List.length_append]
    by_cases hm : n = m
    · subst hm
      have e : ∀ j, j ≤ n → ((List.range j).filterMap g) = ((List.range j).filterMap f) := fun j hj => by
        refine filterMap_same f g _ fun k hk => ?_
        have := List.mem_range.1 hk
        exact h k (by omega)
      rw [e n (Nat.le_refl _)]
      simp [hf, hg]
    · rw [ih (by omega)]
      have : (List.filterMap g [m]).length = (List.filterMap f [m]).length := by rw [filterMap_same f g [m] (fun k hk => by rw [List.mem_singleton.1 hk]; exact h m (fun e => hm e.symm))]
      omega
theorem reads_snoc_new (l : List Ev.Event) (x : Ev.Event) (hx : x.kind = 1) (k : Nat) (hk : x.key = (k : Int)) (h16 : k < 16) (h : ∀ e ∈ l, e.key ≠ x.key) : (readsTo (l ++ [x]) 16).length = (readsTo l 16).length + 1 := by
  have hf : (l.find? fun e => decide (e.key = (k : Int))) = none := by
    rw [List.find?_eq_none]
    intro e he
    have := h e he
    rw [hk] at this
    simpa using this
  refine filterMap_one (rd l) (rd (l ++ [x])) k 16 h16 (fun j hj => rd_snoc_other l x j (.inl (by rw [hk]; omega))) ?_ ((k : Int), x.value) ?_
  · rw [rd, hf]
  · rw [rd, find_snoc, hf, if_pos hk]
    simp [hx]
theorem first_some (l : List Ev.Event) (k : Nat) (h : ∃ e ∈ l, e.key = (k : Int)) : ∃ e ∈ l, e.key = (k : Int) ∧ (l.find? fun e => decide (e.key = (k : Int))) = some e := by
  cases hf : l.find? fun e => decide (e.key = (k : Int)) with
  | some y => exact ⟨y, List.mem_of_find?_eq_some hf, by simpa using List.find?_some hf, rfl⟩
  | none =>
    obtain ⟨e, he, hk⟩ := h
    rw [List.find?_eq_none] at hf
    exact absurd (by simpa using hk) (hf e he)
theorem kind_mem {l : List Ev.Event} (h : good l) (e : Ev.Event) (he : e ∈ l) : e.kind = 1 ∨ e.kind = 2 := by
  obtain ⟨j, hj, rfl⟩ := List.getElem_of_mem he
  exact kind_of_good h j hj
/-- What one read more behind all comes to: of what was written last, of what was read, of a key that has no op. -/
theorem more_cases {l : List Ev.Event} (h : good l) (x : Ev.Event) (hr : right x = true) (hx : x.kind = 1) (k : Nat) (hk : x.key = (k : Int)) :
    (∃ u, lastOf 2 x.key l = some u ∧ wrong l x [] = (if u = x.value then 0 else 10) ∧ ∃ e ∈ l, e.key = x.key) ∨
    (lastOf 2 x.key l = none ∧ ∃ v, rd l k = some ((k : Int), v) ∧ wrong l x [] = (if v = x.value then 0 else 11) ∧ ∃ e ∈ l, e.key = x.key) ∨
    (lastOf 2 x.key l = none ∧ rd l k = none ∧ wrong l x [] = 0 ∧ ∀ e ∈ l, e.key ≠ x.key) := by
  have hw := wrong_read l [] x hr hx
  cases h2 : lastOf 2 x.key l with
  | some u =>
    rw [h2] at hw
    obtain ⟨e, he, hek, _⟩ := lastOf_some 2 x.key l u h2
    exact .inl ⟨u, rfl, hw, e, he, ((isK_iff _ _ _).1 hek).2⟩
  | none =>
    rw [h2] at hw
    by_cases hex : ∃ e ∈ l, e.key = (k : Int)
    · obtain ⟨e, he, hek, hfind⟩ := first_some l k hex
      have hkind : e.kind = 1 := by
        rcases kind_mem h e he with h1 | h1
        · exact h1
        · have := (lastOf_none 2 x.key l).1 h2 e he
          rw [(isK_iff 2 x.key e).2 ⟨h1, by rw [hk]; exact hek⟩] at this
          cases this
      have hisK : isK 1 x.key e = true := (isK_iff _ _ _).2 ⟨hkind, by rw [hk]; exact hek⟩
      cases h1 : lastOf 1 x.key l with
      | none =>
        have := (lastOf_none 1 x.key l).1 h1 e he
        rw [hisK] at this
        cases this
      | some v =>
        rw [h1] at hw
        have hag := reads_agree h x.key v l.length (by rw [List.take_length]; exact h2) (by rw [List.take_length]; exact h1) e (by rw [List.take_length]; exact he) hisK
        refine .inr (.inl ⟨rfl, v, ?_, hw, e, he, by rw [hk]; exact hek⟩)
        rw [rd, hfind]
        simp [hkind, hag]
    · have hno : ∀ e ∈ l, e.key ≠ (k : Int) := fun e he h' => hex ⟨e, he, h'⟩
      have h1 : lastOf 1 x.key l = none := (lastOf_none 1 x.key l).2 fun e he => by
        cases h3 : isK 1 x.key e with
        | false => rfl
        | true => exact absurd (((isK_iff _ _ _).1 h3).2.trans hk) (hno e he)
      rw [h1] at hw
      refine .inr (.inr ⟨rfl, ?_, hw, fun e he => by rw [hk]; exact hno e he⟩)
      have : (l.find? fun e => decide (e.key = (k : Int))) = none := by
        rw [List.find?_eq_none]
        intro e he
        simpa using hno e he
      rw [rd, this]

/-! One read more, ahead of all. -/
def isFirst (l : List Ev.Event) (key : Int) (f : Nat) : Prop := ∃ hf : f < l.length, l[f].key = key ∧ ∀ j (hj : j < l.length), j < f → l[j].key ≠ key
theorem errAt_front_zero (x : Ev.Event) (l : List Ev.Event) (hr : right x = true) (hx : x.kind = 1) : errAt (x :: l) 0 = if future x l = true then 9 else 0 := by
  rw [errAt_at (x :: l) 0 (by simp)]
  show wrong [] x l = _
  rw [wrong_read [] l x hr hx]
  rfl
theorem errAt_front_succ (x : Ev.Event) (l : List Ev.Event) (j : Nat) (hj : j < l.length) : errAt (x :: l) (j + 1) = wrong (x :: l.take j) l[j] (l.drop (j + 1)) := by
  rw [errAt_at (x :: l) (j + 1) (by simp; omega)]
  rfl
theorem lastOf_front (kind key : Int) (x : Ev.Event) (p : List Ev.Event) (h : isK kind key x = false) : lastOf kind key (x :: p) = lastOf kind key p := by
  rw [lastOf, h, if_neg (by simp), Option.or_none]
/-- An op of another key, or one that is no first op of that key, stays right. -/
theorem wrong_front_same (x : Ev.Event) (hx : x.kind = 1) (p r : List Ev.Event) (e : Ev.Event) (h : e.key ≠ x.key ∨ lastOf 2 e.key p ≠ none ∨ lastOf 1 e.key p ≠ none) : wrong (x :: p) e r = wrong p e r := by
  have h2 : lastOf 2 e.key (x :: p) = lastOf 2 e.key p := lastOf_front 2 e.key x p (by
    cases hk : isK 2 e.key x with
    | false => rfl
    | true => have := ((isK_iff _ _ _).1 hk).1; omega)
  unfold wrong
  rw [h2]
  rcases h with h | h | h
  · have h1 : lastOf 1 e.key (x :: p) = lastOf 1 e.key p := lastOf_front 1 e.key x p (by
      cases hk : isK 1 e.key x with
      | false => rfl
      | true => exact absurd ((isK_iff _ _ _).1 hk).2.symm h)
    rw [h1]
  · cases h3 : lastOf 2 e.key p with
    | none => exact absurd h3 h
    | some v => rfl
  · have h1 : lastOf 1 e.key (x :: p) = lastOf 1 e.key p := by
      cases h3 : lastOf 1 e.key p with
      | none => exact absurd h3 h
      | some v => rw [lastOf, h3, Option.some_or]
    rw [h1]
theorem wrong_front_first (x : Ev.Event) (hx : x.kind = 1) (p r : List Ev.Event) (e : Ev.Event) (hr : right e = true) (he : e.kind = 1) (hk : e.key = x.key) (h2 : lastOf 2 e.key p = none) (h1 : lastOf 1 e.key p = none) : wrong (x :: p) e r = if x.value = e.value then 0 else 11 := by
  have e2 : lastOf 2 e.key (x :: p) = none := by
    rw [lastOf_front 2 e.key x p (by
      cases hk : isK 2 e.key x with
      | false => rfl
      | true => have := ((isK_iff _ _ _).1 hk).1; omega), h2]
  have e1 : lastOf 1 e.key (x :: p) = some x.value := by
    rw [lastOf, h1, (isK_iff 1 e.key x).2 ⟨hx, hk.symm⟩, if_pos rfl, Option.none_or]
  rw [wrong_read _ _ _ hr he, e2, e1]
theorem before_none {l : List Ev.Event} {key : Int} {f : Nat} (h : isFirst l key f) (kind : Int) : lastOf kind key (l.take f) = none := by
  obtain ⟨hf, _, hb⟩ := h
  rw [lastOf_none]
  intro e he
  obtain ⟨j, hj, rfl⟩ := List.getElem_of_mem he
  rw [List.length_take] at hj
  rw [List.getElem_take]
  cases hk : isK kind key l[j] with
  | false => rfl
  | true => exact absurd ((isK_iff _ _ _).1 hk).2 (hb j (by omega) (by omega))
/-- An op of the key that is not the first has one ahead of it. -/
theorem before_some {l : List Ev.Event} (hg : good l) {key : Int} (j : Nat) (hj : j < l.length) (hn : ¬ isFirst l key j) (hk : l[j].key = key) : lastOf 2 key (l.take j) ≠ none ∨ lastOf 1 key (l.take j) ≠ none := by
  have : ∃ i, ∃ hi : i < l.length, i < j ∧ l[i].key = key := by
    refine Classical.byContradiction fun hc => hn ⟨hj, hk, fun i hi hij h' => hc ⟨i, hi, hij, h'⟩⟩
  obtain ⟨i, hi, hij, hik⟩ := this
  have hmem : l[i] ∈ l.take j := by
    rw [List.mem_iff_getElem]
    exact ⟨i, by rw [List.length_take]; omega, by rw [List.getElem_take]⟩
  rcases kind_of_good hg i hi with h1 | h1
  · refine .inr fun h' => ?_
    have := (lastOf_none _ _ _).1 h' _ hmem
    rw [(isK_iff 1 key l[i]).2 ⟨h1, hik⟩] at this
    cases this
  · refine .inl fun h' => ?_
    have := (lastOf_none _ _ _).1 h' _ hmem
    rw [(isK_iff 2 key l[i]).2 ⟨h1, hik⟩] at this
    cases this
theorem front_step {l : List Ev.Event} (hg : good l) (x : Ev.Event) (hx : x.kind = 1) (j : Nat) (hj : j < l.length) (h : ¬ isFirst l x.key j ∨ l[j].kind ≠ 1 ∨ l[j].value = x.value) : errAt (x :: l) (j + 1) = 0 := by
  rw [errAt_front_succ x l j hj]
  have h0 := hg j
  rw [errAt_at l j hj] at h0
  obtain ⟨hr, _⟩ := right_of_good hg j hj
  rcases kind_of_good hg j hj with hk | hk
  · by_cases hkey : l[j].key = x.key
    · by_cases hf : isFirst l x.key j
      · have hv : l[j].value = x.value := by
          rcases h with h | h | h
          · exact absurd hf h
          · exact absurd hk h
          · exact h
        rw [wrong_front_first x hx _ _ _ hr hk hkey (by rw [hkey]; exact before_none hf 2) (by rw [hkey]; exact before_none hf 1), if_pos hv.symm]
      · rw [wrong_front_same x hx _ _ _ (.inr (by rw [hkey]; exact before_some hg j hj hf hkey))]
        exact h0
    · rw [wrong_front_same x hx _ _ _ (.inl hkey)]
      exact h0
  · exact wrong_write _ _ _ hr hk
theorem front_good {l : List Ev.Event} (hg : good l) (x : Ev.Event) (hr : right x = true) (hx : x.kind = 1) (hfu : future x l = false) (h : ∀ f (hf : f < l.length), isFirst l x.key f → l[f].kind = 1 → l[f].value = x.value) : good (x :: l) := good_of_all _ fun i hi => by
  cases i with
  | zero => rw [errAt_front_zero x l hr hx, hfu, if_neg (by simp)]
  | succ j =>
    have hj : j < l.length := by simpa using hi
    refine front_step hg x hx j hj ?_
    by_cases hf : isFirst l x.key j
    · by_cases hk : l[j].kind = 1
      · exact .inr (.inr (h j hj hf hk))
      · exact .inr (.inl hk)
    · exact .inl hf
theorem first_one {l : List Ev.Event} {key : Int} {f j : Nat} (hf : isFirst l key f) (hj : isFirst l key j) : f = j := by
  obtain ⟨h1, h2, h3⟩ := hf
  obtain ⟨k1, k2, k3⟩ := hj
  rcases Nat.lt_trichotomy f j with h | h | h
  · exact absurd h2 (k3 f h1 h)
  · exact h
  · exact absurd k2 (h3 j k1 h)
theorem front_bad {l : List Ev.Event} (hg : good l) (x : Ev.Event) (hr : right x = true) (hx : x.kind = 1) (hfu : future x l = false) (f : Nat) (hf : f < l.length) (hfirst : isFirst l x.key f) (hk : l[f].kind = 1) (hv : l[f].value ≠ x.value) : lookR (x :: l) = (([], []), ((f + 1 : Nat) : Int), 11) := by
  have hq : errAt (x :: l) (f + 1) = 11 := by
    have hkey := hfirst.2.1
    rw [errAt_front_succ x l f hf, wrong_front_first x hx _ _ _ (right_of_good hg f hf).1 hk hkey (by rw [hkey]; exact before_none hfirst 2) (by rw [hkey]; exact before_none hfirst 1), if_neg (fun e => hv e.symm)]
  rw [look_bad (x :: l) (f + 1) (fun i hi => ?_) (by rw [hq]; decide), hq]
  cases i with
  | zero => rw [errAt_front_zero x l hr hx, hfu, if_neg (by simp)]
  | succ j =>
    refine front_step hg x hx j (by omega) (.inl fun h => ?_)
    have := first_one hfirst h
    omega
theorem front_future {l : List Ev.Event} (x : Ev.Event) (hr : right x = true) (hx : x.kind = 1) (hfu : future x l = true) : lookR (x :: l) = (([], []), 0, 9) := by
  have hq : errAt (x :: l) 0 = 9 := by rw [errAt_front_zero x l hr hx, hfu, if_pos rfl]
  rw [look_bad (x :: l) 0 (fun i hi => by omega) (by rw [hq]; decide), hq]
  rfl
theorem writes_front (x : Ev.Event) (hx : x.kind = 1) (l : List Ev.Event) : writesTo (x :: l) 16 = writesTo l 16 := by
  unfold writesTo
  congr 1
  funext k
  rw [wr, wr, lastOf_front 2 (k : Int) x l (by
    cases hk : isK 2 (k : Int) x with
    | false => rfl
    | true => have := ((isK_iff _ _ _).1 hk).1; omega)]
theorem future_iff (x : Ev.Event) (l : List Ev.Event) : future x l = true ↔ ∃ j, ∃ hj : j < l.length, l[j].kind = 2 ∧ l[j].key = x.key ∧ l[j].value = x.value := by
  rw [future, List.any_eq_true]
  constructor
  · rintro ⟨e, he, h⟩
    obtain ⟨j, hj, rfl⟩ := List.getElem_of_mem he
    rw [Bool.and_eq_true, isK_iff, decide_eq_true_eq] at h
    exact ⟨j, hj, h.1.1, h.1.2, h.2⟩
  · rintro ⟨j, hj, h1, h2, h3⟩
    exact ⟨l[j], List.getElem_mem hj, by rw [Bool.and_eq_true, isK_iff, decide_eq_true_eq]; exact ⟨⟨h1, h2⟩, h3⟩⟩
end Go.Proofs.YtfjamdpgbbnmcaaGreatDoor.In
/-
  Words for rows of elements of any kind in memory (n cells each, told by a function f): a slice that reads as a list of them, how that lasts and grows, a literal, and such a slice among the arguments.
  Conditions: none beyond those that each theorem states.
-/
set_option maxRecDepth 4000
namespace Go.Proofs.YtfjamdpgbbnmcaaGreatDoor
open Go.ChangeShapes Go.WideShapes Go.ChangeAt Go.RowKit Go.Deep

section
variable {α : Type} {f : α → List Value} {n : Nat}
theorem flat_len (hf : ∀ x, (f x).length = n) (p : List α) : (p.flatMap f).length = p.length * n := by
  induction p with
  | nil => simp
  | cons x p ih => rw [List.flatMap_cons, List.length_append, ih, List.length_cons, hf, Nat.succ_mul]; omega
theorem flat_at (hf : ∀ x, (f x).length = n) (p : List α) (k : Nat) (hk : k < p.length) (j : Nat) (hj : j < n) : (p.flatMap f)[k * n + j]? = (f p[k])[j]? := by
  induction p generalizing k with
  | nil => simp at hk
  | cons x p ih =>
    rw [List.flatMap_cons]
    cases k with
    | zero => rw [List.getElem?_append_left (by rw [hf]; omega)]; simp
    | succ k =>
      rw [List.getElem?_append_right (by rw [hf, Nat.succ_mul]; omega), hf, show (k + 1) * n + j - n = k * n + j by rw [Nat.succ_mul]; omega]
      exact ih k (by simpa using hk)
theorem flat_set (hf : ∀ x, (f x).length = n) (p : List α) (k : Nat) (hk : k < p.length) (j : Nat) (hj : j < n) (y : α) (u : Value) (he : f y = (f p[k]).set j u) : (p.flatMap f).set (k * n + j) u = (p.set k y).flatMap f := by
  induction p generalizing k with
  | nil => simp at hk
  | cons x p ih =>
    rw [List.flatMap_cons]
    cases k with
    | zero =>
      rw [List.set_append_left _ _ (by rw [hf]; omega), List.set_cons_zero, List.flatMap_cons, he]
      simp
    | succ k =>
      rw [List.set_append_right _ _ (by rw [hf, Nat.succ_mul]; omega), hf, show (k + 1) * n + j - n = k * n + j by rw [Nat.succ_mul]; omega, ih k (by simpa using hk) he, List.set_cons_succ, List.flatMap_cons]
theorem flat_snoc (d : List α) (x : α) : (d ++ [x]).flatMap f = d.flatMap f ++ f x := by simp [List.flatMap_append]

/-- The slice value v reads as the elements l. -/
def Rows' (n : Nat) (f : α → List Value) (w : World) (v : Value) (l : List α) : Prop := Sl w n v l.length (l.flatMap f)
theorem Rows'.below {w w' : World} {v : Value} {l : List α} (h : Rows' n f w v l) (hb : Below w.heap.size w w') : Rows' n f w' v l := Sl.below h hb
theorem Rows'.nil (w : World) (A : Option Addr) : Rows' n f w (.slice A 0 0) [] := Sl.nil w n A
theorem Rows'.own {w : World} {base : Nat} {e : TypeId} {v : Value} {l : List α} (h : w.ownsRow base e n v l.length (l.flatMap f)) : Rows' n f w v l := Sl.own h
theorem Rows'.own_snoc {w : World} {base : Nat} {e : TypeId} {v : Value} {d : List α} {x : α} (h : w.ownsRow base e n v (d.length + 1) (d.flatMap f ++ f x)) : w.ownsRow base e n v (d ++ [x]).length ((d ++ [x]).flatMap f) := by
  rw [List.length_append, flat_snoc]
  exact h
theorem Rows'.none_ {w : World} {v : Value} {l : List α} (h : Rows' n f w v l) (hl : l = []) : ∃ A c, v = .slice A 0 c := by
  subst hl
  obtain ⟨A, c, hv, _⟩ := Sl.form h
  exact ⟨A, c, hv⟩
theorem Rows'.form (hf : ∀ x, (f x).length = n) {w : World} {v : Value} {l : List α} (h : Rows' n f w v l) :
    ∃ A c, v = .slice A l.length c ∧ ∀ (k : Nat) (hk : k < l.length), ∃ ad : Addr, A = some ad ∧ ad.block < w.heap.size ∧ ∀ j u, (f l[k])[j]? = some u → w.cell? (ad.add (k * n + j)) = some u := by
  obtain ⟨A, c, hv, hh⟩ := Sl.form h
  refine ⟨A, c, hv, fun k hk => ?_⟩
  obtain ⟨ad, e, hb, hc⟩ := hh (by omega)
  refine ⟨ad, e, hb, fun j u hu => hc _ _ ?_⟩
  have hj : j < n := by
    have := (List.getElem?_eq_some_iff.1 hu).1
    rw [hf] at this
    exact this
  rw [flat_at hf l k hk j hj]
  exact hu
/-- A literal. -/
theorem lit_rows (hf : ∀ x, (f x).length = n) (w : World) (e : TypeId) (l : List α) (hl : l.length ≤ maxLen) : Rows' n f (w.alloc (.cells (l.flatMap f).toArray e)) (.slice (some ⟨w.heap.size, 0, none⟩) l.length l.length) l :=
  Rows'.own (World.ownsRow_lit (base := 0) (e := e) (size := n) w (l.flatMap f).toArray l.length (Nat.zero_le _) hl (by rw [List.size_toArray, flat_len hf]))
/-- The cells of a new block. -/
theorem new_row (w : World) (cs : List Value) (e : TypeId) : ∀ j u, cs[j]? = some u → (w.alloc (.cells cs.toArray e)).cell? ((⟨w.heap.size, 0, none⟩ : Addr).add j) = some u := by
  intro j u hj
  have e1 : (⟨w.heap.size, 0, none⟩ : Addr).add j = ⟨w.heap.size, j, none⟩ := by
    unfold Addr.add
    split
    · rename_i h; rw [h]
    · simp
  rw [e1, cell_of_row _ _ _ cs.toArray e (0, 0) (heap_alloc_new w _), List.getElem?_toArray]
  exact hj

variable {H : Type} {enc : TypeId × Value → H} {P : Program} {w : World} {base : Nat} {r : Reach} {b0 : Nat}
/-- A cell that reads as a slice of such elements, what is known of each (Q) with it. -/
theorem cells_rows [Inhabited α] (hf : ∀ x, (f x).length = n) (hn : 0 < n) {t e : TypeId} (Q : α → Prop) (ce : P.cellsOf e = n) (ht : P.underlying t = some (.slice e))
    (hel : ∀ (fuel : Nat) (cs : List Value) (x : DataW H × List MemPlace), DataW.trod enc P w base (fun _ => true) true fuel e cs = some x → ∃ y : α, cs = f y ∧ Q y)
    {fuel : Nat} {cs : List Value} {x : DataW H × List MemPlace} (h : DataW.trod enc P w base (fun _ => true) true fuel t cs = some x) :
    ∃ (A : Option Addr) (m c : Nat), cs = [.slice A m c] ∧ ∃ l : List α, Rows' n f w (.slice A m c) l ∧ l.length ≤ maxLen ∧ ∀ y ∈ l, Q y := by
  rcases open_slice ht h with ⟨hcs, _⟩ | ⟨a, len, cap, m, k0, D, Pl, hcs, _, hl, hm, hmm, _, hi⟩
  · exact ⟨none, 0, 0, hcs, [], Rows'.nil _ _, by simp, by simp⟩
  · simp only [if_true] at hmm
    have hall : ∀ k, k < len → ∃ y : α, (∀ j, j < n → w.cell? (a.add (k * n + j)) = (f y)[j]?) ∧ Q y := fun k hk => by
      obtain ⟨cs', hc, ht'⟩ := hi k (by omega)
      rw [ce] at hc
      obtain ⟨y, rfl, hq⟩ := hel _ _ _ ht'
      obtain ⟨_, _, hat⟩ := World.cells?_some hc
      exact ⟨y, fun j hj => by rw [← Go.Deep.add_add]; exact hat j hj, hq⟩
    obtain ⟨g, hg⟩ := choose_lt hall
    have hlen : ((List.range len).map g).length = len := by simp
    refine ⟨some a, len, cap, hcs, (List.range len).map g, ?_, by rw [hlen]; omega, fun y hy => ?_⟩
    · rw [Rows', hlen]
      refine ⟨by rw [flat_len hf, hlen], some a, cap, rfl, hl, fun h => (by cases h), fun h0 => ⟨a, rfl, ?_, fun j u hu => ?_⟩⟩
      · have h1 := (hg 0 h0).1 0 hn
        rw [Nat.zero_mul, Nat.zero_add, add_zero', List.getElem?_eq_getElem (by rw [hf]; exact hn)] at h1
        exact World.block_lt_of_cell? w a h1
      · have hj : j < len * n := by
          have := (List.getElem?_eq_some_iff.1 hu).1
          rw [flat_len hf, hlen] at this
          exact this
        have hk : j / n < len := Nat.div_lt_of_lt_mul (by rw [Nat.mul_comm]; exact hj)
        have hr : j % n < n := Nat.mod_lt _ hn
        have e1 : j / n * n + j % n = j := by rw [Nat.mul_comm]; exact Nat.div_add_mod j n
        have h1 := flat_at hf ((List.range len).map g) (j / n) (by rw [hlen]; exact hk) (j % n) hr
        rw [e1, hu] at h1
        have h2 := (hg (j / n) hk).1 (j % n) hr
        rw [e1] at h2
        rw [h2, h1]
        simp
    · obtain ⟨k, hk, rfl⟩ := List.mem_map.1 hy
      exact (hg k (List.mem_range.1 hk)).2
/-- Such a slice among the arguments. -/
theorem arg_rows [Inhabited α] (hf : ∀ x, (f x).length = n) (hn : 0 < n) {t e : TypeId} (Q : α → Prop) (ce : P.cellsOf e = n) (ht : P.underlying t = some (.slice e))
    (hel : ∀ (fuel : Nat) (cs : List Value) (x : DataW H × List MemPlace), DataW.trod enc P w base (fun _ => true) true fuel e cs = some x → ∃ y : α, cs = f y ∧ Q y)
    {v : Value} {d : DataW H} {ps : List MemPlace} (hval : Value.okWide P w r b0 t v) (h : DataW.Trod enc P w base (fun _ => true) true t v d ps) : ∃ l : List α, Rows' n f w v l ∧ l.length ≤ maxLen ∧ ∀ y ∈ l, Q y := by
  obtain ⟨a0, len0, cap0, rfl⟩ := okWide_slice ht hval
  obtain ⟨fuel, hf'⟩ := h
  obtain ⟨A, m, c, hcs, l, h1, h2, h3⟩ := cells_rows hf hn Q ce ht hel hf'
  simp [Value.cells] at hcs
  obtain ⟨rfl, rfl, rfl⟩ := hcs
  exact ⟨l, h1, h2, h3⟩
end

/-! Items: a key and a value. -/
def itC (y : Int × Int) : List Value := [.int .i64 y.1, .int .i64 y.2]
theorem itC_len (y : Int × Int) : (itC y).length = 2 := rfl
theorem one_its (y : Int × Int) : ∀ u ∈ itC y, u.oneCell' = true := by
  intro u hu
  simp only [itC, List.mem_cons, List.not_mem_nil, or_false] at hu
  rcases hu with rfl | rfl
  all_goals rfl
/-- The slice value v reads as the items l. -/
def Its (w : World) (v : Value) (l : List (Int × Int)) : Prop := Rows' 2 itC w v l
theorem Its.below {w w' : World} {v : Value} {l : List (Int × Int)} (h : Its w v l) (hb : Below w.heap.size w w') : Its w' v l := Rows'.below h hb
theorem Its.nil (w : World) (A : Option Addr) : Its w (.slice A 0 0) [] := Rows'.nil w A
theorem Its.none_ {w : World} {v : Value} {l : List (Int × Int)} (h : Its w v l) (hl : l = []) : ∃ A c, v = .slice A 0 c := Rows'.none_ h hl
theorem add_more (ad : Addr) (m j : Nat) (hj : 0 < j) : (⟨(ad.add m).block, (ad.add m).off + j, none⟩ : Addr) = ad.add (m + j) := by
  unfold Addr.add
  by_cases hm : m = 0
  · subst hm
    simp [show ¬ j = 0 by omega]
  · simp [hm]
    omega
/-- Element k of a slice is the item y, as the walk spells its cells' places. -/
structure ItIn (w : World) (ad : Addr) (k : Nat) (y : Int × Int) : Prop where
  c0 : w.cell? (ad.add (k * 2)) = some (.int .i64 y.1)
  c1 : w.cell? ⟨(ad.add (k * 2)).block, (ad.add (k * 2)).off + 1, none⟩ = some (.int .i64 y.2)
theorem ItIn.below {w w' : World} {ad : Addr} {k : Nat} {y : Int × Int} (h : ItIn w ad k y) (hlt : ad.block < w.heap.size) (hb : Below w.heap.size w w') : ItIn w' ad k y := by
  have e : ad.block = (ad.add (k * 2)).block := (add_block ad _).symm
  refine ⟨(hb.cell ?_).trans h.c0, (hb.cell ?_).trans h.c1⟩
  all_goals exact e ▸ hlt
theorem Its.spelled {w : World} {v : Value} {l : List (Int × Int)} (h : Its w v l) : ∃ A c, v = .slice A l.length c ∧ ∀ (k : Nat) (hk : k < l.length), ∃ ad : Addr, A = some ad ∧ ad.block < w.heap.size ∧ ItIn w ad k l[k] := by
  obtain ⟨A, c, hv, hh⟩ := Rows'.form itC_len h
  refine ⟨A, c, hv, fun k hk => ?_⟩
  obtain ⟨ad, e, hb, hc⟩ := hh k hk
  refine ⟨ad, e, hb, hc 0 _ rfl, ?_⟩
  rw [add_more ad _ 1 (by omega)]
  exact hc 1 _ rfl
/-- A face (two rows of items), a place and an error: what a call hands back lies in memory of its own; what was there stays. -/
def RetFace (w : World) (r : (List (Int × Int) × List (Int × Int)) × Int × Int) (e : Ending) (w' : World) : Prop := ∃ u v, e = .returned (.tuple #[.agg #[u, v], .int .i64 r.2.1, .int .i64 r.2.2]) ∧ Its w' u r.1.1 ∧ Its w' v r.1.2 ∧ Below w.heap.size w w'
end Go.Proofs.YtfjamdpgbbnmcaaGreatDoor
/-
  Plain facts on what a transaction knows of a key, op by op (no Go in it): the first value read ahead of any write, the last one written; what an op's error is by these, and what they are behind it.
  Conditions: none beyond those that each theorem states.
-/
set_option maxRecDepth 4000
namespace Go.Proofs.YtfjamdpgbbnmcaaGreatDoor.In
open Ev (right hasKey)

/-- The first value read of a key, where its first op is a read. -/
def fr (p : List Ev.Event) (k : Nat) : Option Int := (rd p k).map (·.2)
theorem rd_fr (p : List Ev.Event) (k : Nat) : rd p k = (fr p k).map fun v => ((k : Int), v) := by
  unfold fr
  cases h : rd p k with
  | none => rfl
  | some y =>
    have := rd_key p k y h
    obtain ⟨a, b⟩ := y
    dsimp only at this
    subst this
    rfl
theorem future_take (e : Ev.Event) (r : List Ev.Event) (m : Nat) (h : future e (r.take m) = true) : future e r = true := by
  rw [future, List.any_eq_true] at h ⊢
  obtain ⟨x, hx, h⟩ := h
  exact ⟨x, List.mem_of_mem_take hx, h⟩
theorem wrong_take (p r : List Ev.Event) (e : Ev.Event) (m : Nat) (h : wrong p e r = 0) : wrong p e (r.take m) = 0 := by
  unfold wrong at h ⊢
  split
  · rename_i h1
    rw [if_pos h1] at h
    exact h
  · rename_i h1
    rw [if_neg h1] at h
    split
    · rfl
    · rename_i h2
      rw [if_neg h2] at h
      cases h3 : lastOf 2 e.key p with
      | some v => rw [h3] at h; exact h
      | none =>
        rw [h3] at h
        cases h4 : lastOf 1 e.key p with
        | some v => rw [h4] at h; exact h
        | none =>
          rw [h4] at h
          dsimp only at h ⊢
          cases h5 : future e (r.take m) with
          | false => rfl
          | true => rw [future_take e r m h5, if_pos rfl] at h; cases h
/-- What is right so far is right by itself. -/
theorem good_take (l : List Ev.Event) (n : Nat) (hn : n ≤ l.length) (h : ∀ i, i < n → errAt l i = 0) : good (l.take n) := good_of_all _ fun i hi => by
  have hi2 : i < n := by rw [List.length_take] at hi; omega
  have h1 := h i hi2
  rw [errAt_at l i (by omega)] at h1
  rw [errAt_at _ i hi, List.take_take, Nat.min_eq_left (by omega), List.getElem_take, List.drop_take]
  exact wrong_take _ _ _ _ h1

theorem fr_snoc_other (p : List Ev.Event) (x : Ev.Event) (k : Nat) (h : x.key ≠ (k : Int) ∨ ∃ e ∈ p, e.key = (k : Int)) : fr (p ++ [x]) k = fr p k := by rw [fr, fr, rd_snoc_other p x k h]
theorem last_snoc_other (p : List Ev.Event) (x : Ev.Event) (k : Nat) (h : x.key ≠ (k : Int)) : lastOf 2 (k : Int) (p ++ [x]) = lastOf 2 (k : Int) p := by
  rw [lastOf_snoc, if_neg (by rw [isK_iff]; exact fun e => h e.2)]
/-- Behind a write. -/
theorem fr_write (p : List Ev.Event) (x : Ev.Event) (hx : x.kind = 2) (k : Nat) : fr (p ++ [x]) k = fr p k := by
  by_cases h : x.key ≠ (k : Int) ∨ ∃ e ∈ p, e.key = (k : Int)
  · exact fr_snoc_other p x k h
  · have hk : x.key = (k : Int) := Classical.byContradiction fun e => h (.inl e)
    have hf : (p.find? fun e => decide (e.key = (k : Int))) = none := by
      rw [List.find?_eq_none]
      intro e he
      simpa using fun h' => h (.inr ⟨e, he, h'⟩)
    rw [fr, fr, rd, rd, find_snoc, hf, if_pos hk]
    simp [hx]
theorem last_write (p : List Ev.Event) (x : Ev.Event) (hx : x.kind = 2) (k : Nat) (hk : x.key = (k : Int)) : lastOf 2 (k : Int) (p ++ [x]) = some x.value := by
  rw [lastOf_snoc, if_pos ((isK_iff _ _ _).2 ⟨hx, hk⟩)]
theorem last_read (p : List Ev.Event) (x : Ev.Event) (hx : x.kind = 1) (k : Nat) : lastOf 2 (k : Int) (p ++ [x]) = lastOf 2 (k : Int) p := by
  rw [lastOf_snoc, if_neg (by rw [isK_iff]; omega)]

/-- What a read of a key comes to, by what is known of it. -/
def readErr (key : Int) (r v : Option Int) (x : Int) (l : List Ev.Event) : Int :=
  match v with
  | some u => if x = u then 0 else 10
  | none => match r with
    | some u => if x = u then 0 else 11
    | none => if (l.any fun e => isK 2 key e && decide (e.value = x)) = true then 9 else 0
def readNew (key : Int) (r v : Option Int) (x : Int) (l : List Ev.Event) : Option Int :=
  match v with
  | some _ => r
  | none => match r with
    | some u => some u
    | none => if (l.any fun e => isK 2 key e && decide (e.value = x)) = true then none else some x
theorem if_swap (a b c d : Int) : (if a = b then c else d) = if b = a then c else d := by
  by_cases h : a = b
  · rw [if_pos h, if_pos h.symm]
  · rw [if_neg h, if_neg (fun e => h e.symm)]
/-- A read, those ahead being right: its error, and what is known behind it. -/
theorem step_read {p : List Ev.Event} (hg : good p) (x : Ev.Event) (r : List Ev.Event) (hr : right x = true) (hx : x.kind = 1) (k : Nat) (hk : x.key = (k : Int)) :
    wrong p x r = readErr (k : Int) (fr p k) (lastOf 2 (k : Int) p) x.value r ∧ (wrong p x r = 0 → fr (p ++ [x]) k = readNew (k : Int) (fr p k) (lastOf 2 (k : Int) p) x.value r) := by
  have hw := wrong_read p r x hr hx
  have hw0 := wrong_read p [] x hr hx
  rcases more_cases hg x hr hx k hk with ⟨u, h1, h2, e, he, hek⟩ | ⟨h1, v, h2, h3, e, he, hek⟩ | ⟨h1, h2, h3, h4⟩
  · rw [h1] at hw
    rw [← hk, h1]
    refine ⟨?_, fun _ => ?_⟩
    · rw [hw, readErr, if_swap]
    · rw [readNew]
      exact fr_snoc_other p x k (.inr ⟨e, he, by rw [← hk]; exact hek⟩)
  · have hfr : fr p k = some v := by rw [fr, h2]; rfl
    have h5 : lastOf 1 x.key p ≠ none := fun h' => by
      rcases kind_mem hg e he with hk1 | hk1
      · have := (lastOf_none _ _ _).1 h' e he
        rw [(isK_iff 1 x.key e).2 ⟨hk1, hek⟩] at this
        cases this
      · have := (lastOf_none _ _ _).1 h1 e he
        rw [(isK_iff 2 x.key e).2 ⟨hk1, hek⟩] at this
        cases this
    have h6 : wrong p x r = wrong p x [] := by
      rw [hw, hw0, h1]
      cases h7 : lastOf 1 x.key p with
      | none => exact absurd h7 h5
      | some y => rfl
    rw [← hk, h1, hfr]
    refine ⟨?_, fun _ => ?_⟩
    · rw [h6, h3, readErr, if_swap]
    · rw [readNew, ← hfr]
      exact fr_snoc_other p x k (.inr ⟨e, he, by rw [← hk]; exact hek⟩)
  · have hfr : fr p k = none := by rw [fr, h2]; rfl
    have h5 : lastOf 1 x.key p = none := (lastOf_none _ _ _).2 fun e he => by
      cases h6 : isK 1 x.key e with
      | false => rfl
      | true => exact absurd ((isK_iff _ _ _).1 h6).2 (h4 e he)
    rw [h1, h5] at hw
    dsimp only at hw
    rw [← hk, h1, hfr]
    refine ⟨?_, fun h0 => ?_⟩
    · rw [hw]; rfl
    · have hno : future x r = false := by
        cases h6 : future x r with
        | false => rfl
        | true => rw [hw, h6, if_pos rfl] at h0; cases h0
      have : readNew x.key none none x.value r = some x.value := by
        have h7 : (r.any fun e => isK 2 x.key e && decide (e.value = x.value)) = false := hno
        rw [readNew]
        simp only [h7, Bool.false_eq_true, if_false]
      rw [this]
      have hf : (p.find? fun e => decide (e.key = (k : Int))) = none := by
        rw [List.find?_eq_none]
        intro e he
        have := h4 e he
        rw [hk] at this
        simpa using this
      rw [fr, rd, find_snoc, hf, if_pos hk]
      simp [hx]
/-- By the row, op by op. -/
theorem look_arg (l : List Ev.Event) (k : Nat) (hk : k < l.length) (h0 : ∀ j, j < k → errAt l j = 0) (h : (right l[k] && hasKey l[k].kind) = false) : lookR l = (([], []), (k : Int), 1) := by
  have h1 : errAt l k = 1 := by
    rw [errAt_at l k hk, wrong, if_pos]
    rw [Bool.and_eq_false_iff] at h
    exact h
  rw [look_bad l k h0 (by rw [h1]; decide), h1]
theorem next_ok (l : List Ev.Event) (k : Nat) (h0 : ∀ j, j < k → errAt l j = 0) (h : errAt l k = 0) : ∀ j, j < k + 1 → errAt l j = 0 := fun j hj => by
  rcases Nat.lt_or_ge j k with h' | h'
  · exact h0 j h'
  · obtain rfl : j = k := by omega
    exact h
theorem key_small (x : Ev.Event) (h : (right x && hasKey x.kind) = true) : ∃ n : Nat, n < 16 ∧ x.key = (n : Int) := by
  rw [Bool.and_eq_true] at h
  obtain ⟨_, _, _, _, h5⟩ := (Ev.right_iff x).1 h.1
  rw [if_pos h.2] at h5
  exact ⟨x.key.toNat, by omega, by omega⟩
theorem at_write (l : List Ev.Event) (k : Nat) (hk : k < l.length) (h : (right l[k] && hasKey l[k].kind) = true) (h2 : l[k].kind = 2) : errAt l k = 0 := by
  rw [Bool.and_eq_true] at h
  rw [errAt_at l k hk]
  exact wrong_write _ _ _ h.1 h2
theorem at_read (l : List Ev.Event) (k : Nat) (hk : k < l.length) (h0 : ∀ j, j < k → errAt l j = 0) (h : (right l[k] && hasKey l[k].kind) = true) (h2 : ¬ l[k].kind = 2) (n : Nat) (hn : l[k].key = (n : Int)) :
    errAt l k = readErr (n : Int) (fr (l.take k) n) (lastOf 2 (n : Int) (l.take k)) l[k].value (l.drop (k + 1)) ∧ (errAt l k = 0 → fr (l.take k ++ [l[k]]) n = readNew (n : Int) (fr (l.take k) n) (lastOf 2 (n : Int) (l.take k)) l[k].value (l.drop (k + 1))) ∧ l[k].kind = 1 := by
  rw [Bool.and_eq_true] at h
  have h1 : l[k].kind = 1 := ((Ev.hasKey_iff _).1 h.2).resolve_right h2
  rw [errAt_at l k hk]
  obtain ⟨a, b⟩ := step_read (good_take l k (Nat.le_of_lt hk) h0) l[k] (l.drop (k + 1)) h.1 h1 n hn
  exact ⟨a, b, h1⟩
theorem all_ok (l : List Ev.Event) (k : Nat) (hk : l.length ≤ k) (h0 : ∀ j, j < k → errAt l j = 0) : lookR l = (faceR l, 0, 0) := look_ok l (good_of_all l fun i hi => h0 i (by omega))
theorem rd_told (p : List Ev.Event) (k : Nat) : (rd p k).toList = ((fr p k).map fun x => ((k : Int), x)).toList := by rw [rd_fr]
theorem wr_told (p : List Ev.Event) (k : Nat) : (wr p k).toList = ((lastOf 2 (k : Int) p).map fun x => ((k : Int), x)).toList := rfl
theorem fr_nil (k : Nat) : fr [] k = none := rfl
theorem last_nil (k : Nat) : lastOf 2 (k : Int) [] = none := rfl
end Go.Proofs.YtfjamdpgbbnmcaaGreatDoor.In
/-
  Words for what inner.Look keeps in memory: what is known of a key (five variables that three closures share), the row of sixteen of these, and the face that is filled.
  Conditions: none beyond those that each theorem states.
-/
set_option maxRecDepth 4000
namespace Go.Proofs.YtfjamdpgbbnmcaaGreatDoor
open Go.RowKit

/-- Of what was there only blocks from a on, below b, may have turned. -/
structure Save (a b : Nat) (w w' : World) : Prop where
  os : w'.os = w.os
  tape : w'.tape = w.tape
  output : w'.output = w.output
  size : w.heap.size ≤ w'.heap.size
  block : ∀ k, k < w.heap.size → ¬ (a ≤ k ∧ k < b) → w'.heap[k]? = w.heap[k]?
theorem Save.refl (a b : Nat) (w : World) : Save a b w w := ⟨rfl, rfl, rfl, Nat.le_refl _, fun _ _ _ => rfl⟩
theorem Save.trans {a b : Nat} {w w1 w2 : World} (h : Save a b w w1) (k : Save a b w1 w2) : Save a b w w2 :=
  ⟨k.os.trans h.os, k.tape.trans h.tape, k.output.trans h.output, Nat.le_trans h.size k.size, fun i hi hn => (k.block i (Nat.lt_of_lt_of_le hi h.size) hn).trans (h.block i hi hn)⟩
theorem Save.of_below {a b : Nat} {w w' : World} (h : Below w.heap.size w w') : Save a b w w' := ⟨h.os, h.tape, h.output, h.size, fun k hk _ => h.block k hk⟩
theorem Save.setCell {a b : Nat} {w w1 : World} (h : Save a b w w1) {p : Addr} (hp : a ≤ p.block ∧ p.block < b) (u : Value) : Save a b w (w1.setCell p u) :=
  h.trans ⟨rfl, rfl, rfl, by simp [World.setCell], fun k hk hn => Below.heap_setCell _ _ _ _ (by intro e; subst e; exact hn hp)⟩
theorem Save.below {a b B : Nat} {w w' : World} (h : Save a b w w') (hB : B ≤ a) (hs : B ≤ w.heap.size) : Below B w w' := ⟨h.os, h.tape, h.output, h.size, fun k hk => h.block k (by omega) (by omega)⟩

/-- The memory of a key: the key, the result variable of its making, whether it is read, whether it is written, the first value read, the last one written: blocks b to b + 5. -/
structure MemAt (w : World) (b : Nat) (key : Int) (r v : Option Int) : Prop where
  key : w.heap[b]? = some (.cells #[.int .i64 key] 3 (0, 0))
  isRead : w.heap[b + 2]? = some (.cells #[.bool r.isSome] 4 (0, 0))
  isWritten : w.heap[b + 3]? = some (.cells #[.bool v.isSome] 4 (0, 0))
  firstRead : w.heap[b + 4]? = some (.cells #[.int .i64 (r.getD 0)] 3 (0, 0))
  lastWritten : w.heap[b + 5]? = some (.cells #[.int .i64 (v.getD 0)] 3 (0, 0))
theorem MemAt.lt {w : World} {b : Nat} {key : Int} {r v : Option Int} (h : MemAt w b key r v) : b + 5 < w.heap.size := lt_of_block h.lastWritten
theorem MemAt.keep {w w' : World} {b : Nat} {key : Int} {r v : Option Int} (h : MemAt w b key r v) (hk : ∀ j, j < 6 → w'.heap[b + j]? = w.heap[b + j]?) : MemAt w' b key r v :=
  ⟨(hk 0 (by omega)).trans h.key, (hk 2 (by omega)).trans h.isRead, (hk 3 (by omega)).trans h.isWritten, (hk 4 (by omega)).trans h.firstRead, (hk 5 (by omega)).trans h.lastWritten⟩
theorem MemAt.below {w w' : World} {b B : Nat} {key : Int} {r v : Option Int} (h : MemAt w b key r v) (hb : Below B w w') (hB : b + 6 ≤ B) : MemAt w' b key r v := h.keep fun j hj => hb.block _ (by omega)
theorem MemAt.save {w w' : World} {b c : Nat} {key : Int} {r v : Option Int} (h : MemAt w b key r v) (hs : Save c (c + 6) w w') (hne : b + 6 ≤ c ∨ c + 6 ≤ b) : MemAt w' b key r v :=
  h.keep fun j hj => hs.block _ (by have := h.lt; omega) (by omega)
/-- It is written. -/
theorem MemAt.write {w : World} {b : Nat} {key : Int} {r v : Option Int} (h : MemAt w b key r v) (x : Int) : MemAt ((w.setCell ⟨b + 3, 0, none⟩ (.bool true)).setCell ⟨b + 5, 0, none⟩ (.int .i64 x)) b key r (some x) := by
  have far : ∀ j, j ≠ b + 3 → j ≠ b + 5 → ((w.setCell ⟨b + 3, 0, none⟩ (.bool true)).setCell ⟨b + 5, 0, none⟩ (.int .i64 x)).heap[j]? = w.heap[j]? := fun j h3 h5 => (Below.heap_setCell _ _ _ _ h5).trans (Below.heap_setCell _ _ _ _ h3)
  refine ⟨(far _ (by omega) (by omega)).trans h.key, (far _ (by omega) (by omega)).trans h.isRead, ?_, (far _ (by omega) (by omega)).trans h.firstRead, ?_⟩
  · exact (Below.heap_setCell _ _ _ _ (by show b + 3 ≠ b + 5; omega)).trans (one_setCell h.isWritten)
  · exact one_setCell ((Below.heap_setCell _ _ _ _ (by show b + 5 ≠ b + 3; omega)).trans h.lastWritten)
/-- It is read. -/
theorem MemAt.read {w : World} {b : Nat} {key : Int} {r v : Option Int} (h : MemAt w b key r v) (x : Int) : MemAt ((w.setCell ⟨b + 2, 0, none⟩ (.bool true)).setCell ⟨b + 4, 0, none⟩ (.int .i64 x)) b key (some x) v := by
  have far : ∀ j, j ≠ b + 2 → j ≠ b + 4 → ((w.setCell ⟨b + 2, 0, none⟩ (.bool true)).setCell ⟨b + 4, 0, none⟩ (.int .i64 x)).heap[j]? = w.heap[j]? := fun j h3 h5 => (Below.heap_setCell _ _ _ _ h5).trans (Below.heap_setCell _ _ _ _ h3)
  refine ⟨(far _ (by omega) (by omega)).trans h.key, ?_, (far _ (by omega) (by omega)).trans h.isWritten, ?_, (far _ (by omega) (by omega)).trans h.lastWritten⟩
  · exact (Below.heap_setCell _ _ _ _ (by show b + 2 ≠ b + 4; omega)).trans (one_setCell h.isRead)
  · exact one_setCell ((Below.heap_setCell _ _ _ _ (by show b + 4 ≠ b + 2; omega)).trans h.firstRead)

/-- The three closures of the memory at block b. -/
def readF (b : Nat) : Value := .func (.func 108) #[] #[.pointer (some ⟨b + 3, 0, none⟩), .pointer (some ⟨b + 5, 0, none⟩), .pointer (some ⟨b + 2, 0, none⟩), .pointer (some ⟨b + 4, 0, none⟩), .pointer (some ⟨b, 0, none⟩)]
def writeF (b : Nat) : Value := .func (.func 111) #[] #[.pointer (some ⟨b + 3, 0, none⟩), .pointer (some ⟨b + 5, 0, none⟩)]
def tellF (b : Nat) : Value := .func (.func 112) #[] #[.pointer (some ⟨b + 2, 0, none⟩), .pointer (some ⟨b, 0, none⟩), .pointer (some ⟨b + 4, 0, none⟩), .pointer (some ⟨b + 3, 0, none⟩), .pointer (some ⟨b + 5, 0, none⟩)]
def memC (b : Nat) : List Value := [readF b, writeF b, tellF b]
def memV (b : Nat) : Value := .agg (memC b).toArray
theorem memC_len (b : Nat) : (memC b).length = 3 := rfl
/-- The row of sixteen memories, n of them made, the first at block B. -/
def rowC (B n : Nat) : List Value := (List.range n).flatMap (fun k => memC (B + 6 * k)) ++ List.replicate (48 - 3 * n) .nilFunc
theorem rowC_len (B n : Nat) (hn : n ≤ 16) : (rowC B n).length = 48 := by
  rw [rowC, List.length_append, List.length_replicate, flat_len (n := 3) (fun k => rfl), List.length_range]
  omega
theorem rowC_zero (B : Nat) : rowC B 0 = List.replicate 48 .nilFunc := rfl
theorem rowC_succ (B n : Nat) (hn : n < 16) : (((rowC B n).set (n * 3) (readF (B + 6 * n))).set (n * 3 + 1) (writeF (B + 6 * n))).set (n * 3 + 2) (tellF (B + 6 * n)) = rowC B (n + 1) := by
  have hl : ((List.range n).flatMap (fun k => memC (B + 6 * k))).length = n * 3 := by rw [flat_len (n := 3) (fun k => rfl), List.length_range]
  have hr : List.replicate (48 - 3 * n) Value.nilFunc = .nilFunc :: .nilFunc :: .nilFunc :: List.replicate (48 - 3 * (n + 1)) .nilFunc := by
    rw [show 48 - 3 * n = 48 - 3 * (n + 1) + 1 + 1 + 1 by omega]
    rfl
  unfold rowC
  rw [hr, List.range_succ, List.flatMap_append]
  generalize (List.range n).flatMap (fun k => memC (B + 6 * k)) = L at hl ⊢
  rw [List.set_append_right _ _ (by omega), List.set_append_right _ _ (by omega), List.set_append_right _ _ (by omega), hl, Nat.sub_self, show n * 3 + 1 - n * 3 = 1 by omega, show n * 3 + 2 - n * 3 = 2 by omega, List.append_assoc]
  rfl
theorem rowC_at (B n k j : Nat) (hk : k < n) (hj : j < 3) : (rowC B n)[k * 3 + j]? = (memC (B + 6 * k))[j]? := by
  have h := flat_at (n := 3) (f := fun k => memC (B + 6 * k)) (fun k => rfl) (List.range n) k (by simpa using hk) j hj
  rw [rowC, List.getElem?_append_left, h, List.getElem_range]
  rw [flat_len (n := 3) (fun k => rfl), List.length_range]
  omega
theorem rowC_free (B n j : Nat) (hj : n * 3 ≤ j) (h48 : j < 48) (hn : n ≤ 16) : (rowC B n)[j]? = some .nilFunc := by
  have hl : ((List.range n).flatMap (fun k => memC (B + 6 * k))).length = n * 3 := by rw [flat_len (n := 3) (fun k => rfl), List.length_range]
  rw [rowC, List.getElem?_append_right (by omega), List.getElem?_replicate, if_pos (by omega)]
/-- Block b holds the row. -/
def RowAt (w : World) (b B n : Nat) : Prop := w.heap[b]? = some (.cells (rowC B n).toArray 156 (0, 0))
theorem RowAt.lt {w : World} {b B n : Nat} (h : RowAt w b B n) : b < w.heap.size := lt_of_block h
theorem RowAt.cell {w : World} {b B n : Nat} (h : RowAt w b B n) (j : Nat) : w.cell? ⟨b, j, none⟩ = (rowC B n)[j]? := by
  rw [cell_of_row _ _ _ _ _ (0, 0) h, List.getElem?_toArray]
theorem RowAt.free {w : World} {b B n : Nat} (h : RowAt w b B n) (j : Nat) : w.frozen? ⟨b, j, none⟩ = false := by
  rw [RowAt] at h
  simp [World.frozen?, h]
theorem RowAt.mem {w : World} {b B n : Nat} (h : RowAt w b B n) (k : Nat) (hk : k < n) (j : Nat) (hj : j < 3) : w.cell? ⟨b, k * 3 + j, none⟩ = (memC (B + 6 * k))[j]? := by
  rw [h.cell, rowC_at B n k j hk hj]

/-- The variable at block F is a face that is being filled: two rows of the call's own, above F. -/
structure FaceAt (tf te : TypeId) (w : World) (F : Nat) (rs ws : List (Int × Int)) (u v : Value) : Prop where
  cell : w.heap[F]? = some (.cells #[u, v] tf (0, 0))
  reads : w.ownsRow (F + 1) te 2 u rs.length (rs.flatMap itC)
  writes : w.ownsRow (F + 1) te 2 v ws.length (ws.flatMap itC)
  apart : ∀ g, u.ownBlock = some g → v.ownBlock ≠ some g
theorem two_set {w : World} {F : Nat} {u v : Value} {t : TypeId} (h : w.heap[F]? = some (.cells #[u, v] t (0, 0))) (x : Value) : (w.setCell ⟨F, 0, none⟩ x).heap[F]? = some (.cells #[x, v] t (0, 0)) ∧ (w.setCell ⟨F, 1, none⟩ x).heap[F]? = some (.cells #[u, x] t (0, 0)) := by
  simp [World.setCell, Array.getElem?_modify, h]
theorem two_cells {w : World} {F : Nat} {u v : Value} {t : TypeId} (h : w.heap[F]? = some (.cells #[u, v] t (0, 0))) : w.cell? ⟨F, 0, none⟩ = some u ∧ w.cell? ⟨F, 1, none⟩ = some v ∧ ∀ k, w.frozen? ⟨F, k, none⟩ = false := by
  refine ⟨?_, ?_, fun k => ?_⟩
  · simp [World.cell?, h]
  · simp [World.cell?, h]
  · simp [World.frozen?, h]
section
variable {tf te : TypeId} {w : World} {F : Nat} {rs ws : List (Int × Int)} {u v : Value}
theorem FaceAt.lt (h : FaceAt tf te w F rs ws u v) : F < w.heap.size := lt_of_block h.cell
theorem FaceAt.below {w' : World} (h : FaceAt tf te w F rs ws u v) (hb : Below w.heap.size w w') : FaceAt tf te w' F rs ws u v :=
  ⟨(hb.block F h.lt).trans h.cell, own_below h.reads hb, own_below h.writes hb, h.apart⟩
theorem own_above {w : World} {base size n : Nat} {e : TypeId} {v : Value} {xs : List Value} (h : w.ownsRow (base + 1) e size v n xs) : v.ownBlock ≠ some base := fun e => by
  have := (h.lt base e).1
  omega
theorem own_kept {w w' : World} {base size n : Nat} {e : TypeId} {u v : Value} {xs : List Value} (h : w.ownsRow base e size v n xs) (hg : w.grownBy w' u.ownBlock) (ha : ∀ g, u.ownBlock = some g → v.ownBlock ≠ some g) : w'.ownsRow base e size v n xs := by
  refine h.kept hg ?_
  cases hv : v.ownBlock with
  | none => exact .inl rfl
  | some g => exact .inr fun e => ha g e.symm hv
/-- One read more. -/
theorem FaceAt.addRead {w2 : World} (h : FaceAt tf te w F rs ws u v) (y : Int × Int) {g cap : Nat} (hown : w2.ownsRow (F + 1) te 2 (.slice (some ⟨g, 0, none⟩) (rs.length + 1) cap) (rs.length + 1) (rs.flatMap itC ++ itC y)) (hg : w.grownBy w2 u.ownBlock) (hat : u.ownBlock = some g ∨ g = w.heap.size) :
    FaceAt tf te (w2.setCell ⟨F, 0, none⟩ (.slice (some ⟨g, 0, none⟩) (rs.length + 1) cap)) F (rs ++ [y]) ws (.slice (some ⟨g, 0, none⟩) (rs.length + 1) cap) v ∧ Below F w (w2.setCell ⟨F, 0, none⟩ (.slice (some ⟨g, 0, none⟩) (rs.length + 1) cap)) := by
  have hc : w2.heap[F]? = some (.cells #[u, v] tf (0, 0)) := (hg.block F h.lt (fun e => own_above h.reads e.symm)).trans h.cell
  refine ⟨⟨(two_set hc _).1, Rows'.own_snoc (ownsRow_setCell_below hown (by show F < F + 1; omega) _), ownsRow_setCell_below (own_kept h.writes hg h.apart) (by show F < F + 1; omega) _, fun k hk hv => ?_⟩, ?_⟩
  · obtain rfl : g = k := by simpa [Value.ownBlock] using hk
    rcases hat with e | e
    · exact h.apart g e hv
    · have := (h.writes.lt g hv).2
      omega
  · exact (Below.grown (Below.refl F w) hg (Nat.le_of_lt h.lt) fun k e => by have := (h.reads.lt k e).1; omega).setCell (Nat.le_refl F) _
/-- One write more. -/
theorem FaceAt.addWrite {w2 : World} (h : FaceAt tf te w F rs ws u v) (y : Int × Int) {g cap : Nat} (hown : w2.ownsRow (F + 1) te 2 (.slice (some ⟨g, 0, none⟩) (ws.length + 1) cap) (ws.length + 1) (ws.flatMap itC ++ itC y)) (hg : w.grownBy w2 v.ownBlock) (hat : v.ownBlock = some g ∨ g = w.heap.size) :
    FaceAt tf te (w2.setCell ⟨F, 1, none⟩ (.slice (some ⟨g, 0, none⟩) (ws.length + 1) cap)) F rs (ws ++ [y]) u (.slice (some ⟨g, 0, none⟩) (ws.length + 1) cap) ∧ Below F w (w2.setCell ⟨F, 1, none⟩ (.slice (some ⟨g, 0, none⟩) (ws.length + 1) cap)) := by
  have hc : w2.heap[F]? = some (.cells #[u, v] tf (0, 0)) := (hg.block F h.lt (fun e => own_above h.writes e.symm)).trans h.cell
  refine ⟨⟨(two_set hc _).2, ownsRow_setCell_below (own_kept h.reads hg (fun k hk hu => h.apart k hu hk)) (by show F < F + 1; omega) _, Rows'.own_snoc (ownsRow_setCell_below hown (by show F < F + 1; omega) _), fun k hk hv => ?_⟩, ?_⟩
  · obtain rfl : g = k := by simpa [Value.ownBlock] using hv
    rcases hat with e | e
    · exact h.apart g hk e
    · have := (h.reads.lt g hk).2
      omega
  · exact (Below.grown (Below.refl F w) hg (Nat.le_of_lt h.lt) fun k e => by have := (h.writes.lt k e).1; omega).setCell (Nat.le_refl F) _
end
end Go.Proofs.YtfjamdpgbbnmcaaGreatDoor
/-
  What inner's small functions answer: errorUnless, isOp, isWrittenIn, newMemory, and the closures that read and write what a key's memory holds.
  Conditions: a row has at most 2^32 elements.
-/
set_option maxRecDepth 4000
namespace Go.Proofs.YtfjamdpgbbnmcaaGreatDoor
open Go.RowKit

def unlessR (b : Bool) (q : Int) : Int := if b = true then 0 else q
theorem errorUnless_at (b : Bool) (q : Int) (w : World) : Calls Tryz.prog 109 #[.bool b, .int .i64 q] w fun e w' => e = .returned (.int .i64 (unlessR b q)) ∧ w = w' := by
  cases b with
  | true =>
    go_enter Tryz.func109, Tryz.ntmps109
    go_wp2
    go_ret
    exact ⟨rfl, rfl⟩
  | false =>
    go_enter Tryz.func109, Tryz.ntmps109
    go_wp2
    go_ret
    exact ⟨rfl, rfl⟩

def isOpB (x : Ev.Event) : Bool := Ev.right x && Ev.hasKey x.kind
theorem isOp_at (x : Ev.Event) (w : World) : Calls Tryz.prog 97 #[evV x] w (RetBool w (isOpB x)) := by
  have key : Hid (Ev.right x = false ∧ isOpB x = false) ∨ Hid (Ev.right x = true) ∧ ((x.kind == 1) = true ∧ Hid (isOpB x = true) ∨ (x.kind == 1) = false ∧ ((x.kind == 2) = true ∧ Hid (isOpB x = true) ∨ (x.kind == 2) = false ∧ Hid (isOpB x = false))) := by
    unfold Hid isOpB
    cases hr : Ev.right x with
    | false => exact .inl ⟨rfl, rfl⟩
    | true =>
      refine .inr ⟨rfl, ?_⟩
      rw [Bool.true_and]
      by_cases h1 : x.kind = 1
      · exact .inl ⟨beq_iff_eq.2 h1, (Ev.hasKey_iff _).2 (.inl h1)⟩
      · by_cases h2 : x.kind = 2
        · exact .inr ⟨beq_eq_false_iff_ne.2 h1, .inl ⟨beq_iff_eq.2 h2, (Ev.hasKey_iff _).2 (.inr h2)⟩⟩
        · refine .inr ⟨beq_eq_false_iff_ne.2 h1, .inr ⟨beq_eq_false_iff_ne.2 h2, ?_⟩⟩
          cases hk : Ev.hasKey x.kind with
          | false => rfl
          | true => rcases (Ev.hasKey_iff _).1 hk with h | h
                    · exact absurd h h1
                    · exact absurd h h2
  have HC := Lib.hid (evRight_at x)
  obtain ⟨a, b, c, d⟩ := x
  unfold evV at HC ⊢
  dsimp only at HC key ⊢
  rcases key with hr | ⟨hr, ⟨k1, hv⟩ | ⟨k1, ⟨k2, hv⟩ | ⟨k2, hv⟩⟩⟩
  · go_enter Tryz.func97, Tryz.ntmps97
    go_wp2_with fail
    refine (HC.out _).mono ?_
    rintro e w1 ⟨rfl, hb⟩
    rw [hr.out.1]
    have HB := Lib.hid (below_new hb)
    clear hb
    go_wp2_with fail
    go_ret
    exact ⟨ret_bool (by rw [hr.out.2]), HB.out⟩
  all_goals
    go_enter Tryz.func97, Tryz.ntmps97
    go_wp2_with fail
    refine (HC.out _).mono ?_
    rintro e w1 ⟨rfl, hb⟩
    rw [hr.out]
    have HB := Lib.hid (below_new hb)
    have c0 : w1.cell? ⟨w.heap.size, 0, none⟩ = some (.int .i64 a) := (hb.cell (by simp)).trans (new_cell w _ _ 0 _ rfl)
    clear hb
    go_wp2_with fail
    go_ret
    exact ⟨ret_bool (by rw [hv.out]), HB.out⟩

def wIn (key value : Int) (l : List Ev.Event) : Bool := l.any fun x => In.isK 2 key x && decide (x.value = value)
theorem wIn_take (key value : Int) (l : List Ev.Event) (k : Nat) (hk : k < l.length) : wIn key value (l.take (k + 1)) = (wIn key value (l.take k) || (In.isK 2 key l[k] && decide (l[k].value = value))) := by
  rw [List.take_succ_eq_append_getElem hk, wIn, List.any_append]
  simp [wIn]
theorem wIn_yes (key value : Int) (l : List Ev.Event) (k : Nat) (hk : k < l.length) (h : (In.isK 2 key l[k] && decide (l[k].value = value)) = true) : wIn key value l = true := by
  rw [wIn, List.any_eq_true]
  exact ⟨l[k], List.getElem_mem hk, h⟩
theorem isWrittenIn_at (l : List Ev.Event) (v : Value) (key value : Int) (w : World) (hv : Evs w v l) (hl : l.length ≤ 4294967296) : Calls Tryz.prog 110 #[v, .int .i64 key, .int .i64 value] w (RetBool w (wIn key value l)) := by
  obtain ⟨A, c, rfl, hform⟩ := hv.spelled
  have HF := Lib.hid hform
  clear hform hv
  go_enter Tryz.func110, Tryz.ntmps110
  go_wp2
  go_loopw [11] (fun i wr => ∃ k : Nat, k ≤ l.length ∧ i = .int .i64 k ∧ Hid (wIn key value (l.take k) = false) ∧ Below w.heap.size w wr) (fun i _ => l.length - (intOf i).toNat)
  case atStart => exact ⟨0, Nat.zero_le _, rfl, rfl, Below.refl _ _⟩
  case round =>
    obtain ⟨k, hk, rfl, hno, hb⟩ := hrel
    have HB := Lib.hid hb
    clear hb
    by_cases hlt : k < l.length
    · obtain ⟨ad, rfl, hblk, hE⟩ := HF.out k hlt
      obtain ⟨x, hx⟩ : ∃ x, x = l[k]'hlt := ⟨_, rfl⟩
      have HT := Lib.hid (wIn_take key value l k hlt)
      have HY := Lib.hid (wIn_yes key value l k hlt)
      rw [← hx] at hE HT HY
      obtain ⟨hc0, hc1, hc2, hc3⟩ := hE.below hblk HB.out
      have HA := Lib.hid (HB.out.alloc HB.out.size (.cells #[.int .i64 x.kind, .int .i64 x.session, .int .i64 x.key, .int .i64 x.value] 74))
      clear hE hx
      have kk : (x.kind == 2) = false ∧ Hid (In.isK 2 key x = false) ∨ (x.kind == 2) = true ∧ ((x.key == key) = false ∧ Hid (In.isK 2 key x = false) ∨ (x.key == key) = true ∧ Hid (In.isK 2 key x = true)) := by
        unfold Hid In.isK
        by_cases h1 : x.kind = 2
        · by_cases h2 : x.key = key
          · exact .inr ⟨beq_iff_eq.2 h1, .inr ⟨beq_iff_eq.2 h2, by simp [h1, h2]⟩⟩
          · exact .inr ⟨beq_iff_eq.2 h1, .inl ⟨beq_eq_false_iff_ne.2 h2, by simp [h2]⟩⟩
        · exact .inl ⟨beq_eq_false_iff_ne.2 h1, by simp [h1]⟩
      have kv : (x.value == value) = false ∧ Hid (decide (x.value = value) = false) ∨ (x.value == value) = true ∧ Hid (decide (x.value = value) = true) := by
        unfold Hid
        by_cases h1 : x.value = value
        · exact .inr ⟨beq_iff_eq.2 h1, by simp [h1]⟩
        · exact .inl ⟨beq_eq_false_iff_ne.2 h1, by simp [h1]⟩
      rcases kk with ⟨k1, hK⟩ | ⟨k1, ⟨k2, hK⟩ | ⟨k2, hK⟩⟩
      · go_wp2_with fail
        go_roundw
        case rel => exact ⟨k + 1, by omega, by go_num, by rw [Hid, HT.out, hno.out, hK.out]; rfl, HA.out⟩
        case measure => simp [intOf]; omega
      · go_wp2_with fail
        go_roundw
        case rel => exact ⟨k + 1, by omega, by go_num, by rw [Hid, HT.out, hno.out, hK.out]; rfl, HA.out⟩
        case measure => simp [intOf]; omega
      · rcases kv with ⟨k3, hV⟩ | ⟨k3, hV⟩
        · go_wp2_with fail
          go_roundw
          case rel => exact ⟨k + 1, by omega, by go_num, by rw [Hid, HT.out, hno.out, hK.out, hV.out]; rfl, HA.out⟩
          case measure => simp [intOf]; omega
        · go_wp2_with fail
          go_ret
          exact ⟨ret_bool (by rw [HY.out (by rw [hK.out, hV.out]; rfl)]), HA.out⟩
    · have HK : Hid (l.take k = l) := List.take_of_length_le (by omega)
      go_wp2_with fail
      go_ret
      exact ⟨ret_bool (by rw [← HK.out, hno.out]), HB.out⟩

theorem six_blocks (w : World) (o0 o1 o2 o3 o4 o5 : Obj) : (((((((w.alloc o0).alloc o1).alloc o2).alloc o3).alloc o4).alloc o5).heap.size = w.heap.size + 6) ∧ ((((((w.alloc o0).alloc o1).alloc o2).alloc o3).alloc o4).alloc o5).heap[w.heap.size]? = some o0 ∧
    ((((((w.alloc o0).alloc o1).alloc o2).alloc o3).alloc o4).alloc o5).heap[w.heap.size + 2]? = some o2 ∧ ((((((w.alloc o0).alloc o1).alloc o2).alloc o3).alloc o4).alloc o5).heap[w.heap.size + 3]? = some o3 ∧ ((((((w.alloc o0).alloc o1).alloc o2).alloc o3).alloc o4).alloc o5).heap[w.heap.size + 4]? = some o4 ∧ ((((((w.alloc o0).alloc o1).alloc o2).alloc o3).alloc o4).alloc o5).heap[w.heap.size + 5]? = some o5 := by
  have e : ((((((w.alloc o0).alloc o1).alloc o2).alloc o3).alloc o4).alloc o5).heap = (((((w.heap.push o0).push o1).push o2).push o3).push o4).push o5 := rfl
  rw [e]
  simp only [Array.getElem?_push, Array.size_push]
  refine ⟨trivial, ?_, ?_, ?_, ?_, ?_⟩
  all_goals repeat (first | rw [if_neg (by omega)] | rw [if_pos trivial] | rw [if_pos (by omega)])
theorem store_func {P : Program} (a : Addr) (fn : Fn) (x y : Array Value) (w : World) : (store a (.func fn x y)).run P w = stored P w a (.func fn x y) .plain := run_store P w a _ .plain rfl
theorem newMemory_at (key : Int) (w : World) : Calls Tryz.prog 96 #[.int .i64 key] w fun e w' => e = .returned (memV w.heap.size) ∧ MemAt w' w.heap.size key none none ∧ w'.heap.size = w.heap.size + 6 ∧ Below w.heap.size w w' := by
  have hmf : ∀ (fn : Fn) (first cap : Array Value) (w : World), (Instr.makeFunc fn first cap).run Tryz.prog w = .ok (.func fn first cap) w := fun _ _ _ _ => rfl
  have hsf := @store_func Tryz.prog
  go_enter Tryz.func96, Tryz.ntmps96
  go_wp2
  obtain ⟨h6, b0, b2, b3, b4, b5⟩ := six_blocks w (.cells #[.int .i64 key] 3) (.cells (memC w.heap.size).toArray 155) (.cells #[.bool false] 4) (.cells #[.bool false] 4) (.cells #[.int .i64 0] 3) (.cells #[.int .i64 0] 3)
  refine bodyPost_ret (v := memV w.heap.size) (by simp [results, Tryz.results96, go_sem, memV, memC, readF, writeF, tellF]) rfl ⟨rfl, ⟨b0, b2, b3, b4, b5⟩, h6, ?_⟩
  exact below_new (below_new (below_new (below_new (below_new (alloc_below _ _)))))
theorem write_at (b : Nat) (key : Int) (r v : Option Int) (x : Int) (w : World) (h : MemAt w b key r v) :
    Calls Tryz.prog 111 #[.int .i64 x, .pointer (some ⟨b + 3, 0, none⟩), .pointer (some ⟨b + 5, 0, none⟩)] w fun e w' => e = .returned (.tuple #[]) ∧ MemAt w' b key r (some x) ∧ Save b (b + 6) w w' := by
  have c3 := cell_of_one h.isWritten
  have c5 := cell_of_one h.lastWritten
  have f3 := free_of_one h.isWritten
  have f5 := free_of_one h.lastWritten
  have H := Lib.hid h
  clear h
  go_enter Tryz.func111, Tryz.ntmps111
  go_wp2
  go_end0
  exact ⟨rfl, H.out.write x, ((Save.refl b (b + 6) w).setCell (by constructor <;> simp) _).setCell (by constructor <;> simp) _⟩

theorem read_at (b : Nat) (key : Int) (r v : Option Int) (x : Int) (l : List Ev.Event) (u : Value) (w : World) (h : MemAt w b key r v) (hu : Evs w u l) (hl : l.length ≤ 4294967296) :
    Calls Tryz.prog 108 #[.int .i64 x, u, .pointer (some ⟨b + 3, 0, none⟩), .pointer (some ⟨b + 5, 0, none⟩), .pointer (some ⟨b + 2, 0, none⟩), .pointer (some ⟨b + 4, 0, none⟩), .pointer (some ⟨b, 0, none⟩)] w fun e w' => e = .returned (.int .i64 (In.readErr key r v x l)) ∧ MemAt w' b key (In.readNew key r v x l) v ∧ Save b (b + 6) w w' := by
  have c0 := cell_of_one h.key
  have c2 := cell_of_one h.isRead
  have c3 := cell_of_one h.isWritten
  have c4 := cell_of_one h.firstRead
  have c5 := cell_of_one h.lastWritten
  have H := Lib.hid h
  have HU := Lib.hid hu
  clear h hu
  cases v with
  | some y =>
    dsimp only [Option.isSome_some, Option.getD_some] at c3 c5
    by_cases hxy : x = y
    · have hq : (x == y) = true := beq_iff_eq.2 hxy
      have HX := Lib.hid hxy
      clear hxy
      go_enter Tryz.func108, Tryz.ntmps108
      go_wp2_with fail
      refine (errorUnless_at _ _ _).mono ?_
      rintro e w1 ⟨rfl, rfl⟩
      go_wp2_with fail
      go_ret
      exact ⟨ret_int (by rw [unlessR, In.readErr, if_pos rfl, if_pos HX.out]), H.out, Save.refl _ _ _⟩
    · have hq : (x == y) = false := beq_eq_false_iff_ne.2 hxy
      have HX := Lib.hid hxy
      clear hxy
      go_enter Tryz.func108, Tryz.ntmps108
      go_wp2_with fail
      refine (errorUnless_at _ _ _).mono ?_
      rintro e w1 ⟨rfl, rfl⟩
      go_wp2_with fail
      go_ret
      exact ⟨ret_int (by rw [unlessR, In.readErr, if_neg (by simp), if_neg HX.out]), H.out, Save.refl _ _ _⟩
  | none =>
    dsimp only [Option.isSome_none, Option.getD_none] at c3 c5
    cases r with
    | some y =>
      dsimp only [Option.isSome_some, Option.getD_some] at c2 c4
      by_cases hxy : x = y
      · have hq : (x == y) = true := beq_iff_eq.2 hxy
        have HX := Lib.hid hxy
        clear hxy
        go_enter Tryz.func108, Tryz.ntmps108
        go_wp2_with fail
        refine (errorUnless_at _ _ _).mono ?_
        rintro e w1 ⟨rfl, rfl⟩
        go_wp2_with fail
        go_ret
        exact ⟨ret_int (by rw [unlessR, In.readErr, if_pos rfl, if_pos HX.out]), H.out, Save.refl _ _ _⟩
      · have hq : (x == y) = false := beq_eq_false_iff_ne.2 hxy
        have HX := Lib.hid hxy
        clear hxy
        go_enter Tryz.func108, Tryz.ntmps108
        go_wp2_with fail
        refine (errorUnless_at _ _ _).mono ?_
        rintro e w1 ⟨rfl, rfl⟩
        go_wp2_with fail
        go_ret
        exact ⟨ret_int (by rw [unlessR, In.readErr, if_neg (by simp), if_neg HX.out]), H.out, Save.refl _ _ _⟩
    | none =>
      dsimp only [Option.isSome_none, Option.getD_none] at c2 c4
      go_enter Tryz.func108, Tryz.ntmps108
      go_wp2_with fail
      refine (isWrittenIn_at l _ _ _ _ HU.out hl).mono ?_
      rintro e w1 ⟨rfl, hb⟩
      have hm := H.out.below hb H.out.lt
      have f2 := free_of_one hm.isRead
      have f4 := free_of_one hm.firstRead
      have d2 := cell_of_one hm.isRead
      have d4 := cell_of_one hm.firstRead
      have HM := Lib.hid hm
      have HB := Lib.hid hb
      clear hm hb
      cases hw : wIn key x l with
      | true =>
        have HW : Hid ((l.any fun e => In.isK 2 key e && decide (e.value = x)) = true) := hw
        clear hw
        go_wp2_with fail
        go_ret
        exact ⟨ret_int (by rw [In.readErr]; simp only [HW.out, if_true]), by rw [In.readNew]; simp only [HW.out, if_true]; exact HM.out, Save.of_below HB.out⟩
      | false =>
        have HW : Hid ((l.any fun e => In.isK 2 key e && decide (e.value = x)) = false) := hw
        clear hw
        go_wp2_with fail
        go_ret
        exact ⟨ret_int (by rw [In.readErr]; simp only [HW.out, Bool.false_eq_true, if_false]), by rw [In.readNew]; simp only [HW.out, Bool.false_eq_true, if_false]; exact HM.out.read x, ((Save.of_below HB.out).setCell (by constructor <;> simp) _).setCell (by constructor <;> simp) _⟩
end Go.Proofs.YtfjamdpgbbnmcaaGreatDoor
/-
  What the closure that tells a key's memory does to the face: a read more, if the key was read first, and a write more, if it was written.
  Conditions: a row has at most 2^32 elements.
-/
set_option maxRecDepth 4000
namespace Go.Proofs.YtfjamdpgbbnmcaaGreatDoor
open Go.RowKit

theorem item_info : (Tryz.prog.info? 132).map (fun i => (i.zero, i.size, i.bytes)) = some (some (.agg #[.int .i64 0, .int .i64 0]), 2, 16) := by kernel_rfl
def told (key : Int) (r : Option Int) : List (Int × Int) := (r.map fun x => (key, x)).toList
/-- What the closure leaves. -/
def Telling (w : World) (F : Nat) (rs ws : List (Int × Int)) (key : Int) (r v : Option Int) (e : Ending) (w' : World) : Prop :=
  e = .returned (.tuple #[]) ∧ (∃ u' v', FaceAt 135 132 w' F (rs ++ told key r) (ws ++ told key v) u' v') ∧ Below F w w'
/-- A cell behind the laying of a block, and behind an append. -/
theorem cell_new {w : World} {a : Addr} {u : Value} (h : w.cell? a = some u) (o : Obj) : (w.alloc o).cell? a = some u := ((alloc_below w o).cell (World.block_lt_of_cell? w a h)).trans h

/-- What is wanted ahead of the region that appends an item to the row in cell j of the face. -/
theorem tell_ready {tf te : TypeId} {w : World} {F : Nat} {rs ws : List (Int × Int)} {x y : Value} (h : FaceAt tf te w F rs ws x y) (o : Obj) : FaceAt tf te ((w.alloc o).drewN 1) F rs ws x y ∧ Below F w ((w.alloc o).drewN 1) ∧
    (∀ w2, ((w.alloc o).drewN 1).grownBy w2 x.ownBlock → w2.cell? ⟨F, 0, none⟩ = some x ∧ w2.frozen? ⟨F, 0, none⟩ = false) ∧ (∀ w2, ((w.alloc o).drewN 1).grownBy w2 y.ownBlock → w2.cell? ⟨F, 1, none⟩ = some y ∧ w2.frozen? ⟨F, 1, none⟩ = false) := by
  have h1 := h.below (alloc_below w o)
  have h2 : FaceAt tf te ((w.alloc o).drewN 1) F rs ws x y := ⟨h1.cell, own_drewN h1.reads 1, own_drewN h1.writes 1, h1.apart⟩
  refine ⟨h2, below_drewN ((Below.refl F w).alloc (Nat.le_of_lt h.lt) o) 1, fun w2 hg => ?_, fun w2 hg => ?_⟩
  · obtain ⟨e0, _, e2⟩ := two_cells ((hg.block F h2.lt (fun e => own_above h2.reads e.symm)).trans h2.cell)
    exact ⟨e0, e2 0⟩
  · obtain ⟨_, e1, e2⟩ := two_cells ((hg.block F h2.lt (fun e => own_above h2.writes e.symm)).trans h2.cell)
    exact ⟨e1, e2 1⟩

/-- What the face is behind the first test. -/
def TellMid (w : World) (F : Nat) (rs ws : List (Int × Int)) (key : Int) (r : Option Int) (wx : World) : Prop := ∃ u v, FaceAt 135 132 wx F (rs ++ told key r) ws u v ∧ Below F w wx
set_option maxHeartbeats 2000000 in
theorem tell_at (b F : Nat) (key : Int) (r v : Option Int) (rs ws : List (Int × Int)) (x y : Value) (w : World) (h : MemAt w b key r v) (hF : FaceAt 135 132 w F rs ws x y) (hb : b + 6 ≤ F) (hr : rs.length ≤ 4294967296) (hw : ws.length ≤ 4294967296) :
    Calls Tryz.prog 112 #[.pointer (some ⟨F, 0, none⟩), .pointer (some ⟨b + 2, 0, none⟩), .pointer (some ⟨b, 0, none⟩), .pointer (some ⟨b + 4, 0, none⟩), .pointer (some ⟨b + 3, 0, none⟩), .pointer (some ⟨b + 5, 0, none⟩)] w (Telling w F rs ws key r v) := by
  obtain ⟨i0, hi0, hz0, hz1, hz2⟩ := info_parts item_info
  have I0 := Lib.hid hi0
  have I1 := Lib.hid hz0
  have I2 := Lib.hid hz1
  have I3 := Lib.hid hz2
  clear hi0 hz0 hz1 hz2
  have c0 := cell_of_one h.key
  have c2 := cell_of_one h.isRead
  have c4 := cell_of_one h.firstRead
  have H := Lib.hid h
  have HF := Lib.hid hF
  obtain ⟨A, c, rfl⟩ := own_form hF.reads
  obtain ⟨A', c', rfl⟩ := own_form hF.writes
  obtain ⟨d0, _, _⟩ := two_cells hF.cell
  have HS := Lib.hid hF.lt
  clear h hF
  go_enter Tryz.func112, Tryz.ntmps112
  go_upto_if 7 with fail
  go_cut [] (fun wx => TellMid w F rs ws key r wx)
  case first =>
    cases r with
    | none =>
      dsimp only [Option.isSome_none, Option.getD_none] at c2 c4
      go_wp2_with fail
      go_meet
      exact ⟨_, _, by simpa [told] using HF.out, Below.refl _ _⟩
    | some p =>
      dsimp only [Option.isSome_some, Option.getD_some] at c2 c4
      have HFA := Lib.hid (tell_ready HF.out (.cells #[.int .i64 key, .int .i64 p] 132))
      have d2 := cell_new d0 (.cells #[.int .i64 key, .int .i64 p] 132)
      have HN := Lib.hid (new_row w (itC (key, p)) 132)
      go_wp2_with fail
      go_region_law (refine step_append_lies _ rfl (.tmp 12) (.tmp 16) 133 rfl (F + 1) 132 i0 _ 2 16 Tryz.underlying133 I0.out I1.out I2.out I3.out rfl (by decide) (.slice A rs.length c) rs.length (rs.flatMap itC) (by simp [Act.eval]) HFA.out.1.reads ⟨w.heap.size, 0, none⟩ 1 1 (itC (key, p)) (by simp [Act.eval]) rfl HN.out (one_its _) (by decide) (by simp only [maxLen]; omega) (by omega) (by have := HS.out; simp; omega) (w.heap.size + 1) (by simp) ?_; intro g2 cap2 w2 hown2 hgrow2 hat2 hlt2; obtain ⟨e3, f3⟩ := HFA.out.2.2.1 w2 hgrow2; have HO2 := Lib.hid hown2; have HG2 := Lib.hid hgrow2; have HA2 := Lib.hid hat2; clear hown2 hgrow2 hat2 hlt2)
      all_goals
        go_wp2_with fail
        go_meet
        obtain ⟨h1, h2⟩ := HFA.out.1.addRead (key, p) HO2.out HG2.out (HA2.out.imp id (fun e => by rw [e]; simp [World.drewN]))
        exact ⟨_, _, by simpa [told] using h1, HFA.out.2.1.trans h2⟩
  case rest =>
    clear c0 c2 c4 d0 HF HS
    obtain ⟨u', v', h1, h2⟩ := hcut
    have hM := H.out.below h2 hb
    have HB3 := Lib.hid h2
    have c0 := cell_of_one hM.key
    have c3 := cell_of_one hM.isWritten
    have c5 := cell_of_one hM.lastWritten
    have HF := Lib.hid h1
    obtain ⟨A, c, rfl⟩ := own_form h1.reads
    obtain ⟨A', c', rfl⟩ := own_form h1.writes
    obtain ⟨_, d1, _⟩ := two_cells h1.cell
    have HS3 := Lib.hid h1.lt
    clear h1 hM h2 H
    cases v with
    | none =>
      dsimp only [Option.isSome_none, Option.getD_none] at c3 c5
      go_wp2_with fail
      go_end0
      exact ⟨rfl, ⟨_, _, by simpa [told] using HF.out⟩, HB3.out⟩
    | some q =>
      dsimp only [Option.isSome_some, Option.getD_some] at c3 c5
      have HFA := Lib.hid (tell_ready HF.out (.cells #[.int .i64 key, .int .i64 q] 132))
      have d2 := cell_new d1 (.cells #[.int .i64 key, .int .i64 q] 132)
      have HN := Lib.hid (new_row wc (itC (key, q)) 132)
      go_wp2_with fail
      go_region_law (refine step_append_lies _ rfl (.tmp 25) (.tmp 29) 133 rfl (F + 1) 132 i0 _ 2 16 Tryz.underlying133 I0.out I1.out I2.out I3.out rfl (by decide) (.slice A' ws.length c') ws.length (ws.flatMap itC) (by simp [Act.eval]) HFA.out.1.writes ⟨wc.heap.size, 0, none⟩ 1 1 (itC (key, q)) (by simp [Act.eval]) rfl HN.out (one_its _) (by decide) (by simp only [maxLen]; omega) (by omega) (by have := HS3.out; simp; omega) (wc.heap.size + 1) (by simp) ?_; intro g3 cap3 w4 hown2 hgrow2 hat2 hlt2; obtain ⟨e3, f3⟩ := HFA.out.2.2.2 w4 hgrow2; have HO2 := Lib.hid hown2; have HG2 := Lib.hid hgrow2; have HA2 := Lib.hid hat2; clear hown2 hgrow2 hat2 hlt2)
      all_goals
        go_wp2_with fail
        go_end0
        obtain ⟨h1, h2⟩ := HFA.out.1.addWrite (key, q) HO2.out HG2.out (HA2.out.imp id (fun e => by rw [e]; simp [World.drewN]))
        exact ⟨rfl, ⟨_, _, by simpa [told] using h1⟩, HB3.out.trans (HFA.out.2.1.trans h2)⟩
end Go.Proofs.YtfjamdpgbbnmcaaGreatDoor
/-
  Words for inner.Look's memory as a whole, and its steps: while the sixteen memories are made, and behind each op.
  Conditions: none beyond those that each theorem states.
-/
set_option maxRecDepth 4000
namespace Go.Proofs.YtfjamdpgbbnmcaaGreatDoor
open Go.RowKit

/-- While the memories are made: n of them are there. -/
structure MakeAt (w wr : World) (s d f u : Value) (n : Nat) : Prop where
  below : Below w.heap.size w wr
  size : wr.heap.size = w.heap.size + 3 + 6 * n
  box : wr.heap[w.heap.size]? = some (.cells #[s, d, f, u] 69 (0, 0))
  res : wr.heap[w.heap.size + 1]? = some (.cells #[.slice none 0 0, .slice none 0 0] 135 (0, 0))
  row : RowAt wr (w.heap.size + 2) (w.heap.size + 3) n
  mem : ∀ k : Nat, k < n → MemAt wr (w.heap.size + 3 + 6 * k) k none none
/-- Behind the ops p. -/
structure LookAt (w wr : World) (s d f u : Value) (p : List Ev.Event) : Prop where
  below : Below w.heap.size w wr
  box : wr.heap[w.heap.size]? = some (.cells #[s, d, f, u] 69 (0, 0))
  res : wr.heap[w.heap.size + 1]? = some (.cells #[.slice none 0 0, .slice none 0 0] 135 (0, 0))
  row : RowAt wr (w.heap.size + 2) (w.heap.size + 3) 16
  mem : ∀ k : Nat, k < 16 → MemAt wr (w.heap.size + 3 + 6 * k) k (In.fr p k) (In.lastOf 2 k p)

section
variable {w wr w1 : World} {s d f u : Value} {p : List Ev.Event} {n : Nat}
theorem MakeAt.done (h : MakeAt w wr s d f u 16) : LookAt w wr s d f u [] := ⟨h.below, h.box, h.res, h.row, fun k hk => h.mem k hk⟩
theorem row_set {w : World} {b : Nat} {cs : List Value} {t : TypeId} (h : w.heap[b]? = some (.cells cs.toArray t (0, 0))) (j : Nat) (x : Value) : (w.setCell ⟨b, j, none⟩ x).heap[b]? = some (.cells (cs.set j x).toArray t (0, 0)) := by
  simp [World.setCell, Array.getElem?_modify, h]
theorem make_start (w : World) (s d f u : Value) (cs : Array Value) (hc : cs = (rowC (w.heap.size + 3) 0).toArray) : MakeAt w (((w.alloc (.cells #[s, d, f, u] 69)).alloc (.cells #[.slice none 0 0, .slice none 0 0] 135)).alloc (.cells cs 156)) s d f u 0 := by
  have e : (((w.alloc (.cells #[s, d, f, u] 69)).alloc (.cells #[.slice none 0 0, .slice none 0 0] 135)).alloc (.cells cs 156)).heap = ((w.heap.push (.cells #[s, d, f, u] 69)).push (.cells #[.slice none 0 0, .slice none 0 0] 135)).push (.cells cs 156) := rfl
  refine ⟨below_new (below_new (alloc_below _ _)), ?_, ?_, ?_, ?_, fun k hk => absurd hk (by omega)⟩
  · rw [e]; simp
  · rw [e]
    simp only [Array.getElem?_push, Array.size_push]
    repeat (first | rw [if_neg (by omega)] | rw [if_pos trivial] | rw [if_pos (by omega)])
  · rw [e]
    simp only [Array.getElem?_push, Array.size_push]
    repeat (first | rw [if_neg (by omega)] | rw [if_pos trivial] | rw [if_pos (by omega)])
  · rw [RowAt, e, hc]
    simp only [Array.getElem?_push, Array.size_push]
    repeat (first | rw [if_neg (by omega)] | rw [if_pos trivial] | rw [if_pos (by omega)])
/-- The next memory's place in the row is free. -/
theorem MakeAt.room (h : MakeAt w wr s d f u n) (hn : n < 16) (hb : Below wr.heap.size wr w1) : (w1.cell? ⟨w.heap.size + 1 + 1, n * 3, none⟩ = some .nilFunc ∧ w1.cell? ⟨w.heap.size + 1 + 1, n * 3 + 1, none⟩ = some .nilFunc ∧ w1.cell? ⟨w.heap.size + 1 + 1, n * 3 + 2, none⟩ = some .nilFunc) ∧
    (w1.frozen? ⟨w.heap.size + 1 + 1, n * 3, none⟩ = false ∧ w1.frozen? ⟨w.heap.size + 1 + 1, n * 3 + 1, none⟩ = false ∧ w1.frozen? ⟨w.heap.size + 1 + 1, n * 3 + 2, none⟩ = false) := by
  have hr : RowAt w1 (w.heap.size + 2) (w.heap.size + 3) n := (hb.block _ h.row.lt).trans h.row
  exact ⟨⟨(hr.cell _).trans (rowC_free _ _ _ (by omega) (by omega) (by omega)), (hr.cell _).trans (rowC_free _ _ _ (by omega) (by omega) (by omega)), (hr.cell _).trans (rowC_free _ _ _ (by omega) (by omega) (by omega))⟩, hr.free _, hr.free _, hr.free _⟩
/-- One memory more. -/
theorem MakeAt.more (h : MakeAt w wr s d f u n) (hn : n < 16) (hm : MemAt w1 wr.heap.size n none none) (hs : w1.heap.size = wr.heap.size + 6) (hb : Below wr.heap.size wr w1) :
    MakeAt w (((w1.setCell ⟨w.heap.size + 2, n * 3, none⟩ (readF wr.heap.size)).setCell ⟨w.heap.size + 2, n * 3 + 1, none⟩ (writeF wr.heap.size)).setCell ⟨w.heap.size + 2, n * 3 + 2, none⟩ (tellF wr.heap.size)) s d f u (n + 1) := by
  have hsz := h.size
  have far : ∀ j, j ≠ w.heap.size + 2 → (((w1.setCell ⟨w.heap.size + 2, n * 3, none⟩ (readF wr.heap.size)).setCell ⟨w.heap.size + 2, n * 3 + 1, none⟩ (writeF wr.heap.size)).setCell ⟨w.heap.size + 2, n * 3 + 2, none⟩ (tellF wr.heap.size)).heap[j]? = w1.heap[j]? := fun j hj =>
    (Below.heap_setCell _ _ _ _ hj).trans ((Below.heap_setCell _ _ _ _ hj).trans (Below.heap_setCell _ _ _ _ hj))
  have hr : w1.heap[w.heap.size + 2]? = some (.cells (rowC (w.heap.size + 3) n).toArray 156 (0, 0)) := (hb.block _ (by omega)).trans h.row
  refine ⟨?_, ?_, ?_, ?_, ?_, fun k hk => ?_⟩
  · exact (((h.below.trans (hb.mono (by omega))).setCell (by show w.heap.size ≤ w.heap.size + 2; omega) _).setCell (by show w.heap.size ≤ w.heap.size + 2; omega) _).setCell (by show w.heap.size ≤ w.heap.size + 2; omega) _
  · simp only [World.setCell, Array.size_modify]
    omega
  · exact (far _ (by omega)).trans ((hb.block _ (by omega)).trans h.box)
  · exact (far _ (by omega)).trans ((hb.block _ (by omega)).trans h.res)
  · rw [RowAt, ← rowC_succ _ _ hn, ← hsz]
    exact row_set (row_set (row_set hr _ _) _ _) _ _
  · by_cases e : k = n
    · subst e
      rw [← hsz]
      exact hm.keep fun j hj => far _ (by omega)
    · exact (h.mem k (by omega)).keep fun j hj => (far _ (by omega)).trans (hb.block _ (by omega))
theorem LookAt.lt (h : LookAt w wr s d f u p) : w.heap.size + 98 < wr.heap.size := by
  have := (h.mem 15 (by omega)).lt
  omega
theorem LookAt.later (h : LookAt w wr s d f u p) (hb : Below wr.heap.size wr w1) : LookAt w w1 s d f u p := by
  have hl := h.lt
  refine ⟨below_all h.below hb, (hb.block _ (by omega)).trans h.box, (hb.block _ (by omega)).trans h.res, (hb.block _ (by omega)).trans h.row, fun k hk => (h.mem k hk).below hb ?_⟩
  have := (h.mem k hk).lt
  omega
/-- Behind an op of key k. -/
theorem LookAt.op (h : LookAt w wr s d f u p) (x : Ev.Event) (k : Nat) (hk : k < 16) (hx : x.key = (k : Int)) {r v : Option Int} (hs : Save (w.heap.size + 3 + 6 * k) (w.heap.size + 3 + 6 * k + 6) wr w1) (hm : MemAt w1 (w.heap.size + 3 + 6 * k) k r v)
    (hr : In.fr (p ++ [x]) k = r) (hv : In.lastOf 2 k (p ++ [x]) = v) : LookAt w w1 s d f u (p ++ [x]) := by
  have hl := h.lt
  refine ⟨h.below.trans (hs.below (by omega) (by omega)), (hs.block _ (by omega) (by omega)).trans h.box, (hs.block _ (by omega) (by omega)).trans h.res, (hs.block _ (by omega) (by omega)).trans h.row, fun j hj => ?_⟩
  by_cases e : j = k
  · subst e
    rw [hr, hv]
    exact hm
  · rw [In.fr_snoc_other p x j (.inl (by omega)), In.last_snoc_other p x j (by omega)]
    exact (h.mem j hj).save hs (by omega)
/-- The closures of key k, in the row. -/
theorem LookAt.closures (h : LookAt w wr s d f u p) (k : Nat) (hk : k < 16) : wr.cell? ⟨w.heap.size + 2, k * 3, none⟩ = some (readF (w.heap.size + 3 + 6 * k)) ∧ wr.cell? ⟨w.heap.size + 2, k * 3 + 1, none⟩ = some (writeF (w.heap.size + 3 + 6 * k)) :=
  ⟨h.row.mem k hk 0 (by omega), h.row.mem k hk 1 (by omega)⟩
end
theorem face_start (tf te : TypeId) (w : World) : FaceAt tf te (w.alloc (.cells #[.slice none 0 0, .slice none 0 0] tf)) w.heap.size [] [] (.slice none 0 0) (.slice none 0 0) :=
  ⟨heap_alloc_new w _, World.ownsRow_nil _ _ _ _, World.ownsRow_nil _ _ _ _, fun g hg => by cases hg⟩
/-- The whole row, and its elements. -/
theorem row_size (B : Nat) : (Tryz.prog.info? 156).map (·.size) = some (rowC B 16).toArray.size := by
  rw [List.size_toArray, rowC_len B 16 (Nat.le_refl _)]
  kernel_rfl
theorem index_row (B k : Nat) (hk : k < 16) (w : World) : (Instr.index 156 (.agg (rowC B 16).toArray) (.int .i64 (k : Int))).run Tryz.prog w = .ok (.agg #[readF (B + 6 * k), writeF (B + 6 * k), tellF (B + 6 * k)]) w := by
  have h1 : (underlying 156).run Tryz.prog w = .ok (.array 16 155) w := by kernel_rfl
  have h2 : (isAgg 155).run Tryz.prog w = .ok true w := by kernel_rfl
  have h3 : (sizeOf 155).run Tryz.prog w = .ok 3 w := by kernel_rfl
  have h4 : (rowC B 16).toArray.extract (k * 3) (k * 3 + 3) = #[readF (B + 6 * k), writeF (B + 6 * k), tellF (B + 6 * k)] := by
    apply Array.ext_getElem?
    intro j
    have hsz : (rowC B 16).toArray.size = 48 := by rw [List.size_toArray, rowC_len B 16 (Nat.le_refl _)]
    rw [Array.getElem?_extract, hsz]
    by_cases hj : j < 3
    · rw [if_pos (by omega), List.getElem?_toArray, rowC_at B 16 k j hk hj]
      show (memC (B + 6 * k))[j]? = (memC (B + 6 * k)).toArray[j]?
      rw [List.getElem?_toArray]
    · rw [if_neg (by omega), Array.getElem?_eq_none (by simp; omega)]
  have h5 : ((k : Int)).toNat = k := by omega
  have h6 : (0 : Int) ≤ (k : Int) ∧ (k : Int) < ((16 : Nat) : Int) := by omega
  simp only [Instr.index, asIntOf, Sem.run_bind, Sem.run_pure, Result.andThen_ok, h1, if_pos h6, h3, h5, part, h2, if_true, h4]
/-- What is behind the first m of a row of events. -/
theorem Evs.drop {w : World} {A : Option Addr} {n c : Nat} {l : List Ev.Event} (h : Evs w (.slice A n c) l) (m : Nat) (hm : m ≤ l.length) : Evs w (.slice (if c = m then A else A.map (·.add (m * 4))) (n - m) (c - m)) (l.drop m) := by
  obtain ⟨h1, A1, c1, hv, hc, hz, hh⟩ := h
  cases hv
  have hlen : (l.drop m).length = l.length - m := List.length_drop
  refine ⟨by rw [evCells_len], _, _, by rw [hlen], by rw [hlen]; omega, fun hn => ?_, fun h0 => ?_⟩
  · by_cases e : c = m
    · omega
    · rw [if_neg e] at hn
      have : A = none := by cases A with
        | none => rfl
        | some a => cases hn
      have := hz this
      omega
  · rw [hlen] at h0
    obtain ⟨ad, rfl, hb, hcell⟩ := hh (by omega)
    rw [if_neg (by omega)]
    refine ⟨ad.add (m * 4), rfl, by rw [add_block]; exact hb, fun j u hu => ?_⟩
    rw [Go.Deep.add_add]
    refine hcell _ _ ?_
    have hj := (List.getElem?_eq_some_iff.1 hu).1
    rw [evCells_len, hlen] at hj
    have e2 : l.flatMap evCells = (l.take m).flatMap evCells ++ (l.drop m).flatMap evCells := by rw [← List.flatMap_append, List.take_append_drop]
    have e3 : ((l.take m).flatMap evCells).length = m * 4 := by rw [evCells_len, List.length_take]; omega
    rw [e2, List.getElem?_append_right (by omega), e3, Nat.add_sub_cancel_left]
    exact hu
theorem slice_tail (l : List Ev.Event) (A : Option Addr) (c k : Nat) (hk : k < l.length) : ∃ (A' : Option Addr) (c' : Nat), (∀ W : World, (Instr.sliceAt 45 (.slice A l.length c) (some (.int .i64 ((k : Int) + 1))) none none).run Tryz.prog W = .ok (.slice A' (l.length - (k + 1)) c') W) ∧
    ∀ W : World, Evs W (.slice A l.length c) l → Evs W (.slice A' (l.length - (k + 1)) c') (l.drop (k + 1)) := by
  refine ⟨_, _, fun W => ?_, fun W h => h.drop (k + 1) hk⟩
  have hel : Tryz.prog.elem 45 = 74 := by kernel_rfl
  have hsz : (sizeOf 74).run Tryz.prog W = .ok 4 W := by kernel_rfl
  have hun : Tryz.prog.underlying 45 = some (.slice (Tryz.prog.elem 45)) := by rw [hel]; exact Tryz.underlying45
  have e : ((k : Int) + 1).toNat = k + 1 := by omega
  rw [run_sliceAt_slice W _ _ _ _ _ hun, run_slice_l W _ _ _ _ hun .i64 ((k : Int) + 1) (by omega) (by omega), hel, hsz, e]
  rfl
end Go.Proofs.YtfjamdpgbbnmcaaGreatDoor
/-
  What inner.Look answers, for every transaction: In.lookR of its ops; what was in memory stays as it was.
  Conditions: a row has at most 2^32 elements.
-/
set_option maxRecDepth 4000
namespace Go.Proofs.YtfjamdpgbbnmcaaGreatDoor
open Go.RowKit

theorem store_memory {P : Program} (a : Addr) (b : Nat) (w : World) : (store a (readF b)).run P w = stored P w a (readF b) .plain ∧ (store a (writeF b)).run P w = stored P w a (writeF b) .plain ∧ (store a (tellF b)).run P w = stored P w a (tellF b) .plain :=
  ⟨run_store P w a _ .plain rfl, run_store P w a _ .plain rfl, run_store P w a _ .plain rfl⟩
theorem results_face (X : World) (b : Nat) (tmps : Array Value) (x y : Value) (n q : Int) (hp : tmps.getD 2 undef = .pointer (some ⟨b, 0, none⟩)) (hn : tmps.getD 3 undef = .int .i64 n) (hq : tmps.getD 4 undef = .int .i64 q)
    (h0 : X.cell? ⟨b, 0, none⟩ = some x) (h1 : X.cell? ⟨b, 1, none⟩ = some y) : (results Tryz.f78 tmps).run Tryz.prog X = .ok (.tuple #[.agg #[x, y], .int .i64 n, .int .i64 q]) X := by
  rw [Array.getD_eq_getD_getElem?] at hp hn hq
  simp [results, Tryz.results78, hp, hn, hq, asAddr, go_sem, h0, h1]
/-- As RetFace, the two rows in memory that the call made. -/
def RetFaceOwn (w : World) (r : (List (Int × Int) × List (Int × Int)) × Int × Int) (e : Ending) (w' : World) : Prop := ∃ u v, e = .returned (.tuple #[.agg #[u, v], .int .i64 r.2.1, .int .i64 r.2.2]) ∧ w'.ownsRow w.heap.size 132 2 u r.1.1.length (r.1.1.flatMap itC) ∧ w'.ownsRow w.heap.size 132 2 v r.1.2.length (r.1.2.flatMap itC) ∧ Below w.heap.size w w'
/-- The call's end: what lies in the result variable, a place and an error. -/
theorem end_face {w X : World} {r : (List (Int × Int) × List (Int × Int)) × Int × Int} {rs ws : List (Int × Int)} {n q : Int} (hr : r = ((rs, ws), n, q)) (tmps : Array Value) (b : Nat) (x y : Value) (h0 : X.cell? ⟨b, 0, none⟩ = some x) (h1 : X.cell? ⟨b, 1, none⟩ = some y)
    (hx : X.ownsRow w.heap.size 132 2 x rs.length (rs.flatMap itC)) (hy : X.ownsRow w.heap.size 132 2 y ws.length (ws.flatMap itC)) (hb : Below w.heap.size w X) (hp : tmps.getD 2 undef = .pointer (some ⟨b, 0, none⟩)) (hn : tmps.getD 3 undef = .int .i64 n) (hq : tmps.getD 4 undef = .int .i64 q) :
    bodyPost Tryz.prog Tryz.f78 (RetFaceOwn w r) Exit.ret { tmps := tmps, defers := [] } X := by
  refine bodyPost_ret (results_face X b tmps x y n q hp hn hq h0 h1) rfl ?_
  subst hr
  exact ⟨x, y, rfl, hx, hy, hb⟩
/-- The same, where an op is wrong: the result variable is written anew with two empty rows. -/
theorem end_look {w W : World} {r : (List (Int × Int) × List (Int × Int)) × Int × Int} {n q : Int} (hres : W.heap[w.heap.size + 1]? = some (.cells #[.slice none 0 0, .slice none 0 0] 135 (0, 0))) (hb : Below w.heap.size w W) (hr : r = (([], []), n, q)) (tmps : Array Value) (hp : tmps.getD 2 undef = .pointer (some ⟨w.heap.size + 1, 0, none⟩)) (hn : tmps.getD 3 undef = .int .i64 n) (hq : tmps.getD 4 undef = .int .i64 q) :
    bodyPost Tryz.prog Tryz.f78 (RetFaceOwn w r) Exit.ret { tmps := tmps, defers := [] } ((W.setCell ⟨w.heap.size + 1, 0, none⟩ (.slice none 0 0)).setCell ⟨w.heap.size + 1, 1, none⟩ (.slice none 0 0)) := by
  have hc := (two_set (two_set hres (.slice none 0 0)).1 (.slice none 0 0)).2
  obtain ⟨e0, e1, _⟩ := two_cells hc
  exact end_face hr tmps _ _ _ e0 e1 (World.ownsRow_nil _ _ _ _) (World.ownsRow_nil _ _ _ _) ((hb.setCell (by show w.heap.size ≤ w.heap.size + 1; omega) _).setCell (by show w.heap.size ≤ w.heap.size + 1; omega) _) hp hn hq
/-- What a call that touches key n's memory alone leaves of the result variable. -/
theorem save_res {w W W' : World} {s d f u : Value} {p : List Ev.Event} {n : Nat} (h : LookAt w W s d f u p) (hs : Save (w.heap.size + 3 + 6 * n) (w.heap.size + 3 + 6 * n + 6) W W') : W'.heap[w.heap.size + 1]? = some (.cells #[.slice none 0 0, .slice none 0 0] 135 (0, 0)) ∧ Below w.heap.size w W' := by
  have := h.lt
  exact ⟨(hs.block _ (by omega) (by omega)).trans h.res, h.below.trans (hs.below (by omega) (by omega))⟩
/-- The face, as far as it is filled, behind what was in memory. -/
def FaceIs (wr wx : World) (rs ws : List (Int × Int)) : Prop := ∃ u v, FaceAt 135 132 wx wr.heap.size rs ws u v ∧ Below wr.heap.size wr wx
set_option maxHeartbeats 1000000 in
theorem look_own (l : List Ev.Event) (s f : Int) (d : Bool) (u : Value) (w : World) (hu : Evs w u l) (hl : l.length ≤ 4294967296) : Calls Tryz.prog 78 #[.agg #[.int .i64 s, .bool d, .int .i64 f, u]] w (RetFaceOwn w (In.lookR l)) := by
  obtain ⟨A, c, rfl, hform⟩ := hu.spelled
  have HU := Lib.hid hu
  have HF := Lib.hid hform
  clear hform hu
  have m1 := fun a b w => (store_memory (P := Tryz.prog) a b w).1
  have m2 := fun a b w => (store_memory (P := Tryz.prog) a b w).2.1
  have m3 := fun a b w => (store_memory (P := Tryz.prog) a b w).2.2
  go_enter Tryz.func78, Tryz.ntmps78
  go_wp2_with fail
  go_loopw [13] (fun i wr => ∃ k : Nat, k ≤ 16 ∧ i = .int .i64 k ∧ MakeAt w wr (.int .i64 s) (.bool d) (.int .i64 f) (.slice A l.length c) k) (fun i _ => 16 - (intOf i).toNat)
  case atStart =>
    exact ⟨0, Nat.zero_le _, rfl, make_start w _ _ _ _ _ rfl⟩
  case round =>
    obtain ⟨k, hk, rfl, hat⟩ := hrel
    have HA := Lib.hid hat
    clear hat
    by_cases hlt : k < 16
    · go_wp2_with fail
      refine (newMemory_at _ _).mono ?_
      rintro e w1 ⟨rfl, hm, hs, hb⟩
      obtain ⟨⟨e0, e1, e2⟩, f0, f1, f2⟩ := HA.out.room hlt hb
      have HN := Lib.hid (HA.out.more hlt hm hs hb)
      clear hm hs hb
      unfold memV memC
      go_wp2_with fail
      go_roundw
      case rel => exact ⟨k + 1, by omega, by go_num, HN.out⟩
      case measure => simp [intOf]; omega
    · obtain rfl : k = 16 := by omega
      rw [show ((16 : Nat) : Int) = 16 from rfl]
      have HL := Lib.hid HA.out.done
      have hlt2 := HL.out.lt
      have b3 : wr.cell? ⟨w.heap.size, 3, none⟩ = some (.slice A l.length c) := by simp [World.cell?, HL.out.box]
      clear HA
      go_wp2_with fail
      go_loopw [24] (fun i wr => ∃ k : Nat, k ≤ l.length ∧ i = .int .i64 k ∧ Hid (∀ j, j < k → In.errAt l j = 0) ∧ LookAt w wr (.int .i64 s) (.bool d) (.int .i64 f) (.slice A l.length c) (l.take k)) (fun i _ => l.length - (intOf i).toNat)
      case atStart => exact ⟨0, Nat.zero_le _, rfl, fun j hj => absurd hj (by omega), HL.out⟩
      case round =>
        clear HL hlt2 b3 hlt hk
        obtain ⟨k, hk, rfl, hno, hat⟩ := hrel
        have HL := Lib.hid hat
        clear hat
        have hlt2 := HL.out.lt
        by_cases hlt : k < l.length
        · obtain ⟨ad, rfl, hblk, hE⟩ := HF.out k hlt
          obtain ⟨x, hx⟩ : ∃ x, x = l[k]'hlt := ⟨_, rfl⟩
          rw [← hx] at hE
          obtain ⟨hc0, hc1, hc2, hc3⟩ := hE.below hblk HL.out.below
          have HX := Lib.hid hx
          clear hE hx
          go_wp2_with fail
          refine (isOp_at x _).mono ?_
          rintro e w1 ⟨rfl, hb1⟩
          have e0 : w1.cell? ⟨wr.heap.size, 0, none⟩ = some (.int .i64 x.kind) := (hb1.cell (by simp)).trans (new_cell wr _ _ 0 _ rfl)
          have e2 : w1.cell? ⟨wr.heap.size, 2, none⟩ = some (.int .i64 x.key) := (hb1.cell (by simp)).trans (new_cell wr _ _ 2 _ rfl)
          have e3 : w1.cell? ⟨wr.heap.size, 3, none⟩ = some (.int .i64 x.value) := (hb1.cell (by simp)).trans (new_cell wr _ _ 3 _ rfl)
          have HL1 := Lib.hid (HL.out.later (below_new hb1))
          clear hb1 HL hc0 hc1 hc2 hc3
          cases hop : isOpB x with
          | false =>
            obtain ⟨r0, r1, r2⟩ := two_cells HL1.out.res
            have g0 := r2 0
            have g1 := r2 1
            clear r2
            have HR : Hid (In.lookR l = (([], []), (k : Int), 1)) := In.look_arg l k hlt hno.out (by rw [← HX.out]; exact hop)
            go_wp2_with fail
            exact end_look HL1.out.res HL1.out.below HR.out _ rfl rfl rfl
          | true =>
            obtain ⟨n, hn16, hkey⟩ := In.key_small x hop
            rw [hkey] at e2
            have HKY := Lib.hid hkey
            have HOP := Lib.hid hop
            have hn0 : (0 : Int) ≤ (n : Int) := by omega
            have hn1 : (n : Int) < 16 := by omega
            have HT : Hid (l.take (k + 1) = l.take k ++ [x]) := by rw [Hid, HX.out]; exact List.take_succ_eq_append_getElem hlt
            clear hkey hop
            by_cases hk2 : x.kind = 2
            · have q2 : (x.kind == 2) = true := beq_iff_eq.2 hk2
              have HK2 := Lib.hid hk2
              have HE : Hid (In.errAt l k = 0) := In.at_write l k hlt (by rw [← HX.out]; exact HOP.out) (by rw [← HX.out]; exact hk2)
              clear hk2
              have g1 : w1.cell? ⟨w.heap.size + 1 + 1, n * 3 + 1, none⟩ = some (.func (.func 111) #[] #[.pointer (some ⟨w.heap.size + 3 + 6 * n + 3, 0, none⟩), .pointer (some ⟨w.heap.size + 3 + 6 * n + 5, 0, none⟩)]) := (HL1.out.closures n hn16).2
              go_wp2_with fail
              go_still_tail 7, (by kernel_rfl)
              change wpList _ _ _ _ _ w1.drew
              have HL2 := Lib.hid (HL1.out.later ((Below.refl _ w1).drew))
              clear HL1 g1 e0 e2 e3
              generalize w1.drew = w2 at HL2 ⊢
              go_wp2_with (go_at_call 111; refine (write_at _ _ _ _ _ _ (HL2.out.mem n hn16)).mono ?_; rintro e w3 ⟨rfl, hm3, hs3⟩; have HM3 := Lib.hid hm3; have HS3 := Lib.hid hs3; clear hm3 hs3)
              go_roundw
              case rel =>
                refine ⟨k + 1, by omega, by go_num, In.next_ok l k hno.out HE.out, ?_⟩
                rw [HT.out]
                exact HL2.out.op x n hn16 HKY.out HS3.out HM3.out (In.fr_write _ x HK2.out n) (In.last_write _ x HK2.out n HKY.out)
              case measure => simp [intOf]; omega
            · have q2 : (x.kind == 2) = false := beq_eq_false_iff_ne.2 hk2
              obtain ⟨he1, he2, he3⟩ := In.at_read l k hlt hno.out (by rw [← HX.out]; exact HOP.out) (by rw [← HX.out]; exact hk2) n (by rw [← HX.out]; exact HKY.out)
              rw [← HX.out] at he1 he2 he3
              have HE1 := Lib.hid he1
              have HE2 := Lib.hid he2
              have HE3 := Lib.hid he3
              clear he1 he2 he3 hk2
              have g0 : w1.cell? ⟨w.heap.size + 1 + 1, n * 3, none⟩ = some (.func (.func 108) #[] #[.pointer (some ⟨w.heap.size + 3 + 6 * n + 3, 0, none⟩), .pointer (some ⟨w.heap.size + 3 + 6 * n + 5, 0, none⟩), .pointer (some ⟨w.heap.size + 3 + 6 * n + 2, 0, none⟩), .pointer (some ⟨w.heap.size + 3 + 6 * n + 4, 0, none⟩), .pointer (some ⟨w.heap.size + 3 + 6 * n, 0, none⟩)]) := (HL1.out.closures n hn16).1
              have b3 : w1.cell? ⟨w.heap.size, 3, none⟩ = some (.slice (some ad) l.length c) := by simp [World.cell?, HL1.out.box]
              have hw1 : IntKind.i64.wrap ((k : Int) + 1) = (k : Int) + 1 := IntWalk.i64_in _ (by omega)
              obtain ⟨A2, c2, hsl, hev⟩ := slice_tail l (some ad) c k hlt
              have HV := Lib.hid hev
              clear hev
              go_wp2_with fail
              go_still_tail 12, (by kernel_rfl)
              change wpList _ _ _ _ _ w1.drew
              have HL2 := Lib.hid (HL1.out.later ((Below.refl _ w1).drew))
              have HU2 := Lib.hid (HV.out _ (HU.out.below HL2.out.below))
              clear HL1 g0 b3 hsl hw1 e0 e2 e3 HV
              generalize w1.drew = w2 at HL2 HU2 ⊢
              have hl2 : (l.drop (k + 1)).length ≤ 4294967296 := by rw [List.length_drop]; omega
              by_cases hq : In.errAt l k = 0
              · have HQ := Lib.hid hq
                clear hq
                go_wp2_with (go_at_call 108; refine (read_at _ _ _ _ _ (l.drop (k + 1)) _ _ (HL2.out.mem n hn16) HU2.out hl2).mono ?_; rintro e w3 ⟨rfl, hm3, hs3⟩; have HM3 := Lib.hid hm3; have HS3 := Lib.hid hs3; clear hm3 hs3; rw [← HE1.out, HQ.out])
                go_roundw
                case rel =>
                  refine ⟨k + 1, by omega, by go_num, In.next_ok l k hno.out HQ.out, ?_⟩
                  rw [HT.out]
                  exact HL2.out.op x n hn16 HKY.out HS3.out HM3.out (HE2.out HQ.out) (In.last_read _ x HE3.out n)
                case measure => simp [intOf]; omega
              · have hqb : (In.errAt l k != 0) = true := by rw [bne_iff_ne]; exact hq
                have HR := Lib.hid (In.look_bad l k hno.out hq)
                clear hq
                go_wp2_with (go_at_call 108; refine (read_at _ _ _ _ _ (l.drop (k + 1)) _ _ (HL2.out.mem n hn16) HU2.out hl2).mono ?_; rintro e w3 ⟨rfl, hm3, hs3⟩; have HS3 := Lib.hid (save_res HL2.out hs3); clear hm3 hs3; obtain ⟨r0, r1, r2⟩ := two_cells HS3.out.1; have t0 := r2 0; have t1 := r2 1; clear r2; rw [← HE1.out])
                exact end_look HS3.out.1 HS3.out.2 HR.out _ rfl rfl rfl
        · have HR := Lib.hid (In.all_ok l k (by omega) hno.out)
          have HTK : Hid (l.take k = l) := List.take_of_length_le (by omega)
          have HLE := HL.out
          rw [HTK.out] at HLE
          have HL0 := Lib.hid HLE
          clear HLE HL hno HTK
          have HRW := Lib.hid (HL0.out.later (alloc_below wr (.cells #[.slice none 0 0, .slice none 0 0] 135))).row
          have HIX := Lib.hid (index_row (w.heap.size + 3))
          have HFS := Lib.hid (face_start 135 132 wr)
          have HSZ := Lib.hid (row_size (w.heap.size + 3))
          go_wp2_with (refine wpList_load_row rfl 156 (.tmp 5) rfl (w.heap.size + 1 + 1) rfl 156 (rowC (w.heap.size + 3) 16).toArray (0, 0) _ HRW.out Tryz.underlying156 rfl HSZ.out ?_; generalize Value.agg (rowC (w.heap.size + 3) 16).toArray = V at HIX ⊢)
          clear HRW HSZ hlt
          obtain ⟨w0, rfl⟩ : ∃ w0, w0 = wr := ⟨_, rfl⟩
          go_loopw [65] (fun i wx => ∃ k : Nat, k ≤ 16 ∧ i = .int .i64 k ∧ FaceIs w0 wx (In.readsTo l k) (In.writesTo l k)) (fun i _ => 16 - (intOf i).toNat)
          case atStart => exact ⟨0, Nat.zero_le _, rfl, _, _, HFS.out, (Below.refl _ _).alloc (Nat.le_refl _) _⟩
          case round =>
            clear HFS
            obtain ⟨k, hk, rfl, u, v, hF, hB⟩ := hrel
            by_cases hlt : k < 16
            · have hix : ∀ W, (Instr.index 156 V (.int .i64 (k : Int))).run Tryz.prog W = .ok (.agg #[readF (w.heap.size + 3 + 6 * k), writeF (w.heap.size + 3 + 6 * k), .func (.func 112) #[] #[.pointer (some ⟨w.heap.size + 3 + 6 * k + 2, 0, none⟩), .pointer (some ⟨w.heap.size + 3 + 6 * k, 0, none⟩), .pointer (some ⟨w.heap.size + 3 + 6 * k + 4, 0, none⟩), .pointer (some ⟨w.heap.size + 3 + 6 * k + 3, 0, none⟩), .pointer (some ⟨w.heap.size + 3 + 6 * k + 5, 0, none⟩)]]) W := HIX.out k hlt
              have hsf := @store_func Tryz.prog
              have HM0 := Lib.hid (HL0.out.mem k hlt)
              have HF1 := Lib.hid (fun o => hF.below (alloc_below wr o))
              have HB1 := Lib.hid (fun o => hB.alloc hB.size (o := o))
              clear hF hB
              go_wp2_with fail
              have hM := HM0.out.below (HB1.out (.cells #[readF (w.heap.size + 3 + 6 * k), writeF (w.heap.size + 3 + 6 * k), .func (.func 112) #[] #[.pointer (some ⟨w.heap.size + 3 + 6 * k + 2, 0, none⟩), .pointer (some ⟨w.heap.size + 3 + 6 * k, 0, none⟩), .pointer (some ⟨w.heap.size + 3 + 6 * k + 4, 0, none⟩), .pointer (some ⟨w.heap.size + 3 + 6 * k + 3, 0, none⟩), .pointer (some ⟨w.heap.size + 3 + 6 * k + 5, 0, none⟩)]] 155)) (by have := HM0.out.lt; omega)
              refine (tell_at _ _ _ _ _ _ _ _ _ _ hM (HF1.out _) (by have := HM0.out.lt; omega) (by have := In.reads_len l k; omega) (by have := In.writes_len l k; omega)).mono ?_
              rintro e w3 ⟨rfl, ⟨u', v', hf3⟩, hb3⟩
              have HF3 := Lib.hid hf3
              have HB3 := Lib.hid ((HB1.out _).trans hb3)
              clear hM hf3 hb3 HF1 HB1 HM0 hix
              go_wp2_with fail
              go_roundw
              case rel =>
                refine ⟨k + 1, by omega, by go_num, u', v', ?_, HB3.out⟩
                rw [In.readsTo_succ, In.writesTo_succ, In.rd_told, In.wr_told]
                exact HF3.out
              case measure => simp [intOf]; omega
            · obtain rfl : k = 16 := by omega
              have HF3 := Lib.hid hF
              have HB3 := Lib.hid hB
              obtain ⟨d0, d1, _⟩ := two_cells hF.cell
              have hlt3 := HL0.out.lt
              have HRS : Hid (wr.heap[w.heap.size + 1]? = some (.cells #[.slice none 0 0, .slice none 0 0] 135 (0, 0))) := (hB.block _ (by omega)).trans HL0.out.res
              obtain ⟨r0, r1, r2⟩ := two_cells HRS.out
              have t0 := r2 0
              have t1 := r2 1
              clear r2 hF hB
              obtain ⟨A3, c3, rfl⟩ := own_form HF3.out.reads
              obtain ⟨A4, c4, rfl⟩ := own_form HF3.out.writes
              go_wp2_with fail
              obtain ⟨e0, e1, _⟩ := two_cells (two_set (two_set HRS.out (.slice A3 (In.readsTo l 16).length c3)).1 (.slice A4 (In.writesTo l 16).length c4)).2
              have hlo : w.heap.size + 1 < w0.heap.size + 1 := by omega
              exact end_face HR.out _ _ _ _ e0 e1 ((ownsRow_setCell_below (ownsRow_setCell_below HF3.out.reads hlo _) hlo _).mono (by omega)) ((ownsRow_setCell_below (ownsRow_setCell_below HF3.out.writes hlo _) hlo _).mono (by omega))
                (((below_all HL0.out.below HB3.out).setCell (by show w.heap.size ≤ w.heap.size + 1; omega) _).setCell (by show w.heap.size ≤ w.heap.size + 1; omega) _) rfl rfl rfl
theorem look_at (l : List Ev.Event) (s f : Int) (d : Bool) (u : Value) (w : World) (hu : Evs w u l) (hl : l.length ≤ 4294967296) : Calls Tryz.prog 78 #[.agg #[.int .i64 s, .bool d, .int .i64 f, u]] w (RetFace w (In.lookR l)) :=
  (look_own l s f d u w hu hl).mono fun _ _ ⟨x, y, he, hx, hy, hb⟩ => ⟨x, y, he, Rows'.own hx, Rows'.own hy, hb⟩
end Go.Proofs.YtfjamdpgbbnmcaaGreatDoor
