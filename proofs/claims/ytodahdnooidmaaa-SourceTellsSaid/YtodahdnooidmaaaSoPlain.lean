/-
  Plain facts on whose a value is that is read (no Go in it): the history of transactions, or which one is wrong, and how; values are names alone; those that were given up play no part.
  Conditions: none beyond those that each theorem states.
-/
import Derived.Test.YtodahdnooidmaaaGrAll
import Derived.Test.YtodahdnooidmaaaInAll
set_option maxRecDepth 4000
namespace Go.Proofs.Ytodahdnooidmaaa.So
open In (isK isK_iff lastOf lookR readsTo writesTo)

/-- Which op writes a value of a key; whether some op does. -/
def isW (key value : Int) (e : Ev.Event) : Bool := isK 2 key e && decide (e.value = value)
def wrote (key value : Int) (ops : List Ev.Event) : Bool := ops.any (isW key value)
theorem isW_iff (key value : Int) (e : Ev.Event) : isW key value e = true ↔ e.kind = 2 ∧ e.key = key ∧ e.value = value := by
  rw [isW, Bool.and_eq_true, isK_iff, decide_eq_true_eq, and_assoc]
/-- Whether a transaction may be looked at. -/
def mayT (t : Gr.Tx) : Bool := t.ops.all (fun e => Ev.right e && Ev.hasKey e.kind) && decide (0 ≤ t.session ∧ t.session < 8)
/-- What is wrong with a write, behind others; and with a row of ops. -/
def opBad (ahead : List Ev.Event) (e : Ev.Event) : Int := if e.kind ≠ 2 then 0 else if e.value = 0 then 7 else if wrote e.key e.value ahead = true then 8 else 0
def unlikeR (ahead : List Ev.Event) : List Ev.Event → Int
  | [] => 0
  | e :: r => if opBad ahead e ≠ 0 then opBad ahead e else unlikeR (ahead ++ [e]) r
/-- Whose a value is, n committed ones being ahead. -/
def fromGo (key value : Int) (n : Nat) : List Gr.Tx → Int × Int
  | [] => (0, 12)
  | t :: r => if wrote key value t.ops = true then (if t.done = false then (0, 13) else if lastOf 2 key t.ops ≠ some value then (0, 14) else ((n : Int), 0)) else fromGo key value (if t.done = true then n + 1 else n) r
def fromR (l : List Gr.Tx) (y : Int × Int) : Int × Int := if y.2 = 0 then (-1, 0) else fromGo y.1 y.2 0 l
/-- The first error of some reads. -/
def readsErr (l : List Gr.Tx) : List (Int × Int) → Int
  | [] => 0
  | y :: r => if (fromR l y).2 ≠ 0 then (fromR l y).2 else readsErr l r
structure Txn where
  session : Int
  writes : List Int
  reads : List (Int × Int)
def txnOf (l : List Gr.Tx) (t : Gr.Tx) : Txn := ⟨t.session, (writesTo t.ops 16).map (·.1), (readsTo t.ops 16).map fun y => (y.1, (fromR l y).1)⟩
/-- The four kinds of errors, by transactions. -/
def phaseT (l : List Gr.Tx) (p i : Nat) (t : Gr.Tx) : Int :=
  if p = 0 then (if mayT t = true then 0 else 1)
  else if p = 1 then unlikeR ((l.take i).flatMap (·.ops)) t.ops
  else if p = 2 then (if t.done = true then (lookR t.ops).2.2 else 0)
  else (if t.done = true then readsErr l (readsTo t.ops 16) else 0)
def phase (l : List Gr.Tx) (p i : Nat) : Int := match l[i]? with
  | some t => phaseT l p i t
  | none => 0
theorem phase_at (l : List Gr.Tx) (p i : Nat) (hi : i < l.length) : phase l p i = phaseT l p i l[i] := by rw [phase, List.getElem?_eq_getElem hi]
theorem phase_out (l : List Gr.Tx) (p i : Nat) (hi : l.length ≤ i) : phase l p i = 0 := by rw [phase, List.getElem?_eq_none hi]
def firstNZ (f : Nat → Int) (n : Nat) : Option Nat := (List.range n).find? fun i => decide (f i ≠ 0)
theorem nz_none {f : Nat → Int} {n : Nat} (h : ∀ i, i < n → f i = 0) : firstNZ f n = none := by
  rw [firstNZ, List.find?_eq_none]
  intro i hi
  simp [h i (List.mem_range.1 hi)]
theorem nz_some {f : Nat → Int} {n i : Nat} (hi : i < n) (h : ∀ j, j < i → f j = 0) (hq : f i ≠ 0) : firstNZ f n = some i := by
  rw [firstNZ, List.find?_range_eq_some]
  refine ⟨by simpa using hq, by simpa using hi, fun j hj => ?_⟩
  simp [h j hj]
theorem nz_cases (f : Nat → Int) (n : Nat) : (∀ i, i < n → f i = 0) ∨ ∃ i, i < n ∧ f i ≠ 0 ∧ ∀ j, j < i → f j = 0 := by
  induction n with
  | zero => exact .inl fun i hi => absurd hi (by omega)
  | succ n ih =>
    rcases ih with h | ⟨i, h1, h2, h3⟩
    · by_cases hq : f n = 0
      · refine .inl fun i hi => ?_
        by_cases e : i = n
        · rw [e]; exact hq
        · exact h i (by omega)
      · exact .inr ⟨n, by omega, hq, fun j hj => h j hj⟩
    · exact .inr ⟨i, by omega, h2, h3⟩
def txns (l : List Gr.Tx) : List Txn := (l.filter (·.done)).map (txnOf l)
/-- P7.1, P7.2. -/
def histR (l : List Gr.Tx) : List Txn × Int × Int :=
  if 32 < l.length then ([], 0, 4)
  else match firstNZ (phase l 0) l.length with
    | some i => ([], (i : Int), phase l 0 i)
    | none => match firstNZ (phase l 1) l.length with
      | some i => ([], (i : Int), phase l 1 i)
      | none => match firstNZ (phase l 2) l.length with
        | some i => ([], (i : Int), phase l 2 i)
        | none => match firstNZ (phase l 3) l.length with
          | some i => ([], (i : Int), phase l 3 i)
          | none => (txns l, 0, 0)
def Clean (l : List Gr.Tx) (p : Nat) : Prop := ∀ i, i < l.length → phase l p i = 0
theorem hist_many (l : List Gr.Tx) (h : 32 < l.length) : histR l = ([], 0, 4) := by rw [histR, if_pos h]
theorem hist_bad (l : List Gr.Tx) (hl : l.length ≤ 32) (p i : Nat) (hp : p < 4) (hi : i < l.length) (hb : ∀ q, q < p → Clean l q) (h0 : ∀ j, j < i → phase l p j = 0) (hq : phase l p i ≠ 0) : histR l = ([], (i : Int), phase l p i) := by
  rw [histR, if_neg (by omega)]
  have hs := nz_some hi h0 hq
  obtain rfl | rfl | rfl | rfl : p = 0 ∨ p = 1 ∨ p = 2 ∨ p = 3 := by omega
  · rw [hs]
  · rw [nz_none (hb 0 (by omega)), hs]
  · rw [nz_none (hb 0 (by omega)), nz_none (hb 1 (by omega)), hs]
  · rw [nz_none (hb 0 (by omega)), nz_none (hb 1 (by omega)), nz_none (hb 2 (by omega)), hs]
theorem hist_ok (l : List Gr.Tx) (hl : l.length ≤ 32) (h : ∀ p, p < 4 → Clean l p) : histR l = (txns l, 0, 0) := by
  rw [histR, if_neg (by omega), nz_none (h 0 (by omega)), nz_none (h 1 (by omega)), nz_none (h 2 (by omega)), nz_none (h 3 (by omega))]
/-- What a history comes to: too many, right, or a first error. -/
theorem hist_cases (l : List Gr.Tx) : 32 < l.length ∨ l.length ≤ 32 ∧ ((∀ p, p < 4 → Clean l p) ∨ ∃ p i, p < 4 ∧ i < l.length ∧ (∀ q, q < p → Clean l q) ∧ (∀ j, j < i → phase l p j = 0) ∧ phase l p i ≠ 0) := by
  rcases Nat.lt_or_ge 32 l.length with h | h
  · exact .inl h
  refine .inr ⟨h, ?_⟩
  have key : ∀ n, n ≤ 4 → (∀ p, p < n → Clean l p) ∨ ∃ p i, p < n ∧ i < l.length ∧ (∀ q, q < p → Clean l q) ∧ (∀ j, j < i → phase l p j = 0) ∧ phase l p i ≠ 0 := by
    intro n
    induction n with
    | zero => exact fun _ => .inl fun p hp => absurd hp (by omega)
    | succ n ih =>
      intro hn
      rcases ih (by omega) with h1 | ⟨p, i, h1, h2⟩
      · rcases nz_cases (phase l n) l.length with h2 | ⟨i, h2, h3, h4⟩
        · refine .inl fun p hp => ?_
          by_cases e : p = n
          · rw [e]; exact h2
          · exact h1 p (by omega)
        · exact .inr ⟨n, i, by omega, h2, h1, h4, h3⟩
      · exact .inr ⟨p, i, by omega, h2⟩
  exact key 4 (Nat.le_refl _)

/-! Writes, all of them. -/
theorem unlike_append (a b c : List Ev.Event) : unlikeR a (b ++ c) = 0 ↔ unlikeR a b = 0 ∧ unlikeR (a ++ b) c = 0 := by
  induction b generalizing a with
  | nil => simp [unlikeR]
  | cons e b ih =>
    rw [List.cons_append, unlikeR, unlikeR]
    by_cases h : opBad a e ≠ 0
    · rw [if_pos h, if_pos h]
      exact ⟨fun h' => absurd h' h, fun h' => absurd h'.1 h⟩
    · rw [if_neg h, if_neg h, ih]
      simp
theorem clean_unlike (l : List Gr.Tx) : Clean l 1 ↔ unlikeR [] (l.flatMap (·.ops)) = 0 := by
  have key : ∀ n, n ≤ l.length → ((∀ i, i < n → phase l 1 i = 0) ↔ unlikeR [] ((l.take n).flatMap (·.ops)) = 0) := by
    intro n
    induction n with
    | zero => exact fun _ => ⟨fun _ => rfl, fun _ i hi => absurd hi (by omega)⟩
    | succ n ih =>
      intro hn
      have hn' : n < l.length := by omega
      rw [List.take_succ_eq_append_getElem hn', List.flatMap_append, unlike_append, ← ih (by omega)]
      have e : phase l 1 n = unlikeR ([] ++ (l.take n).flatMap (·.ops)) ([l[n]].flatMap (·.ops)) := by
        rw [phase_at l 1 n hn']
        simp [phaseT]
      rw [← e]
      constructor
      · exact fun h => ⟨fun i hi => h i (by omega), h n (by omega)⟩
      · intro h i hi
        by_cases e : i = n
        · rw [e]; exact h.2
        · exact h.1 i (by omega)
  have := key l.length (Nat.le_refl _)
  rw [List.take_length] at this
  exact this
theorem wrote_sub {key value : Int} {a b : List Ev.Event} (h : a ⊆ b) (hb : wrote key value b = false) : wrote key value a = false := by
  rw [wrote, List.any_eq_false] at hb ⊢
  exact fun x hx => hb x (h hx)
theorem opBad_sub {a b : List Ev.Event} (h : a ⊆ b) (e : Ev.Event) (hb : opBad b e = 0) : opBad a e = 0 := by
  unfold opBad at hb ⊢
  split
  · rfl
  · rename_i h1
    rw [if_neg h1] at hb
    split
    · rename_i h2
      rw [if_pos h2] at hb
      cases hb
    · rename_i h2
      rw [if_neg h2] at hb
      cases h3 : wrote e.key e.value b with
      | true => rw [h3, if_pos rfl] at hb; cases hb
      | false => rw [wrote_sub h h3]; rfl
theorem unlike_sub {b' b : List Ev.Event} (h : b'.Sublist b) : ∀ {a' a : List Ev.Event}, a' ⊆ a → unlikeR a b = 0 → unlikeR a' b' = 0 := by
  induction h with
  | slnil => exact fun _ _ => rfl
  | cons e _ ih =>
    intro a' a ha hu
    rw [unlikeR] at hu
    by_cases hq : opBad a e ≠ 0
    · rw [if_pos hq] at hu; exact absurd hu hq
    · rw [if_neg hq] at hu
      exact ih (fun x hx => List.mem_append_left _ (ha hx)) hu
  | cons_cons e _ ih =>
    intro a' a ha hu
    rw [unlikeR] at hu ⊢
    by_cases hq : opBad a e ≠ 0
    · rw [if_pos hq] at hu; exact absurd hu hq
    · rw [if_neg hq] at hu
      have h0 : opBad a e = 0 := Decidable.byContradiction hq
      rw [if_neg (by rw [opBad_sub ha e h0]; simp)]
      refine ih (fun x hx => ?_) hu
      rcases List.mem_append.1 hx with hx | hx
      · exact List.mem_append_left _ (ha hx)
      · exact List.mem_append_right _ hx

/-! Reads. -/
theorem readsErr_zero (l : List Gr.Tx) (ys : List (Int × Int)) : readsErr l ys = 0 ↔ ∀ y ∈ ys, (fromR l y).2 = 0 := by
  induction ys with
  | nil => simp [readsErr]
  | cons y r ih =>
    rw [readsErr]
    by_cases h : (fromR l y).2 ≠ 0
    · rw [if_pos h]
      exact ⟨fun h' => absurd h' h, fun h' => absurd (h' y (by simp)) h⟩
    · rw [if_neg h, ih]
      have h0 : (fromR l y).2 = 0 := Decidable.byContradiction h
      exact ⟨fun h' z hz => by
        rcases List.mem_cons.1 hz with rfl | hz
        · exact h0
        · exact h' z hz, fun h' z hz => h' z (List.mem_cons_of_mem _ hz)⟩
theorem readsErr_congr (l m : List Gr.Tx) (ys : List (Int × Int)) (h : ∀ y ∈ ys, fromR m y = fromR l y) : readsErr m ys = readsErr l ys := by
  induction ys with
  | nil => rfl
  | cons y r ih => rw [readsErr, readsErr, h y (by simp), ih (fun z hz => h z (List.mem_cons_of_mem _ hz))]

/-! Without those that were given up. -/
theorem fromGo_left (key value : Int) (l : List Gr.Tx) : ∀ n, (fromGo key value n l).2 = 0 → fromGo key value n (l.filter (·.done)) = fromGo key value n l := by
  induction l with
  | nil => exact fun _ _ => rfl
  | cons t r ih =>
    intro n h
    cases hd : t.done with
    | true =>
      rw [List.filter_cons_of_pos (by simpa using hd), fromGo, fromGo]
      split
      · rfl
      · rename_i hw
        rw [fromGo, if_neg hw] at h
        simp only [hd, if_true] at h ⊢
        exact ih _ h
    | false =>
      rw [List.filter_cons_of_neg (by simp [hd])]
      rw [fromGo] at h ⊢
      by_cases hw : wrote key value t.ops = true
      · rw [if_pos hw, if_pos hd] at h
        cases h
      · rw [if_neg hw, hd, if_neg (by simp)] at h ⊢
        exact ih _ h
theorem fromGo_more (key value : Int) (l m : List Gr.Tx) : ∀ n, (fromGo key value n l).2 = 0 → fromGo key value n (l ++ m) = fromGo key value n l := by
  induction l with
  | nil => exact fun _ h => by cases h
  | cons t r ih =>
    intro n h
    rw [List.cons_append, fromGo, fromGo]
    split
    · rfl
    · rename_i hw
      rw [fromGo, if_neg hw] at h
      exact ih _ h
theorem fromR_left (l : List Gr.Tx) (y : Int × Int) (h : (fromR l y).2 = 0) : fromR (l.filter (·.done)) y = fromR l y := by
  unfold fromR at h ⊢
  split
  · rfl
  · rename_i h0
    rw [if_neg h0] at h
    exact fromGo_left _ _ l 0 h
theorem fromR_more (l m : List Gr.Tx) (y : Int × Int) (h : (fromR l y).2 = 0) : fromR (l ++ m) y = fromR l y := by
  unfold fromR at h ⊢
  split
  · rfl
  · rename_i h0
    rw [if_neg h0] at h
    exact fromGo_more _ _ l m 0 h
/-- By members: the kinds of errors but the second. -/
theorem clean_may (l : List Gr.Tx) : Clean l 0 ↔ ∀ t ∈ l, mayT t = true := by
  constructor
  · intro h t ht
    obtain ⟨i, hi, rfl⟩ := List.getElem_of_mem ht
    have h1 := h i hi
    rw [phase_at l 0 i hi] at h1
    simp only [phaseT, if_true] at h1
    cases h2 : mayT l[i] with
    | true => rfl
    | false => rw [h2, if_neg (by simp)] at h1; cases h1
  · intro h i hi
    rw [phase_at l 0 i hi]
    simp [phaseT, h _ (List.getElem_mem hi)]
theorem clean_look (l : List Gr.Tx) : Clean l 2 ↔ ∀ t ∈ l, t.done = true → (lookR t.ops).2.2 = 0 := by
  constructor
  · intro h t ht hd
    obtain ⟨i, hi, rfl⟩ := List.getElem_of_mem ht
    have h1 := h i hi
    rw [phase_at l 2 i hi] at h1
    simpa [phaseT, hd] using h1
  · intro h i hi
    rw [phase_at l 2 i hi]
    simp only [phaseT, show ¬ 2 = 0 by omega, show ¬ 2 = 1 by omega, if_false, if_true]
    split
    · rename_i hd
      exact h _ (List.getElem_mem hi) hd
    · rfl
theorem clean_reads (l : List Gr.Tx) : Clean l 3 ↔ ∀ t ∈ l, t.done = true → ∀ y ∈ readsTo t.ops 16, (fromR l y).2 = 0 := by
  constructor
  · intro h t ht hd
    obtain ⟨i, hi, rfl⟩ := List.getElem_of_mem ht
    have h1 := h i hi
    rw [phase_at l 3 i hi] at h1
    rw [← readsErr_zero]
    simpa [phaseT, hd] using h1
  · intro h i hi
    rw [phase_at l 3 i hi]
    simp only [phaseT, show ¬ 3 = 0 by omega, show ¬ 3 = 1 by omega, show ¬ 3 = 2 by omega, if_false]
    split
    · rename_i hd
      exact (readsErr_zero _ _).2 (h _ (List.getElem_mem hi) hd)
    · rfl
theorem txnOf_congr (l m : List Gr.Tx) (t : Gr.Tx) (h : ∀ y ∈ readsTo t.ops 16, fromR m y = fromR l y) : txnOf m t = txnOf l t := by
  unfold txnOf
  congr 1
  exact List.map_congr_left fun y hy => by rw [h y hy]
theorem flat_sub (l : List Gr.Tx) : ((l.filter (·.done)).flatMap (·.ops)).Sublist (l.flatMap (·.ops)) := by
  induction l with
  | nil => exact List.Sublist.slnil
  | cons t r ih =>
    cases hd : t.done with
    | true =>
      rw [List.filter_cons_of_pos (by simpa using hd), List.flatMap_cons, List.flatMap_cons]
      exact (List.Sublist.refl _).append ih
    | false =>
      rw [List.filter_cons_of_neg (by simp [hd]), List.flatMap_cons]
      exact ih.trans (List.sublist_append_right _ _)
/-- P7.3: without those that were given up a history is the same. -/
theorem hist_left (l : List Gr.Tx) (hl : l.length ≤ 32) (h : ∀ p, p < 4 → Clean l p) : (∀ p, p < 4 → Clean (l.filter (·.done)) p) ∧ (l.filter (·.done)).length ≤ 32 ∧ histR (l.filter (·.done)) = (txns l, 0, 0) := by
  have h0 := (clean_may l).1 (h 0 (by omega))
  have h1 := (clean_unlike l).1 (h 1 (by omega))
  have h2 := (clean_look l).1 (h 2 (by omega))
  have h3 := (clean_reads l).1 (h 3 (by omega))
  have sub : ∀ t, t ∈ l.filter (·.done) → t ∈ l ∧ t.done = true := fun t ht => by simpa using List.mem_filter.1 ht
  have c : ∀ p, p < 4 → Clean (l.filter (·.done)) p := by
    intro p hp
    obtain rfl | rfl | rfl | rfl : p = 0 ∨ p = 1 ∨ p = 2 ∨ p = 3 := by omega
    · exact (clean_may _).2 fun t ht => h0 t (sub t ht).1
    · exact (clean_unlike _).2 (unlike_sub (flat_sub l) (fun _ hx => hx) h1)
    · exact (clean_look _).2 fun t ht hd => h2 t (sub t ht).1 hd
    · refine (clean_reads _).2 fun t ht hd y hy => ?_
      rw [fromR_left l y (h3 t (sub t ht).1 hd y hy)]
      exact h3 t (sub t ht).1 hd y hy
  have hlen : (l.filter (·.done)).length ≤ 32 := Nat.le_trans (List.length_filter_le _ _) hl
  refine ⟨c, hlen, ?_⟩
  rw [hist_ok _ hlen c, txns, txns, List.filter_filter]
  simp only [Bool.and_self]
  rw [List.map_congr_left fun t ht => txnOf_congr l _ t fun y hy => fromR_left l y (h3 t (sub t ht).1 (sub t ht).2 y hy)]
/-- One more that is given up, and writes what nobody else does. -/
theorem hist_more (l : List Gr.Tx) (hl : l.length < 32) (h : ∀ p, p < 4 → Clean l p) (t : Gr.Tx) (ht : mayT t = true) (hd : t.done = false) (hu : unlikeR (l.flatMap (·.ops)) t.ops = 0) : histR (l ++ [t]) = (txns l, 0, 0) := by
  have h0 := (clean_may l).1 (h 0 (by omega))
  have h1 := (clean_unlike l).1 (h 1 (by omega))
  have h2 := (clean_look l).1 (h 2 (by omega))
  have h3 := (clean_reads l).1 (h 3 (by omega))
  have mem : ∀ x, x ∈ l ++ [t] → x.done = true → x ∈ l := fun x hx hxd => by
    rcases List.mem_append.1 hx with hx | hx
    · exact hx
    · rw [List.mem_singleton.1 hx, hd] at hxd
      cases hxd
  have c : ∀ p, p < 4 → Clean (l ++ [t]) p := by
    intro p hp
    obtain rfl | rfl | rfl | rfl : p = 0 ∨ p = 1 ∨ p = 2 ∨ p = 3 := by omega
    · refine (clean_may _).2 fun x hx => ?_
      rcases List.mem_append.1 hx with hx | hx
      · exact h0 x hx
      · rw [List.mem_singleton.1 hx]; exact ht
    · refine (clean_unlike _).2 ?_
      rw [List.flatMap_append, unlike_append]
      exact ⟨h1, by simpa using hu⟩
    · exact (clean_look _).2 fun x hx hxd => h2 x (mem x hx hxd) hxd
    · refine (clean_reads _).2 fun x hx hxd y hy => ?_
      rw [fromR_more l [t] y (h3 x (mem x hx hxd) hxd y hy)]
      exact h3 x (mem x hx hxd) hxd y hy
  rw [hist_ok _ (by simp; omega) c, txns, txns, List.filter_append, List.filter_cons_of_neg (by simp [hd]), List.filter_nil, List.append_nil]
  rw [List.map_congr_left fun x hx => txnOf_congr l _ x fun y hy => fromR_more l [t] y (h3 x (List.mem_filter.1 hx).1 (by simpa using (List.mem_filter.1 hx).2) y hy)]
theorem unlike_fresh (a : List Ev.Event) (key v : Int) (hv : v ≠ 0) (h : ∀ e ∈ a, e.value ≠ v) : unlikeR a [⟨2, 0, key, v⟩] = 0 := by
  have : wrote key v a = false := by
    rw [wrote, List.any_eq_false]
    intro e he h'
    exact h e he ((isW_iff _ _ _).1 h').2.2
  rw [unlikeR, unlikeR, opBad]
  simp [hv, this]
end Go.Proofs.Ytodahdnooidmaaa.So
