/-
  Several texts in one, each with its own first words: SoPlain, SoRight, SoRefP, HiMem, SoMem, SoWalkA, SoWalkB, SoWalkC, SoWalkD, SoWalkE.
  Conditions: as each says.
-/
import Derived.Test.YtfjamdpgbbnmcaaGreatDoorGrAll
import Derived.Test.YtfjamdpgbbnmcaaGreatDoorInAll
import Derived.DeepKeys4
/-
  Plain facts on whose a value is that is read (no Go in it): the history of transactions, or which one is wrong, and how; values are names alone; those that were given up play no part.
  Conditions: none beyond those that each theorem states.
-/
set_option maxRecDepth 4000
namespace Go.Proofs.YtfjamdpgbbnmcaaGreatDoor.So
open In (isK isK_iff lastOf lookR readsTo writesTo)

/-- Which op writes a value of a key; whether some op does. -/
def isW (key value : Int) (e : Ev.Event) : Bool := isK 2 key e && decide (e.value = value)
def wrote (key value : Int) (ops : List Ev.Event) : Bool := ops.any (isW key value)
theorem isW_iff (key value : Int) (e : Ev.Event) : isW key value e = true ↔ e.kind = 2 ∧ e.key = key ∧ e.value = value := by
  rw [isW, Bool.and_eq_true, isK_iff, decide_eq_true_eq, and_assoc]
/-- Whether a transaction may be looked at. -/
def mayT (t : Gr.Tx) : Bool := t.ops.all (fun e => Ev.right e && Ev.hasKey e.kind) && decide (0 ≤ t.session ∧ t.session < 8)
/-- What is wrong with a write, behind others; and with a row of ops. -/
def opBad (ahead : List Ev.Event) (e : Ev.Event) : Int := if e.kind ≠ 2 then 0 else if e.value = 0 then 7 else if wrote e.key e.value ahead = true then 8 else 0
def unlikeR (ahead : List Ev.Event) : List Ev.Event → Int
  | [] => 0
  | e :: r => if opBad ahead e ≠ 0 then opBad ahead e else unlikeR (ahead ++ [e]) r
/-- Whose a value is, n committed ones being ahead. -/
def fromGo (key value : Int) (n : Nat) : List Gr.Tx → Int × Int
  | [] => (0, 12)
  | t :: r => if wrote key value t.ops = true then (if t.done = false then (0, 13) else if lastOf 2 key t.ops ≠ some value then (0, 14) else ((n : Int), 0)) else fromGo key value (if t.done = true then n + 1 else n) r
def fromR (l : List Gr.Tx) (y : Int × Int) : Int × Int := if y.2 = 0 then (-1, 0) else fromGo y.1 y.2 0 l
/-- The first error of some reads. -/
def readsErr (l : List Gr.Tx) : List (Int × Int) → Int
  | [] => 0
  | y :: r => if (fromR l y).2 ≠ 0 then (fromR l y).2 else readsErr l r
structure Txn where
  session : Int
  writes : List Int
  reads : List (Int × Int)
def txnOf (l : List Gr.Tx) (t : Gr.Tx) : Txn := ⟨t.session, (writesTo t.ops 16).map (·.1), (readsTo t.ops 16).map fun y => (y.1, (fromR l y).1)⟩
/-- The four kinds of errors, by transactions. -/
def phaseT (l : List Gr.Tx) (p i : Nat) (t : Gr.Tx) : Int :=
  if p = 0 then (if mayT t = true then 0 else 1)
  else if p = 1 then unlikeR ((l.take i).flatMap (·.ops)) t.ops
  else if p = 2 then (if t.done = true then (lookR t.ops).2.2 else 0)
  else (if t.done = true then readsErr l (readsTo t.ops 16) else 0)
def phase (l : List Gr.Tx) (p i : Nat) : Int := match l[i]? with
  | some t => phaseT l p i t
  | none => 0
theorem phase_at (l : List Gr.Tx) (p i : Nat) (hi : i < l.length) : phase l p i = phaseT l p i l[i] := by rw [phase, List.getElem?_eq_getElem hi]
theorem phase_out (l : List Gr.Tx) (p i : Nat) (hi : l.length ≤ i) : phase l p i = 0 := by rw [phase, List.getElem?_eq_none hi]
def firstNZ (f : Nat → Int) (n : Nat) : Option Nat := (List.range n).find? fun i => decide (f i ≠ 0)
theorem nz_none {f : Nat → Int} {n : Nat} (h : ∀ i, i < n → f i = 0) : firstNZ f n = none := by
  rw [firstNZ, List.find?_eq_none]
  intro i hi
  simp [h i (List.mem_range.1 hi)]
theorem nz_some {f : Nat → Int} {n i : Nat} (hi : i < n) (h : ∀ j, j < i → f j = 0) (hq : f i ≠ 0) : firstNZ f n = some i := by
  rw [firstNZ, List.find?_range_eq_some]
  refine ⟨by simpa using hq, by simpa using hi, fun j hj => ?_⟩
  simp [h j hj]
theorem nz_cases (f : Nat → Int) (n : Nat) : (∀ i, i < n → f i = 0) ∨ ∃ i, i < n ∧ f i ≠ 0 ∧ ∀ j, j < i → f j = 0 := by
  induction n with
  | zero => exact .inl fun i hi => absurd hi (by omega)
  | succ n ih =>
    rcases ih with h | ⟨i, h1, h2, h3⟩
    · by_cases hq : f n = 0
      · refine .inl fun i hi => ?_
        by_cases e : i = n
        · rw [e]; exact hq
        · exact h i (by omega)
      · exact .inr ⟨n, by omega, hq, fun j hj => h j hj⟩
    · exact .inr ⟨i, by omega, h2, h3⟩
def txns (l : List Gr.Tx) : List Txn := (l.filter (·.done)).map (txnOf l)
/-- P7.1, P7.2. -/
def histR (l : List Gr.Tx) : List Txn × Int × Int :=
  if 32 < l.length then ([], 0, 4)
  else match firstNZ (phase l 0) l.length with
    | some i => ([], (i : Int), phase l 0 i)
    | none => match firstNZ (phase l 1) l.length with
      | some i => ([], (i : Int), phase l 1 i)
      | none => match firstNZ (phase l 2) l.length with
        | some i => ([], (i : Int), phase l 2 i)
        | none => match firstNZ (phase l 3) l.length with
          | some i => ([], (i : Int), phase l 3 i)
          | none => (txns l, 0, 0)
def Clean (l : List Gr.Tx) (p : Nat) : Prop := ∀ i, i < l.length → phase l p i = 0
theorem hist_many (l : List Gr.Tx) (h : 32 < l.length) : histR l = ([], 0, 4) := by rw [histR, if_pos h]
theorem hist_bad (l : List Gr.Tx) (hl : l.length ≤ 32) (p i : Nat) (hp : p < 4) (hi : i < l.length) (hb : ∀ q, q < p → Clean l q) (h0 : ∀ j, j < i → phase l p j = 0) (hq : phase l p i ≠ 0) : histR l = ([], (i : Int), phase l p i) := by
  rw [histR, if_neg (by omega)]
  have hs := nz_some hi h0 hq
  obtain rfl | rfl | rfl | rfl : p = 0 ∨ p = 1 ∨ p = 2 ∨ p = 3 := by omega
  · rw [hs]
  · rw [nz_none (hb 0 (by omega)), hs]
  · rw [nz_none (hb 0 (by omega)), nz_none (hb 1 (by omega)), hs]
  · rw [nz_none (hb 0 (by omega)), nz_none (hb 1 (by omega)), nz_none (hb 2 (by omega)), hs]
theorem hist_ok (l : List Gr.Tx) (hl : l.length ≤ 32) (h : ∀ p, p < 4 → Clean l p) : histR l = (txns l, 0, 0) := by
  rw [histR, if_neg (by omega), nz_none (h 0 (by omega)), nz_none (h 1 (by omega)), nz_none (h 2 (by omega)), nz_none (h 3 (by omega))]
/-- What a history comes to: too many, right, or a first error. -/
theorem hist_cases (l : List Gr.Tx) : 32 < l.length ∨ l.length ≤ 32 ∧ ((∀ p, p < 4 → Clean l p) ∨ ∃ p i, p < 4 ∧ i < l.length ∧ (∀ q, q < p → Clean l q) ∧ (∀ j, j < i → phase l p j = 0) ∧ phase l p i ≠ 0) := by
  rcases Nat.lt_or_ge 32 l.length with h | h
  · exact .inl h
  refine .inr ⟨h, ?_⟩
  have key : ∀ n, n ≤ 4 → (∀ p, p < n → Clean l p) ∨ ∃ p i, p < n ∧ i < l.length ∧ (∀ q, q < p → Clean l q) ∧ (∀ j, j < i → phase l p j = 0) ∧ phase l p i ≠ 0 := by
    intro n
    induction n with
    | zero => exact fun _ => .inl fun p hp => absurd hp (by omega)
    | succ n ih =>
      intro hn
      rcases ih (by omega) with h1 | ⟨p, i, h1, h2⟩
      · rcases nz_cases (phase l n) l.length with h2 | ⟨i, h2, h3, h4⟩
        · refine .inl fun p hp => ?_
          by_cases e : p = n
          · rw [e]; exact h2
          · exact h1 p (by omega)
        · exact .inr ⟨n, i, by omega, h2, h1, h4, h3⟩
      · exact .inr ⟨p, i, by omega, h2⟩
  exact key 4 (Nat.le_refl _)

/-! Writes, all of them. -/
theorem unlike_append (a b c : List Ev.Event) : unlikeR a (b ++ c) = 0 ↔ unlikeR a b = 0 ∧ unlikeR (a ++ b) c = 0 := by
  induction b generalizing a with
  | nil => simp [unlikeR]
  | cons e b ih =>
    rw [List.cons_append, unlikeR, unlikeR]
    by_cases h : opBad a e ≠ 0
    · rw [if_pos h, if_pos h]
      exact ⟨fun h' => absurd h' h, fun h' => absurd h'.1 h⟩
    · rw [if_neg h, if_neg h, ih]
      simp
theorem clean_unlike (l : List Gr.Tx) : Clean l 1 ↔ unlikeR [] (l.flatMap (·.ops)) = 0 := by
  have key : ∀ n, n ≤ l.length → ((∀ i, i < n → phase l 1 i = 0) ↔ unlikeR [] ((l.take n).flatMap (·.ops)) = 0) := by
    intro n
    induction n with
    | zero => exact fun _ => ⟨fun _ => rfl, fun _ i hi => absurd hi (by omega)⟩
    | succ n ih =>
      intro hn
      have hn' : n < l.length := by omega
      rw [List.take_succ_eq_append_getElem hn', List.flatMap_append, unlike_append, ← ih (by omega)]
      have e : phase l 1 n = unlikeR ([] ++ (l.take n).flatMap (·.ops)) ([l[n]].flatMap (·.ops)) := by
        rw [phase_at l 1 n hn']
        simp [phaseT]
      rw [← e]
      constructor
      · exact fun h => ⟨fun i hi => h i (by omega), h n (by omega)⟩
      · intro h i hi
        by_cases e : i = n
        · rw [e]; exact h.2
        · exact h.1 i (by omega)
  have := key l.length (Nat.le_refl _)
  rw [List.take_length] at this
  exact this
theorem wrote_sub {key value : Int} {a b : List Ev.Event} (h : a ⊆ b) (hb : wrote key value b = false) : wrote key value a = false := by
  rw [wrote, List.any_eq_false] at hb ⊢
  exact fun x hx => hb x (h hx)
theorem opBad_sub {a b : List Ev.Event} (h : a ⊆ b) (e : Ev.Event) (hb : opBad b e = 0) : opBad a e = 0 := by
  unfold opBad at hb ⊢
  split
  · rfl
  · rename_i h1
    rw [if_neg h1] at hb
    split
    · rename_i h2
      rw [if_pos h2] at hb
      cases hb
    · rename_i h2
      rw [if_neg h2] at hb
      cases h3 : wrote e.key e.value b with
      | true => rw [h3, if_pos rfl] at hb; cases hb
      | false => rw [wrote_sub h h3]; rfl
theorem unlike_sub {b' b : List Ev.Event} (h : b'.Sublist b) : ∀ {a' a : List Ev.Event}, a' ⊆ a → unlikeR a b = 0 → unlikeR a' b' = 0 := by
  induction h with
  | slnil => exact fun _ _ => rfl
  | cons e _ ih =>
    intro a' a ha hu
    rw [unlikeR] at hu
    by_cases hq : opBad a e ≠ 0
    · rw [if_pos hq] at hu; exact absurd hu hq
    · rw [if_neg hq] at hu
      exact ih (fun x hx => List.mem_append_left _ (ha hx)) hu
  | cons_cons e _ ih =>
    intro a' a ha hu
    rw [unlikeR] at hu ⊢
    by_cases hq : opBad a e ≠ 0
    · rw [if_pos hq] at hu; exact absurd hu hq
    · rw [if_neg hq] at hu
      have h0 : opBad a e = 0 := Decidable.byContradiction hq
      rw [if_neg (by rw [opBad_sub ha e h0]; simp)]
      refine ih (fun x hx => ?_) hu
      rcases List.mem_append.1 hx with hx | hx
      · exact List.mem_append_left _ (ha hx)
      · exact List.mem_append_right _ hx

/-! Reads. -/
theorem readsErr_zero (l : List Gr.Tx) (ys : List (Int × Int)) : readsErr l ys = 0 ↔ ∀ y ∈ ys, (fromR l y).2 = 0 := by
  induction ys with
  | nil => simp [readsErr]
  | cons y r ih =>
    rw [readsErr]
    by_cases h : (fromR l y).2 ≠ 0
    · rw [if_pos h]
      exact ⟨fun h' => absurd h' h, fun h' => absurd (h' y (by simp)) h⟩
    · rw [if_neg h, ih]
      have h0 : (fromR l y).2 = 0 := Decidable.byContradiction h
      exact ⟨fun h' z hz => by
        rcases List.mem_cons.1 hz with rfl | hz
        · exact h0
        · exact h' z hz, fun h' z hz => h' z (List.mem_cons_of_mem _ hz)⟩
theorem readsErr_congr (l m : List Gr.Tx) (ys : List (Int × Int)) (h : ∀ y ∈ ys, fromR m y = fromR l y) : readsErr m ys = readsErr l ys := by
  induction ys with
  | nil => rfl
  | cons y r ih => rw [readsErr, readsErr, h y (by simp), ih (fun z hz => h z (List.mem_cons_of_mem _ hz))]

/-! Without those that were given up. -/
theorem fromGo_left (key value : Int) (l : List Gr.Tx) : ∀ n, (fromGo key value n l).2 = 0 → fromGo key value n (l.filter (·.done)) = fromGo key value n l := by
  induction l with
  | nil => exact fun _ _ => rfl
  | cons t r ih =>
    intro n h
    cases hd : t.done with
    | true =>
      rw [List.filter_cons_of_pos (by simpa using hd), fromGo, fromGo]
      split
      · rfl
      · rename_i hw
        rw [fromGo, if_neg hw] at h
        simp only [hd, if_true] at h ⊢
        exact ih _ h
    | false =>
      rw [List.filter_cons_of_neg (by simp [hd])]
      rw [fromGo] at h ⊢
      by_cases hw : wrote key value t.ops = true
      · rw [if_pos hw, if_pos hd] at h
        cases h
      · rw [if_neg hw, hd, if_neg (by simp)] at h ⊢
        exact ih _ h
theorem fromGo_more (key value : Int) (l m : List Gr.Tx) : ∀ n, (fromGo key value n l).2 = 0 → fromGo key value n (l ++ m) = fromGo key value n l := by
  induction l with
  | nil => exact fun _ h => by cases h
  | cons t r ih =>
    intro n h
    rw [List.cons_append, fromGo, fromGo]
    split
    · rfl
    · rename_i hw
      rw [fromGo, if_neg hw] at h
      exact ih _ h
theorem fromR_left (l : List Gr.Tx) (y : Int × Int) (h : (fromR l y).2 = 0) : fromR (l.filter (·.done)) y = fromR l y := by
  unfold fromR at h ⊢
  split
  · rfl
  · rename_i h0
    rw [if_neg h0] at h
    exact fromGo_left _ _ l 0 h
theorem fromR_more (l m : List Gr.Tx) (y : Int × Int) (h : (fromR l y).2 = 0) : fromR (l ++ m) y = fromR l y := by
  unfold fromR at h ⊢
  split
  · rfl
  · rename_i h0
    rw [if_neg h0] at h
    exact fromGo_more _ _ l m 0 h
/-- By members: the kinds of errors but the second. -/
theorem clean_may (l : List Gr.Tx) : Clean l 0 ↔ ∀ t ∈ l, mayT t = true := by
  constructor
  · intro h t ht
    obtain ⟨i, hi, rfl⟩ := List.getElem_of_mem ht
    have h1 := h i hi
    rw [phase_at l 0 i hi] at h1
    simp only [phaseT, if_true] at h1
    cases h2 : mayT l[i] with
    | true => rfl
    | false => rw [h2, if_neg (by simp)] at h1; cases h1
  · intro h i hi
    rw [phase_at l 0 i hi]
    simp [phaseT, h _ (List.getElem_mem hi)]
theorem clean_look (l : List Gr.Tx) : Clean l 2 ↔ ∀ t ∈ l, t.done = true → (lookR t.ops).2.2 = 0 := by
  constructor
  · intro h t ht hd
    obtain ⟨i, hi, rfl⟩ := List.getElem_of_mem ht
    have h1 := h i hi
    rw [phase_at l 2 i hi] at h1
    simpa [phaseT, hd] using h1
  · intro h i hi
    rw [phase_at l 2 i hi]
    simp only [phaseT, show ¬ 2 = 0 by omega, show ¬ 2 = 1 by omega, if_false, if_true]
    split
    · rename_i hd
      exact h _ (List.getElem_mem hi) hd
    · rfl
theorem clean_reads (l : List Gr.Tx) : Clean l 3 ↔ ∀ t ∈ l, t.done = true → ∀ y ∈ readsTo t.ops 16, (fromR l y).2 = 0 := by
  constructor
  · intro h t ht hd
    obtain ⟨i, hi, rfl⟩ := List.getElem_of_mem ht
    have h1 := h i hi
    rw [phase_at l 3 i hi] at h1
    rw [← readsErr_zero]
    simpa [phaseT, hd] using h1
  · intro h i hi
    rw [phase_at l 3 i hi]
    simp only [phaseT, show ¬ 3 = 0 by omega, show ¬ 3 = 1 by omega, show ¬ 3 = 2 by omega, if_false]
    split
    · rename_i hd
      exact (readsErr_zero _ _).2 (h _ (List.getElem_mem hi) hd)
    · rfl
theorem txnOf_congr (l m : List Gr.Tx) (t : Gr.Tx) (h : ∀ y ∈ readsTo t.ops 16, fromR m y = fromR l y) : txnOf m t = txnOf l t := by
  unfold txnOf
  congr 1
  exact List.map_congr_left fun y hy => by rw [h y hy]
theorem flat_sub (l : List Gr.Tx) : ((l.filter (·.done)).flatMap (·.ops)).Sublist (l.flatMap (·.ops)) := by
  induction l with
  | nil => exact List.Sublist.slnil
  | cons t r ih =>
    cases hd : t.done with
    | true =>
      rw [List.filter_cons_of_pos (by simpa using hd), List.flatMap_cons, List.flatMap_cons]
      exact (List.Sublist.refl _).append ih
    | false =>
      rw [List.filter_cons_of_neg (by simp [hd]), List.flatMap_cons]
      exact ih.trans (List.sublist_append_right _ _)
/-- P7.3: without those that were given up a history is the same. -/
theorem hist_left (l : List Gr.Tx) (hl : l.length ≤ 32) (h : ∀ p, p < 4 → Clean l p) : (∀ p, p < 4 → Clean (l.filter (·.done)) p) ∧ (l.filter (·.done)).length ≤ 32 ∧ histR (l.filter (·.done)) = (txns l, 0, 0) := by
  have h0 := (clean_may l).1 (h 0 (by omega))
  have h1 := (clean_unlike l).1 (h 1 (by omega))
  have h2 := (clean_look l).1 (h 2 (by omega))
  have h3 := (clean_reads l).1 (h 3 (by omega))
  have sub : ∀ t, t ∈ l.filter (·.done) → t ∈ l ∧ t.done = true := fun t ht => by simpa using List.mem_filter.1 ht
  have c : ∀ p, p < 4 → Clean (l.filter (·.done)) p := by
    intro p hp
    obtain rfl | rfl | rfl | rfl : p = 0 ∨ p = 1 ∨ p = 2 ∨ p = 3 := by omega
    · exact (clean_may _).2 fun t ht => h0 t (sub t ht).1
    · exact (clean_unlike _).2 (unlike_sub (flat_sub l) (fun _ hx => hx) h1)
    · exact (clean_look _).2 fun t ht hd => h2 t (sub t ht).1 hd
    · refine (clean_reads _).2 fun t ht hd y hy => ?_
      rw [fromR_left l y (h3 t (sub t ht).1 hd y hy)]
      exact h3 t (sub t ht).1 hd y hy
  have hlen : (l.filter (·.done)).length ≤ 32 := Nat.le_trans (List.length_filter_le _ _) hl
  refine ⟨c, hlen, ?_⟩
  rw [hist_ok _ hlen c, txns, txns, List.filter_filter]
  simp only [Bool.and_self]
  rw [List.map_congr_left fun t ht => txnOf_congr l _ t fun y hy => fromR_left l y (h3 t (sub t ht).1 (sub t ht).2 y hy)]
/-- One more that is given up, and writes what nobody else does. -/
theorem hist_more (l : List Gr.Tx) (hl : l.length < 32) (h : ∀ p, p < 4 → Clean l p) (t : Gr.Tx) (ht : mayT t = true) (hd : t.done = false) (hu : unlikeR (l.flatMap (·.ops)) t.ops = 0) : histR (l ++ [t]) = (txns l, 0, 0) := by
  have h0 := (clean_may l).1 (h 0 (by omega))
  have h1 := (clean_unlike l).1 (h 1 (by omega))
  have h2 := (clean_look l).1 (h 2 (by omega))
  have h3 := (clean_reads l).1 (h 3 (by omega))
  have mem : ∀ x, x ∈ l ++ [t] → x.done = true → x ∈ l := fun x hx hxd => by
    rcases List.mem_append.1 hx with hx | hx
    · exact hx
    · rw [List.mem_singleton.1 hx, hd] at hxd
      cases hxd
  have c : ∀ p, p < 4 → Clean (l ++ [t]) p := by
    intro p hp
    obtain rfl | rfl | rfl | rfl : p = 0 ∨ p = 1 ∨ p = 2 ∨ p = 3 := by omega
    · refine (clean_may _).2 fun x hx => ?_
      rcases List.mem_append.1 hx with hx | hx
      · exact h0 x hx
      · rw [List.mem_singleton.1 hx]; exact ht
    · refine (clean_unlike _).2 ?_
      rw [List.flatMap_append, unlike_append]
      exact ⟨h1, by simpa using hu⟩
    · exact (clean_look _).2 fun x hx hxd => h2 x (mem x hx hxd) hxd
    · refine (clean_reads _).2 fun x hx hxd y hy => ?_
      rw [fromR_more l [t] y (h3 x (mem x hx hxd) hxd y hy)]
      exact h3 x (mem x hx hxd) hxd y hy
  rw [hist_ok _ (by simp; omega) c, txns, txns, List.filter_append, List.filter_cons_of_neg (by simp [hd]), List.filter_nil, List.append_nil]
  rw [List.map_congr_left fun x hx => txnOf_congr l _ x fun y hy => fromR_more l [t] y (h3 x (List.mem_filter.1 hx).1 (by simpa using (List.mem_filter.1 hx).2) y hy)]
theorem unlike_fresh (a : List Ev.Event) (key v : Int) (hv : v ≠ 0) (h : ∀ e ∈ a, e.value ≠ v) : unlikeR a [⟨2, 0, key, v⟩] = 0 := by
  have : wrote key v a = false := by
    rw [wrote, List.any_eq_false]
    intro e he h'
    exact h e he ((isW_iff _ _ _).1 h').2.2
  rw [unlikeR, unlikeR, opBad]
  simp [hv, this]
end Go.Proofs.YtfjamdpgbbnmcaaGreatDoor.So
/-
  Plain facts on what a history tells (no Go in it): all that were committed, in order, each with rising keys, and reads from others that write that key, or from none.
  Conditions: none beyond those that each theorem states.
-/
set_option maxRecDepth 4000
namespace Go.Proofs.YtfjamdpgbbnmcaaGreatDoor.So
open In (isK isK_iff lastOf lookR readsTo writesTo rd wr errAt wrong future)

/-- The place of a committed one among the committed. -/
theorem done_at (l : List Gr.Tx) (i : Nat) (hi : i < l.length) (hd : l[i].done = true) : (l.filter (·.done))[((l.take i).filter (·.done)).length]? = some l[i] := by
  induction l generalizing i with
  | nil => simp at hi
  | cons t r ih =>
    cases i with
    | zero =>
      have : t.done = true := hd
      rw [List.filter_cons_of_pos (by simpa using this)]
      rfl
    | succ i =>
      have hi' : i < r.length := by simpa using hi
      have h := ih i hi' hd
      cases ht : t.done with
      | true =>
        rw [List.take_succ_cons, List.filter_cons_of_pos (by simpa using ht), List.filter_cons_of_pos (by simpa using ht), List.length_cons, List.getElem?_cons_succ]
        exact h
      | false =>
        rw [List.take_succ_cons, List.filter_cons_of_neg (by simp [ht]), List.filter_cons_of_neg (by simp [ht])]
        exact h
theorem done_next (l : List Gr.Tx) (i : Nat) (hi : i < l.length) : ((l.take (i + 1)).filter (·.done)).length = ((l.take i).filter (·.done)).length + if l[i].done = true then 1 else 0 := by
  rw [List.take_succ_eq_append_getElem hi, List.filter_append, List.length_append]
  congr 1
  cases h : l[i].done with
  | true => rw [List.filter_cons_of_pos (by simpa using h)]; rfl
  | false => rw [List.filter_cons_of_neg (by simp [h])]; rfl
theorem txns_len (l : List Gr.Tx) : (txns l).length = (l.filter (·.done)).length := by rw [txns, List.length_map]

/-- Keys rise. -/
def Rises (ks : List Int) : Prop := (∀ k ∈ ks, 0 ≤ k ∧ k < 16) ∧ ks.Pairwise (· < ·)
theorem rises_at {ks : List Int} (h : Rises ks) (j : Nat) (hj : j < ks.length) : 0 ≤ ks[j] ∧ ks[j] < 16 ∧ ∀ i (hi : i < j), ks[i] < ks[j] :=
  ⟨(h.1 _ (List.getElem_mem hj)).1, (h.1 _ (List.getElem_mem hj)).2, fun i hi => List.pairwise_iff_getElem.1 h.2 i j (by omega) hj hi⟩
theorem keys_rise (f : Nat → Option (Int × Int)) (hf : ∀ k y, f k = some y → y.1 = (k : Int)) (n : Nat) : (∀ k ∈ ((List.range n).filterMap f).map (·.1), 0 ≤ k ∧ k < (n : Int)) ∧ (((List.range n).filterMap f).map (·.1)).Pairwise (· < ·) := by
  induction n with
  | zero => exact ⟨fun k hk => by simp at hk, by simp⟩
  | succ n ih =>
    rw [List.range_succ, List.filterMap_append, List.map_append]
    cases h : f n with
    | none =>
      have e : ([n].filterMap f) = [] := by simp [h]
      rw [e, List.map_nil, List.append_nil]
      exact ⟨fun k hk => by have := ih.1 k hk; omega, ih.2⟩
    | some y =>
      have e : ([n].filterMap f) = [y] := by simp [h]
      have hy := hf n y h
      rw [e, List.map_cons, List.map_nil]
      refine ⟨fun k hk => ?_, ?_⟩
      · rcases List.mem_append.1 hk with hk | hk
        · have := ih.1 k hk; omega
        · rw [List.mem_singleton.1 hk, hy]; omega
      · rw [List.pairwise_append]
        refine ⟨ih.2, by simp, fun a ha b hb => ?_⟩
        rw [List.mem_singleton.1 hb, hy]
        exact (ih.1 a ha).2
theorem writes_rise (ops : List Ev.Event) : Rises ((writesTo ops 16).map (·.1)) := keys_rise _ (In.wr_key ops) 16
theorem reads_rise (ops : List Ev.Event) : Rises ((readsTo ops 16).map (·.1)) := keys_rise _ (In.rd_key ops) 16
theorem txn_reads (l : List Gr.Tx) (t : Gr.Tx) : (txnOf l t).reads.map (·.1) = (readsTo t.ops 16).map (·.1) := by
  rw [txnOf, List.map_map]
  rfl

/-- Whose a value is: a committed one's that wrote it last. -/
theorem fromGo_who (key v : Int) (l : List Gr.Tx) : ∀ n, (fromGo key v n l).2 = 0 → ∃ j, ∃ hj : j < (l.filter (·.done)).length, (fromGo key v n l).1 = ((n + j : Nat) : Int) ∧ wrote key v (l.filter (·.done))[j].ops = true ∧ lastOf 2 key (l.filter (·.done))[j].ops = some v := by
  induction l with
  | nil => exact fun _ h => by cases h
  | cons t r ih =>
    intro n h
    rw [fromGo] at h ⊢
    by_cases hw : wrote key v t.ops = true
    · rw [if_pos hw] at h ⊢
      by_cases hd : t.done = false
      · rw [if_pos hd] at h; cases h
      · rw [if_neg hd] at h ⊢
        have hd' : t.done = true := by simpa using hd
        by_cases hl : lastOf 2 key t.ops ≠ some v
        · rw [if_pos hl] at h; cases h
        · rw [if_neg hl]
          have e : (t :: r).filter (·.done) = t :: r.filter (·.done) := List.filter_cons_of_pos (by simpa using hd')
          simp only [e]
          exact ⟨0, by simp, rfl, hw, Decidable.byContradiction hl⟩
    · rw [if_neg hw] at h ⊢
      obtain ⟨j, hj, h1, h2, h3⟩ := ih _ h
      cases hd : t.done with
      | true =>
        have e : (t :: r).filter (·.done) = t :: r.filter (·.done) := List.filter_cons_of_pos (by simpa using hd)
        simp only [e]
        refine ⟨j + 1, by simpa using hj, ?_, by simpa using h2, by simpa using h3⟩
        rw [hd] at h1
        simp only [if_true] at h1 ⊢
        rw [h1]
        omega
      | false =>
        have e : (t :: r).filter (·.done) = r.filter (·.done) := List.filter_cons_of_neg (by simp [hd])
        simp only [e]
        refine ⟨j, hj, ?_, h2, h3⟩
        rw [hd] at h1
        simpa using h1
theorem mem_keys (f : Nat → Option (Int × Int)) (k n : Nat) (hk : k < n) (y : Int × Int) (h : f k = some y) : y ∈ (List.range n).filterMap f := List.mem_filterMap.2 ⟨k, List.mem_range.2 hk, h⟩
/-- What is read of others is not one's own. -/
theorem own_no {ops : List Ev.Event} (hg : In.good ops) (k : Nat) (y : Int × Int) (hy : rd ops k = some y) : wrote (k : Int) y.2 ops = false := by
  unfold rd at hy
  cases hf : ops.find? fun e => decide (e.key = (k : Int)) with
  | none => rw [hf] at hy; cases hy
  | some e =>
    rw [hf] at hy
    simp only at hy
    by_cases hk : e.kind = 1
    · rw [if_pos hk] at hy
      cases hy
      obtain ⟨h1, p, hp, he, h2⟩ := List.find?_eq_some_iff_getElem.1 hf
      have hkey : e.key = (k : Int) := by simpa using h1
      have hne : ∀ i (hi : i < ops.length), i < p → ops[i].key ≠ (k : Int) := fun i hi hip => by simpa using h2 i hip
      have hno : ∀ kind, lastOf kind e.key (ops.take p) = none := fun kind => by
        rw [In.lastOf_none]
        intro x hx
        obtain ⟨i, hi, rfl⟩ := List.getElem_of_mem hx
        rw [List.length_take] at hi
        rw [List.getElem_take]
        cases hq : isK kind e.key ops[i] with
        | false => rfl
        | true => exact absurd (((isK_iff _ _ _).1 hq).2.trans hkey) (hne i (by omega) (by omega))
      have h0 := hg p
      have hr := (In.right_of_good hg p hp).1
      rw [he] at hr
      rw [In.errAt_at ops p hp, he, In.wrong_read _ _ _ hr hk, hno 2, hno 1] at h0
      have hfu : future e (ops.drop (p + 1)) = false := by
        cases hq : future e (ops.drop (p + 1)) with
        | false => rfl
        | true => rw [hq] at h0; simp at h0
      rw [wrote, List.any_eq_false]
      intro x hx hw
      obtain ⟨w1, w2, w3⟩ := (isW_iff _ _ _).1 hw
      obtain ⟨i, hi, rfl⟩ := List.getElem_of_mem hx
      rcases Nat.lt_trichotomy i p with h | h | h
      · exact hne i hi h w2
      · subst h
        rw [he, hk] at w1
        cases w1
      · rw [future, List.any_eq_false] at hfu
        have hm : ops[i] ∈ ops.drop (p + 1) := by
          rw [List.mem_iff_getElem]
          exact ⟨i - (p + 1), by rw [List.length_drop]; omega, by rw [List.getElem_drop]; congr 1; omega⟩
        refine hfu _ hm ?_
        rw [Bool.and_eq_true, isK_iff, decide_eq_true_eq]
        exact ⟨⟨w1, w2.trans hkey.symm⟩, w3⟩
    · rw [if_neg hk] at hy
      cases hy
/-- P7.2: what a read of a history tells: from none, or from another one that writes that key. -/
theorem read_from (l : List Gr.Tx) (h2 : Clean l 2) (h3 : Clean l 3) (i : Nat) (hi : i < (txns l).length) (y : Int × Int) (hy : y ∈ (txns l)[i].reads) :
    y.2 = -1 ∨ ∃ j, ∃ hj : j < (txns l).length, y.2 = (j : Int) ∧ j ≠ i ∧ y.1 ∈ (txns l)[j].writes := by
  have hlen := txns_len l
  have ht : ∀ j (hj : j < (txns l).length), (txns l)[j] = txnOf l ((l.filter (·.done))[j]'(by omega)) := fun j hj => by simp [txns]
  rw [ht i hi, txnOf] at hy
  obtain ⟨z, hz, rfl⟩ := List.mem_map.1 hy
  obtain ⟨hmem, hdone⟩ := List.mem_filter.1 (List.getElem_mem (l := l.filter (·.done)) (n := i) (by omega))
  have hok := (clean_reads l).1 h3 _ hmem (by simpa using hdone) z hz
  have hgood : In.good ((l.filter (·.done))[i]'(by omega)).ops := by
    rcases In.look_cases ((l.filter (·.done))[i]'(by omega)).ops with h | ⟨j, hj, q1, q2⟩
    · exact h
    · have := (clean_look l).1 h2 _ hmem (by simpa using hdone)
      rw [In.look_bad _ j q2 q1] at this
      exact absurd this q1
  obtain ⟨k, hk, hrd⟩ := List.mem_filterMap.1 hz
  have hk16 : k < 16 := List.mem_range.1 hk
  have hzk := In.rd_key _ _ _ hrd
  show (fromR l z).1 = -1 ∨ _
  unfold fromR at hok ⊢
  by_cases h0 : z.2 = 0
  · rw [if_pos h0]; exact .inl rfl
  · rw [if_neg h0] at hok ⊢
    obtain ⟨j, hj, e1, e2, e3⟩ := fromGo_who z.1 z.2 l 0 hok
    refine .inr ⟨j, by omega, by rw [e1]; simp, fun e => ?_, ?_⟩
    · subst e
      have := own_no hgood k z hrd
      rw [← hzk, e2] at this
      cases this
    · rw [ht j (by omega), txnOf]
      refine List.mem_map.2 ⟨(z.1, z.2), ?_, rfl⟩
      refine mem_keys _ k 16 hk16 _ ?_
      rw [wr, ← hzk, e3]
      rfl
end Go.Proofs.YtfjamdpgbbnmcaaGreatDoor.So
/-
  Plain facts for walks of layer 7, the reference's among them (no Go in it): each loop's step: writes counted, writes that are unlike, whose a value is, reads in their order.
  Conditions: none beyond those that each theorem states.
-/
set_option maxRecDepth 4000
namespace Go.Proofs.YtfjamdpgbbnmcaaGreatDoor.So
open In (isK isK_iff lastOf lookR readsTo writesTo rd wr)

/-- How often a value of a key is written. -/
def times (key v : Int) (ops : List Ev.Event) : Nat := ops.countP (isW key v)
theorem times_zero (key v : Int) (ops : List Ev.Event) : times key v ops = 0 ↔ wrote key v ops = false := by
  rw [times, List.countP_eq_zero, wrote, List.any_eq_false]
theorem times_take (key v : Int) (ops : List Ev.Event) (i : Nat) (hi : i < ops.length) : times key v (ops.take (i + 1)) = times key v (ops.take i) + if isW key v ops[i] = true then 1 else 0 := by
  rw [List.take_succ_eq_append_getElem hi, times, List.countP_append, times]
  congr 1
  cases h : isW key v ops[i] <;> simp [h]
theorem times_append (key v : Int) (a b : List Ev.Event) : times key v (a ++ b) = times key v a + times key v b := List.countP_append
theorem times_le (key v : Int) (ops : List Ev.Event) : times key v ops ≤ ops.length := List.countP_le_length
/-- All ahead, transaction by transaction. -/
theorem times_flat (key v : Int) (l : List Gr.Tx) (i : Nat) (hi : i < l.length) : times key v ((l.take (i + 1)).flatMap (·.ops)) = times key v ((l.take i).flatMap (·.ops)) + times key v l[i].ops := by
  rw [List.take_succ_eq_append_getElem hi, List.flatMap_append, times_append]
  simp
/-- Writes that are unlike, op by op. -/
theorem unlike_step (a ops : List Ev.Event) (i : Nat) (hi : i < ops.length) : unlikeR (a ++ ops.take i) (ops.drop i) = if opBad (a ++ ops.take i) ops[i] ≠ 0 then opBad (a ++ ops.take i) ops[i] else unlikeR (a ++ ops.take (i + 1)) (ops.drop (i + 1)) := by
  rw [List.drop_eq_getElem_cons hi, unlikeR, List.take_succ_eq_append_getElem hi, List.append_assoc]
theorem unlike_end (a ops : List Ev.Event) (i : Nat) (hi : ops.length ≤ i) : unlikeR (a ++ ops.take i) (ops.drop i) = 0 := by rw [List.drop_eq_nil_of_le hi, unlikeR]
theorem opBad_cases (a : List Ev.Event) (e : Ev.Event) : (e.kind ≠ 2 ∧ opBad a e = 0) ∨ e.kind = 2 ∧ ((e.value = 0 ∧ opBad a e = 7) ∨ e.value ≠ 0 ∧ ((times e.key e.value a = 0 ∧ opBad a e = 0) ∨ (0 < times e.key e.value a ∧ opBad a e = 8))) := by
  unfold opBad
  by_cases h1 : e.kind = 2
  · refine .inr ⟨h1, ?_⟩
    rw [if_neg (by simpa using h1)]
    by_cases h2 : e.value = 0
    · exact .inl ⟨h2, by rw [if_pos h2]⟩
    · refine .inr ⟨h2, ?_⟩
      rw [if_neg h2]
      cases h3 : wrote e.key e.value a with
      | false => exact .inl ⟨(times_zero _ _ _).2 h3, by simp⟩
      | true =>
        refine .inr ⟨Nat.pos_of_ne_zero fun h => ?_, by simp⟩
        rw [(times_zero _ _ _).1 h] at h3
        cases h3
  · exact .inl ⟨h1, by rw [if_pos h1]⟩
/-- Whose a value is, transaction by transaction. -/
theorem from_step (key v : Int) (l : List Gr.Tx) (n i : Nat) (hi : i < l.length) (h : wrote key v l[i].ops = false) : fromGo key v n (l.drop i) = fromGo key v (if l[i].done = true then n + 1 else n) (l.drop (i + 1)) := by
  rw [List.drop_eq_getElem_cons hi, fromGo, if_neg (by rw [h]; simp)]
theorem from_hit (key v : Int) (l : List Gr.Tx) (n i : Nat) (hi : i < l.length) (h : wrote key v l[i].ops = true) : fromGo key v n (l.drop i) = if l[i].done = false then (0, 13) else if lastOf 2 key l[i].ops ≠ some v then (0, 14) else ((n : Int), 0) := by
  rw [List.drop_eq_getElem_cons hi, fromGo, if_pos h]
theorem from_end (key v : Int) (l : List Gr.Tx) (n i : Nat) (hi : l.length ≤ i) : fromGo key v n (l.drop i) = (0, 12) := by rw [List.drop_eq_nil_of_le hi, fromGo]
/-- So far nobody wrote it: the number of those ahead that were committed goes with it. -/
theorem from_number (key v : Int) (l : List Gr.Tx) (i : Nat) (hi : i ≤ l.length) (h : ∀ j (hj : j < l.length), j < i → wrote key v l[j].ops = false) : fromGo key v 0 l = fromGo key v ((l.take i).filter (·.done)).length (l.drop i) := by
  induction i with
  | zero => rfl
  | succ i ih =>
    rw [ih (by omega) (fun j hj hji => h j hj (by omega)), from_step key v l _ i (by omega) (h i (by omega) (by omega)), done_next l i (by omega)]
    congr 1
    split <;> rfl
/-- What was written over, by the face's writes. -/
theorem middle_iff (ops : List Ev.Event) (k : Nat) (hk : k < 16) (v : Int) (h : wrote (k : Int) v ops = true) : (∃ y ∈ writesTo ops 16, y.1 = (k : Int) ∧ y.2 ≠ v) ↔ lastOf 2 (k : Int) ops ≠ some v := by
  have hs : ∃ u, lastOf 2 (k : Int) ops = some u := by
    cases hl : lastOf 2 (k : Int) ops with
    | some u => exact ⟨u, rfl⟩
    | none =>
      rw [wrote, List.any_eq_true] at h
      obtain ⟨e, he, hw⟩ := h
      obtain ⟨h1, h2, _⟩ := (isW_iff _ _ _).1 hw
      have := (In.lastOf_none _ _ _).1 hl e he
      rw [(isK_iff _ _ _).2 ⟨h1, h2⟩] at this
      cases this
  obtain ⟨u, hu⟩ := hs
  rw [hu]
  constructor
  · rintro ⟨y, hy, h1, h2⟩ h3
    obtain ⟨j, hj, hw⟩ := List.mem_filterMap.1 hy
    have hjk := In.wr_key ops j y hw
    have : j = k := by omega
    subst this
    rw [wr, hu] at hw
    cases hw
    exact h2 (by simpa using h3)
  · intro h2
    refine ⟨((k : Int), u), ?_, rfl, fun e => h2 (by rw [← e])⟩
    exact mem_keys _ k 16 hk _ (by rw [wr, hu]; rfl)
/-- Reads in their order. -/
theorem readsErr_step (l : List Gr.Tx) (ys : List (Int × Int)) (i : Nat) (hi : i < ys.length) : readsErr l (ys.drop i) = if (fromR l ys[i]).2 ≠ 0 then (fromR l ys[i]).2 else readsErr l (ys.drop (i + 1)) := by rw [List.drop_eq_getElem_cons hi, readsErr]
theorem readsErr_end (l : List Gr.Tx) (ys : List (Int × Int)) (i : Nat) (hi : ys.length ≤ i) : readsErr l (ys.drop i) = 0 := by rw [List.drop_eq_nil_of_le hi, readsErr]
/-- Transactions in their order, as the history is filled. -/
theorem txns_step (l : List Gr.Tx) (i : Nat) (hi : i < l.length) : ((l.take (i + 1)).filter (·.done)).map (txnOf l) = ((l.take i).filter (·.done)).map (txnOf l) ++ if l[i].done = true then [txnOf l l[i]] else [] := by
  rw [List.take_succ_eq_append_getElem hi, List.filter_append, List.map_append]
  congr 1
  cases h : l[i].done <;> simp [h]
theorem mayT_iff (t : Gr.Tx) : mayT t = true ↔ (∀ e ∈ t.ops, (Ev.right e && Ev.hasKey e.kind) = true) ∧ 0 ≤ t.session ∧ t.session < 8 := by
  rw [mayT, Bool.and_eq_true, List.all_eq_true, decide_eq_true_eq]
end Go.Proofs.YtfjamdpgbbnmcaaGreatDoor.So
/-
  Words for histories in memory: rows of integers, and rows of transactions as a history has them (a session, the keys written, and the reads), how these last and grow.
  Conditions: none beyond those that each theorem states.
-/
set_option maxRecDepth 4000
namespace Go.Proofs.YtfjamdpgbbnmcaaGreatDoor
open Go.RowKit

/-! Rows of integers. -/
def nC (n : Int) : List Value := [.int .i64 n]
theorem nC_len (n : Int) : (nC n).length = 1 := rfl
theorem one_nC (n : Int) : ∀ u ∈ nC n, u.oneCell' = true := by
  intro u hu
  rw [List.mem_singleton.1 hu]
  rfl
def Ns (w : World) (v : Value) (l : List Int) : Prop := Rows' 1 nC w v l
theorem Ns.below {w w' : World} {v : Value} {l : List Int} (h : Ns w v l) (hb : Below w.heap.size w w') : Ns w' v l := Rows'.below h hb
theorem Ns.nil (w : World) (A : Option Addr) : Ns w (.slice A 0 0) [] := Rows'.nil w A
theorem Ns.none_ {w : World} {v : Value} {l : List Int} (h : Ns w v l) (hl : l = []) : ∃ A c, v = .slice A 0 c := Rows'.none_ h hl
theorem Ns.spelled {w : World} {v : Value} {l : List Int} (h : Ns w v l) : ∃ A c, v = .slice A l.length c ∧ ∀ (k : Nat) (hk : k < l.length), ∃ ad : Addr, A = some ad ∧ ad.block < w.heap.size ∧ w.cell? (ad.add k) = some (.int .i64 l[k]) := by
  obtain ⟨A, c, hv, hh⟩ := Rows'.form nC_len h
  refine ⟨A, c, hv, fun k hk => ?_⟩
  obtain ⟨ad, e, hb, hc⟩ := hh k hk
  refine ⟨ad, e, hb, ?_⟩
  have := hc 0 _ rfl
  rwa [Nat.mul_one, Nat.add_zero] at this

/-! Rows of transactions, as a history has them: the two rows of each lie elsewhere. -/
def txnC (x : So.Txn × Value × Value) : List Value := [.int .i64 x.1.session, x.2.1, x.2.2]
theorem txnC_len (x : So.Txn × Value × Value) : (txnC x).length = 3 := rfl
theorem one_txnC (t : So.Txn) (A B : Option Addr) (n m c d : Nat) : ∀ u ∈ txnC (t, .slice A n c, .slice B m d), u.oneCell' = true := by
  intro u hu
  simp only [txnC, List.mem_cons, List.not_mem_nil, or_false] at hu
  rcases hu with rfl | rfl | rfl
  all_goals rfl
def Txns (w : World) (v : Value) (l : List So.Txn) : Prop := ∃ p : List (So.Txn × Value × Value), p.map (·.1) = l ∧ Sl w 3 v p.length (p.flatMap txnC) ∧ ∀ x ∈ p, Ns w x.2.1 x.1.writes ∧ Its w x.2.2 x.1.reads
theorem Txns.below {w w' : World} {v : Value} {l : List So.Txn} (h : Txns w v l) (hb : Below w.heap.size w w') : Txns w' v l := by
  obtain ⟨p, h1, h2, h3⟩ := h
  exact ⟨p, h1, h2.below hb, fun x hx => ⟨(h3 x hx).1.below hb, (h3 x hx).2.below hb⟩⟩
theorem Txns.nil (w : World) (A : Option Addr) : Txns w (.slice A 0 0) [] := ⟨[], rfl, Sl.nil w 3 A, fun x hx => by cases hx⟩
theorem Txns.none_ {w : World} {v : Value} {l : List So.Txn} (h : Txns w v l) (hl : l = []) : ∃ A c, v = .slice A 0 c := by
  obtain ⟨p, h1, h2, _⟩ := h
  subst hl
  have hp : p = [] := List.map_eq_nil_iff.1 h1
  subst hp
  obtain ⟨A, c, hv, _⟩ := h2.form
  exact ⟨A, c, hv⟩
/-- Element k, as the walk spells its cells' places. -/
structure TxnIn (w : World) (ad : Addr) (k : Nat) (t : So.Txn) (u v : Value) : Prop where
  c0 : w.cell? (ad.add (k * 3)) = some (.int .i64 t.session)
  c1 : w.cell? ⟨(ad.add (k * 3)).block, (ad.add (k * 3)).off + 1, none⟩ = some u
  c2 : w.cell? ⟨(ad.add (k * 3)).block, (ad.add (k * 3)).off + 2, none⟩ = some v
theorem TxnIn.below {w w' : World} {ad : Addr} {k : Nat} {t : So.Txn} {u v : Value} (h : TxnIn w ad k t u v) (hlt : ad.block < w.heap.size) (hb : Below w.heap.size w w') : TxnIn w' ad k t u v := by
  have e : ad.block = (ad.add (k * 3)).block := (add_block ad _).symm
  refine ⟨(hb.cell ?_).trans h.c0, (hb.cell ?_).trans h.c1, (hb.cell ?_).trans h.c2⟩
  all_goals exact e ▸ hlt
theorem Txns.spelled {w : World} {v : Value} {l : List So.Txn} (h : Txns w v l) : ∃ A c, v = .slice A l.length c ∧ ∀ (k : Nat) (hk : k < l.length), ∃ (ad : Addr) (x y : Value), A = some ad ∧ ad.block < w.heap.size ∧ TxnIn w ad k l[k] x y ∧ Ns w x l[k].writes ∧ Its w y l[k].reads := by
  obtain ⟨p, rfl, h2, h3⟩ := h
  obtain ⟨A, c, hv, hh⟩ := h2.form
  refine ⟨A, c, by rw [List.length_map]; exact hv, fun k hk => ?_⟩
  have hk' : k < p.length := by simpa using hk
  obtain ⟨ad, e, hb, hc⟩ := hh (by omega)
  have key : ∀ j u, (txnC p[k])[j]? = some u → w.cell? (ad.add (k * 3 + j)) = some u := fun j u hu => by
    have hj : j < 3 := (List.getElem?_eq_some_iff.1 hu).1
    exact hc _ _ (by rw [flat_at txnC_len p k hk' j hj]; exact hu)
  have hel : (p.map (·.1))[k] = p[k].1 := by simp
  obtain ⟨h4, h5⟩ := h3 _ (List.getElem_mem hk')
  refine ⟨ad, p[k].2.1, p[k].2.2, e, hb, ?_, by rw [hel]; exact h4, by rw [hel]; exact h5⟩
  rw [hel]
  refine ⟨key 0 _ rfl, ?_, ?_⟩
  · rw [add_more ad _ 1 (by omega)]; exact key 1 _ rfl
  · rw [add_more ad _ 2 (by omega)]; exact key 2 _ rfl
/-- Such a row of the call's own, its elements' rows too: te, ti, tk are the elements' types of the three. -/
structure OwnTxns (te ti tk : TypeId) (w : World) (base : Nat) (v : Value) (p : List (So.Txn × Value × Value)) : Prop where
  row : w.ownsRow base te 3 v p.length (p.flatMap txnC)
  writes : ∀ x ∈ p, w.ownsRow base ti 1 x.2.1 x.1.writes.length (x.1.writes.flatMap nC)
  reads : ∀ x ∈ p, w.ownsRow base tk 2 x.2.2 x.1.reads.length (x.1.reads.flatMap itC)
section
variable {te ti tk : TypeId} {w : World} {base : Nat} {v : Value} {p : List (So.Txn × Value × Value)}
theorem OwnTxns.nil (te ti tk : TypeId) (w : World) (base : Nat) : OwnTxns te ti tk w base (.slice none 0 0) [] := ⟨World.ownsRow_nil _ _ _ _, fun _ hx => (List.not_mem_nil hx).elim, fun _ hx => (List.not_mem_nil hx).elim⟩
theorem OwnTxns.below {w' : World} (h : OwnTxns te ti tk w base v p) (hb : Below w.heap.size w w') : OwnTxns te ti tk w' base v p := ⟨own_below h.row hb, fun x hx => own_below (h.writes x hx) hb, fun x hx => own_below (h.reads x hx) hb⟩
theorem OwnTxns.drewN (h : OwnTxns te ti tk w base v p) (k : Nat) : OwnTxns te ti tk (w.drewN k) base v p := ⟨own_drewN h.row k, fun x hx => own_drewN (h.writes x hx) k, fun x hx => own_drewN (h.reads x hx) k⟩
theorem OwnTxns.txns (h : OwnTxns te ti tk w base v p) : Txns w v (p.map (·.1)) := ⟨p, rfl, Sl.own h.row, fun x hx => ⟨Rows'.own (h.writes x hx), Rows'.own (h.reads x hx)⟩⟩
/-- One more, behind an append onto the row. -/
theorem OwnTxns.snoc {w' : World} {v' : Value} {x : So.Txn × Value × Value} (h : OwnTxns te ti tk w base v p) (hi : te ≠ ti) (hk : te ≠ tk) (hw : w.ownsRow base ti 1 x.2.1 x.1.writes.length (x.1.writes.flatMap nC)) (hr : w.ownsRow base tk 2 x.2.2 x.1.reads.length (x.1.reads.flatMap itC))
    (hrow : w'.ownsRow base te 3 v' (p.length + 1) (p.flatMap txnC ++ txnC x)) (hg : w.grownBy w' v.ownBlock) : OwnTxns te ti tk w' base v' (p ++ [x]) := by
  have kw : ∀ y : So.Txn × Value × Value, w.ownsRow base ti 1 y.2.1 y.1.writes.length (y.1.writes.flatMap nC) → w'.ownsRow base ti 1 y.2.1 y.1.writes.length (y.1.writes.flatMap nC) := fun y hy => hy.kept hg (own_types hy h.row (fun e => hi e.symm))
  have kr : ∀ y : So.Txn × Value × Value, w.ownsRow base tk 2 y.2.2 y.1.reads.length (y.1.reads.flatMap itC) → w'.ownsRow base tk 2 y.2.2 y.1.reads.length (y.1.reads.flatMap itC) := fun y hy => hy.kept hg (own_types hy h.row (fun e => hk e.symm))
  refine ⟨Rows'.own_snoc hrow, fun y hy => ?_, fun y hy => ?_⟩
  · rcases List.mem_append.1 hy with hy | hy
    · exact kw y (h.writes y hy)
    · rw [List.mem_singleton.1 hy]; exact kw x hw
  · rcases List.mem_append.1 hy with hy | hy
    · exact kr y (h.reads y hy)
    · rw [List.mem_singleton.1 hy]; exact kr x hr
end
/-- A history, a place and an error: what a call hands back lies in memory of its own; what was there stays. -/
def RetHist (w : World) (r : List So.Txn × Int × Int) (e : Ending) (w' : World) : Prop := ∃ v, e = .returned (.tuple #[.agg #[v], .int .i64 r.2.1, .int .i64 r.2.2]) ∧ Txns w' v r.1 ∧ Below w.heap.size w w'
end Go.Proofs.YtfjamdpgbbnmcaaGreatDoor
/-
  Words for layer 7 in memory: items as keys of a map, the map of who wrote what, rows of faces, rows of numbers of a call's own, and all that reads are held against; how these last and are written.
  Conditions: none beyond those that each theorem states.
-/
set_option maxRecDepth 4000
namespace Go.Proofs.YtfjamdpgbbnmcaaGreatDoor
open Go.RowKit
open Go.Maps (Keyed IsMap)

/-! Items as keys. -/
theorem so_laid : laidOutB Tryz.prog = true := by kernel_rfl
theorem item_row : (132 : TypeId) < Tryz.prog.types.size := of_decide_eq_true (by kernel_rfl)
theorem item_wide : (match Tryz.prog.underlying 132 with | some (.array _ _) | some (.struct _) => true | _ => false) = true := by kernel_rfl
theorem item_law : Keyed Tryz.prog 132 := Keyed.of_law (deep_law_laid so_laid (m := 2) (by omega) item_row (by kernel_rfl) item_wide)
def okN (n : Int) : Prop := (Lit.int .i64 n).wf = true
theorem okN_small {n : Int} (h : 0 ≤ n) (h' : n ≤ 4294967296) : okN n := WalkArith.wf_i64 (by omega)
def itemLit (k v : Int) : Lit := .string (keyBytes [.int .i64 k, .int .i64 v])
theorem item_lits (d : Nat) {k v : Int} (hk : okN k) (hv : okN v) : Tryz.prog.keyLits (d + 2) 132 [.int .i64 k, .int .i64 v] = some [.int .i64 k, .int .i64 v] := by
  have c : Tryz.prog.cellsOf 132 = 2 := by kernel_rfl
  have ci : Tryz.prog.cellsOf 3 = 1 := by kernel_rfl
  have hi : ∀ n : Int, okN n → Tryz.prog.keyLits (d + 1) 3 [.int .i64 n] = some [.int .i64 n] := fun n hn => by
    have hn' : (Lit.int .i64 n).wf = true := hn
    unfold Program.keyLits
    rw [Tryz.underlying3]
    simp [hn']
  unfold Program.keyLits
  rw [Tryz.underlying132]
  simp [c, ci, hi _ hk, hi _ hv]
theorem item_key {k v : Int} (hk : okN k) (hv : okN v) : keyOf Tryz.prog 132 (.agg #[.int .i64 k, .int .i64 v]) = some (itemLit k v) := by
  have c : Tryz.prog.cellsOf 132 = 2 := by kernel_rfl
  have hT : Tryz.prog.keyType 132 = true := by kernel_rfl
  have hf : (Value.agg #[.int .i64 k, .int .i64 v]).formed Tryz.prog 132 = true := by simp [Value.formed, Tryz.underlying132, c]
  have hs : ∃ d, Tryz.prog.types.size + 1 = d + 2 := ⟨Tryz.prog.types.size - 1, by have h : 0 < Tryz.prog.types.size := Nat.lt_of_le_of_lt (Nat.zero_le _) item_row; omega⟩
  obtain ⟨d, hd⟩ := hs
  have hl := item_lits d hk hv
  unfold keyOf
  rw [Tryz.underlying132, hT, hf, hd]
  simp only [Value.cells, Bool.and_self, if_true, hl, Option.map_some, itemLit]
theorem item_ne {k v k' v' : Int} (hk : okN k) (hv : okN v) (hk' : okN k') (hv' : okN v') (h : ¬ (k = k' ∧ v = v')) : itemLit k v ≠ itemLit k' v' := fun e => by
  have h1 := item_key hk hv
  rw [e] at h1
  have := item_law.inj h1 (item_key hk' hv')
  simp at this
  exact h this
theorem item_lit (k v : Int) : WideAt.IsKeyLit (itemLit k v) := trivial

/-! The map of who wrote what: of whole transactions, and of one's ops so far. -/
structure Wrs (D : DataW Unit) (l : List Gr.Tx) (i : Nat) (c : List Ev.Event) : Prop where
  has : ∀ k v, okN k → okN v → Maps.has D (itemLit k v) = So.wrote k v ((l.take i).flatMap (·.ops) ++ c)
  old : ∀ k v, okN k → okN v → ∀ m (hm : m < l.length), m < i → So.wrote k v l[m].ops = true → D.atKey (itemLit k v) (.lit (.int .i64 0)) = .lit (.int .i64 (m : Int))
  cur : ∀ k v, okN k → okN v → So.wrote k v c = true → D.atKey (itemLit k v) (.lit (.int .i64 0)) = .lit (.int .i64 (i : Int))
theorem Wrs.start (l : List Gr.Tx) : Wrs (.map []) l 0 [] := ⟨fun _ _ _ _ => rfl, fun _ _ _ _ _ _ h => absurd h (by omega), fun _ _ _ _ h => by cases h⟩
theorem wrote_append (k v : Int) (a b : List Ev.Event) : So.wrote k v (a ++ b) = (So.wrote k v a || So.wrote k v b) := by simp [So.wrote]
theorem wrote_one (k v : Int) (e : Ev.Event) : So.wrote k v [e] = So.isW k v e := by simp [So.wrote]
theorem isW_no {k v : Int} {e : Ev.Event} (h : ¬ (e.kind = 2 ∧ e.key = k ∧ e.value = v)) : So.isW k v e = false := by
  cases hq : So.isW k v e with
  | false => rfl
  | true => exact absurd ((So.isW_iff _ _ _).1 hq) h
section
variable {D : DataW Unit} {l : List Gr.Tx} {i : Nat} {c : List Ev.Event}
/-- An op that is no write. -/
theorem Wrs.pass (h : Wrs D l i c) (e : Ev.Event) (he : e.kind ≠ 2) : Wrs D l i (c ++ [e]) := by
  have hw : ∀ k v, So.wrote k v (c ++ [e]) = So.wrote k v c := fun k v => by rw [wrote_append, wrote_one, isW_no (fun q => he q.1), Bool.or_false]
  refine ⟨fun k v hk hv => ?_, h.old, fun k v hk hv hq => h.cur k v hk hv (by rw [← hw]; exact hq)⟩
  rw [h.has k v hk hv, wrote_append, wrote_append, hw]
/-- A write of what nobody wrote. -/
theorem Wrs.put (h : Wrs D l i c) (hD : IsMap D) (e : Ev.Event) (he : e.kind = 2) (hk0 : okN e.key) (hv0 : okN e.value) (hno : So.wrote e.key e.value ((l.take i).flatMap (·.ops) ++ c) = false) :
    Wrs (D.put (itemLit e.key e.value) (.lit (.int .i64 (i : Int)))) l i (c ++ [e]) := by
  have hoth : ∀ k v, ¬ (k = e.key ∧ v = e.value) → So.wrote k v (c ++ [e]) = So.wrote k v c := fun k v hq => by rw [wrote_append, wrote_one, isW_no (fun q => hq ⟨q.2.1.symm, q.2.2.symm⟩), Bool.or_false]
  rw [wrote_append] at hno
  have hno1 : So.wrote e.key e.value ((l.take i).flatMap (·.ops)) = false := by cases hq : So.wrote e.key e.value ((l.take i).flatMap (·.ops)) with | false => rfl | true => rw [hq] at hno; simp at hno
  refine ⟨fun k v hk hv => ?_, fun k v hk hv m hm hmi hw => ?_, fun k v hk hv hw => ?_⟩
  · by_cases q : k = e.key ∧ v = e.value
    · obtain ⟨rfl, rfl⟩ := q
      rw [Maps.has_put_same hD (item_lit _ _), wrote_append, wrote_append, wrote_one, (So.isW_iff _ _ _).2 ⟨he, rfl, rfl⟩]
      simp
    · rw [Maps.has_put_other (item_ne hk hv hk0 hv0 q), h.has k v hk hv, wrote_append, wrote_append, hoth k v q]
  · by_cases q : k = e.key ∧ v = e.value
    · obtain ⟨rfl, rfl⟩ := q
      have : So.wrote e.key e.value ((l.take i).flatMap (·.ops)) = true := by
        rw [So.wrote, List.any_eq_true] at hw ⊢
        obtain ⟨x, hx, hx2⟩ := hw
        refine ⟨x, List.mem_flatMap.2 ⟨l[m], ?_, hx⟩, hx2⟩
        rw [List.mem_take_iff_getElem]
        exact ⟨m, by omega, rfl⟩
      rw [this] at hno1
      cases hno1
    · rw [Maps.atKey_put_other (item_ne hk hv hk0 hv0 q)]
      exact h.old k v hk hv m hm hmi hw
  · by_cases q : k = e.key ∧ v = e.value
    · obtain ⟨rfl, rfl⟩ := q
      rw [Maps.atKey_put_same hD (item_lit _ _)]
    · rw [Maps.atKey_put_other (item_ne hk hv hk0 hv0 q)]
      exact h.cur k v hk hv (by rw [← hoth k v q]; exact hw)
/-- The next transaction. -/
theorem Wrs.next (hi : i < l.length) (h : Wrs D l i l[i].ops) : Wrs D l (i + 1) [] := by
  refine ⟨fun k v hk hv => ?_, fun k v hk hv m hm hmi hw => ?_, fun k v _ _ hq => by cases hq⟩
  · rw [h.has k v hk hv, List.append_nil, List.take_succ_eq_append_getElem hi, List.flatMap_append]
    simp
  · by_cases e : m = i
    · subst e
      exact h.cur k v hk hv hw
    · exact h.old k v hk hv m hm (by omega) hw
/-- Whose a value is, by the map. -/
theorem Wrs.who (h : Wrs D l l.length []) (k v : Int) (hk : okN k) (hv : okN v) :
    (Maps.has D (itemLit k v) = false ∧ So.fromGo k v 0 l = (0, 12)) ∨
    ∃ m, ∃ hm : m < l.length, Maps.has D (itemLit k v) = true ∧ D.atKey (itemLit k v) (.lit (.int .i64 0)) = .lit (.int .i64 (m : Int)) ∧ So.wrote k v l[m].ops = true ∧
      So.fromGo k v 0 l = if l[m].done = false then (0, 13) else if In.lastOf 2 k l[m].ops ≠ some v then (0, 14) else ((((l.take m).filter (·.done)).length : Int), 0) := by
  have hh := h.has k v hk hv
  rw [List.take_length, List.append_nil] at hh
  cases hq : So.wrote k v (l.flatMap (·.ops)) with
  | false =>
    refine .inl ⟨by rw [hh, hq], ?_⟩
    rw [So.from_number k v l l.length (Nat.le_refl _) (fun j hj _ => So.wrote_sub (fun x hx => List.mem_flatMap.2 ⟨_, List.getElem_mem hj, hx⟩) hq), So.from_end _ _ _ _ _ (Nat.le_refl _)]
  | true =>
    rw [So.wrote, List.any_eq_true] at hq
    obtain ⟨x, hx, hx2⟩ := hq
    obtain ⟨t, ht, hxt⟩ := List.mem_flatMap.1 hx
    obtain ⟨m, hm, rfl⟩ := List.getElem_of_mem ht
    have hw : So.wrote k v l[m].ops = true := by rw [So.wrote, List.any_eq_true]; exact ⟨x, hxt, hx2⟩
    have hat := h.old k v hk hv m hm hm hw
    refine .inr ⟨m, hm, ?_, hat, hw, ?_⟩
    · rw [hh, So.wrote, List.any_eq_true]
      exact ⟨x, hx, hx2⟩
    · rw [So.from_number k v l m (by omega) (fun j hj hjm => ?_), So.from_hit _ _ _ _ _ hm hw]
      cases hj2 : So.wrote k v l[j].ops with
      | false => rfl
      | true =>
        have := h.old k v hk hv j hj hj hj2
        rw [hat] at this
        simp at this
        omega
end

/-! Rows of faces. -/
def faC (x : (List (Int × Int) × List (Int × Int)) × Value × Value) : List Value := [x.2.1, x.2.2]
theorem faC_len (x : (List (Int × Int) × List (Int × Int)) × Value × Value) : (faC x).length = 2 := rfl
def Faces (w : World) (v : Value) (l : List (List (Int × Int) × List (Int × Int))) : Prop := ∃ p : List ((List (Int × Int) × List (Int × Int)) × Value × Value), p.map (·.1) = l ∧ Sl w 2 v p.length (p.flatMap faC) ∧ ∀ x ∈ p, Its w x.2.1 x.1.1 ∧ Its w x.2.2 x.1.2
theorem Faces.below {w w' : World} {v : Value} {l : List (List (Int × Int) × List (Int × Int))} (h : Faces w v l) (hb : Below w.heap.size w w') : Faces w' v l := by
  obtain ⟨p, h1, h2, h3⟩ := h
  exact ⟨p, h1, h2.below hb, fun x hx => ⟨(h3 x hx).1.below hb, (h3 x hx).2.below hb⟩⟩
structure FaIn (w : World) (ad : Addr) (k : Nat) (u v : Value) : Prop where
  c0 : w.cell? (ad.add (k * 2)) = some u
  c1 : w.cell? ⟨(ad.add (k * 2)).block, (ad.add (k * 2)).off + 1, none⟩ = some v
theorem FaIn.below {w w' : World} {ad : Addr} {k : Nat} {u v : Value} (h : FaIn w ad k u v) (hlt : ad.block < w.heap.size) (hb : Below w.heap.size w w') : FaIn w' ad k u v := by
  have e : ad.block = (ad.add (k * 2)).block := (add_block ad _).symm
  refine ⟨(hb.cell ?_).trans h.c0, (hb.cell ?_).trans h.c1⟩
  all_goals exact e ▸ hlt
theorem Faces.spelled {w : World} {v : Value} {l : List (List (Int × Int) × List (Int × Int))} (h : Faces w v l) : ∃ A c, v = .slice A l.length c ∧ ∀ (k : Nat) (hk : k < l.length), ∃ (ad : Addr) (x y : Value), A = some ad ∧ ad.block < w.heap.size ∧ FaIn w ad k x y ∧ Its w x l[k].1 ∧ Its w y l[k].2 := by
  obtain ⟨p, rfl, h2, h3⟩ := h
  obtain ⟨A, c, hv, hh⟩ := h2.form
  refine ⟨A, c, by rw [List.length_map]; exact hv, fun k hk => ?_⟩
  have hk' : k < p.length := by simpa using hk
  obtain ⟨ad, e, hb, hc⟩ := hh (by omega)
  have key : ∀ j u, (faC p[k])[j]? = some u → w.cell? (ad.add (k * 2 + j)) = some u := fun j u hu => by
    have hj : j < 2 := (List.getElem?_eq_some_iff.1 hu).1
    exact hc _ _ (by rw [flat_at faC_len p k hk' j hj]; exact hu)
  have hel : (p.map (·.1))[k] = p[k].1 := by simp
  obtain ⟨h4, h5⟩ := h3 _ (List.getElem_mem hk')
  refine ⟨ad, p[k].2.1, p[k].2.2, e, hb, ⟨key 0 _ rfl, ?_⟩, by rw [hel]; exact h4, by rw [hel]; exact h5⟩
  rw [add_more ad _ 1 (by omega)]
  exact key 1 _ rfl
/-- Such a row of the call's own. -/
structure OwnFaces (te ti : TypeId) (w : World) (base : Nat) (v : Value) (p : List ((List (Int × Int) × List (Int × Int)) × Value × Value)) : Prop where
  row : w.ownsRow base te 2 v p.length (p.flatMap faC)
  reads : ∀ x ∈ p, w.ownsRow base ti 2 x.2.1 x.1.1.length (x.1.1.flatMap itC)
  writes : ∀ x ∈ p, w.ownsRow base ti 2 x.2.2 x.1.2.length (x.1.2.flatMap itC)
section
variable {te ti : TypeId} {w : World} {base : Nat} {v : Value} {p : List ((List (Int × Int) × List (Int × Int)) × Value × Value)}
theorem OwnFaces.below {w' : World} (h : OwnFaces te ti w base v p) (hb : Below w.heap.size w w') : OwnFaces te ti w' base v p := ⟨own_below h.row hb, fun x hx => own_below (h.reads x hx) hb, fun x hx => own_below (h.writes x hx) hb⟩
theorem OwnFaces.faces (h : OwnFaces te ti w base v p) : Faces w v (p.map (·.1)) := ⟨p, rfl, Sl.own h.row, fun x hx => ⟨Rows'.own (h.reads x hx), Rows'.own (h.writes x hx)⟩⟩
theorem OwnFaces.form (h : OwnFaces te ti w base v p) (k : Nat) (hk : k < p.length) : ∃ g c, v = .slice (some ⟨g, 0, none⟩) p.length c ∧ w.cell? ⟨g, k * 2, none⟩ = some p[k].2.1 ∧ w.cell? ⟨g, k * 2 + 1, none⟩ = some p[k].2.2 ∧ w.frozen? ⟨g, k * 2, none⟩ = false ∧ w.frozen? ⟨g, k * 2 + 1, none⟩ = false ∧ base ≤ g ∧ g < w.heap.size := by
  rcases h.row.2 with ⟨_, h0⟩ | ⟨g, cap, cur, rfl, _⟩
  · omega
  · refine ⟨g, cap, rfl, ?_, ?_, h.row.frozenAt _, h.row.frozenAt _, (h.row.lt g rfl).1, (h.row.lt g rfl).2⟩
    · rw [h.row.cellAt _ (by omega)]
      have := flat_at faC_len p k hk 0 (by omega)
      rw [Nat.add_zero] at this
      rw [this]; rfl
    · rw [h.row.cellAt _ (by omega), flat_at faC_len p k hk 1 (by omega)]; rfl
/-- A face is laid into its place. -/
theorem OwnFaces.put {g c : Nat} (h : OwnFaces te ti w base (.slice (some ⟨g, 0, none⟩) p.length c) p) (k : Nat) (hk : k < p.length) (hne : te ≠ ti) (y : (List (Int × Int) × List (Int × Int)) × Value × Value)
    (hr : w.ownsRow base ti 2 y.2.1 y.1.1.length (y.1.1.flatMap itC)) (hw : w.ownsRow base ti 2 y.2.2 y.1.2.length (y.1.2.flatMap itC)) :
    OwnFaces te ti ((w.setCell ⟨g, k * 2, none⟩ y.2.1).setCell ⟨g, k * 2 + 1, none⟩ y.2.2) base (.slice (some ⟨g, 0, none⟩) p.length c) (p.set k y) := by
  obtain ⟨s1, g1⟩ := h.row.stored (k * 2) y.2.1
  obtain ⟨s2, g2⟩ := s1.stored (k * 2 + 1) y.2.2
  have keep : ∀ (u : Value) (q : List (Int × Int)), w.ownsRow base ti 2 u q.length (q.flatMap itC) → ((w.setCell ⟨g, k * 2, none⟩ y.2.1).setCell ⟨g, k * 2 + 1, none⟩ y.2.2).ownsRow base ti 2 u q.length (q.flatMap itC) := fun u q hu => by
    have h1 := hu.kept g1 (own_types hu h.row (fun e => hne e.symm))
    exact h1.kept g2 (own_types h1 s1 (fun e => hne e.symm))
  refine ⟨?_, fun x hx => ?_, fun x hx => ?_⟩
  · have e1 : (p.flatMap faC).set (k * 2) y.2.1 = (p.set k (p[k].1, y.2.1, p[k].2.2)).flatMap faC := by
      have := flat_set faC_len p k hk 0 (by omega) (p[k].1, y.2.1, p[k].2.2) y.2.1 rfl
      rw [Nat.add_zero] at this
      exact this
    have hk2 : k < (p.set k (p[k].1, y.2.1, p[k].2.2)).length := by rw [List.length_set]; exact hk
    have e2 : ((p.set k (p[k].1, y.2.1, p[k].2.2)).flatMap faC).set (k * 2 + 1) y.2.2 = (p.set k y).flatMap faC := by
      have := flat_set faC_len (p.set k (p[k].1, y.2.1, p[k].2.2)) k hk2 1 (by omega) y y.2.2 (by simp [faC])
      rw [List.set_set] at this
      exact this
    rw [e1, e2] at s2
    rw [List.length_set]
    exact s2
  · rcases mem_set_at hx with rfl | ⟨i, hi, _, rfl⟩
    · exact keep _ _ hr
    · exact keep _ _ (h.reads _ (List.getElem_mem hi))
  · rcases mem_set_at hx with rfl | ⟨i, hi, _, rfl⟩
    · exact keep _ _ hw
    · exact keep _ _ (h.writes _ (List.getElem_mem hi))
end
/-- Made cells, in twos. -/
theorem made_two (z : Value) (n : Nat) : (madeCells #[z, z] (n * 2)).toList = (List.replicate n (([], []), z, z)).flatMap faC := by
  have e1 : (madeCells #[z, z] (n * 2)).toList = List.replicate (n * 2) z := by
    apply List.ext_getElem?
    intro j
    rw [Array.getElem?_toList, List.getElem?_replicate]
    simp only [madeCells, Array.getElem?_map, Array.getElem?_range]
    split
    · have : j % 2 = 0 ∨ j % 2 = 1 := by omega
      rcases this with h | h <;> simp [h]
    · rfl
  rw [e1]
  induction n with
  | zero => rfl
  | succ n ih =>
    have ih' := ih (by
      apply List.ext_getElem?
      intro j
      rw [Array.getElem?_toList, List.getElem?_replicate]
      simp only [madeCells, Array.getElem?_map, Array.getElem?_range]
      split
      · have : j % 2 = 0 ∨ j % 2 = 1 := by omega
        rcases this with h | h <;> simp [h]
      · rfl)
    rw [List.replicate_succ (n := n), List.flatMap_cons, ← ih', Nat.succ_mul]
    rw [show n * 2 + 2 = (n * 2 + 1) + 1 by omega, List.replicate_succ, List.replicate_succ]
    rfl
/-- What a committed one shows, by transactions; and its number. -/
def faceT (t : Gr.Tx) : List (Int × Int) × List (Int × Int) := if t.done = true then (In.readsTo t.ops 16, In.writesTo t.ops 16) else ([], [])
def numsTo (l : List Gr.Tx) (n : Nat) : List Int := (List.range n).map fun i => (((l.take i).filter (·.done)).length : Int)
theorem numsTo_len (l : List Gr.Tx) (n : Nat) : (numsTo l n).length = n := by simp [numsTo]
theorem numsTo_at (l : List Gr.Tx) (n i : Nat) (hi : i < n) : (numsTo l n)[i]? = some (((l.take i).filter (·.done)).length : Int) := by simp [numsTo, hi]

/-! What reads are held against. -/
structure PastAt (w : World) (l : List Gr.Tx) (U : Value) (b : Nat) (F N : Value) : Prop where
  txs : Txs w U l
  map : ∃ n D, w.ownsMap Tryz.prog 132 (plainElem Tryz.prog 3) b n D ∧ Wrs D l l.length []
  faces : Faces w F (l.map faceT)
  nums : Ns w N (numsTo l l.length)
theorem PastAt.below {w w' : World} {l : List Gr.Tx} {U : Value} {b : Nat} {F N : Value} (h : PastAt w l U b F N) (hb : Below w.heap.size w w') : PastAt w' l U b F N := by
  obtain ⟨n, D, hm, hw⟩ := h.map
  exact ⟨h.txs.below hb, ⟨n, D, hm.kept (row := none) ⟨hb.os, hb.tape, hb.output, hb.size, fun k hk _ => hb.block k hk⟩ (by simp), hw⟩, h.faces.below hb, h.nums.below hb⟩
end Go.Proofs.YtfjamdpgbbnmcaaGreatDoor
/-
  What source's small functions answer: isOp, checkOps, numbersOf, keysOf, and slices.Index and slices.Contains over items; what was in memory stays as it was.
  Conditions: a row has at most 2^32 elements.
-/
set_option maxRecDepth 4000
namespace Go.Proofs.YtfjamdpgbbnmcaaGreatDoor
open Go.RowKit

namespace So
/-- The first transaction with an error of the p-th kind, and that error. -/
def firstR (l : List Gr.Tx) (p : Nat) : Int × Int := match firstNZ (phase l p) l.length with
  | some i => ((i : Int), phase l p i)
  | none => (0, 0)
theorem first_bad (l : List Gr.Tx) (p i : Nat) (hi : i < l.length) (h0 : ∀ j, j < i → phase l p j = 0) (hq : phase l p i ≠ 0) : firstR l p = ((i : Int), phase l p i) := by rw [firstR, nz_some hi h0 hq]
theorem first_ok (l : List Gr.Tx) (p : Nat) (h : Clean l p) : firstR l p = (0, 0) := by rw [firstR, nz_none h]
theorem may_bad (l : List Gr.Tx) (i : Nat) (hi : i < l.length) (h : mayT l[i] ≠ true) : phase l 0 i = 1 := by
  rw [phase_at l 0 i hi]
  simp [phaseT, h]
theorem may_good (l : List Gr.Tx) (i : Nat) (hi : i < l.length) (h : mayT l[i] = true) : phase l 0 i = 0 := by
  rw [phase_at l 0 i hi]
  simp [phaseT, h]
theorem next_zero {f : Nat → Int} {k : Nat} (h : ∀ j, j < k → f j = 0) (hk : f k = 0) : ∀ j, j < k + 1 → f j = 0 := fun j hj => by
  by_cases e : j = k
  · rw [e]; exact hk
  · exact h j (by omega)
end So
/-- Two numbers, in whatever memory was made. -/
def RetTwo (w : World) (r : Int × Int) (e : Ending) (w' : World) : Prop := e = .returned (.tuple #[.int .i64 r.1, .int .i64 r.2]) ∧ Below w.heap.size w w'
theorem RetTwo.mk {w w' : World} {r : Int × Int} {a b : Int} (h : r = (a, b)) (hb : Below w.heap.size w w') : RetTwo w r (.returned (.tuple #[.int .i64 a, .int .i64 b])) w' := by
  subst h
  exact ⟨rfl, hb⟩

theorem soIsOp_at (x : Ev.Event) (w : World) : Calls Tryz.prog 77 #[evV x] w (RetBool w (isOpB x)) := by
  have key : Hid (Ev.right x = false ∧ isOpB x = false) ∨ Hid (Ev.right x = true) ∧ ((x.kind == 1) = true ∧ Hid (isOpB x = true) ∨ (x.kind == 1) = false ∧ ((x.kind == 2) = true ∧ Hid (isOpB x = true) ∨ (x.kind == 2) = false ∧ Hid (isOpB x = false))) := by
    unfold Hid isOpB
    cases hr : Ev.right x with
    | false => exact .inl ⟨rfl, rfl⟩
    | true =>
      refine .inr ⟨rfl, ?_⟩
      rw [Bool.true_and]
      by_cases h1 : x.kind = 1
      · exact .inl ⟨beq_iff_eq.2 h1, (Ev.hasKey_iff _).2 (.inl h1)⟩
      · by_cases h2 : x.kind = 2
        · exact .inr ⟨beq_eq_false_iff_ne.2 h1, .inl ⟨beq_iff_eq.2 h2, (Ev.hasKey_iff _).2 (.inr h2)⟩⟩
        · refine .inr ⟨beq_eq_false_iff_ne.2 h1, .inr ⟨beq_eq_false_iff_ne.2 h2, ?_⟩⟩
          cases hk : Ev.hasKey x.kind with
          | false => rfl
          | true => rcases (Ev.hasKey_iff _).1 hk with h | h
                    · exact absurd h h1
                    · exact absurd h h2
  have HC := Lib.hid (evRight_at x)
  obtain ⟨a, b, c, d⟩ := x
  unfold evV at HC ⊢
  dsimp only at HC key ⊢
  rcases key with hr | ⟨hr, ⟨k1, hv⟩ | ⟨k1, ⟨k2, hv⟩ | ⟨k2, hv⟩⟩⟩
  · go_enter Tryz.func77, Tryz.ntmps77
    go_wp2_with fail
    refine (HC.out _).mono ?_
    rintro e w1 ⟨rfl, hb⟩
    rw [hr.out.1]
    have HB := Lib.hid (below_new hb)
    clear hb
    go_wp2_with fail
    go_ret
    exact ⟨ret_bool (by rw [hr.out.2]), HB.out⟩
  all_goals
    go_enter Tryz.func77, Tryz.ntmps77
    go_wp2_with fail
    refine (HC.out _).mono ?_
    rintro e w1 ⟨rfl, hb⟩
    rw [hr.out]
    have e0 : w1.cell? ⟨w.heap.size, 0, none⟩ = some (.int .i64 a) := (hb.cell (by simp)).trans (new_cell w _ _ 0 _ rfl)
    have HB := Lib.hid (below_new hb)
    clear hb
    go_wp2_with fail
    go_ret
    exact ⟨ret_bool (by rw [hv.out]), HB.out⟩

set_option maxHeartbeats 1000000 in
theorem checkOps_at (l : List Gr.Tx) (v : Value) (w : World) (hv : Txs w v l) (hl : l.length ≤ 4294967296) (ho : ∀ t ∈ l, t.ops.length ≤ 4294967296) : Calls Tryz.prog 53 #[v] w (RetTwo w (So.firstR l 0)) := by
  obtain ⟨A, c, rfl, hform⟩ := hv.spelled
  have HF := Lib.hid hform
  have HO := Lib.hid ho
  clear hform hv ho
  go_enter Tryz.func53, Tryz.ntmps53
  go_wp2
  go_loopw [10] (fun i wr => ∃ k : Nat, k ≤ l.length ∧ i = .int .i64 k ∧ Hid (∀ j, j < k → So.phase l 0 j = 0) ∧ Below w.heap.size w wr) (fun i _ => l.length - (intOf i).toNat)
  case atStart => exact ⟨0, Nat.zero_le _, rfl, fun j hj => absurd hj (by omega), Below.refl _ _⟩
  case round =>
    obtain ⟨k, hk, rfl, hno, hB⟩ := hrel
    have HB := Lib.hid hB
    clear hB
    by_cases hlt : k < l.length
    · obtain ⟨ad, u, rfl, hblk, hT, hU⟩ := HF.out k hlt
      obtain ⟨t, ht⟩ : ∃ t, t = l[k]'hlt := ⟨_, rfl⟩
      have hol : t.ops.length ≤ 4294967296 := by rw [ht]; exact HO.out _ (List.getElem_mem _)
      have HBAD := Lib.hid (So.may_bad l k hlt)
      have HGOOD := Lib.hid (So.may_good l k hlt)
      rw [← ht] at hT hU HBAD HGOOD
      obtain ⟨Au, cu, rfl, hev⟩ := hU.spelled
      have HEV := Lib.hid hev
      obtain ⟨hc0, hc1, hc2, hc3⟩ := hT.below hblk HB.out
      clear hT hU hev ht
      by_cases hs0 : t.session < 0
      · have hd : decide (t.session < 0) = true := by simpa using hs0
        have HR : Hid (So.firstR l 0 = ((k : Int), 1)) := by
          have e := HBAD.out (fun h => by have := ((So.mayT_iff t).1 h).2.1; omega)
          rw [Hid, So.first_bad l 0 k hlt hno.out (by rw [e]; decide), e]
        clear hs0
        go_wp2_with fail
        go_ret2
        exact RetTwo.mk HR.out (below_all HB.out (alloc_below _ _))
      by_cases hs8 : t.session ≥ 8
      · have hd : decide (t.session < 0) = false := by simpa using hs0
        have hd2 : decide (t.session ≥ 8) = true := by simpa using hs8
        have HR : Hid (So.firstR l 0 = ((k : Int), 1)) := by
          have e := HBAD.out (fun h => by have := ((So.mayT_iff t).1 h).2.2; omega)
          rw [Hid, So.first_bad l 0 k hlt hno.out (by rw [e]; decide), e]
        clear hs0 hs8
        go_wp2_with fail
        go_ret2
        exact RetTwo.mk HR.out (below_all HB.out (alloc_below _ _))
      have hd : decide (t.session < 0) = false := by simpa using hs0
      have hd2 : decide (t.session ≥ 8) = false := by simpa using hs8
      have HS : Hid (0 ≤ t.session ∧ t.session < 8) := by rw [Hid]; omega
      clear hs0 hs8
      go_wp2_with fail
      generalize hW : wr.alloc (.cells #[.int .i64 t.session, .bool t.done, .int .i64 t.first, .slice Au t.ops.length cu] 69) = W
      have HBW : Hid (Below w.heap.size w W) := by rw [← hW]; exact below_all HB.out (alloc_below _ _)
      clear hW HB
      go_loopw [27] (fun i wx => ∃ m : Nat, m ≤ t.ops.length ∧ i = .int .i64 m ∧ Hid (∀ e ∈ t.ops.take m, isOpB e = true) ∧ Below w.heap.size w wx) (fun i _ => t.ops.length - (intOf i).toNat)
      case atStart => exact ⟨0, Nat.zero_le _, rfl, (fun e he => by cases he), HBW.out⟩
      case round =>
        obtain ⟨m, hm, rfl, hall, hB⟩ := hrel
        rename_i wx
        have HB := Lib.hid hB
        clear hB
        by_cases hmt : m < t.ops.length
        · obtain ⟨ad2, rfl, hblk2, hE⟩ := HEV.out m hmt
          obtain ⟨x, hx⟩ : ∃ x, x = t.ops[m]'hmt := ⟨_, rfl⟩
          rw [← hx] at hE
          obtain ⟨e0, e1, e2, e3⟩ := hE.below hblk2 HB.out
          have HX := Lib.hid hx
          clear hE hx
          go_wp2_with fail
          refine (soIsOp_at x _).mono ?_
          rintro e w1 ⟨rfl, hb1⟩
          have HB1 := Lib.hid (below_all HB.out (below_new hb1))
          clear hb1
          cases hop : isOpB x with
          | false =>
            have HR : Hid (So.firstR l 0 = ((k : Int), 1)) := by
              have e := HBAD.out (fun h => by
                have h1 := ((So.mayT_iff t).1 h).1 x (by rw [HX.out]; exact List.getElem_mem _)
                rw [isOpB] at hop
                rw [hop] at h1
                cases h1)
              rw [Hid, So.first_bad l 0 k hlt hno.out (by rw [e]; decide), e]
            go_wp2_with fail
            go_ret2
            exact RetTwo.mk HR.out HB1.out
          | true =>
            have HN : Hid (∀ e ∈ t.ops.take (m + 1), isOpB e = true) := fun e he => by
              rw [List.take_succ_eq_append_getElem hmt] at he
              rcases List.mem_append.1 he with he | he
              · exact hall.out e he
              · rw [List.mem_singleton.1 he, ← HX.out]; exact hop
            go_wp2_with fail
            go_roundw
            case rel => exact ⟨m + 1, by omega, by go_num, HN, HB1.out⟩
            case measure => simp [intOf]; omega
        · have HZ : Hid (So.phase l 0 k = 0) := HGOOD.out ((So.mayT_iff t).2 ⟨fun e he => hall.out e (by rw [List.take_of_length_le (by omega)]; exact he), HS.out⟩)
          go_wp2_with fail
          go_roundw
          case rel => exact ⟨k + 1, by omega, by go_num, So.next_zero hno.out HZ.out, HB.out⟩
          case measure => simp [intOf]; omega
    · have HR : Hid (So.firstR l 0 = (0, 0)) := So.first_ok l 0 (fun j hj => hno.out j (by omega))
      go_wp2_with fail
      go_ret2
      exact RetTwo.mk HR.out HB.out

/-! Numbers, keys, items. -/
theorem int_info : (Tryz.prog.info? 3).map (fun i => (i.zero, i.size, i.bytes)) = some (some (.int .i64 0), 1, 8) := by kernel_rfl
/-- A row of numbers of the call's own. -/
def RetNs (w : World) (l : List Int) (e : Ending) (w' : World) : Prop := ∃ v, e = .returned v ∧ w'.ownsRow w.heap.size 3 1 v l.length (l.flatMap nC) ∧ Below w.heap.size w w'
theorem new_nC (w : World) (n : Int) (e : TypeId) : ∀ j u, (nC n)[j]? = some u → (w.alloc (.cells #[.int .i64 n] e)).cell? ((⟨w.heap.size, 0, none⟩ : Addr).add j) = some u := new_row w (nC n) e
set_option maxHeartbeats 1000000 in
theorem keysOf_at (l : List (Int × Int)) (v : Value) (w : World) (hv : Its w v l) (hl : l.length ≤ 4294967296) : Calls Tryz.prog 80 #[v] w (RetNs w (l.map (·.1))) := by
  obtain ⟨i0, hi0, hz0, hz1, hz2⟩ := info_parts int_info
  have I0 := Lib.hid hi0
  have I1 := Lib.hid hz0
  have I2 := Lib.hid hz1
  have I3 := Lib.hid hz2
  clear hi0 hz0 hz1 hz2
  obtain ⟨A, c, rfl, hform⟩ := hv.spelled
  have HF := Lib.hid hform
  clear hform hv
  go_enter Tryz.func80, Tryz.ntmps80
  go_wp2
  go_loopw [3, 8] (fun v i wr => ∃ k : Nat, k ≤ l.length ∧ i = .int .i64 k ∧ wr.ownsRow w.heap.size 3 1 v k (((l.take k).map (·.1)).flatMap nC) ∧ Below w.heap.size w wr) (fun _ i _ => l.length - (intOf i).toNat)
  case atStart => exact ⟨0, Nat.zero_le _, rfl, World.ownsRow_nil _ _ _ _, Below.refl _ _⟩
  case round =>
    obtain ⟨k, hk, rfl, hown, hb⟩ := hrel
    have HO := Lib.hid hown
    have HB := Lib.hid hb
    obtain ⟨A', cp, rfl⟩ := own_form hown
    clear hown hb
    by_cases hlt : k < l.length
    · obtain ⟨ad, rfl, hblk, hT⟩ := HF.out k hlt
      obtain ⟨y, hy⟩ : ∃ y, y = l[k]'hlt := ⟨_, rfl⟩
      have HTK : Hid ((l.take (k + 1)).map (·.1) = (l.take k).map (·.1) ++ [y.1]) := by rw [Hid, List.take_succ_eq_append_getElem hlt, List.map_append, hy]; rfl
      rw [← hy] at hT
      obtain ⟨c0, c1⟩ := hT.below hblk HB.out
      have HO1 := Lib.hid ((HO.out.alloc (.cells #[.int .i64 y.1, .int .i64 y.2] 132)).alloc (.cells #[.int .i64 y.1] 3))
      have HB1 := Lib.hid (below_all (below_all HB.out (alloc_below wr (.cells #[.int .i64 y.1, .int .i64 y.2] 132))) (alloc_below _ (.cells #[.int .i64 y.1] 3)))
      have HN : Hid (∀ j u, (nC y.1)[j]? = some u → ((wr.alloc (.cells #[.int .i64 y.1, .int .i64 y.2] 132)).alloc (.cells #[.int .i64 y.1] 3)).cell? ((⟨wr.heap.size + 1, 0, none⟩ : Addr).add j) = some u) := by
        have := new_nC (wr.alloc (.cells #[.int .i64 y.1, .int .i64 y.2] 132)) y.1 3
        rw [size_new] at this
        exact this
      clear hT hy
      go_wp2_with (at_builtin; refine wpList_append_own_at _ rfl _ _ 35 rfl w.heap.size 3 i0 _ 1 8 Tryz.underlying35 I0.out I1.out I2.out I3.out rfl (by decide) _ k _ rfl HO1.out ⟨wr.heap.size + 1, 0, none⟩ 1 1 (nC y.1) rfl rfl HN.out (one_nC _) (by simp only [maxLen]; omega) (by omega) HB1.out.size ?_; intro v2 w2 hown2 hgrow2 hnil2 hat2; have HO2 := Lib.hid hown2; have HB2 := Lib.hid (below_append HB1.out HB1.out.size HO1.out hgrow2); clear hown2 hgrow2 hnil2 hat2)
      go_roundw
      case rel =>
        refine ⟨k + 1, by omega, by go_num, ?_, HB2.out⟩
        rw [HTK.out, List.flatMap_append]
        simpa using HO2.out
      case measure => simp [intOf]; omega
    · have HK : Hid (l.take k = l ∧ k = l.length) := ⟨List.take_of_length_le (by omega), by omega⟩
      go_wp2_with fail
      go_ret
      have h := HO.out
      rw [HK.out.1] at h
      refine ⟨_, rfl, ?_, HB.out⟩
      rw [List.length_map]
      rw [HK.out.2] at h ⊢
      exact h

/-- Where an item stands in a row of items, or -1. -/
def idxR (l : List (Int × Int)) (y : Int × Int) : Int := match l.findIdx? (fun z => decide (z = y)) with
  | some i => (i : Int)
  | none => -1
theorem idx_hit (l : List (Int × Int)) (y : Int × Int) (k : Nat) (hk : k < l.length) (h : ∀ j (hj : j < l.length), j < k → l[j] ≠ y) (he : l[k] = y) : idxR l y = (k : Int) := by
  have : l.findIdx? (fun z => decide (z = y)) = some k := by
    rw [List.findIdx?_eq_some_iff_getElem]
    exact ⟨hk, by simpa using he, fun j hj => by simpa using h j (by omega) hj⟩
  rw [idxR, this]
theorem idx_none (l : List (Int × Int)) (y : Int × Int) (h : ∀ j (hj : j < l.length), l[j] ≠ y) : idxR l y = -1 := by
  have : l.findIdx? (fun z => decide (z = y)) = none := by
    rw [List.findIdx?_eq_none_iff]
    intro x hx
    obtain ⟨j, hj, rfl⟩ := List.getElem_of_mem hx
    simpa using h j hj
  rw [idxR, this]
theorem idx_pos (l : List (Int × Int)) (y : Int × Int) : decide (idxR l y ≥ 0) = decide (y ∈ l) := by
  by_cases hm : y ∈ l
  · have : ∃ k, ∃ hk : k < l.length, l[k] = y ∧ ∀ j (hj : j < l.length), j < k → l[j] ≠ y := by
      have hs : (l.findIdx? (fun z => decide (z = y))).isSome := by
        rw [List.findIdx?_isSome, List.any_eq_true]
        exact ⟨y, hm, by simp⟩
      obtain ⟨k, hk⟩ := Option.isSome_iff_exists.1 hs
      obtain ⟨h1, h2, h3⟩ := List.findIdx?_eq_some_iff_getElem.1 hk
      exact ⟨k, h1, by simpa using h2, fun j _ hjk => by simpa using h3 j hjk⟩
    obtain ⟨k, hk, he, h⟩ := this
    rw [idx_hit l y k hk h he, decide_eq_true (by omega), decide_eq_true hm]
  · rw [idx_none l y (fun j hj e => hm (e ▸ List.getElem_mem hj)), decide_eq_false hm]
    rfl
set_option maxHeartbeats 1000000 in
theorem itIndex_at (l : List (Int × Int)) (y : Int × Int) (v : Value) (w : World) (hv : Its w v l) (hl : l.length ≤ 4294967296) : Calls Tryz.prog 120 #[v, .agg #[.int .i64 y.1, .int .i64 y.2]] w fun e w' => e = .returned (.int .i64 (idxR l y)) ∧ Below w.heap.size w w' := by
  obtain ⟨A, c, rfl, hform⟩ := hv.spelled
  have HF := Lib.hid hform
  clear hform hv
  go_enter Tryz.func120, Tryz.ntmps120
  go_wp2
  have HW : Hid (Below w.heap.size w (w.alloc (.cells #[.int .i64 y.1, .int .i64 y.2] 132))) := alloc_below _ _
  have HC : Hid ((w.alloc (.cells #[.int .i64 y.1, .int .i64 y.2] 132)).cell? ⟨w.heap.size, 0, none⟩ = some (.int .i64 y.1) ∧ (w.alloc (.cells #[.int .i64 y.1, .int .i64 y.2] 132)).cell? ⟨w.heap.size, 1, none⟩ = some (.int .i64 y.2)) := ⟨new_cell w _ _ 0 _ rfl, new_cell w _ _ 1 _ rfl⟩
  go_loopw [8] (fun i wr => ∃ k : Nat, k ≤ l.length ∧ i = .int .i64 k ∧ Hid (∀ j (hj : j < l.length), j < k → l[j] ≠ y) ∧ (wr.cell? ⟨w.heap.size, 0, none⟩ = some (.int .i64 y.1) ∧ wr.cell? ⟨w.heap.size, 1, none⟩ = some (.int .i64 y.2)) ∧ Below w.heap.size w wr) (fun i _ => l.length - (intOf i).toNat)
  case atStart => exact ⟨0, Nat.zero_le _, rfl, fun j _ hj => absurd hj (by omega), HC.out, HW.out⟩
  case round =>
    clear HW HC
    obtain ⟨k, hk, rfl, hno, ⟨d0, d1⟩, hb⟩ := hrel
    have HB := Lib.hid hb
    clear hb
    by_cases hlt : k < l.length
    · obtain ⟨ad, rfl, hblk, hT⟩ := HF.out k hlt
      obtain ⟨z, hz⟩ : ∃ z, z = l[k]'hlt := ⟨_, rfl⟩
      rw [← hz] at hT
      obtain ⟨c0, c1⟩ := hT.below hblk HB.out
      have HZ := Lib.hid hz
      have HD0 := Lib.hid d0
      have HD1 := Lib.hid d1
      clear hT hz
      by_cases he : z = y
      · have HR := Lib.hid (idx_hit l y k hlt hno.out (by rw [← HZ.out]; exact he))
        subst he
        go_wp2_with fail
        go_quiet (fail)
        go_wp2_with fail
        go_ret
        exact ⟨ret_int HR.out.symm, below_drewN HB.out _⟩
      · have hne : (y.1 == z.1) = false ∨ (y.1 == z.1) = true ∧ (y.2 == z.2) = false := by
          obtain ⟨a, b⟩ := z
          obtain ⟨a', b'⟩ := y
          simp only [beq_eq_false_iff_ne, beq_iff_eq]
          by_cases h1 : a' = a
          · exact .inr ⟨h1, fun h2 => he (by rw [h1, h2])⟩
          · exact .inl h1
        have HN : Hid (∀ j (hj : j < l.length), j < k + 1 → l[j] ≠ y) := fun j hj hjk => by
          by_cases e : j = k
          · subst e; rw [← HZ.out]; exact he
          · exact hno.out j hj (by omega)
        clear he
        rcases hne with q | ⟨q1, q2⟩
        all_goals
          go_wp2_with fail
          go_quiet (fail)
          go_wp2_with fail
          go_roundw
          case rel => exact ⟨k + 1, by omega, by go_num, HN, ⟨HD0.out, HD1.out⟩, below_drewN HB.out _⟩
          case measure => simp [intOf]; omega
    · have HR := Lib.hid (idx_none l y (fun j hj => hno.out j hj (by omega)))
      go_wp2_with fail
      go_ret
      exact ⟨ret_int HR.out.symm, HB.out⟩
theorem contains_at (l : List (Int × Int)) (y : Int × Int) (v : Value) (w : World) (hv : Its w v l) (hl : l.length ≤ 4294967296) : Calls Tryz.prog 113 #[v, .agg #[.int .i64 y.1, .int .i64 y.2]] w (RetBool w (decide (y ∈ l))) := by
  have HV := Lib.hid (hv.below (alloc_below w (.cells #[.int .i64 y.1, .int .i64 y.2] 132)))
  obtain ⟨A, c, rfl, _⟩ := hv.spelled
  have HP := Lib.hid (idx_pos l y)
  clear hv
  go_enter Tryz.func113, Tryz.ntmps113
  go_wp2_with fail
  refine (itIndex_at l y _ _ HV.out hl).mono ?_
  rintro e w1 ⟨rfl, hb⟩
  have HB := Lib.hid (below_new hb)
  clear hb
  go_wp2_with fail
  go_ret
  exact ⟨ret_bool HP.out, HB.out⟩

theorem made_ns (n : Nat) : (madeCells #[.int .i64 0] (n * 1)).toList = (List.replicate n (0 : Int)).flatMap nC := by
  rw [Nat.mul_one, toList_madeCells_one]
  induction n with
  | zero => rfl
  | succ n ih => rw [List.replicate_succ, List.replicate_succ, List.flatMap_cons, ← ih]; rfl
/-- The numbers so far, zeros behind them. -/
def numsMid (l : List Gr.Tx) (k : Nat) : List Int := numsTo l k ++ List.replicate (l.length - k) 0
theorem numsMid_len (l : List Gr.Tx) (k : Nat) (hk : k ≤ l.length) : (numsMid l k).length = l.length := by rw [numsMid, List.length_append, numsTo_len, List.length_replicate]; omega
theorem numsMid_set (l : List Gr.Tx) (k : Nat) (hk : k < l.length) : (numsMid l k).set k (((l.take k).filter (·.done)).length : Int) = numsMid l (k + 1) := by
  have e : l.length - k = (l.length - (k + 1)) + 1 := by omega
  rw [numsMid, numsMid, e, List.replicate_succ, List.set_append_right _ _ (by rw [numsTo_len]; omega), numsTo_len, Nat.sub_self, List.set_cons_zero, numsTo, numsTo, List.range_succ, List.map_append, List.append_assoc]
  rfl
set_option maxHeartbeats 1000000 in
theorem soNumbers_at (l : List Gr.Tx) (v : Value) (w : World) (hv : Txs w v l) (hl : l.length ≤ 4294967296) : Calls Tryz.prog 56 #[v] w (RetNs w (numsTo l l.length)) := by
  obtain ⟨i0, hi0, hz0, hz1, hz2⟩ := info_parts int_info
  have I0 := Lib.hid hi0
  have I1 := Lib.hid hz0
  have I2 := Lib.hid hz1
  have I3 := Lib.hid hz2
  clear hi0 hz0 hz1 hz2
  obtain ⟨A, c, rfl, hform⟩ := hv.spelled
  have HF := Lib.hid hform
  clear hform hv
  go_enter Tryz.func56, Tryz.ntmps56
  go_wp2_with (at_make; refine wpList_make_full _ rfl _ _ 35 rfl w.heap.size 3 i0 _ 1 Tryz.underlying35 I0.out I1.out I2.out .i64 .i64 _ _ l.length rfl rfl rfl rfl (by rw [I3.out]; omega) (by simp only [maxLen]; omega) (Nat.le_refl _) ?_; intro w1 hown hgrow; have HO1 := Lib.hid hown; have HB1 := Lib.hid (show Below w.heap.size w w1 from (Below.refl _ w).grown hgrow (Nat.le_refl _) (by simp)); clear hown hgrow)
  go_loopw [4, 12] (fun n i wr => ∃ k : Nat, k ≤ l.length ∧ i = .int .i64 k ∧ n = .int .i64 (((l.take k).filter (·.done)).length : Int) ∧ wr.ownsRow w.heap.size 3 1 (.slice (some ⟨w.heap.size, 0, none⟩) l.length l.length) l.length ((numsMid l k).flatMap nC) ∧ Below w.heap.size w wr) (fun _ i _ => l.length - (intOf i).toNat)
  case atStart =>
    refine ⟨0, Nat.zero_le _, rfl, rfl, ?_, HB1.out⟩
    have h := HO1.out
    rw [show (Value.int .i64 0).cells = #[.int .i64 0] from rfl, made_ns] at h
    exact h
  case round =>
    clear HO1 HB1
    obtain ⟨k, hk, rfl, rfl, hown, hb⟩ := hrel
    have HO := Lib.hid hown
    have HB := Lib.hid hb
    clear hown hb
    by_cases hlt : k < l.length
    · obtain ⟨ad, u, rfl, hblk, hT, hU⟩ := HF.out k hlt
      obtain ⟨t, ht⟩ : ∃ t, t = l[k]'hlt := ⟨_, rfl⟩
      have HNX := Lib.hid (So.done_next l k hlt)
      have HSET := Lib.hid (numsMid_set l k hlt)
      have hcl : ((l.take k).filter (·.done)).length ≤ 4294967296 := Nat.le_trans (List.length_filter_le _ _) (by rw [List.length_take]; omega)
      rw [← ht] at hT hU HNX
      obtain ⟨Au, cu, rfl, _⟩ := hU.form
      obtain ⟨hc0, hc1, hc2, hc3⟩ := hT.below hblk HB.out
      have HO2 := Lib.hid (HO.out.alloc (.cells #[.int .i64 t.session, .bool t.done, .int .i64 t.first, .slice Au t.ops.length cu] 69))
      have hcell : ∃ u, (wr.alloc (.cells #[.int .i64 t.session, .bool t.done, .int .i64 t.first, .slice Au t.ops.length cu] 69)).cell? ⟨w.heap.size, k, none⟩ = some u := by
        rw [HO2.out.cellAt k (by omega)]
        have : k < ((numsMid l k).flatMap nC).length := by rw [flat_len nC_len, numsMid_len l k (by omega)]; omega
        exact ⟨_, List.getElem?_eq_getElem this⟩
      obtain ⟨u0, hcell⟩ := hcell
      have hfro := HO2.out.frozenAt k
      have hgs := (HO.out.lt w.heap.size rfl).2
      have hne : ¬ wr.heap.size = w.heap.size := by omega
      have hnew := new_cell wr #[.int .i64 t.session, .bool t.done, .int .i64 t.first, .slice Au t.ops.length cu] 69 1 (.bool t.done) rfl
      have HNEW : Hid (((wr.setCell ⟨w.heap.size, k, none⟩ (.int .i64 (((l.take k).filter (·.done)).length : Int))).alloc (.cells #[.int .i64 t.session, .bool t.done, .int .i64 t.first, .slice Au t.ops.length cu] 69)).ownsRow w.heap.size 3 1 (.slice (some ⟨w.heap.size, 0, none⟩) l.length l.length) l.length ((numsMid l (k + 1)).flatMap nC) ∧ Below w.heap.size w ((wr.setCell ⟨w.heap.size, k, none⟩ (.int .i64 (((l.take k).filter (·.done)).length : Int))).alloc (.cells #[.int .i64 t.session, .bool t.done, .int .i64 t.first, .slice Au t.ops.length cu] 69))) := by
        refine ⟨World.ownsRow.alloc ?_ _, below_all (HB.out.setCell (Nat.le_refl _) _) (alloc_below _ _)⟩
        have h1 := (HO.out.stored k (.int .i64 (((l.take k).filter (·.done)).length : Int))).1
        have h2 := flat_set nC_len (numsMid l k) k (by rw [numsMid_len l k (by omega)]; exact hlt) 0 (by omega) (((l.take k).filter (·.done)).length : Int) (.int .i64 (((l.take k).filter (·.done)).length : Int)) rfl
        rw [Nat.mul_one, Nat.add_zero] at h2
        rw [h2, HSET.out] at h1
        exact h1
      clear hT hU ht HO HO2
      generalize ((l.take k).filter (·.done)).length = n1 at *
      cases hd : t.done with
      | true =>
        rw [hd] at HNX hc1 hnew HNEW hcell hfro
        go_wp2_with fail
        go_roundw
        case rel =>
          refine ⟨k + 1, by omega, by go_num, ?_, HNEW.out.1, HNEW.out.2⟩
          rw [HNX.out]
          go_num
        case measure => simp [intOf]; omega
      | false =>
        rw [hd] at HNX hc1 hnew HNEW hcell hfro
        go_wp2_with fail
        go_roundw
        case rel =>
          refine ⟨k + 1, by omega, by go_num, ?_, HNEW.out.1, HNEW.out.2⟩
          rw [HNX.out]
          go_num
        case measure => simp [intOf]; omega
    · have HK : Hid (numsMid l k = numsTo l l.length) := by
        obtain rfl : k = l.length := by omega
        rw [Hid, numsMid, Nat.sub_self]
        simp
      go_wp2_with fail
      go_ret
      refine ⟨_, rfl, ?_, HB.out⟩
      rw [numsTo_len, ← HK.out]
      exact HO.out
end Go.Proofs.YtfjamdpgbbnmcaaGreatDoor
/-
  What source.facesOf and source.writersOf answer: the first error of their kind with its place, else the faces of the committed ones, and the map of who wrote what; what was in memory stays as it was.
  Conditions: a row has at most 2^32 elements; writersOf: at most 32 transactions, whose ops may all be.
-/
set_option maxRecDepth 4000
namespace Go.Proofs.YtfjamdpgbbnmcaaGreatDoor
open Go.RowKit

def midFaces (l : List Gr.Tx) (k : Nat) : List (List (Int × Int) × List (Int × Int)) := (l.take k).map faceT ++ List.replicate (l.length - k) ([], [])
theorem midFaces_set (l : List Gr.Tx) (k : Nat) (hk : k < l.length) : (midFaces l k).set k (faceT l[k]) = midFaces l (k + 1) := by
  have e : l.length - k = (l.length - (k + 1)) + 1 := by omega
  have hlen : ((l.take k).map faceT).length = k := by simp; omega
  rw [midFaces, midFaces, e, List.replicate_succ, List.set_append_right _ _ (by omega), hlen, Nat.sub_self, List.set_cons_zero, List.take_succ_eq_append_getElem hk, List.map_append, List.append_assoc]
  rfl
theorem midFaces_skip (l : List Gr.Tx) (k : Nat) (hk : k < l.length) (hd : l[k].done = false) : midFaces l (k + 1) = midFaces l k := by
  have e : l.length - k = (l.length - (k + 1)) + 1 := by omega
  have hf : faceT l[k] = ([], []) := by rw [faceT, hd]; rfl
  rw [midFaces, midFaces, e, List.replicate_succ, List.take_succ_eq_append_getElem hk, List.map_append, List.append_assoc, List.map_cons, List.map_nil, hf]
  rfl
theorem midFaces_end (l : List Gr.Tx) (k : Nat) (hk : l.length ≤ k) : midFaces l k = l.map faceT := by
  rw [midFaces, List.take_of_length_le hk, Nat.sub_eq_zero_of_le hk]
  simp
/-- Faces, a place and an error. -/
def RetFaces (w : World) (l : List Gr.Tx) (e : Ending) (w' : World) : Prop := ∃ A n c, e = .returned (.tuple #[.slice A n c, .int .i64 (So.firstR l 2).1, .int .i64 (So.firstR l 2).2]) ∧ (So.Clean l 2 → Faces w' (.slice A n c) (l.map faceT)) ∧ Below w.heap.size w w'
theorem RetFaces.mk {w w' : World} {l : List Gr.Tx} (A : Option Addr) (n c : Nat) (a b : Int) (h : So.firstR l 2 = (a, b)) (hf : So.Clean l 2 → Faces w' (.slice A n c) (l.map faceT)) (hb : Below w.heap.size w w') : RetFaces w l (.returned (.tuple #[.slice A n c, .int .i64 a, .int .i64 b])) w' :=
  ⟨A, n, c, by rw [h], hf, hb⟩
theorem good_of_zero (l : List Ev.Event) (h : (In.lookR l).2.2 = 0) : In.lookR l = ((In.readsTo l 16, In.writesTo l 16), 0, 0) := by
  rcases In.look_cases l with hg | ⟨j, hj, q1, q2⟩
  · rw [In.look_ok l hg]; rfl
  · rw [In.look_bad l j q2 q1] at h
    exact absurd h q1
theorem face_info : (Tryz.prog.info? 135).map (fun i => (i.zero, i.size, i.bytes)) = some (some (.agg #[.slice none 0 0, .slice none 0 0]), 2, 48) := by kernel_rfl
/-- What facesOf holds at the head of each round. -/
structure FacesMid (w wr : World) (l : List Gr.Tx) (k : Nat) (p : List ((List (Int × Int) × List (Int × Int)) × Value × Value)) : Prop where
  len : p.length = l.length
  own : OwnFaces 135 132 wr w.heap.size (.slice (some ⟨w.heap.size, 0, none⟩) p.length p.length) p
  same : p.map (·.1) = midFaces l k
  below : Below w.heap.size w wr
theorem FacesMid.later {w wr w' : World} {l : List Gr.Tx} {k : Nat} {p : List ((List (Int × Int) × List (Int × Int)) × Value × Value)} (h : FacesMid w wr l k p) (hb : Below wr.heap.size wr w') : FacesMid w w' l k p := ⟨h.len, h.own.below hb, h.same, below_all h.below hb⟩
theorem FacesMid.put {w wr : World} {l : List Gr.Tx} {k : Nat} {p : List ((List (Int × Int) × List (Int × Int)) × Value × Value)} (h : FacesMid w wr l k p) (hk : k < l.length) (y : (List (Int × Int) × List (Int × Int)) × Value × Value) (hy : y.1 = faceT l[k])
    (hr : wr.ownsRow w.heap.size 132 2 y.2.1 y.1.1.length (y.1.1.flatMap itC)) (hw : wr.ownsRow w.heap.size 132 2 y.2.2 y.1.2.length (y.1.2.flatMap itC)) :
    FacesMid w ((wr.setCell ⟨w.heap.size, k * 2, none⟩ y.2.1).setCell ⟨w.heap.size, k * 2 + 1, none⟩ y.2.2) l (k + 1) (p.set k y) := by
  refine ⟨by rw [List.length_set]; exact h.len, ?_, ?_, (h.below.setCell (Nat.le_refl _) _).setCell (Nat.le_refl _) _⟩
  · have := h.own.put k (by rw [h.len]; exact hk) (by decide) y hr hw
    rw [List.length_set]
    exact this
  · rw [List.map_set, h.same, hy, midFaces_set l k hk]

set_option maxHeartbeats 1000000 in
theorem facesOf_at (l : List Gr.Tx) (v : Value) (w : World) (hv : Txs w v l) (hl : l.length ≤ 4294967296) (ho : ∀ t ∈ l, t.ops.length ≤ 4294967296) : Calls Tryz.prog 55 #[v] w (RetFaces w l) := by
  obtain ⟨i0, hi0, hz0, hz1, hz2⟩ := info_parts face_info
  have I0 := Lib.hid hi0
  have I1 := Lib.hid hz0
  have I2 := Lib.hid hz1
  have I3 := Lib.hid hz2
  clear hi0 hz0 hz1 hz2
  obtain ⟨A, c, rfl, hform⟩ := hv.spelled
  have HF := Lib.hid hform
  have HO := Lib.hid ho
  clear hform hv ho
  go_enter Tryz.func55, Tryz.ntmps55
  go_wp2_with (at_make; refine wpList_make_full _ rfl _ _ 109 rfl w.heap.size 135 i0 _ 2 Tryz.underlying109 I0.out I1.out I2.out .i64 .i64 _ _ l.length rfl rfl rfl rfl (by rw [I3.out]; omega) (by simp only [maxLen]; omega) (Nat.le_refl _) ?_; intro w1 hown hgrow; have HO1 := Lib.hid hown; have HB1 := Lib.hid (show Below w.heap.size w w1 from (Below.refl _ w).grown hgrow (Nat.le_refl _) (by simp)); clear hown hgrow)
  go_loopw [16] (fun i wr => ∃ (k : Nat) (p : List ((List (Int × Int) × List (Int × Int)) × Value × Value)), k ≤ l.length ∧ i = .int .i64 k ∧ Hid (∀ j, j < k → So.phase l 2 j = 0) ∧ FacesMid w wr l k p) (fun i _ => l.length - (intOf i).toNat)
  case atStart =>
    refine ⟨0, List.replicate l.length (([], []), .slice none 0 0, .slice none 0 0), Nat.zero_le _, rfl, (fun j hj => absurd hj (by omega)), ⟨by simp, ?_, ?_, HB1.out⟩⟩
    · have h := HO1.out
      rw [show (Value.agg #[.slice none 0 0, .slice none 0 0]).cells = #[.slice none 0 0, .slice none 0 0] from rfl, made_two] at h
      refine ⟨?_, fun x hx => ?_, fun x hx => ?_⟩
      · rw [List.length_replicate]; exact h
      · rw [(List.mem_replicate.1 hx).2]; exact World.ownsRow_nil _ _ _ _
      · rw [(List.mem_replicate.1 hx).2]; exact World.ownsRow_nil _ _ _ _
    · simp [midFaces]
  case round =>
    clear HO1 HB1
    obtain ⟨k, p, hk, rfl, hno, hat⟩ := hrel
    have HM := Lib.hid hat
    have hpl := hat.len
    clear hat
    by_cases hlt : k < l.length
    · obtain ⟨ad, u, rfl, hblk, hT, hU⟩ := HF.out k hlt
      have HSK := Lib.hid (midFaces_skip l k hlt)
      have HPH := Lib.hid (So.phase_at l 2 k hlt)
      have HFT : Hid (∀ t, t = l[k]'hlt → faceT t = faceT (l[k]'hlt)) := fun t ht => by rw [ht]
      obtain ⟨t, ht⟩ : ∃ t, t = l[k]'hlt := ⟨_, rfl⟩
      have hol : t.ops.length ≤ 4294967296 := by rw [ht]; exact HO.out _ (List.getElem_mem _)
      have HT := Lib.hid ht
      rw [← ht] at hT hU HSK HPH
      obtain ⟨Au, cu, rfl, _⟩ := hU.form
      obtain ⟨hc0, hc1, hc2, hc3⟩ := hT.below hblk HM.out.below
      have HU := Lib.hid (hU.below (below_all HM.out.below (alloc_below wr (.cells #[.int .i64 t.session, .bool t.done, .int .i64 t.first, .slice Au t.ops.length cu] 69))))
      clear hT hU ht
      cases hd : t.done with
      | false =>
        rw [hd] at hc1
        have HPZ : Hid (So.phase l 2 k = 0) := by rw [Hid, HPH.out]; simp [So.phaseT, hd]
        have HN : Hid (∀ o, FacesMid w (wr.alloc o) l (k + 1) p) := fun o => by
          have h := HM.out.later (alloc_below wr o)
          exact ⟨h.len, h.own, by rw [h.same, HSK.out hd], h.below⟩
        go_wp2_with fail
        go_roundw
        case rel => exact ⟨k + 1, p, by omega, by go_num, So.next_zero hno.out HPZ.out, HN.out _⟩
        case measure => simp [intOf]; omega
      | true =>
        rw [hd] at hc1 HU
        have HPE : Hid (So.phase l 2 k = (In.lookR t.ops).2.2) := by rw [Hid, HPH.out]; simp [So.phaseT, hd]
        have HFA : Hid (faceT (l[k]'hlt) = (In.readsTo t.ops 16, In.writesTo t.ops 16)) := by rw [Hid, ← HT.out, faceT, hd]; rfl
        go_wp2_with fail
        refine (look_own t.ops _ _ _ _ _ HU.out hol).mono ?_
        rintro e w1 ⟨x, y, rfl, hx, hy, hb1⟩
        have HM1 := Lib.hid (HM.out.later (below_new hb1))
        by_cases hq : (In.lookR t.ops).2.2 = 0
        · have HPZ : Hid (So.phase l 2 k = 0) := by rw [Hid, HPE.out]; exact hq
          rw [good_of_zero _ hq] at hx hy ⊢
          dsimp only at hx hy ⊢
          obtain ⟨A1, c1, rfl⟩ := own_form hx
          obtain ⟨A2, c2, rfl⟩ := own_form hy
          have hbs : w.heap.size ≤ (wr.alloc (.cells #[.int .i64 t.session, .bool true, .int .i64 t.first, .slice Au t.ops.length cu] 69)).heap.size := Nat.le_trans HM.out.below.size (by simp)
          have HX := Lib.hid (hx.mono hbs)
          have HY := Lib.hid (hy.mono hbs)
          have hkp : k < p.length := by omega
          obtain ⟨g, cp, hve, d0, d1, f0, f1, _, hgs⟩ := HM1.out.own.form k hkp
          cases hve
          have hgw : w.heap.size < w1.heap.size := hgs
          have HNX := Lib.hid (HM1.out.put hlt ((In.readsTo t.ops 16, In.writesTo t.ops 16), .slice A1 (In.readsTo t.ops 16).length c1, .slice A2 (In.writesTo t.ops 16).length c2) HFA.out.symm HX.out HY.out)
          clear hx hy hb1 hbs hq HM
          go_wp2_with fail
          go_roundw
          case rel => exact ⟨k + 1, _, by omega, by go_num, So.next_zero hno.out HPZ.out, HNX.out.later (alloc_below _ _)⟩
          case measure => simp [intOf]; omega
        · have hqb : ((In.lookR t.ops).2.2 != 0) = true := by rw [bne_iff_ne]; exact hq
          have HR : Hid (So.firstR l 2 = ((k : Int), (In.lookR t.ops).2.2)) := by rw [Hid, So.first_bad l 2 k hlt hno.out (by rw [HPE.out]; exact hq), HPE.out]
          have HNC : Hid (¬ So.Clean l 2) := fun h => hq (by rw [← HPE.out]; exact h k hlt)
          obtain ⟨A1, c1, rfl⟩ := own_form hx
          obtain ⟨A2, c2, rfl⟩ := own_form hy
          generalize (In.lookR t.ops).2.2 = q at *
          clear hx hy hb1 hq
          go_wp2_with fail
          refine bodyPost_ret (results_tmp3 rfl _ _ _) rfl ?_
          exact RetFaces.mk none 0 0 _ _ HR.out (fun h => absurd h HNC.out) (below_all HM1.out.below (alloc_below _ _))
    · have HR : Hid (So.firstR l 2 = (0, 0)) := So.first_ok l 2 (fun j hj => hno.out j (by omega))
      go_wp2_with fail
      refine bodyPost_ret (results_tmp3 rfl _ _ _) rfl ?_
      refine RetFaces.mk (some ⟨w.heap.size, 0, none⟩) l.length l.length 0 0 HR.out (fun _ => ?_) HM.out.below
      have := HM.out.own.faces
      rw [HM.out.same, midFaces_end l k (by omega)] at this
      rw [hpl] at this
      exact this

/-! Who wrote what. -/
def RetWriters (w : World) (l : List Gr.Tx) (e : Ending) (w' : World) : Prop := ∃ o : Option Nat, e = .returned (.tuple #[.map o, .int .i64 (So.firstR l 1).1, .int .i64 (So.firstR l 1).2]) ∧ (So.Clean l 1 → ∃ b n D, o = some b ∧ w'.ownsMap Tryz.prog 132 (plainElem Tryz.prog 3) b n D ∧ Wrs D l l.length []) ∧ Below w.heap.size w w'
theorem RetWriters.mk {w w' : World} {l : List Gr.Tx} (o : Option Nat) (a b : Int) (h : So.firstR l 1 = (a, b)) (hf : So.Clean l 1 → ∃ b n D, o = some b ∧ w'.ownsMap Tryz.prog 132 (plainElem Tryz.prog 3) b n D ∧ Wrs D l l.length []) (hb : Below w.heap.size w w') : RetWriters w l (.returned (.tuple #[.map o, .int .i64 a, .int .i64 b])) w' :=
  ⟨o, by rw [h], hf, hb⟩
theorem Wrs.found {D : DataW Unit} {l : List Gr.Tx} {i : Nat} {c : List Ev.Event} (h : Wrs D l i c) (hi : i ≤ l.length) (k v : Int) (hk : okN k) (hv : okN v) (hw : So.wrote k v ((l.take i).flatMap (·.ops) ++ c) = true) : ∃ m : Nat, D.atKey (itemLit k v) (.lit (.int .i64 0)) = .lit (.int .i64 (m : Int)) := by
  rw [wrote_append] at hw
  cases hc : So.wrote k v c with
  | true => exact ⟨i, h.cur k v hk hv hc⟩
  | false =>
    rw [hc, Bool.or_false, So.wrote, List.any_eq_true] at hw
    obtain ⟨x, hx, hx2⟩ := hw
    obtain ⟨t, ht, hxt⟩ := List.mem_flatMap.1 hx
    obtain ⟨m, hm, rfl⟩ := List.mem_take_iff_getElem.1 ht
    exact ⟨m, h.old k v hk hv m (by omega) (by omega) (by rw [So.wrote, List.any_eq_true]; exact ⟨x, hxt, hx2⟩)⟩
/-- More entries than there can be. -/
def opsCap (k m : Nat) : Nat := k * 4294967296 + m
theorem opsCap_succ (k m : Nat) : opsCap k m + 1 = opsCap k (m + 1) := by unfold opsCap; omega
/-- What writersOf holds: the map in its block, at transaction k, behind the ops c of it. -/
structure WrMid (w wr : World) (l : List Gr.Tx) (k : Nat) (c : List Ev.Event) (n : Nat) (D : DataW Unit) : Prop where
  map : wr.ownsMap Tryz.prog 132 (plainElem Tryz.prog 3) w.heap.size n D
  wrs : Wrs D l k c
  below : Below w.heap.size w wr
theorem WrMid.later {w wr w' : World} {l : List Gr.Tx} {k : Nat} {c : List Ev.Event} {n : Nat} {D : DataW Unit} (h : WrMid w wr l k c n D) (hb : Below wr.heap.size wr w') : WrMid w w' l k c n D :=
  ⟨h.map.kept (row := none) ⟨hb.os, hb.tape, hb.output, hb.size, fun k hk _ => hb.block k hk⟩ (by simp), h.wrs, below_all h.below hb⟩
theorem op_ok {x : Ev.Event} (h : isOpB x = true) : okN x.key ∧ okN x.value := by
  rw [isOpB, Bool.and_eq_true] at h
  have hr := (Ev.right_iff x).1 h.1
  obtain ⟨_, _, _, _, h5⟩ := hr
  rw [if_pos h.2] at h5
  have hn := (Nm.isNum_iff _).1 h5.2.2
  exact ⟨okN_small h5.1 (by omega), okN_small hn.1 (by omega)⟩
set_option maxHeartbeats 2000000 in
theorem writersOf_at (l : List Gr.Tx) (v : Value) (w : World) (hv : Txs w v l) (hl : l.length ≤ 32) (ho : ∀ t ∈ l, t.ops.length ≤ 4294967296) (hc : So.Clean l 0) : Calls Tryz.prog 54 #[v] w (RetWriters w l) := by
  obtain ⟨A, c, rfl, hform⟩ := hv.spelled
  have HF := Lib.hid hform
  have HO := Lib.hid ho
  have HC := Lib.hid ((So.clean_may l).1 hc)
  clear hform hv ho hc
  have hmm := @run_makeMap Tryz.prog
  go_enter Tryz.func54, Tryz.ntmps54
  go_wp2
  go_loopw [16] (fun i wr => ∃ (k : Nat) (D : DataW Unit), k ≤ l.length ∧ i = .int .i64 k ∧ Hid (∀ j, j < k → So.phase l 1 j = 0) ∧ WrMid w wr l k [] (opsCap k 0) D) (fun i _ => l.length - (intOf i).toNat)
  case atStart => exact ⟨0, .map [], Nat.zero_le _, rfl, (fun j hj => absurd hj (by omega)), ⟨(World.ownsMap_made _ _ _ _).mono (Nat.zero_le _), Wrs.start l, (Below.refl _ _).alloc (Nat.le_refl _) _⟩⟩
  case round =>
    obtain ⟨k, D, hk, rfl, hno, hat⟩ := hrel
    have HM := Lib.hid hat
    clear hat
    by_cases hlt : k < l.length
    · obtain ⟨ad, u, rfl, hblk, hT, hU⟩ := HF.out k hlt
      obtain ⟨t, ht⟩ : ∃ t, t = l[k]'hlt := ⟨_, rfl⟩
      have hol : t.ops.length ≤ 4294967296 := by rw [ht]; exact HO.out _ (List.getElem_mem _)
      have HPH : Hid (So.phase l 1 k = So.unlikeR ((l.take k).flatMap (·.ops)) t.ops) := by rw [Hid, So.phase_at l 1 k hlt, ht]; simp [So.phaseT]
      have HNXT : Hid (∀ D, Wrs D l k t.ops → Wrs D l (k + 1) []) := fun D h => Wrs.next hlt (by rw [← ht]; exact h)
      have HMAY : Hid (∀ e ∈ t.ops, isOpB e = true) := by rw [ht]; exact ((So.mayT_iff _).1 (HC.out _ (List.getElem_mem _))).1
      rw [← ht] at hT hU
      obtain ⟨Au, cu, rfl, hev⟩ := hU.spelled
      have HEV := Lib.hid hev
      obtain ⟨hc0, hc1, hc2, hc3⟩ := hT.below hblk HM.out.below
      clear hT hU hev ht
      go_wp2_with fail
      generalize hW : wr.alloc (.cells #[.int .i64 t.session, .bool t.done, .int .i64 t.first, .slice Au t.ops.length cu] 69) = W
      have HMW : Hid (WrMid w W l k [] (opsCap k 0) D) := by rw [← hW]; exact HM.out.later (alloc_below _ _)
      clear hW HM hc0 hc1 hc2 hc3
      go_loopw [24] (fun i wx => ∃ (m : Nat) (D : DataW Unit), m ≤ t.ops.length ∧ i = .int .i64 m ∧ Hid (So.phase l 1 k = So.unlikeR ((l.take k).flatMap (·.ops) ++ t.ops.take m) (t.ops.drop m)) ∧ WrMid w wx l k (t.ops.take m) (opsCap k m) D) (fun i _ => t.ops.length - (intOf i).toNat)
      case atStart => exact ⟨0, D, Nat.zero_le _, rfl, by rw [Hid, HPH.out]; simp, HMW.out⟩
      case round =>
        clear HMW
        obtain ⟨m, D, hm, rfl, hun, hat⟩ := hrel
        have HM := Lib.hid hat
        clear hat
        by_cases hmt : m < t.ops.length
        · obtain ⟨ad2, rfl, hblk2, hE⟩ := HEV.out m hmt
          have HST := Lib.hid (So.unlike_step ((l.take k).flatMap (·.ops)) t.ops m hmt)
          have HTK := Lib.hid (List.take_succ_eq_append_getElem hmt)
          have HXM : Hid (isOpB (t.ops[m]'hmt) = true) := HMAY.out _ (List.getElem_mem _)
          obtain ⟨x, hx⟩ : ∃ x, x = t.ops[m]'hmt := ⟨_, rfl⟩
          rw [← hx] at hE HST HTK HXM
          obtain ⟨e0, e1, e2, e3⟩ := hE.below hblk2 HM.out.below
          clear hE hx
          obtain ⟨okk, okv⟩ := op_ok HXM.out
          have HOK := Lib.hid okk
          have HOV := Lib.hid okv
          clear okk okv
          have HHAS := Lib.hid (HM.out.wrs.has x.key x.value HOK.out HOV.out)
          rcases So.opBad_cases ((l.take k).flatMap (·.ops) ++ t.ops.take m) x with ⟨hk2, hb⟩ | ⟨hk2, ⟨hv0, hb⟩ | ⟨hv0, ⟨htm, hb⟩ | ⟨htm, hb⟩⟩⟩
          · have q2 : (x.kind != 2) = true := by rw [bne_iff_ne]; exact hk2
            have HN : Hid (So.phase l 1 k = So.unlikeR ((l.take k).flatMap (·.ops) ++ t.ops.take (m + 1)) (t.ops.drop (m + 1))) := by rw [Hid, hun.out, HST.out, if_neg (by rw [hb]; decide)]
            have HMN : Hid (∀ o, WrMid w (wr.alloc o) l k (t.ops.take (m + 1)) (opsCap k (m + 1)) D) := fun o => by
              have h := HM.out.later (alloc_below wr o)
              exact ⟨h.map.mono (by simp only [opsCap]; omega), by rw [HTK.out]; exact h.wrs.pass x hk2, h.below⟩
            clear hk2 hb
            go_wp2_with fail
            go_roundw
            case rel => exact ⟨m + 1, D, by omega, by go_num, HN, HMN.out _⟩
            case measure => simp [intOf]; omega
          · have q2 : (x.kind != 2) = false := by rw [hk2]; rfl
            have q0 : (x.value == 0) = true := by rw [hv0]; rfl
            have HP : Hid (So.phase l 1 k = 7) := by rw [Hid, hun.out, HST.out, if_pos (by rw [hb]; decide), hb]
            have HR : Hid (So.firstR l 1 = ((k : Int), 7)) := by rw [Hid, So.first_bad l 1 k hlt hno.out (by rw [HP.out]; decide), HP.out]
            have HNC : Hid (¬ So.Clean l 1) := fun h => by have := h k hlt; rw [HP.out] at this; cases this
            clear hk2 hb hv0
            go_wp2_with fail
            refine bodyPost_ret (results_tmp3 rfl _ _ _) rfl ?_
            exact RetWriters.mk none _ _ HR.out (fun h => absurd h HNC.out) (below_all HM.out.below (alloc_below _ _))
          · have q2 : (x.kind != 2) = false := by rw [hk2]; rfl
            have q0 : (x.value == 0) = false := by rw [beq_eq_false_iff_ne]; exact hv0
            have HNW : Hid (So.wrote x.key x.value ((l.take k).flatMap (·.ops) ++ t.ops.take m) = false) := (So.times_zero _ _ _).1 htm
            rw [HNW.out] at HHAS
            have HAT : Hid (D.atKey (itemLit x.key x.value) (.lit (.int .i64 0)) = .lit (.int .i64 0)) := Maps.atKey_of_not_has HHAS.out _
            have HN : Hid (So.phase l 1 k = So.unlikeR ((l.take k).flatMap (·.ops) ++ t.ops.take (m + 1)) (t.ops.drop (m + 1))) := by rw [Hid, hun.out, HST.out, if_neg (by rw [hb]; decide)]
            have HPUT : Hid (Wrs (D.put (itemLit x.key x.value) (.lit (.int .i64 (k : Int)))) l k (t.ops.take (m + 1))) := by rw [Hid, HTK.out]; exact HM.out.wrs.put HM.out.map.isMap x hk2 HOK.out HOV.out HNW.out
            have HM2 := Lib.hid ((HM.out.later (alloc_below wr (.cells #[.int .i64 x.kind, .int .i64 x.session, .int .i64 x.key, .int .i64 x.value] 74))).later (alloc_below _ (.cells #[.int .i64 x.key, .int .i64 x.value] 132)))
            have hnm : opsCap k m < maxLen := by simp only [maxLen, opsCap]; omega
            clear hk2 hb hv0 htm
            go_wp2_with (first
              | (at_lookup; refine wpList_look _ rfl _ _ 106 rfl 132 3 item_law Tryz.underlying106 Tryz.underlying3 (int_zero _) w.heap.size (opsCap k m) D rfl HM2.out.map _ _ rfl (item_key HOK.out HOV.out) 0 false HAT.out HHAS.out ?_)
              | (at_mapUpdate; refine wpList_mapUpdate_own _ rfl _ _ _ 106 rfl 132 3 item_law Tryz.underlying106 _ w.heap.size (opsCap k m) D rfl HM2.out.map hnm _ _ _ rfl rfl (item_key HOK.out HOV.out) _ [] (int_elem (by omega)) ?_; intro w2 hm2 hg2; have HMAP := Lib.hid (opsCap_succ k m ▸ hm2); have HB2 := Lib.hid (HM2.out.below.grown hg2 HM2.out.below.size (fun j hj => by cases hj; omega)); clear hm2 hg2))
            go_roundw
            case rel => exact ⟨m + 1, _, by omega, by go_num, HN, ⟨HMAP.out, HPUT.out, HB2.out⟩⟩
            case measure => simp [intOf]; omega
          · have q2 : (x.kind != 2) = false := by rw [hk2]; rfl
            have q0 : (x.value == 0) = false := by rw [beq_eq_false_iff_ne]; exact hv0
            have HNW : Hid (So.wrote x.key x.value ((l.take k).flatMap (·.ops) ++ t.ops.take m) = true) := by
              cases hq : So.wrote x.key x.value ((l.take k).flatMap (·.ops) ++ t.ops.take m) with
              | true => rfl
              | false => rw [(So.times_zero _ _ _).2 hq] at htm; omega
            rw [HNW.out] at HHAS
            obtain ⟨j, hj⟩ := HM.out.wrs.found (by omega) x.key x.value HOK.out HOV.out HNW.out
            have HAT := Lib.hid hj
            have HP : Hid (So.phase l 1 k = 8) := by rw [Hid, hun.out, HST.out, if_pos (by rw [hb]; decide), hb]
            have HR : Hid (So.firstR l 1 = ((k : Int), 8)) := by rw [Hid, So.first_bad l 1 k hlt hno.out (by rw [HP.out]; decide), HP.out]
            have HNC : Hid (¬ So.Clean l 1) := fun h => by have := h k hlt; rw [HP.out] at this; cases this
            have HM2 := Lib.hid ((HM.out.later (alloc_below wr (.cells #[.int .i64 x.kind, .int .i64 x.session, .int .i64 x.key, .int .i64 x.value] 74))).later (alloc_below _ (.cells #[.int .i64 x.key, .int .i64 x.value] 132)))
            clear hk2 hb hv0 htm hj
            go_wp2_with (at_lookup; refine wpList_look _ rfl _ _ 106 rfl 132 3 item_law Tryz.underlying106 Tryz.underlying3 (int_zero _) w.heap.size (opsCap k m) D rfl HM2.out.map _ _ rfl (item_key HOK.out HOV.out) (j : Int) true HAT.out HHAS.out ?_)
            refine bodyPost_ret (results_tmp3 rfl _ _ _) rfl ?_
            exact RetWriters.mk none _ _ HR.out (fun h => absurd h HNC.out) HM2.out.below
        · have HZ : Hid (So.phase l 1 k = 0) := by rw [Hid, hun.out, So.unlike_end _ _ _ (by omega)]
          have HMN : Hid (WrMid w wr l (k + 1) [] (opsCap (k + 1) 0) D) := by
            have h := HM.out.wrs
            rw [List.take_of_length_le (by omega)] at h
            exact ⟨HM.out.map.mono (by simp only [opsCap]; omega), HNXT.out D h, HM.out.below⟩
          go_wp2_with fail
          go_roundw
          case rel => exact ⟨k + 1, D, by omega, by go_num, So.next_zero hno.out HZ.out, HMN.out⟩
          case measure => simp [intOf]; omega
    · have HR : Hid (So.firstR l 1 = (0, 0)) := So.first_ok l 1 (fun j hj => hno.out j (by omega))
      go_wp2_with fail
      refine bodyPost_ret (results_tmp3 rfl _ _ _) rfl ?_
      refine RetWriters.mk (some w.heap.size) 0 0 HR.out (fun _ => ⟨w.heap.size, _, D, rfl, HM.out.map, ?_⟩) HM.out.below
      obtain rfl : k = l.length := by omega
      exact HM.out.wrs
end Go.Proofs.YtfjamdpgbbnmcaaGreatDoor
/-
  What source's methods writer and takes answer: whose a value is that is read (So.fromR), and the reads of a face with those who wrote them, or the first error; what was in memory stays as it was.
  Conditions: a row has at most 2^32 elements; keys are 0 to 15, values numbers of their kind.
-/
set_option maxRecDepth 4000
namespace Go.Proofs.YtfjamdpgbbnmcaaGreatDoor
open Go.RowKit

theorem mem_writes (ops : List Ev.Event) (y : Int × Int) (j : Nat) (hj : j < 16) (hy : y.1 = (j : Int)) : y ∈ In.writesTo ops 16 ↔ In.lastOf 2 y.1 ops = some y.2 := by
  constructor
  · intro h
    obtain ⟨k, hk, hw⟩ := List.mem_filterMap.1 h
    have hky := In.wr_key ops k y hw
    rw [In.wr] at hw
    cases hl : In.lastOf 2 (k : Int) ops with
    | none => rw [hl] at hw; cases hw
    | some u =>
      rw [hl] at hw
      cases hw
      exact hl
  · intro h
    refine So.mem_keys _ j 16 hj y ?_
    rw [In.wr, ← hy, h]
    rfl
/-- A variable of four cells. -/
def Four (w : World) (b : Nat) (x0 x1 x2 x3 : Value) : Prop := w.cell? ⟨b, 0, none⟩ = some x0 ∧ w.cell? ⟨b, 1, none⟩ = some x1 ∧ w.cell? ⟨b, 2, none⟩ = some x2 ∧ w.cell? ⟨b, 3, none⟩ = some x3
theorem four_new (w : World) (x0 x1 x2 x3 : Value) (t : TypeId) : Four (w.alloc (.cells #[x0, x1, x2, x3] t)) w.heap.size x0 x1 x2 x3 := ⟨new_cell w _ _ 0 _ rfl, new_cell w _ _ 1 _ rfl, new_cell w _ _ 2 _ rfl, new_cell w _ _ 3 _ rfl⟩
theorem Four.below {w w' : World} {b : Nat} {x0 x1 x2 x3 : Value} (h : Four w b x0 x1 x2 x3) (hlt : b < w.heap.size) (hb : Below w.heap.size w w') : Four w' b x0 x1 x2 x3 :=
  ⟨(hb.cell hlt).trans h.1, (hb.cell hlt).trans h.2.1, (hb.cell hlt).trans h.2.2.1, (hb.cell hlt).trans h.2.2.2⟩
theorem Four.grown {w w' : World} {b : Nat} {x0 x1 x2 x3 : Value} {row : Option Nat} (h : Four w b x0 x1 x2 x3) (hg : w.grownBy w' row) (hne : some b ≠ row) : Four w' b x0 x1 x2 x3 :=
  ⟨hg.cell h.1 hne, hg.cell h.2.1 hne, hg.cell h.2.2.1 hne, hg.cell h.2.2.2 hne⟩
set_option maxHeartbeats 2000000 in
theorem writer_at (l : List Gr.Tx) (U : Value) (b : Nat) (F N : Value) (y : Int × Int) (w : World) (h : PastAt w l U b F N) (j : Nat) (hj : j < 16) (hy : y.1 = (j : Int)) (hv : okN y.2) : Calls Tryz.prog 98 #[.agg #[U, .map (some b), F, N], .agg #[.int .i64 y.1, .int .i64 y.2]] w (RetTwo w (So.fromR l y)) := by
  obtain ⟨A, c, rfl, hT⟩ := h.txs.spelled
  obtain ⟨A2, c2, rfl, hFa⟩ := h.faces.spelled
  obtain ⟨A3, c3, rfl, hN⟩ := h.nums.spelled
  rw [List.length_map] at *
  rw [numsTo_len] at *
  obtain ⟨n, D, hmap, hwrs⟩ := h.map
  have hk : okN y.1 := okN_small (by omega) (by omega)
  have HT := Lib.hid hT
  have HFA := Lib.hid hFa
  have HN := Lib.hid hN
  have HMAP := Lib.hid ((hmap.alloc (.cells #[.slice A l.length c, .map (some b), .slice A2 l.length c2, .slice A3 l.length c3] 114)).alloc (.cells #[.int .i64 y.1, .int .i64 y.2] 132))
  have HB := Lib.hid (below_all (alloc_below w (.cells #[.slice A l.length c, .map (some b), .slice A2 l.length c2, .slice A3 l.length c3] 114)) (alloc_below _ (.cells #[.int .i64 y.1, .int .i64 y.2] 132)))
  have HK := Lib.hid (item_key hk hv)
  by_cases h0 : y.2 = 0
  · have HR : Hid (So.fromR l y = (-1, 0)) := by rw [Hid, So.fromR, if_pos h0]
    have q0 : (y.2 == 0) = true := by rw [h0]; rfl
    clear h hT hFa hN hmap hwrs h0 hy hv hk HT HFA HN
    go_enter Tryz.func98, Tryz.ntmps98
    go_wp2_with fail
    go_ret2
    exact RetTwo.mk HR.out HB.out
  have q0 : (y.2 == 0) = false := by rw [beq_eq_false_iff_ne]; exact h0
  have HFR : Hid (So.fromR l y = So.fromGo y.1 y.2 0 l) := by rw [Hid, So.fromR, if_neg h0]
  rcases hwrs.who y.1 y.2 hk hv with ⟨hhas, hgo⟩ | ⟨m, hm, hhas, hat, hw, hgo⟩
  · have HAT : Hid (D.atKey (itemLit y.1 y.2) (.lit (.int .i64 0)) = .lit (.int .i64 0)) := Maps.atKey_of_not_has hhas _
    have HHAS := Lib.hid hhas
    have HR : Hid (So.fromR l y = (0, 12)) := by rw [Hid, HFR.out, hgo]
    clear h hT hFa hN hmap hwrs h0 hy hv hk HT HFA HN hhas hgo HFR
    go_enter Tryz.func98, Tryz.ntmps98
    go_wp2_with (at_lookup; refine wpList_look _ rfl _ _ 106 rfl 132 3 item_law Tryz.underlying106 Tryz.underlying3 (int_zero _) b n D rfl HMAP.out _ _ rfl HK.out 0 false HAT.out HHAS.out ?_)
    go_ret2
    exact RetTwo.mk HR.out HB.out
  have HAT := Lib.hid hat
  have HHAS := Lib.hid hhas
  have HGO := Lib.hid hgo
  have hm0 : (0 : Int) ≤ (m : Int) := by omega
  have hm1 : (m : Int) < (l.length : Int) := by omega
  obtain ⟨ad, u, rfl, hblk, hTm, hUm⟩ := HT.out m hm
  obtain ⟨ad2, fx, fy, rfl, hblk2, hFm, _, hfy⟩ := HFA.out m (by rw [List.length_map]; exact hm)
  obtain ⟨ad3, rfl, hblk3, hNm⟩ := HN.out m (by rw [numsTo_len]; exact hm)
  have hnum : (numsTo l l.length)[m]'(by rw [numsTo_len]; exact hm) = (((l.take m).filter (·.done)).length : Int) := by simp [numsTo]
  have hface : (l.map faceT)[m]'(by rw [List.length_map]; exact hm) = faceT l[m] := by simp
  rw [hnum] at hNm
  rw [hface] at hfy
  obtain ⟨t, ht⟩ : ∃ t, t = l[m]'hm := ⟨_, rfl⟩
  rw [← ht] at hTm hUm hfy HGO
  obtain ⟨k0, k1, k2, k3⟩ := hTm.below hblk HB.out
  cases hd : t.done with
  | false =>
    have HR : Hid (So.fromR l y = (0, 13)) := by rw [Hid, HFR.out, HGO.out, if_pos hd]
    rw [hd] at k1
    clear h hT hFa hN hmap hwrs h0 hy hv hk HT HFA HN hhas hgo HFR hat hw hTm hUm hFm hfy hNm hnum hface ht k0 k2 k3
    go_enter Tryz.func98, Tryz.ntmps98
    go_wp2_with (at_lookup; refine wpList_look _ rfl _ _ 106 rfl 132 3 item_law Tryz.underlying106 Tryz.underlying3 (int_zero _) b n D rfl HMAP.out _ _ rfl HK.out (m : Int) true HAT.out HHAS.out ?_)
    go_ret2
    exact RetTwo.mk HR.out HB.out
  | true =>
    rw [hd] at k1
    have hfy2 : Its w fy (In.writesTo t.ops 16) := by rw [faceT, hd] at hfy; exact hfy
    have HMEM := Lib.hid (mem_writes t.ops y j hj hy)
    obtain ⟨Ay, cy, rfl, _⟩ := hfy2.spelled
    have hyl := In.writes_len t.ops 16
    obtain ⟨f0, f1⟩ := hFm.below hblk2 HB.out
    have HIT := Lib.hid ((hfy2.below HB.out).below ((Below.refl _ ((w.alloc (.cells #[.slice (some ad) l.length c, .map (some b), .slice (some ad2) l.length c2, .slice (some ad3) l.length c3] 114)).alloc (.cells #[.int .i64 y.1, .int .i64 y.2] 132))).drew))
    have HNM := Lib.hid hNm
    have g2 : ((w.alloc (.cells #[.slice (some ad) l.length c, .map (some b), .slice (some ad2) l.length c2, .slice (some ad3) l.length c3] 114)).alloc (.cells #[.int .i64 y.1, .int .i64 y.2] 132)).cell? ⟨w.heap.size, 2, none⟩ = some (.slice (some ad2) l.length c2) := cell_new (new_cell w _ _ 2 _ rfl) _
    have g4 : ((w.alloc (.cells #[.slice (some ad) l.length c, .map (some b), .slice (some ad2) l.length c2, .slice (some ad3) l.length c3] 114)).alloc (.cells #[.int .i64 y.1, .int .i64 y.2] 132)).cell? ⟨w.heap.size + 1, 0, none⟩ = some (.int .i64 y.1) := by
      have := new_cell (w.alloc (.cells #[.slice (some ad) l.length c, .map (some b), .slice (some ad2) l.length c2, .slice (some ad3) l.length c3] 114)) #[.int .i64 y.1, .int .i64 y.2] 132 0 _ rfl
      rwa [size_new] at this
    have g5 : ((w.alloc (.cells #[.slice (some ad) l.length c, .map (some b), .slice (some ad2) l.length c2, .slice (some ad3) l.length c3] 114)).alloc (.cells #[.int .i64 y.1, .int .i64 y.2] 132)).cell? ⟨w.heap.size + 1, 1, none⟩ = some (.int .i64 y.2) := by
      have := new_cell (w.alloc (.cells #[.slice (some ad) l.length c, .map (some b), .slice (some ad2) l.length c2, .slice (some ad3) l.length c3] 114)) #[.int .i64 y.1, .int .i64 y.2] 132 1 _ rfl
      rwa [size_new] at this
    have HBD := Lib.hid (below_all HB.out ((Below.refl _ ((w.alloc (.cells #[.slice (some ad) l.length c, .map (some b), .slice (some ad2) l.length c2, .slice (some ad3) l.length c3] 114)).alloc (.cells #[.int .i64 y.1, .int .i64 y.2] 132))).drew))
    have HBX : Hid (((w.alloc (.cells #[.slice (some ad) l.length c, .map (some b), .slice (some ad2) l.length c2, .slice (some ad3) l.length c3] 114)).alloc (.cells #[.int .i64 y.1, .int .i64 y.2] 132)).drew.cell? ⟨w.heap.size, 3, none⟩ = some (.slice (some ad3) l.length c3)) := cell_new (new_cell w _ _ 3 _ rfl) _
    have hlt3 : w.heap.size < ((w.alloc (.cells #[.slice (some ad) l.length c, .map (some b), .slice (some ad2) l.length c2, .slice (some ad3) l.length c3] 114)).alloc (.cells #[.int .i64 y.1, .int .i64 y.2] 132)).drew.heap.size := by simp [World.drew]; omega
    have HG2 : Hid (So.fromR l y = if In.lastOf 2 y.1 t.ops ≠ some y.2 then (0, 14) else ((((l.take m).filter (·.done)).length : Int), 0)) := by rw [Hid, HFR.out, HGO.out, if_neg (by rw [hd]; simp)]
    clear h hT hFa hN hmap hwrs h0 hy hv hk HT HFA HN hhas hgo HFR hat hw hTm hUm hFm hfy hfy2 hNm hnum hface ht k0 k2 k3 HGO
    go_enter Tryz.func98, Tryz.ntmps98
    go_wp2_with (at_lookup; refine wpList_look _ rfl _ _ 106 rfl 132 3 item_law Tryz.underlying106 Tryz.underlying3 (int_zero _) b n D rfl HMAP.out _ _ rfl HK.out (m : Int) true HAT.out HHAS.out ?_)
    clear HMAP HB k1
    generalize (w.alloc (.cells #[.slice (some ad) l.length c, .map (some b), .slice (some ad2) l.length c2, .slice (some ad3) l.length c3] 114)).alloc (.cells #[.int .i64 y.1, .int .i64 y.2] 132) = W0 at *
    go_still_tail 7, (by kernel_rfl)
    change wpList _ _ _ _ _ W0.drew
    clear f0 f1 g2 g4 g5
    generalize W0.drew = W at *
    by_cases hlo : In.lastOf 2 y.1 t.ops = some y.2
    · have HR : Hid (So.fromR l y = ((((l.take m).filter (·.done)).length : Int), 0)) := by rw [Hid, HG2.out, if_neg (by simpa using hlo)]
      have HIN : Hid (decide (y ∈ In.writesTo t.ops 16) = true) := decide_eq_true (HMEM.out.2 hlo)
      clear hlo HG2 HMEM
      go_wp2_with (go_at_call 113; refine (contains_at (In.writesTo t.ops 16) y _ _ HIT.out (by omega)).mono ?_; rintro e w3 ⟨rfl, hb3⟩; rw [HIN.out]; have hc3 := (hb3.cell hlt3).trans HBX.out; have HB3 := Lib.hid (below_all HBD.out hb3); have hn3 : w3.cell? (ad3.add m) = some (.int .i64 (((l.take m).filter (·.done)).length : Int)) := (HB3.out.cell (by rw [add_block]; exact hblk3)).trans HNM.out; clear hb3)
      go_ret2
      exact RetTwo.mk HR.out HB3.out
    · have HR : Hid (So.fromR l y = (0, 14)) := by rw [Hid, HG2.out, if_pos (by simpa using hlo)]
      have HIN : Hid (decide (y ∈ In.writesTo t.ops 16) = false) := decide_eq_false (fun h => hlo (HMEM.out.1 h))
      clear hlo HG2 HMEM
      go_wp2_with (go_at_call 113; refine (contains_at (In.writesTo t.ops 16) y _ _ HIT.out (by omega)).mono ?_; rintro e w3 ⟨rfl, hb3⟩; rw [HIN.out]; have HB3 := Lib.hid (below_all HBD.out hb3); clear hb3)
      go_ret2
      exact RetTwo.mk HR.out HB3.out

/-- The reads of a face, each with the one who wrote it, and an error. -/
def takesL (l : List Gr.Tx) (ys : List (Int × Int)) : List (Int × Int) := ys.map fun y => (y.1, (So.fromR l y).1)
def RetTakes (w : World) (l : List Gr.Tx) (ys : List (Int × Int)) (e : Ending) (w' : World) : Prop := ∃ A n c, e = .returned (.tuple #[.slice A n c, .int .i64 (So.readsErr l ys)]) ∧ (So.readsErr l ys = 0 → w'.ownsRow w.heap.size 40 2 (.slice A n c) (takesL l ys).length ((takesL l ys).flatMap itC)) ∧ Below w.heap.size w w'
theorem RetTakes.mk {w w' : World} {l : List Gr.Tx} {ys : List (Int × Int)} (v : Value) (A : Option Addr) (n c : Nat) (q : Int) (hv : v = .slice A n c) (h : So.readsErr l ys = q) (hf : So.readsErr l ys = 0 → w'.ownsRow w.heap.size 40 2 v (takesL l ys).length ((takesL l ys).flatMap itC)) (hb : Below w.heap.size w w') : RetTakes w l ys (.returned (.tuple #[v, .int .i64 q])) w' := by
  subst hv
  exact ⟨A, n, c, by rw [h], hf, hb⟩
theorem take_info : (Tryz.prog.info? 40).map (fun i => (i.zero, i.size, i.bytes)) = some (some (.agg #[.int .i64 0, .int .i64 0]), 2, 16) := by kernel_rfl
theorem takesL_take (l : List Gr.Tx) (ys : List (Int × Int)) (k : Nat) (hk : k < ys.length) : takesL l (ys.take (k + 1)) = takesL l (ys.take k) ++ [(ys[k].1, (So.fromR l ys[k]).1)] := by rw [takesL, List.take_succ_eq_append_getElem hk, List.map_append]; rfl
theorem takesL_len (l : List Gr.Tx) (ys : List (Int × Int)) (k : Nat) (hk : k ≤ ys.length) : (takesL l (ys.take k)).length = k := by simp [takesL]; omega
set_option maxHeartbeats 2000000 in
theorem takes_at (l : List Gr.Tx) (U : Value) (b : Nat) (F N : Value) (ys : List (Int × Int)) (v : Value) (w : World) (h : PastAt w l U b F N) (hv : Its w v ys) (hys : ys.length ≤ 4294967296) (hok : ∀ y ∈ ys, (∃ j : Nat, j < 16 ∧ y.1 = (j : Int)) ∧ okN y.2) :
    Calls Tryz.prog 79 #[.agg #[U, .map (some b), F, N], v] w (RetTakes w l ys) := by
  obtain ⟨i0, hi0, hz0, hz1, hz2⟩ := info_parts take_info
  have I0 := Lib.hid hi0
  have I1 := Lib.hid hz0
  have I2 := Lib.hid hz1
  have I3 := Lib.hid hz2
  clear hi0 hz0 hz1 hz2
  obtain ⟨A, c, rfl, hform⟩ := hv.spelled
  have HF := Lib.hid hform
  have HOK := Lib.hid hok
  obtain ⟨AU, cU, rfl, _⟩ := h.txs.spelled
  obtain ⟨AF, cF, rfl, _⟩ := h.faces.spelled
  obtain ⟨AN, cN, rfl, _⟩ := h.nums.spelled
  rw [List.length_map, numsTo_len] at *
  have HP := Lib.hid h
  have HW0 := Lib.hid (four_new w (.slice AU l.length cU) (.map (some b)) (.slice AF l.length cF) (.slice AN l.length cN) 114)
  clear hform hv hok h
  go_enter Tryz.func79, Tryz.ntmps79
  go_wp2
  go_loopw [6, 13] (fun v i wr => ∃ k : Nat, k ≤ ys.length ∧ i = .int .i64 k ∧ Hid (So.readsErr l ys = So.readsErr l (ys.drop k)) ∧ wr.ownsRow (w.heap.size + 1) 40 2 v (takesL l (ys.take k)).length ((takesL l (ys.take k)).flatMap itC) ∧ Four wr w.heap.size (.slice AU l.length cU) (.map (some b)) (.slice AF l.length cF) (.slice AN l.length cN) ∧ Below w.heap.size w wr) (fun _ i _ => ys.length - (intOf i).toNat)
  case atStart => exact ⟨0, Nat.zero_le _, rfl, rfl, World.ownsRow_nil _ _ _ _, HW0.out, alloc_below _ _⟩
  case round =>
    clear HW0
    obtain ⟨k, hk, rfl, hre, hown, hbox, hb⟩ := hrel
    have HO := Lib.hid hown
    have HB := Lib.hid hb
    have HX := Lib.hid hbox
    obtain ⟨A', cp, rfl⟩ := own_form hown
    obtain ⟨b0, b1, b2, b3⟩ := hbox
    have HS := Lib.hid (World.block_lt_of_cell? wr _ b0)
    clear hown hb
    by_cases hlt : k < ys.length
    · obtain ⟨ad, rfl, hblk, hT⟩ := HF.out k hlt
      obtain ⟨y, hy⟩ : ∃ y, y = ys[k]'hlt := ⟨_, rfl⟩
      obtain ⟨⟨j, hj, hyj⟩, hyv⟩ := HOK.out (ys[k]'hlt) (List.getElem_mem _)
      have HST := Lib.hid (So.readsErr_step l ys k hlt)
      have HTK := Lib.hid (takesL_take l ys k hlt)
      have HLN := Lib.hid (takesL_len l ys k hk)
      rw [← hy] at hT HST HTK hyj hyv
      obtain ⟨c0, c1⟩ := hT.below hblk HB.out
      have HPA := Lib.hid ((HP.out.below HB.out).below (alloc_below wr (.cells #[.int .i64 y.1, .int .i64 y.2] 132)))
      obtain ⟨g0, g1, g2, g3⟩ := HX.out.below HS.out (alloc_below wr (.cells #[.int .i64 y.1, .int .i64 y.2] 132))
      have HYJ := Lib.hid hyj
      have HYV := Lib.hid hyv
      clear hT hy hyj hyv
      generalize takesL l (ys.take k) = d at *
      go_wp2_with fail
      refine (writer_at l _ b _ _ y _ HPA.out j hj HYJ.out HYV.out).mono ?_
      rintro e w1 ⟨rfl, hb1⟩
      have HB1 := Lib.hid (below_all HB.out (below_new hb1))
      by_cases hq : (So.fromR l y).2 = 0
      · have HRE : Hid (So.readsErr l ys = So.readsErr l (ys.drop (k + 1))) := by rw [Hid, hre.out, HST.out, if_neg (by simpa using hq)]
        rw [hq]
        generalize (So.fromR l y).1 = r at *
        have d0 : w1.cell? ⟨wr.heap.size, 0, none⟩ = some (.int .i64 y.1) := (hb1.cell (by simp)).trans (new_cell wr _ _ 0 _ rfl)
        have HO1 := Lib.hid ((own_below (HO.out.alloc (.cells #[.int .i64 y.1, .int .i64 y.2] 132)) hb1).alloc (.cells #[.int .i64 y.1, .int .i64 r] 40))
        have HB2 := Lib.hid (below_all HB1.out (alloc_below w1 (.cells #[.int .i64 y.1, .int .i64 r] 40)))
        have HX1 := Lib.hid ((HX.out.below HS.out (below_new hb1)).below (Nat.lt_of_lt_of_le HS.out (below_new hb1).size) (alloc_below w1 (.cells #[.int .i64 y.1, .int .i64 r] 40)))
        have HN := Lib.hid (new_row w1 (itC (y.1, r)) 40)
        have hS1 : w.heap.size + 1 ≤ (w1.alloc (.cells #[.int .i64 y.1, .int .i64 r] 40)).heap.size := by have := HS.out; have := (below_new hb1).size; simp; omega
        have HS1 : Hid (w.heap.size < (w1.alloc (.cells #[.int .i64 y.1, .int .i64 r] 40)).heap.size) := by rw [Hid]; omega
        clear hb1 hq b0 b1 b2 b3 c0 c1 g0 g1 g2 g3
        go_wp2_with (at_builtin; refine wpList_append_own_at _ rfl _ _ 36 rfl (w.heap.size + 1) 40 i0 _ 2 16 Tryz.underlying36 I0.out I1.out I2.out I3.out rfl (by decide) _ d.length _ rfl HO1.out ⟨w1.heap.size, 0, none⟩ 1 1 (itC (y.1, r)) rfl rfl HN.out (one_its _) (by have := HLN.out; simp only [maxLen]; omega) (by have := HLN.out; omega) hS1 ?_; intro v2 w2 hown2 hgrow2 hnil2 hat2; have HO2 := Lib.hid hown2; have HB3 := Lib.hid (HB2.out.grown hgrow2 HB2.out.size (fun k hk => Nat.le_of_succ_le (HO1.out.lt k hk).1)); have HX2 := Lib.hid (HX1.out.grown hgrow2 (fun e => absurd (HO1.out.lt _ e.symm).1 (by omega))); clear hown2 hgrow2 hnil2 hat2)
        go_roundw
        case rel =>
          refine ⟨k + 1, by omega, by go_num, HRE, ?_, HX2.out, HB3.out⟩
          rw [HTK.out]
          exact Rows'.own_snoc HO2.out
        case measure => simp [intOf]; omega
      · have hqb : ((So.fromR l y).2 != 0) = true := by rw [bne_iff_ne]; exact hq
        have HRE : Hid (So.readsErr l ys = (So.fromR l y).2) := by rw [Hid, hre.out, HST.out, if_pos (by simpa using hq)]
        have HNZ := Lib.hid hq
        clear hb1 hq
        go_wp2_with fail
        go_ret2
        exact RetTakes.mk _ none 0 0 _ rfl HRE.out (fun h => absurd (HRE.out.symm.trans h) HNZ.out) HB1.out
    · have HRE : Hid (So.readsErr l ys = 0) := by rw [Hid, hre.out, So.readsErr_end _ _ _ (by omega)]
      have HTA : Hid (ys.take k = ys) := List.take_of_length_le (by omega)
      go_wp2_with fail
      go_ret2
      refine RetTakes.mk _ _ _ _ _ rfl HRE.out (fun _ => ?_) HB.out
      have h2 := HO.out.mono (Nat.le_succ w.heap.size)
      rw [HTA.out] at h2
      simpa [HTA.out] using h2
end Go.Proofs.YtfjamdpgbbnmcaaGreatDoor
/-
  What source's method history and source.Hist answer: So.histR, the history of any transactions, or which one is wrong, and how; what was in memory stays as it was.
  Conditions: a row has at most 2^32 elements.
-/
set_option maxRecDepth 4000
namespace Go.Proofs.YtfjamdpgbbnmcaaGreatDoor
open Go.RowKit

namespace So
theorem first_cases (l : List Gr.Tx) (p : Nat) (hp : p < 4) : (Clean l p ∧ firstR l p = (0, 0)) ∨ ∃ (i : Nat) (q : Int), firstR l p = ((i : Int), q) ∧ q ≠ 0 ∧ ¬ Clean l p ∧ (l.length ≤ 32 → (∀ r, r < p → Clean l r) → histR l = ([], (i : Int), q)) := by
  rcases nz_cases (phase l p) l.length with h | ⟨i, hi, hq, h0⟩
  · exact .inl ⟨h, first_ok l p h⟩
  · exact .inr ⟨i, phase l p i, first_bad l p i hi h0 hq, hq, fun h => hq (h i hi), fun hl hb => hist_bad l hl p i hp hi hb h0 hq⟩
/-- What history tells, the other kinds of errors being none. -/
def endR (l : List Gr.Tx) : List Txn × Int × Int := if (firstR l 3).2 = 0 then (txns l, 0, 0) else ([], (firstR l 3).1, (firstR l 3).2)
theorem end_ok (l : List Gr.Tx) (h : Clean l 3) : endR l = (txns l, 0, 0) := by rw [endR, first_ok l 3 h]; rfl
theorem end_bad (l : List Gr.Tx) (i : Nat) (hi : i < l.length) (h0 : ∀ j, j < i → phase l 3 j = 0) (hq : phase l 3 i ≠ 0) : endR l = ([], (i : Int), phase l 3 i) := by rw [endR, first_bad l 3 i hi h0 hq, if_neg hq]
theorem hist_end (l : List Gr.Tx) (hl : l.length ≤ 32) (h : ∀ p, p < 3 → Clean l p) : histR l = endR l := by
  rcases nz_cases (phase l 3) l.length with h3 | ⟨i, hi, hq, h0⟩
  · rw [end_ok l h3, hist_ok l hl]
    intro p hp
    by_cases e : p = 3
    · rw [e]; exact h3
    · exact h p (by omega)
  · rw [end_bad l i hi h0 hq, hist_bad l hl 3 i (by omega) hi (fun q hq' => h q (by omega)) h0 hq]
end So
theorem reads_ok (ops : List Ev.Event) (h : ∀ e ∈ ops, isOpB e = true) : ∀ y ∈ In.readsTo ops 16, (∃ j : Nat, j < 16 ∧ y.1 = (j : Int)) ∧ okN y.2 := by
  intro y hy
  obtain ⟨k, hk, hr⟩ := List.mem_filterMap.1 hy
  refine ⟨⟨k, List.mem_range.1 hk, In.rd_key ops k y hr⟩, ?_⟩
  unfold In.rd at hr
  cases hf : ops.find? fun e => decide (e.key = (k : Int)) with
  | none => rw [hf] at hr; cases hr
  | some e =>
    rw [hf] at hr
    simp only at hr
    split at hr
    · cases hr
      exact (op_ok (h e (List.mem_of_find?_eq_some hf))).2
    · cases hr
theorem txn_info : (Tryz.prog.info? 38).map (fun i => (i.zero, i.size, i.bytes)) = some (some (.agg #[.int .i64 0, .slice none 0 0, .slice none 0 0]), 3, 56) := by kernel_rfl
theorem one_cell {w : World} {b : Nat} {u : Value} {t : TypeId} (h : w.heap[b]? = some (.cells #[u] t (0, 0))) : w.cell? ⟨b, 0, none⟩ = some u ∧ w.frozen? ⟨b, 0, none⟩ = false := by
  refine ⟨?_, ?_⟩
  · simp [World.cell?, h]
  · simp [World.frozen?, h]
theorem one_set {w : World} {b : Nat} {u : Value} {t : TypeId} (h : w.heap[b]? = some (.cells #[u] t (0, 0))) (x : Value) : (w.setCell ⟨b, 0, none⟩ x).heap[b]? = some (.cells #[x] t (0, 0)) := by
  simp [World.setCell, Array.getElem?_modify, h]
theorem OwnTxns.set {te ti tk : TypeId} {w : World} {base : Nat} {v : Value} {p : List (So.Txn × Value × Value)} (h : OwnTxns te ti tk w base v p) {a : Addr} (ha : a.block < base) (u : Value) : OwnTxns te ti tk (w.setCell a u) base v p :=
  ⟨ownsRow_setCell_below h.row ha u, fun x hx => ownsRow_setCell_below (h.writes x hx) ha u, fun x hx => ownsRow_setCell_below (h.reads x hx) ha u⟩
/-- What history holds at the head of each round: its receiver, its result variable, the history so far. -/
structure HistMid (w wr : World) (l : List Gr.Tx) (k : Nat) (U : Value) (b : Nat) (F N V : Value) (p : List (So.Txn × Value × Value)) : Prop where
  box : Four wr w.heap.size U (.map (some b)) F N
  res : wr.heap[w.heap.size + 1]? = some (.cells #[.slice none 0 0] 24 (0, 0))
  cell : wr.heap[w.heap.size + 2]? = some (.cells #[V] 24 (0, 0))
  own : OwnTxns 38 3 40 wr (w.heap.size + 3) V p
  same : p.map (·.1) = ((l.take k).filter (·.done)).map (So.txnOf l)
  below : Below w.heap.size w wr
section
variable {w wr w' : World} {l : List Gr.Tx} {k : Nat} {U : Value} {b : Nat} {F N V : Value} {p : List (So.Txn × Value × Value)}
theorem HistMid.lt (h : HistMid w wr l k U b F N V p) : w.heap.size + 2 < wr.heap.size := lt_of_block h.cell
theorem HistMid.later (h : HistMid w wr l k U b F N V p) (hb : Below wr.heap.size wr w') : HistMid w w' l k U b F N V p := by
  have := h.lt
  exact ⟨h.box.below (by omega) hb, (hb.block _ (by omega)).trans h.res, (hb.block _ (by omega)).trans h.cell, h.own.below hb, h.same, below_all h.below hb⟩
theorem hist_start (w : World) (l : List Gr.Tx) (U : Value) (b : Nat) (F N : Value) (t0 : TypeId) : HistMid w (((w.alloc (.cells #[U, .map (some b), F, N] t0)).alloc (.cells #[.slice none 0 0] 24)).alloc (.cells #[.slice none 0 0] 24)) l 0 U b F N (.slice none 0 0) [] := by
  have e : (((w.alloc (.cells #[U, .map (some b), F, N] t0)).alloc (.cells #[.slice none 0 0] 24)).alloc (.cells #[.slice none 0 0] 24)).heap = ((w.heap.push (.cells #[U, .map (some b), F, N] t0)).push (.cells #[.slice none 0 0] 24)).push (.cells #[.slice none 0 0] 24) := rfl
  refine ⟨((four_new w _ _ _ _ _).below (by simp) (alloc_below _ _)).below (by simp; omega) (alloc_below _ _), ?_, ?_, OwnTxns.nil _ _ _ _ _, rfl, below_new (below_new (alloc_below _ _))⟩
  · rw [e]
    simp only [Array.getElem?_push, Array.size_push]
    repeat (first | rw [if_neg (by omega)] | rw [if_pos trivial] | rw [if_pos (by omega)])
  · rw [e]
    simp only [Array.getElem?_push, Array.size_push]
    repeat (first | rw [if_neg (by omega)] | rw [if_pos trivial] | rw [if_pos (by omega)])
theorem HistMid.skip (h : HistMid w wr l k U b F N V p) (hk : k < l.length) (hd : l[k].done = false) : HistMid w wr l (k + 1) U b F N V p := by
  refine ⟨h.box, h.res, h.cell, h.own, ?_, h.below⟩
  rw [So.txns_step l k hk, hd, h.same]
  simp
/-- One transaction more: it was appended, and the row is laid into the history. -/
theorem HistMid.more {w3 : World} {v' kv rv : Value} (h : HistMid w wr l k U b F N V p) (hk : k < l.length) (hd : l[k].done = true)
    (hkv : wr.ownsRow (w.heap.size + 3) 3 1 kv (So.txnOf l l[k]).writes.length ((So.txnOf l l[k]).writes.flatMap nC)) (hrv : wr.ownsRow (w.heap.size + 3) 40 2 rv (So.txnOf l l[k]).reads.length ((So.txnOf l l[k]).reads.flatMap itC))
    (hrow : w3.ownsRow (w.heap.size + 3) 38 3 v' (p.length + 1) (p.flatMap txnC ++ txnC (So.txnOf l l[k], kv, rv))) (hg : wr.grownBy w3 V.ownBlock) :
    HistMid w (w3.setCell ⟨w.heap.size + 2, 0, none⟩ v') l (k + 1) U b F N v' (p ++ [(So.txnOf l l[k], kv, rv)]) := by
  have hlt := h.lt
  have hne : ∀ j, j ≤ w.heap.size + 2 → some j ≠ V.ownBlock := fun j hj e => by
    have := (h.own.row.lt j e.symm).1
    omega
  have hfar : ∀ j, j ≠ w.heap.size + 2 → (w3.setCell ⟨w.heap.size + 2, 0, none⟩ v').heap[j]? = w3.heap[j]? := fun j hj => Below.heap_setCell _ _ _ _ hj
  have hb3 : ∀ j, j ≤ w.heap.size + 2 → w3.heap[j]? = wr.heap[j]? := fun j hj => hg.block j (by omega) (hne j hj)
  refine ⟨?_, ?_, ?_, ?_, ?_, ?_⟩
  · have hx : ∀ o, (w3.setCell ⟨w.heap.size + 2, 0, none⟩ v').cell? ⟨w.heap.size, o, none⟩ = wr.cell? ⟨w.heap.size, o, none⟩ := fun o => World.cell?_of_block ((hfar w.heap.size (by omega)).trans (hb3 w.heap.size (by omega)))
    exact ⟨(hx 0).trans h.box.1, (hx 1).trans h.box.2.1, (hx 2).trans h.box.2.2.1, (hx 3).trans h.box.2.2.2⟩
  · exact (hfar _ (by omega)).trans ((hb3 _ (by omega)).trans h.res)
  · exact one_set ((hb3 _ (by omega)).trans h.cell) v'
  · exact (h.own.snoc (by decide) (by decide) hkv hrv hrow hg).set (by show w.heap.size + 2 < w.heap.size + 3; omega) _
  · rw [So.txns_step l k hk, hd, List.map_append, h.same]
    simp
  · exact (h.below.grown hg h.below.size (fun j hj => by have := (h.own.row.lt j hj).1; omega)).setCell (by show w.heap.size ≤ w.heap.size + 2; omega) _
end
theorem HistMid.far {w wr : World} {l : List Gr.Tx} {k : Nat} {U : Value} {b : Nat} {F N V : Value} {p : List (So.Txn × Value × Value)} (h : HistMid w wr l k U b F N V p) (j : Nat) (hj : j ≤ w.heap.size + 2) : some j ≠ V.ownBlock := fun e => by
  have := (h.own.row.lt j e.symm).1
  omega
theorem own_any {w : World} {base size n : Nat} {e : TypeId} {v : Value} {xs : List Value} (h : w.ownsRow base e size v n xs) : ∃ A m c, v = .slice A m c := by
  obtain ⟨A, c, e⟩ := own_form h
  exact ⟨A, n, c, e⟩
theorem new_txn (w : World) (t : So.Txn) (u v : Value) (e : TypeId) : ∀ j x, (txnC (t, u, v))[j]? = some x → (w.alloc (.cells #[.int .i64 t.session, u, v] e)).cell? ((⟨w.heap.size, 0, none⟩ : Addr).add j) = some x := new_row w (txnC (t, u, v)) e
theorem results_hist (X : World) (b : Nat) (tmps : Array Value) (x : Value) (n q : Int) (hp : tmps.getD 2 undef = .pointer (some ⟨b, 0, none⟩)) (hn : tmps.getD 3 undef = .int .i64 n) (hq : tmps.getD 4 undef = .int .i64 q) (h0 : X.cell? ⟨b, 0, none⟩ = some x) :
    (results Tryz.f57 tmps).run Tryz.prog X = .ok (.tuple #[.agg #[x], .int .i64 n, .int .i64 q]) X := by
  rw [Array.getD_eq_getD_getElem?] at hp hn hq
  simp [results, Tryz.results57, hp, hn, hq, asAddr, go_sem, h0]
theorem results_hist9 (X : World) (b : Nat) (tmps : Array Value) (x : Value) (n q : Int) (hp : tmps.getD 2 undef = .pointer (some ⟨b, 0, none⟩)) (hn : tmps.getD 3 undef = .int .i64 n) (hq : tmps.getD 4 undef = .int .i64 q) (h0 : X.cell? ⟨b, 0, none⟩ = some x) :
    (results Tryz.f31 tmps).run Tryz.prog X = .ok (.tuple #[.agg #[x], .int .i64 n, .int .i64 q]) X := by
  rw [Array.getD_eq_getD_getElem?] at hp hn hq
  simp [results, Tryz.results31, hp, hn, hq, asAddr, go_sem, h0]
theorem OwnTxns.mono {te ti tk : TypeId} {w : World} {base base' : Nat} {v : Value} {p : List (So.Txn × Value × Value)} (h : OwnTxns te ti tk w base v p) (hb : base' ≤ base) : OwnTxns te ti tk w base' v p :=
  ⟨h.row.mono hb, fun x hx => (h.writes x hx).mono hb, fun x hx => (h.reads x hx).mono hb⟩
/-- As RetHist, all rows in memory that the call made. -/
def RetHistOwn (w : World) (r : List So.Txn × Int × Int) (e : Ending) (w' : World) : Prop := ∃ v p, e = .returned (.tuple #[.agg #[v], .int .i64 r.2.1, .int .i64 r.2.2]) ∧ OwnTxns 38 3 40 w' w.heap.size v p ∧ p.map (·.1) = r.1 ∧ Below w.heap.size w w'
theorem RetHistOwn.ret {w w' : World} {r : List So.Txn × Int × Int} {e : Ending} (h : RetHistOwn w r e w') : RetHist w r e w' := by
  obtain ⟨v, p, he, ho, hp, hb⟩ := h
  refine ⟨v, he, ?_, hb⟩
  rw [← hp]
  exact ho.txns
/-- A history's end: what lies in the result variable, a place and an error. -/
theorem end_hist {w X : World} {r : List So.Txn × Int × Int} {ts : List So.Txn} {n q : Int} (hr : r = (ts, n, q)) (tmps : Array Value) (b : Nat) (x : Value) (h0 : X.cell? ⟨b, 0, none⟩ = some x) (p : List (So.Txn × Value × Value)) (hpp : p.map (·.1) = ts) (hx : OwnTxns 38 3 40 X w.heap.size x p) (hb : Below w.heap.size w X)
    (hp : tmps.getD 2 undef = .pointer (some ⟨b, 0, none⟩)) (hn : tmps.getD 3 undef = .int .i64 n) (hq : tmps.getD 4 undef = .int .i64 q) :
    bodyPost Tryz.prog Tryz.f57 (RetHistOwn w r) Exit.ret { tmps := tmps, defers := [] } X := by
  refine bodyPost_ret (results_hist X b tmps x n q hp hn hq h0) rfl ?_
  subst hr
  exact ⟨x, p, rfl, hx, hpp, hb⟩
theorem end_hist9 {w X : World} {r : List So.Txn × Int × Int} {ts : List So.Txn} {n q : Int} (hr : r = (ts, n, q)) (tmps : Array Value) (b : Nat) (x : Value) (h0 : X.cell? ⟨b, 0, none⟩ = some x) (p : List (So.Txn × Value × Value)) (hpp : p.map (·.1) = ts) (hx : OwnTxns 38 3 40 X w.heap.size x p) (hb : Below w.heap.size w X)
    (hp : tmps.getD 2 undef = .pointer (some ⟨b, 0, none⟩)) (hn : tmps.getD 3 undef = .int .i64 n) (hq : tmps.getD 4 undef = .int .i64 q) :
    bodyPost Tryz.prog Tryz.f31 (RetHistOwn w r) Exit.ret { tmps := tmps, defers := [] } X := by
  refine bodyPost_ret (results_hist9 X b tmps x n q hp hn hq h0) rfl ?_
  subst hr
  exact ⟨x, p, rfl, hx, hpp, hb⟩

/-- What the last step of a round reads. -/
def HeldAt (B n : Nat) (ad : Addr) (k : Nat) (s F Y : Value) (w : World) : Prop := w.cell? ⟨n, 0, none⟩ = some s ∧ w.cell? ⟨B, 2, none⟩ = some F ∧ w.cell? ⟨(ad.add (k * 2)).block, (ad.add (k * 2)).off + 1, none⟩ = some Y
theorem HeldAt.on {B n : Nat} {ad : Addr} {k : Nat} {s F Y : Value} {w w' : World} {row : Option Nat} (h : HeldAt B n ad k s F Y w) (hg : w.grownBy w' row) (h2 : some n ≠ row) (h3 : some B ≠ row) (h4 : some ad.block ≠ row) : HeldAt B n ad k s F Y w' :=
  ⟨hg.cell h.1 h2, hg.cell h.2.1 h3, hg.cell h.2.2 (by rw [add_block]; exact h4)⟩
theorem HeldAt.below {B n : Nat} {ad : Addr} {k : Nat} {s F Y : Value} {w w' : World} (h : HeldAt B n ad k s F Y w) (hb : Below w.heap.size w w') : HeldAt B n ad k s F Y w' :=
  h.on (row := none) ⟨hb.os, hb.tape, hb.output, hb.size, fun k hk _ => hb.block k hk⟩ (by simp) (by simp) (by simp)
theorem HeldAt.set {B n : Nat} {ad : Addr} {k : Nat} {s F Y : Value} {w : World} (h : HeldAt B n ad k s F Y w) (j : Nat) (u : Value) (h2 : n ≠ j) (h3 : B ≠ j) (h4 : ad.block ≠ j) : HeldAt B n ad k s F Y (w.setCell ⟨j, 0, none⟩ u) :=
  ⟨(far_cell h2).trans h.1, (far_cell h3).trans h.2.1, (far_cell (by rw [add_block]; exact h4)).trans h.2.2⟩
set_option maxHeartbeats 2000000 in
theorem history_at (l : List Gr.Tx) (U : Value) (b : Nat) (F N : Value) (w : World) (h : PastAt w l U b F N) (hl : l.length ≤ 32) (hc : So.Clean l 0) : Calls Tryz.prog 57 #[.agg #[U, .map (some b), F, N]] w (RetHistOwn w (So.endR l)) := by
  obtain ⟨j0, hi0, hz0, hz1, hz2⟩ := info_parts txn_info
  have J0 := Lib.hid hi0
  have J1 := Lib.hid hz0
  have J2 := Lib.hid hz1
  have J3 := Lib.hid hz2
  clear hi0 hz0 hz1 hz2
  have HC := Lib.hid ((So.clean_may l).1 hc)
  obtain ⟨AU, cU, rfl, hT⟩ := h.txs.spelled
  obtain ⟨AF, cF, rfl, hFa⟩ := h.faces.spelled
  obtain ⟨AN, cN, rfl, _⟩ := h.nums.spelled
  rw [List.length_map] at *
  rw [numsTo_len] at *
  have HP := Lib.hid h
  have HT := Lib.hid hT
  have HFA := Lib.hid hFa
  have HS0 := Lib.hid (hist_start w l (.slice AU l.length cU) b (.slice AF l.length cF) (.slice AN l.length cN) 114)
  clear hT hFa h hc
  go_enter Tryz.func57, Tryz.ntmps57
  go_wp2
  go_loopw [13] (fun i wr => ∃ (k : Nat) (V : Value) (p : List (So.Txn × Value × Value)), k ≤ l.length ∧ i = .int .i64 k ∧ Hid (∀ j, j < k → So.phase l 3 j = 0) ∧ HistMid w wr l k (.slice AU l.length cU) b (.slice AF l.length cF) (.slice AN l.length cN) V p) (fun i _ => l.length - (intOf i).toNat)
  case atStart => exact ⟨0, _, _, Nat.zero_le _, rfl, (fun j hj => absurd hj (by omega)), HS0.out⟩
  case round =>
    clear HS0
    obtain ⟨k, V, p, hk, rfl, hno, hat⟩ := hrel
    have HM := Lib.hid hat
    obtain ⟨AV, cV, rfl⟩ := own_form hat.own.row
    clear hat
    by_cases hlt : k < l.length
    · obtain ⟨ad, u, rfl, hblk, hTk, hUk⟩ := HT.out k hlt
      obtain ⟨ad2, fx, fy, rfl, hblk2, hFk, hfx, hfy⟩ := HFA.out k (by rw [List.length_map]; exact hlt)
      have hface : (l.map faceT)[k]'(by rw [List.length_map]; exact hlt) = faceT l[k] := by simp
      rw [hface] at hfx hfy
      have HSK := Lib.hid (fun hd => HM.out.skip hlt hd)
      have HMO := Lib.hid (fun (W w3 : World) (v' kv rv : Value) (hm : HistMid w W l k (.slice (some ad) l.length cU) b (.slice (some ad2) l.length cF) (.slice AN l.length cN) (.slice AV p.length cV) p) => hm.more (w3 := w3) (v' := v') (kv := kv) (rv := rv) hlt)
      have HPH := Lib.hid (So.phase_at l 3 k hlt)
      have HMAY := Lib.hid ((So.mayT_iff _).1 (HC.out _ (List.getElem_mem hlt))).1
      obtain ⟨t, ht⟩ : ∃ t, t = l[k]'hlt := ⟨_, rfl⟩
      rw [← ht] at hTk hUk hfx hfy HSK HMO HPH HMAY
      obtain ⟨Au, cu, rfl, _⟩ := hUk.form
      obtain ⟨hc0, hc1, hc2, hc3⟩ := hTk.below hblk HM.out.below
      clear hTk hUk ht hface
      cases hd : t.done with
      | false =>
        have HN := Lib.hid (HSK.out hd)
        have HPZ : Hid (So.phase l 3 k = 0) := by rw [Hid, HPH.out]; simp [So.phaseT, hd]
        rw [hd] at hc1
        clear HMO HSK hfx hfy hFk
        go_wp2_with fail
        go_roundw
        case rel => exact ⟨k + 1, _, p, by omega, by go_num, So.next_zero hno.out HPZ.out, HN.out.later (alloc_below _ _)⟩
        case measure => simp [intOf]; omega
      | true =>
        have HPE : Hid (So.phase l 3 k = So.readsErr l (In.readsTo t.ops 16)) := by rw [Hid, HPH.out]; simp [So.phaseT, hd]
        rw [hd] at hc1
        have hfx2 : Its w fx (In.readsTo t.ops 16) := by rw [faceT, hd] at hfx; exact hfx
        have hfy2 : Its w fy (In.writesTo t.ops 16) := by rw [faceT, hd] at hfy; exact hfy
        obtain ⟨Ax, cx, rfl, _⟩ := hfx2.spelled
        obtain ⟨Ay, cy, rfl, _⟩ := hfy2.spelled
        have HM1 := Lib.hid (HM.out.later (alloc_below wr (.cells #[.int .i64 t.session, .bool true, .int .i64 t.first, .slice Au t.ops.length cu] 69)))
        obtain ⟨b0, b1, b2, b3⟩ := HM1.out.box
        obtain ⟨f0, f1⟩ := hFk.below hblk2 HM1.out.below
        have s0 : (wr.alloc (.cells #[.int .i64 t.session, .bool true, .int .i64 t.first, .slice Au t.ops.length cu] 69)).cell? ⟨wr.heap.size, 0, none⟩ = some (.int .i64 t.session) := new_cell wr _ _ 0 _ rfl
        have hws : wr.heap.size < (wr.alloc (.cells #[.int .i64 t.session, .bool true, .int .i64 t.first, .slice Au t.ops.length cu] 69)).heap.size := by simp
        have HFK := Lib.hid hFk
        have HFY := Lib.hid hfy2
        have HPA := Lib.hid ((HP.out.below HM1.out.below).below ((Below.refl _ (wr.alloc (.cells #[.int .i64 t.session, .bool true, .int .i64 t.first, .slice Au t.ops.length cu] 69))).drew))
        have HIX := Lib.hid ((hfx2.below HM1.out.below).below ((Below.refl _ (wr.alloc (.cells #[.int .i64 t.session, .bool true, .int .i64 t.first, .slice Au t.ops.length cu] 69))).drew))
        have hk0 : (0 : Int) ≤ (k : Int) := by omega
        have hk1 : (k : Int) < (l.length : Int) := by omega
        have hrl := In.reads_len t.ops 16
        have hwl := In.writes_len t.ops 16
        have HOKR := Lib.hid (reads_ok t.ops HMAY.out)
        have HD := Lib.hid hd
        clear hfx hfy hfx2 hfy2 hFk HSK HPH
        go_wp2_with fail
        clear hc0 hc1 hc2 hc3
        obtain ⟨n1, hn1⟩ : ∃ n1, n1 = wr.heap.size := ⟨_, rfl⟩
        have HNV : Hid (some n1 ≠ (Value.slice AV p.length cV).ownBlock) := fun e => by
          have := (HM.out.own.row.lt n1 e.symm).2
          omega
        have HNB : Hid (w.heap.size + 2 < n1) := by rw [hn1]; exact HM.out.lt
        rw [← hn1] at s0 hws ⊢
        clear HM
        generalize wr.alloc (.cells #[.int .i64 t.session, .bool true, .int .i64 t.first, .slice Au t.ops.length cu] 69) = W1 at *
        clear hn1
        have HM2 := Lib.hid (HM1.out.later ((Below.refl _ W1).drew))
        have HS0 : Hid (W1.drew.cell? ⟨n1, 0, none⟩ = some (.int .i64 t.session)) := s0
        have HWS : Hid (n1 < W1.drew.heap.size) := hws
        have HF0 := Lib.hid f0
        have hbs := Lib.hid (HM1.out.below.size)
        clear f1 s0 hws
        by_cases hq : So.readsErr l (In.readsTo t.ops 16) = 0
        · have HPZ : Hid (So.phase l 3 k = 0) := by rw [Hid, HPE.out]; exact hq
          have HQ := Lib.hid hq
          clear hq HPE
          go_region_held3 (fun w' => (w'.cell? ⟨w.heap.size, 0, none⟩ = some (.slice (some ad) l.length cU) ∧ w'.cell? ⟨w.heap.size, 1, none⟩ = some (.map (some b)) ∧ w'.cell? ⟨w.heap.size, 2, none⟩ = some (.slice (some ad2) l.length cF) ∧ w'.cell? ⟨w.heap.size, 3, none⟩ = some (.slice AN l.length cN)) ∧ w'.cell? (ad2.add (k * 2)) = some (.slice Ax (In.readsTo t.ops 16).length cx))
            (first | (exact ⟨HM1.out.box, HF0.out⟩) | (exact ⟨HM3.out.box, (HB3.out.cell (by rw [add_block]; exact Nat.lt_of_lt_of_le hblk2 hbs.out)).trans HF0.out⟩))
            (first | (go_at_call 79; (with_reducible refine (takes_at l _ b _ _ (In.readsTo t.ops 16) _ _ HPA.out HIX.out (by omega) HOKR.out).mono ?_); rintro e w3 ⟨A3, n3, c3, rfl, hrow3, hb3⟩; rw [HQ.out]; have HB3 := Lib.hid (below_all ((Below.refl _ W1).drew) hb3); have HRV := Lib.hid (hrow3 HQ.out); have HM3 := Lib.hid (HM2.out.later hb3); have HS3 : Hid (w3.cell? ⟨n1, 0, none⟩ = some (.int .i64 t.session)) := ((hb3.cell HWS.out).trans HS0.out); have HW3 : Hid (n1 < w3.heap.size) := (Nat.lt_of_lt_of_le HWS.out hb3.size); clear hrow3 hb3))
          all_goals
            have HH3 : Hid (HeldAt w.heap.size n1 ad2 k (.int .i64 t.session) (.slice (some ad2) l.length cF) (.slice Ay (In.writesTo t.ops 16).length cy) w3) := ⟨HS3.out, HM3.out.box.2.2.1, (HFK.out.below hblk2 HM3.out.below).c1⟩
            have HIY := Lib.hid ((HFY.out.below HM3.out.below).below ((Below.refl _ w3).drew))
            have HLT := Lib.hid HM2.out.lt
            have HLT3 := Lib.hid HM3.out.lt
            have hp32 : p.length ≤ 32 := by
              have e := congrArg List.length HM3.out.same
              rw [List.length_map, List.length_map] at e
              have := List.length_filter_le (·.done) (l.take k)
              rw [List.length_take] at this
              omega
            obtain ⟨d1, d2, d3⟩ := HH3.out
            have d0 := (one_cell HM3.out.cell).1
            go_wp2_with fail
            go_region_law (first
              | (refine step_append_lies _ rfl (.tmp 38) (.tmp 50) 22 rfl (w.heap.size + 3) 38 j0 _ 3 56 Tryz.underlying22 J0.out J1.out J2.out J3.out rfl (by decide) (.slice AV p.length cV) p.length (p.flatMap txnC) (by simp [Act.eval]) HM4.out.own.row ⟨w4.heap.size, 0, none⟩ 1 1 (txnC (So.txnOf l t, .slice Ak nk ck, .slice A3 n3 c3)) (by simp [Act.eval]) rfl HNT.out (one_txnC _ _ _ _ _ _ _) (by decide) (by simp only [maxLen]; omega) (by omega) HBS.out (w4.heap.size + 1) (by simp) ?_; intro g5 cap5 w5 hown5 hgrow5 hat5 hlt5; have HFIN := Lib.hid (HMO.out _ w5 _ _ _ HM4.out HD.out HKV.out HRV4.out hown5 hgrow5); have HH5 := Lib.hid (HH4a.out.on hgrow5 HNV.out (HM4.out.far w.heap.size (by omega)) (HM4.out.far ad2.block (by omega))); have hc5 : w5.cell? ⟨w.heap.size + 2, 0, none⟩ = some (.slice AV p.length cV) := hgrow5.cell (one_cell HM4.out.cell).1 (HM4.out.far (w.heap.size + 2) (by omega)); have hf5 : w5.frozen? ⟨w.heap.size + 2, 0, none⟩ = false := (hgrow5.frozen_far ⟨w.heap.size + 2, 0, none⟩ HM4.out.lt (HM4.out.far (w.heap.size + 2) (by omega))).trans (one_cell HM4.out.cell).2; clear hown5 hgrow5 hat5 hlt5)
              | (go_simp; go_at_call 80; (with_reducible refine (keysOf_at (In.writesTo t.ops 16) _ _ HIY.out (by omega)).mono ?_); rintro e w4 ⟨kv, rfl, hkv, hb4⟩; obtain ⟨Ak, nk, ck, rfl⟩ := own_any hkv; have HB4 := Lib.hid (below_all ((Below.refl _ w3).drew) hb4); have HH4 := Lib.hid (HH3.out.below HB4.out); have HH4a := Lib.hid (HH4.out.below (alloc_below w4 (.cells #[.int .i64 t.session, .slice Ak nk ck, .slice A3 n3 c3] 38))); have HM4 := Lib.hid ((HM3.out.later HB4.out).later (alloc_below w4 (.cells #[.int .i64 t.session, .slice Ak nk ck, .slice A3 n3 c3] 38))); have HKV := Lib.hid ((hkv.mono (base' := w.heap.size + 3) HLT3.out).alloc (.cells #[.int .i64 t.session, .slice Ak nk ck, .slice A3 n3 c3] 38)); have HRV4 := Lib.hid ((own_below (HRV.out.mono (base' := w.heap.size + 3) HLT.out) HB4.out).alloc (.cells #[.int .i64 t.session, .slice Ak nk ck, .slice A3 n3 c3] 38)); have HNT := Lib.hid (new_txn w4 (So.txnOf l t) (.slice Ak nk ck) (.slice A3 n3 c3) 38); have HBS := Lib.hid HM4.out.lt; have c4 := (one_cell (HM3.out.later HB4.out).cell).1; have c4a := (one_cell HM4.out.cell).1; obtain ⟨x1, x2, x3⟩ := HH4.out; obtain ⟨y1, y2, y3⟩ := HH4a.out; clear hkv hb4))
            all_goals
              go_wp2_with fail
              go_roundw
              case rel => exact ⟨k + 1, _, _, by omega, by go_num, So.next_zero hno.out HPZ.out, HFIN.out⟩
              case measure => simp [intOf]; omega
        · have hqb : (So.readsErr l (In.readsTo t.ops 16) != 0) = true := by rw [bne_iff_ne]; exact hq
          have HR : Hid (So.endR l = ([], (k : Int), So.readsErr l (In.readsTo t.ops 16))) := by rw [Hid, So.end_bad l k hlt hno.out (by rw [HPE.out]; exact hq), HPE.out]
          clear hq HPE
          go_region_held3 (fun w' => (w'.cell? ⟨w.heap.size, 0, none⟩ = some (.slice (some ad) l.length cU) ∧ w'.cell? ⟨w.heap.size, 1, none⟩ = some (.map (some b)) ∧ w'.cell? ⟨w.heap.size, 2, none⟩ = some (.slice (some ad2) l.length cF) ∧ w'.cell? ⟨w.heap.size, 3, none⟩ = some (.slice AN l.length cN)) ∧ w'.cell? (ad2.add (k * 2)) = some (.slice Ax (In.readsTo t.ops 16).length cx))
            (first | (exact ⟨HM1.out.box, HF0.out⟩) | (exact ⟨HM3.out.box, (HB3.out.cell (by rw [add_block]; exact Nat.lt_of_lt_of_le hblk2 hbs.out)).trans HF0.out⟩))
            (first | (go_at_call 79; (with_reducible refine (takes_at l _ b _ _ (In.readsTo t.ops 16) _ _ HPA.out HIX.out (by omega) HOKR.out).mono ?_); rintro e w3 ⟨A3, n3, c3, rfl, hrow3, hb3⟩; have HB3 := Lib.hid (below_all ((Below.refl _ W1).drew) hb3); have HM3 := Lib.hid (HM2.out.later hb3); clear hrow3 hb3))
          all_goals
            obtain ⟨r0, r1⟩ := one_cell HM3.out.res
            go_wp2_with fail
            exact end_hist HR.out _ _ _ (one_cell (one_set HM3.out.res _)).1 [] rfl (OwnTxns.nil _ _ _ _ _) (HM3.out.below.setCell (by show w.heap.size ≤ w.heap.size + 1; omega) _) rfl rfl rfl
    · have HR : Hid (So.endR l = (So.txns l, 0, 0)) := So.end_ok l (fun j hj => hno.out j (by omega))
      obtain ⟨r0, r1⟩ := one_cell HM.out.res
      obtain ⟨d0, _⟩ := one_cell HM.out.cell
      have HSA : Hid (p.map (·.1) = So.txns l) := by rw [Hid, HM.out.same, List.take_of_length_le (by omega)]; rfl
      go_wp2_with fail
      exact end_hist HR.out _ _ _ (one_cell (one_set HM.out.res _)).1 p HSA.out ((HM.out.own.set (a := ⟨w.heap.size + 1, 0, none⟩) (by show w.heap.size + 1 < w.heap.size + 3; omega) (.slice AV p.length cV)).mono (by omega)) (HM.out.below.setCell (by show w.heap.size ≤ w.heap.size + 1; omega) _) rfl rfl rfl
end Go.Proofs.YtfjamdpgbbnmcaaGreatDoor
/-
  What source.Hist answers: So.histR, the history of any transactions, or which one is wrong, and how; what was in memory stays as it was.
  Conditions: a row of ops has at most 2^32 elements.
-/
set_option maxRecDepth 4000
namespace Go.Proofs.YtfjamdpgbbnmcaaGreatDoor
open Go.RowKit

/-- Hist's result variable is as it was made; what was in memory stays. -/
structure HistRes (w wr : World) : Prop where
  below : Below w.heap.size w wr
  res : wr.heap[w.heap.size]? = some (.cells #[.slice none 0 0] 24 (0, 0))
theorem HistRes.start (w : World) : HistRes w (w.alloc (.cells #[.slice none 0 0] 24)) := ⟨alloc_below _ _, heap_alloc_new _ _⟩
theorem HistRes.later {w wr w1 : World} (h : HistRes w wr) (hb : Below wr.heap.size wr w1) : HistRes w w1 := ⟨below_all h.below hb, (hb.block _ (lt_of_block h.res)).trans h.res⟩
theorem hist_no {w W : World} {r : List So.Txn × Int × Int} {n q : Int} (h : HistRes w W) (hr : r = ([], n, q)) (tmps : Array Value) (hp : tmps.getD 2 undef = .pointer (some ⟨w.heap.size, 0, none⟩)) (hn : tmps.getD 3 undef = .int .i64 n) (hq : tmps.getD 4 undef = .int .i64 q) :
    bodyPost Tryz.prog Tryz.f31 (RetHistOwn w r) Exit.ret { tmps := tmps, defers := [] } (W.setCell ⟨w.heap.size, 0, none⟩ (.slice none 0 0)) :=
  end_hist9 hr tmps _ _ (one_cell (one_set h.res _)).1 [] rfl (OwnTxns.nil _ _ _ _ _) (h.below.setCell (Nat.le_refl _) _) hp hn hq
set_option maxHeartbeats 2000000 in
theorem hist_own (l : List Gr.Tx) (v : Value) (w : World) (hv : Txs w v l) (hl : l.length ≤ 4294967296) (ho : ∀ t ∈ l, t.ops.length ≤ 4294967296) : Calls Tryz.prog 31 #[v] w (RetHistOwn w (So.histR l)) := by
  obtain ⟨A, c, rfl, _⟩ := hv.spelled
  have HR0 := Lib.hid (HistRes.start w)
  have HV := Lib.hid (hv.below (alloc_below w (.cells #[.slice none 0 0] 24)))
  have HO := Lib.hid ho
  obtain ⟨r0, r1⟩ := one_cell HR0.out.res
  clear hv ho
  go_enter Tryz.func31, Tryz.ntmps31
  by_cases h32 : 32 < l.length
  · have hd : decide ((32 : Int) < (l.length : Int)) = true := by simp; omega
    have HR := Lib.hid (So.hist_many l h32)
    go_wp2_with fail
    exact end_hist9 HR.out _ _ _ r0 [] rfl (OwnTxns.nil _ _ _ _ _) HR0.out.below rfl rfl rfl
  have hd : decide ((32 : Int) < (l.length : Int)) = false := by simp; omega
  have hl32 : l.length ≤ 32 := by omega
  clear h32
  go_wp2_with fail
  refine (checkOps_at l _ _ HV.out hl HO.out).mono ?_
  rintro e w1 ⟨rfl, hb1⟩
  have HR1 := Lib.hid (HR0.out.later hb1)
  have HV1 := Lib.hid (HV.out.below hb1)
  clear hb1 HR0 HV r0 r1
  rcases So.first_cases l 0 (by omega) with ⟨hc0, hf⟩ | ⟨i, q, hf, hq, _, hbad⟩
  rotate_left
  · rw [hf]
    have hqb : (q != 0) = true := by rw [bne_iff_ne]; exact hq
    have HR := Lib.hid (hbad hl32 (fun r hr => absurd hr (by omega)))
    obtain ⟨r0, r1⟩ := one_cell HR1.out.res
    clear hf hq hbad
    go_wp2_with fail
    exact hist_no HR1.out HR.out _ rfl rfl rfl
  rw [hf]
  have HC0 := Lib.hid hc0
  clear hf hc0
  go_wp2_with fail
  refine (writersOf_at l _ _ HV1.out hl32 HO.out HC0.out).mono ?_
  rintro e w2 ⟨o, rfl, hmap, hb2⟩
  have HR2 := Lib.hid (HR1.out.later hb2)
  have HV2 := Lib.hid (HV1.out.below hb2)
  clear hb2 HR1 HV1
  rcases So.first_cases l 1 (by omega) with ⟨hc1, hf⟩ | ⟨i, q, hf, hq, _, hbad⟩
  rotate_left
  · rw [hf]
    have hqb : (q != 0) = true := by rw [bne_iff_ne]; exact hq
    have HR := Lib.hid (hbad hl32 (fun r hr => by obtain rfl : r = 0 := by omega
                                                  exact HC0.out))
    obtain ⟨r0, r1⟩ := one_cell HR2.out.res
    clear hf hq hbad hmap
    go_wp2_with fail
    exact hist_no HR2.out HR.out _ rfl rfl rfl
  rw [hf]
  have HC1 := Lib.hid hc1
  obtain ⟨b, n, D, rfl, hm, hwr⟩ := hmap hc1
  have HM2 := Lib.hid hm
  have HW := Lib.hid hwr
  clear hf hc1 hmap hm hwr
  go_wp2_with fail
  refine (facesOf_at l _ _ HV2.out hl HO.out).mono ?_
  rintro e w3 ⟨AF, nF, cF, rfl, hfaces, hb3⟩
  have HR3 := Lib.hid (HR2.out.later hb3)
  have HV3 := Lib.hid (HV2.out.below hb3)
  have HM3 : Hid (w3.ownsMap Tryz.prog 132 (plainElem Tryz.prog 3) b n D) := HM2.out.kept (row := none) ⟨hb3.os, hb3.tape, hb3.output, hb3.size, fun k hk _ => hb3.block k hk⟩ (by simp)
  clear hb3 HR2 HV2 HM2
  rcases So.first_cases l 2 (by omega) with ⟨hc2, hf⟩ | ⟨i, q, hf, hq, _, hbad⟩
  rotate_left
  · rw [hf]
    have hqb : (q != 0) = true := by rw [bne_iff_ne]; exact hq
    have HR := Lib.hid (hbad hl32 (fun r hr => by
      obtain rfl | rfl : r = 0 ∨ r = 1 := by omega
      · exact HC0.out
      · exact HC1.out))
    obtain ⟨r0, r1⟩ := one_cell HR3.out.res
    clear hf hq hbad hfaces
    go_wp2_with fail
    exact hist_no HR3.out HR.out _ rfl rfl rfl
  rw [hf]
  have HF3 := Lib.hid (hfaces hc2)
  have HEND := Lib.hid (So.hist_end l hl32 (fun p hp => by
    obtain rfl | rfl | rfl : p = 0 ∨ p = 1 ∨ p = 2 := by omega
    · exact HC0.out
    · exact HC1.out
    · exact hc2))
  clear hf hc2 hfaces
  go_wp2_with fail
  refine (soNumbers_at l _ _ HV3.out hl).mono ?_
  rintro e w4 ⟨nv, rfl, hnum, hb4⟩
  obtain ⟨AN, nN, cN, rfl⟩ := own_any hnum
  have HR4 := Lib.hid (HR3.out.later hb4)
  have HP4 : Hid (PastAt w4 l (.slice A l.length c) b (.slice AF nF cF) (.slice AN nN cN)) :=
    ⟨HV3.out.below hb4, ⟨n, D, HM3.out.kept (row := none) ⟨hb4.os, hb4.tape, hb4.output, hb4.size, fun k hk _ => hb4.block k hk⟩ (by simp), HW.out⟩, HF3.out.below hb4, Rows'.own hnum⟩
  have HP5 := Lib.hid (HP4.out.below (alloc_below w4 (.cells #[.slice A l.length c, .map (some b), .slice AF nF cF, .slice AN nN cN] 114)))
  have HR5 := Lib.hid (HR4.out.later (alloc_below w4 (.cells #[.slice A l.length c, .map (some b), .slice AF nF cF, .slice AN nN cN] 114)))
  clear hnum hb4 HR3 HV3 HM3 HF3 HP4 HR4
  go_wp2_with fail
  refine (history_at l _ b _ _ _ HP5.out hl32 HC0.out).mono ?_
  rintro e w6 ⟨v6, p6, rfl, ho6, hp6, hb6⟩
  have HR6 := Lib.hid (HR5.out.later hb6)
  obtain ⟨r0, r1⟩ := one_cell HR6.out.res
  obtain ⟨A6, c6, rfl⟩ := own_form ho6.row
  have HO6 := Lib.hid (ho6.mono (base' := w.heap.size + 1) (lt_of_block HR5.out.res))
  have HP6 := Lib.hid hp6
  clear ho6 hp6 hb6 HP5 HR5
  generalize So.endR l = r at *
  obtain ⟨ts, n6, q6⟩ := r
  dsimp only at HP6 ⊢
  go_wp2_with fail
  exact end_hist9 HEND.out _ _ _ (one_cell (one_set HR6.out.res _)).1 p6 HP6.out ((HO6.out.set (a := ⟨w.heap.size, 0, none⟩) (by show w.heap.size < w.heap.size + 1; omega) _).mono (Nat.le_succ _)) (HR6.out.below.setCell (Nat.le_refl _) _) rfl rfl rfl
theorem hist_at (l : List Gr.Tx) (v : Value) (w : World) (hv : Txs w v l) (hl : l.length ≤ 4294967296) (ho : ∀ t ∈ l, t.ops.length ≤ 4294967296) : Calls Tryz.prog 31 #[v] w (RetHist w (So.histR l)) :=
  (hist_own l v w hv hl ho).mono fun _ _ h => h.ret
end Go.Proofs.YtfjamdpgbbnmcaaGreatDoor
