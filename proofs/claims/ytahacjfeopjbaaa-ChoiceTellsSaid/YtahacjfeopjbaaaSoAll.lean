/-
  Several texts in one, each with its own first words: SoPlain, SoRight, SoRefP, HiMem, SoMem, SoWalkA, SoWalkB, SoWalkC, SoWalkD, SoWalkE.
  Conditions: as each says.
-/
import Derived.Test.YtahacjfeopjbaaaGrAll
import Derived.Test.YtahacjfeopjbaaaInAll
import Derived.DeepKeys4
/-
  Plain facts on whose a value is that is read (no Go in it): the history of transactions, or which one is wrong, and how; values are names alone; those that were given up play no part.
  Conditions: none beyond those that each theorem states.
-/
set_option maxRecDepth 4000
namespace Go.Proofs.Ytahacjfeopjbaaa.So
open In (isK isK_iff lastOf lookR readsTo writesTo)

/-- Which op writes a value of a key; whether some op does. -/
def isW (key value : Int) (e : Ev.Event) : Bool := isK 2 key e && decide (e.value = value)
def wrote (key value : Int) (ops : List Ev.Event) : Bool := ops.any (isW key value)
theorem isW_iff (key value : Int) (e : Ev.Event) : isW key value e = true ↔ e.kind = 2 ∧ e.key = key ∧ e.value = value := by
  rw [isW, Bool.and_eq_true, isK_iff, decide_eq_true_eq, and_assoc]
/-- Whether a transaction may be looked at. -/
def mayT (t : Gr.Tx) : Bool := t.ops.all (fun e => Ev.right e && Ev.hasKey e.kind) && decide (0 ≤ t.session ∧ t.session < 8)
/-- What is wrong with a write, behind others; and with a row of ops. -/
def opBad (ahead : List Ev.Event) (e : Ev.Event) : Int := if e.kind ≠ 2 then 0 else if e.value = 0 then 7 else if wrote e.key e.value ahead = true then 8 else 0
def unlikeR (ahead : List Ev.Event) : List Ev.Event → Int
  | [] => 0
  | e :: r => if opBad ahead e ≠ 0 then opBad ahead e else unlikeR (ahead ++ [e]) r
/-- Whose a value is, n committed ones being ahead. -/
def fromGo (key value : Int) (n : Nat) : List Gr.Tx → Int × Int
  | [] => (0, 12)
  | t :: r => if wrote key value t.ops = true then (if t.done = false then (0, 13) else if lastOf 2 key t.ops ≠ some value then (0, 14) else ((n : Int), 0)) else fromGo key value (if t.done = true then n + 1 else n) r
def fromR (l : List Gr.Tx) (y : Int × Int) : Int × Int := if y.2 = 0 then (-1, 0) else fromGo y.1 y.2 0 l
/-- The first error of some reads. -/
def readsErr (l : List Gr.Tx) : List (Int × Int) → Int
  | [] => 0
  | y :: r => if (fromR l y).2 ≠ 0 then (fromR l y).2 else readsErr l r
structure Txn where
  session : Int
  writes : List Int
  reads : List (Int × Int)
def txnOf (l : List Gr.Tx) (t : Gr.Tx) : Txn := ⟨t.session, (writesTo t.ops 16).map (·.1), (readsTo t.ops 16).map fun y => (y.1, (fromR l y).1)⟩
/-- The four kinds of errors, by transactions. -/
def phaseT (l : List Gr.Tx) (p i : Nat) (t : Gr.Tx) : Int :=
  if p = 0 then (if mayT t = true then 0 else 1)
  else if p = 1 then unlikeR ((l.take i).flatMap (·.ops)) t.ops
  else if p = 2 then (if t.done = true then (lookR t.ops).2.2 else 0)
  else (if t.done = true then readsErr l (readsTo t.ops 16) else 0)
def phase (l : List Gr.Tx) (p i : Nat) : Int := match l[i]? with
  | some t => phaseT l p i t
  | none => 0
theorem phase_at (l : List Gr.Tx) (p i : Nat) (hi : i < l.length) : phase l p i = phaseT l p i l[i] := by rw [phase, List.getElem?_eq_getElem hi]
theorem phase_out (l : List Gr.Tx) (p i : Nat) (hi : l.length ≤ i) : phase l p i = 0 := by rw [phase, List.getElem?_eq_none hi]
def firstNZ (f : Nat → Int) (n : Nat) : Option Nat := (List.range n).find? fun i => decide (f i ≠ 0)
theorem nz_none {f : Nat → Int} {n : Nat} (h : ∀ i, i < n → f i = 0) : firstNZ f n = none := by
  rw [firstNZ, List.find?_eq_none]
  intro i hi
  simp [h i (List.mem_range.1 hi)]
theorem nz_some {f : Nat → Int} {n i : Nat} (hi : i < n) (h : ∀ j, j < i → f j = 0) (hq : f i ≠ 0) : firstNZ f n = some i := by
  rw [firstNZ, List.find?_range_eq_some]
  refine ⟨by simpa using hq, by simpa using hi, fun j hj => ?_⟩
  simp [h j hj]
theorem nz_cases (f : Nat → Int) (n : Nat) : (∀ i, i < n → f i = 0) ∨ ∃ i, i < n ∧ f i ≠ 0 ∧ ∀ j, j < i → f j = 0 := by
  induction n with
  | zero => exact .inl fun i hi => absurd hi (by omega)
  | succ n ih =>
    rcases ih with h | ⟨i, h1, h2, h3⟩
    · by_cases hq : f n = 0
      · refine .inl fun i hi => ?_
        by_cases e : i = n
        · rw [e]; exact hq
        · exact h i (by omega)
      · exact .inr ⟨n, by omega, hq, fun j hj => h j hj⟩
    · exact .inr ⟨i, by omega, h2, h3⟩
def txns (l : List Gr.Tx) : List Txn := (l.filter (·.done)).map (txnOf l)
/-- P7.1, P7.2. -/
def histR (l : List Gr.Tx) : List Txn × Int × Int :=
  if 32 < l.length then ([], 0, 4)
  else match firstNZ (phase l 0) l.length with
    | some i => ([], (i : Int), phase l 0 i)
    | none => match firstNZ (phase l 1) l.length with
      | some i => ([], (i : Int), phase l 1 i)
      | none => match firstNZ (phase l 2) l.length with
        | some i => ([], (i : Int), phase l 2 i)
        | none => match firstNZ (phase l 3) l.length with
          | some i => ([], (i : Int), phase l 3 i)
          | none => (txns l, 0, 0)
def Clean (l : List Gr.Tx) (p : Nat) : Prop := ∀ i, i < l.length → phase l p i = 0
theorem hist_many (l : List Gr.Tx) (h : 32 < l.length) : histR l = ([], 0, 4) := by rw [histR, if_pos h]
theorem hist_bad (l : List Gr.Tx) (hl : l.length ≤ 32) (p i : Nat) (hp : p < 4) (hi : i < l.length) (hb : ∀ q, q < p → Clean l q) (h0 : ∀ j, j < i → phase l p j = 0) (hq : phase l p i ≠ 0) : histR l = ([], (i : Int), phase l p i) := by
  rw [histR, if_neg (by omega)]
  have hs := nz_some hi h0 hq
  obtain rfl | rfl | rfl | rfl : p = 0 ∨ p = 1 ∨ p = 2 ∨ p = 3 := by omega
  · rw [hs]
  · rw [nz_none (hb 0 (by omega)), hs]
  · rw [nz_none (hb 0 (by omega)), nz_none (hb 1 (by omega)), hs]
  · rw [nz_none (hb 0 (by omega)), nz_none (hb 1 (by omega)), nz_none (hb 2 (by omega)), hs]
theorem hist_ok (l : List Gr.Tx) (hl : l.length ≤ 32) (h : ∀ p, p < 4 → Clean l p) : histR l = (txns l, 0, 0) := by
  rw [histR, if_neg (by omega), nz_none (h 0 (by omega)), nz_none (h 1 (by omega)), nz_none (h 2 (by omega)), nz_none (h 3 (by omega))]
/-- What a history comes to: too many, right, or a first error. -/
theorem hist_cases (l : List Gr.Tx) : 32 < l.length ∨ l.length ≤ 32 ∧ ((∀ p, p < 4 → Clean l p) ∨ ∃ p i, p < 4 ∧ i < l.length ∧ (∀ q, q < p → Clean l q) ∧ (∀ j, j < i → phase l p j = 0) ∧ phase l p i ≠ 0) := by
  rcases Nat.lt_or_ge 32 l.length with h | h
  · exact .inl h
  refine .inr ⟨h, ?_⟩
  have key : ∀ n, n ≤ 4 → (∀ p, p < n → Clean l p) ∨ ∃ p i, p < n ∧ i < l.length ∧ (∀ q, q < p → Clean l q) ∧ (∀ j, j < i → phase l p j = 0) ∧ phase l p i ≠ 0 := by
    intro n
    induction n with
    | zero => exact fun _ => .inl fun p hp => absurd hp (by omega)
    | succ n ih =>
      intro hn
      rcases ih (by omega) with h1 | ⟨p, i, h1, h2⟩
      · rcases nz_cases (phase l n) l.length with h2 | ⟨i, h2, h3, h4⟩
        · refine .inl fun p hp => ?_
          by_cases e : p = n
          · rw [e]; exact h2
          · exact h1 p (by omega)
        · exact .inr ⟨n, i, by omega, h2, h1, h4, h3⟩
      · exact .inr ⟨p, i, by omega, h2⟩
  exact key 4 (Nat.le_refl _)

/-! Writes, all of them. -/
theorem unlike_append (a b c : List Ev.Event) : unlikeR a (b ++ c) = 0 ↔ unlikeR a b = 0 ∧ unlikeR (a ++ b) c = 0 := by
  induction b generalizing a with
  | nil => simp [unlikeR]
  | cons e b ih =>
    rw [List.cons_append, unlikeR, unlikeR]
    by_cases h : opBad a e ≠ 0
    · rw [if_pos h, if_pos h]
      exact ⟨fun h' => absurd h' h, fun h' => absurd h'.1 h⟩
    · rw [if_neg h, if_neg h, ih]
      simp
theorem wrote_sub {key value : Int} {a b : List Ev.Event} (h : a ⊆ b) (hb : wrote key value b = false) : wrote key value a = false := by
  rw [wrote, List.any_eq_false] at hb ⊢
  exact fun x hx => hb x (h hx)
/-! Reads. -/
theorem readsErr_zero (l : List Gr.Tx) (ys : List (Int × Int)) : readsErr l ys = 0 ↔ ∀ y ∈ ys, (fromR l y).2 = 0 := by
  induction ys with
  | nil => simp [readsErr]
  | cons y r ih =>
    rw [readsErr]
    by_cases h : (fromR l y).2 ≠ 0
    · rw [if_pos h]
      exact ⟨fun h' => absurd h' h, fun h' => absurd (h' y (by simp)) h⟩
    · rw [if_neg h, ih]
      have h0 : (fromR l y).2 = 0 := Decidable.byContradiction h
      exact ⟨fun h' z hz => by
        rcases List.mem_cons.1 hz with rfl | hz
        · exact h0
        · exact h' z hz, fun h' z hz => h' z (List.mem_cons_of_mem _ hz)⟩
theorem readsErr_congr (l m : List Gr.Tx) (ys : List (Int × Int)) (h : ∀ y ∈ ys, fromR m y = fromR l y) : readsErr m ys = readsErr l ys := by
  induction ys with
  | nil => rfl
  | cons y r ih => rw [readsErr, readsErr, h y (by simp), ih (fun z hz => h z (List.mem_cons_of_mem _ hz))]

/-- By members: the kinds of errors but the second. -/
theorem clean_may (l : List Gr.Tx) : Clean l 0 ↔ ∀ t ∈ l, mayT t = true := by
  constructor
  · intro h t ht
    obtain ⟨i, hi, rfl⟩ := List.getElem_of_mem ht
    have h1 := h i hi
    rw [phase_at l 0 i hi] at h1
    simp only [phaseT, if_true] at h1
    cases h2 : mayT l[i] with
    | true => rfl
    | false => rw [h2, if_neg (by simp)] at h1; cases h1
  · intro h i hi
    rw [phase_at l 0 i hi]
    simp [phaseT, h _ (List.getElem_mem hi)]
theorem clean_look (l : List Gr.Tx) : Clean l 2 ↔ ∀ t ∈ l, t.done = true → (lookR t.ops).2.2 = 0 := by
  constructor
  · intro h t ht hd
    obtain ⟨i, hi, rfl⟩ := List.getElem_of_mem ht
    have h1 := h i hi
    rw [phase_at l 2 i hi] at h1
    simpa [phaseT, hd] using h1
  · intro h i hi
    rw [phase_at l 2 i hi]
    simp only [phaseT, show ¬ 2 = 0 by omega, show ¬ 2 = 1 by omega, if_false, if_true]
    split
    · rename_i hd
      exact h _ (List.getElem_mem hi) hd
    · rfl
theorem clean_reads (l : List Gr.Tx) : Clean l 3 ↔ ∀ t ∈ l, t.done = true → ∀ y ∈ readsTo t.ops 16, (fromR l y).2 = 0 := by
  constructor
  · intro h t ht hd
    obtain ⟨i, hi, rfl⟩ := List.getElem_of_mem ht
    have h1 := h i hi
    rw [phase_at l 3 i hi] at h1
    rw [← readsErr_zero]
    simpa [phaseT, hd] using h1
  · intro h i hi
    rw [phase_at l 3 i hi]
    simp only [phaseT, show ¬ 3 = 0 by omega, show ¬ 3 = 1 by omega, show ¬ 3 = 2 by omega, if_false]
    split
    · rename_i hd
      exact (readsErr_zero _ _).2 (h _ (List.getElem_mem hi) hd)
    · rfl
theorem txnOf_congr (l m : List Gr.Tx) (t : Gr.Tx) (h : ∀ y ∈ readsTo t.ops 16, fromR m y = fromR l y) : txnOf m t = txnOf l t := by
  unfold txnOf
  congr 1
  exact List.map_congr_left fun y hy => by rw [h y hy]
end Go.Proofs.Ytahacjfeopjbaaa.So
/-
  Plain facts on what a history tells (no Go in it): all that were committed, in order, each with rising keys, and reads from others that write that key, or from none.
  Conditions: none beyond those that each theorem states.
-/
set_option maxRecDepth 4000
namespace Go.Proofs.Ytahacjfeopjbaaa.So
open In (isK isK_iff lastOf lookR readsTo writesTo rd wr errAt wrong future)

/-- The place of a committed one among the committed. -/
theorem done_at (l : List Gr.Tx) (i : Nat) (hi : i < l.length) (hd : l[i].done = true) : (l.filter (·.done))[((l.take i).filter (·.done)).length]? = some l[i] := by
  induction l generalizing i with
  | nil => simp at hi
  | cons t r ih =>
    cases i with
    | zero =>
      have : t.done = true := hd
      rw [List.filter_cons_of_pos (by simpa using this)]
      rfl
    | succ i =>
      have hi' : i < r.length := by simpa using hi
      have h := ih i hi' hd
      cases ht : t.done with
      | true =>
        rw [List.take_succ_cons, List.filter_cons_of_pos (by simpa using ht), List.filter_cons_of_pos (by simpa using ht), List.length_cons, List.getElem?_cons_succ]
        exact h
      | false =>
        rw [List.take_succ_cons, List.filter_cons_of_neg (by simp [ht]), List.filter_cons_of_neg (by simp [ht])]
        exact h
theorem done_next (l : List Gr.Tx) (i : Nat) (hi : i < l.length) : ((l.take (i + 1)).filter (·.done)).length = ((l.take i).filter (·.done)).length + if l[i].done = true then 1 else 0 := by
  rw [List.take_succ_eq_append_getElem hi, List.filter_append, List.length_append]
  congr 1
  cases h : l[i].done with
  | true => rw [List.filter_cons_of_pos (by simpa using h)]; rfl
  | false => rw [List.filter_cons_of_neg (by simp [h])]; rfl
theorem txns_len (l : List Gr.Tx) : (txns l).length = (l.filter (·.done)).length := by rw [txns, List.length_map]

/-- Keys rise. -/
def Rises (ks : List Int) : Prop := (∀ k ∈ ks, 0 ≤ k ∧ k < 16) ∧ ks.Pairwise (· < ·)
theorem rises_at {ks : List Int} (h : Rises ks) (j : Nat) (hj : j < ks.length) : 0 ≤ ks[j] ∧ ks[j] < 16 ∧ ∀ i (hi : i < j), ks[i] < ks[j] :=
  ⟨(h.1 _ (List.getElem_mem hj)).1, (h.1 _ (List.getElem_mem hj)).2, fun i hi => List.pairwise_iff_getElem.1 h.2 i j (by omega) hj hi⟩
theorem keys_rise (f : Nat → Option (Int × Int)) (hf : ∀ k y, f k = some y → y.1 = (k : Int)) (n : Nat) : (∀ k ∈ ((List.range n).filterMap f).map (·.1), 0 ≤ k ∧ k < (n : Int)) ∧ (((List.range n).filterMap f).map (·.1)).Pairwise (· < ·) := by
  induction n with
  | zero => exact ⟨fun k hk => by simp at hk, by simp⟩
  | succ n ih =>
    rw [List.range_succ, List.filterMap_append, List.map_append]
    cases h : f n with
    | none =>
      have e : ([n].filterMap f) = [] := by simp [h]
      rw [e, List.map_nil, List.append_nil]
      exact ⟨fun k hk => by have := ih.1 k hk; omega, ih.2⟩
    | some y =>
      have e : ([n].filterMap f) = [y] := by simp [h]
      have hy := hf n y h
      rw [e, List.map_cons, List.map_nil]
      refine ⟨fun k hk => ?_, ?_⟩
      · rcases List.mem_append.1 hk with hk | hk
        · have := ih.1 k hk; omega
        · rw [List.mem_singleton.1 hk, hy]; omega
      · rw [List.pairwise_append]
        refine ⟨ih.2, by simp, fun a ha b hb => ?_⟩
        rw [List.mem_singleton.1 hb, hy]
        exact (ih.1 a ha).2
theorem writes_rise (ops : List Ev.Event) : Rises ((writesTo ops 16).map (·.1)) := keys_rise _ (In.wr_key ops) 16
theorem reads_rise (ops : List Ev.Event) : Rises ((readsTo ops 16).map (·.1)) := keys_rise _ (In.rd_key ops) 16
theorem txn_reads (l : List Gr.Tx) (t : Gr.Tx) : (txnOf l t).reads.map (·.1) = (readsTo t.ops 16).map (·.1) := by
  rw [txnOf, List.map_map]
  rfl

/-- Whose a value is: a committed one's that wrote it last. -/
theorem fromGo_who (key v : Int) (l : List Gr.Tx) : ∀ n, (fromGo key v n l).2 = 0 → ∃ j, ∃ hj : j < (l.filter (·.done)).length, (fromGo key v n l).1 = ((n + j : Nat) : Int) ∧ wrote key v (l.filter (·.done))[j].ops = true ∧ lastOf 2 key (l.filter (·.done))[j].ops = some v := by
  induction l with
  | nil => exact fun _ h => by cases h
  | cons t r ih =>
    intro n h
    rw [fromGo] at h ⊢
    by_cases hw : wrote key v t.ops = true
    · rw [if_pos hw] at h ⊢
      by_cases hd : t.done = false
      · rw [if_pos hd] at h; cases h
      · rw [if_neg hd] at h ⊢
        have hd' : t.done = true := by simpa using hd
        by_cases hl : lastOf 2 key t.ops ≠ some v
        · rw [if_pos hl] at h; cases h
        · rw [if_neg hl]
          have e : (t :: r).filter (·.done) = t :: r.filter (·.done) := List.filter_cons_of_pos (by simpa using hd')
          simp only [e]
          exact ⟨0, by simp, rfl, hw, Decidable.byContradiction hl⟩
    · rw [if_neg hw] at h ⊢
      obtain ⟨j, hj, h1, h2, h3⟩ := ih _ h
      cases hd : t.done with
      | true =>
        have e : (t :: r).filter (·.done) = t :: r.filter (·.done) := List.filter_cons_of_pos (by simpa using hd)
        simp only [e]
        refine ⟨j + 1, by simpa using hj, ?_, by simpa using h2, by simpa using h3⟩
        rw [hd] at h1
        simp only [if_true] at h1 ⊢
        rw [h1]
        omega
      | false =>
        have e : (t :: r).filter (·.done) = r.filter (·.done) := List.filter_cons_of_neg (by simp [hd])
        simp only [e]
        refine ⟨j, hj, ?_, h2, h3⟩
        rw [hd] at h1
        simpa using h1
theorem mem_keys (f : Nat → Option (Int × Int)) (k n : Nat) (hk : k < n) (y : Int × Int) (h : f k = some y) : y ∈ (List.range n).filterMap f := List.mem_filterMap.2 ⟨k, List.mem_range.2 hk, h⟩
/-- What is read of others is not one's own. -/
theorem own_no {ops : List Ev.Event} (hg : In.good ops) (k : Nat) (y : Int × Int) (hy : rd ops k = some y) : wrote (k : Int) y.2 ops = false := by
  unfold rd at hy
  cases hf : ops.find? fun e => decide (e.key = (k : Int)) with
  | none => rw [hf] at hy; cases hy
  | some e =>
    rw [hf] at hy
    simp only at hy
    by_cases hk : e.kind = 1
    · rw [if_pos hk] at hy
      cases hy
      obtain ⟨h1, p, hp, he, h2⟩ := List.find?_eq_some_iff_getElem.1 hf
      have hkey : e.key = (k : Int) := by simpa using h1
      have hne : ∀ i (hi : i < ops.length), i < p → ops[i].key ≠ (k : Int) := fun i hi hip => by simpa using h2 i hip
      have hno : ∀ kind, lastOf kind e.key (ops.take p) = none := fun kind => by
        rw [In.lastOf_none]
        intro x hx
        obtain ⟨i, hi, rfl⟩ := List.getElem_of_mem hx
        rw [List.length_take] at hi
        rw [List.getElem_take]
        cases hq : isK kind e.key ops[i] with
        | false => rfl
        | true => exact absurd (((isK_iff _ _ _).1 hq).2.trans hkey) (hne i (by omega) (by omega))
      have h0 := hg p
      have hr := (In.right_of_good hg p hp).1
      rw [he] at hr
      rw [In.errAt_at ops p hp, he, In.wrong_read _ _ _ hr hk, hno 2, hno 1] at h0
      have hfu : future e (ops.drop (p + 1)) = false := by
        cases hq : future e (ops.drop (p + 1)) with
        | false => rfl
        | true => rw [hq] at h0; simp at h0
      rw [wrote, List.any_eq_false]
      intro x hx hw
      obtain ⟨w1, w2, w3⟩ := (isW_iff _ _ _).1 hw
      obtain ⟨i, hi, rfl⟩ := List.getElem_of_mem hx
      rcases Nat.lt_trichotomy i p with h | h | h
      · exact hne i hi h w2
      · subst h
        rw [he, hk] at w1
        cases w1
      · rw [future, List.any_eq_false] at hfu
        have hm : ops[i] ∈ ops.drop (p + 1) := by
          rw [List.mem_iff_getElem]
          exact ⟨i - (p + 1), by rw [List.length_drop]; omega, by rw [List.getElem_drop]; congr 1; omega⟩
        refine hfu _ hm ?_
        rw [Bool.and_eq_true, isK_iff, decide_eq_true_eq]
        exact ⟨⟨w1, w2.trans hkey.symm⟩, w3⟩
    · rw [if_neg hk] at hy
      cases hy
/-- P7.2: what a read of a history tells: from none, or from another one that writes that key. -/
theorem read_from (l : List Gr.Tx) (h2 : Clean l 2) (h3 : Clean l 3) (i : Nat) (hi : i < (txns l).length) (y : Int × Int) (hy : y ∈ (txns l)[i].reads) :
    y.2 = -1 ∨ ∃ j, ∃ hj : j < (txns l).length, y.2 = (j : Int) ∧ j ≠ i ∧ y.1 ∈ (txns l)[j].writes := by
  have hlen := txns_len l
  have ht : ∀ j (hj : j < (txns l).length), (txns l)[j] = txnOf l ((l.filter (·.done))[j]'(by omega)) := fun j hj => by simp [txns]
  rw [ht i hi, txnOf] at hy
  obtain ⟨z, hz, rfl⟩ := List.mem_map.1 hy
  obtain ⟨hmem, hdone⟩ := List.mem_filter.1 (List.getElem_mem (l := l.filter (·.done)) (n := i) (by omega))
  have hok := (clean_reads l).1 h3 _ hmem (by simpa using hdone) z hz
  have hgood : In.good ((l.filter (·.done))[i]'(by omega)).ops := by
    rcases In.look_cases ((l.filter (·.done))[i]'(by omega)).ops with h | ⟨j, hj, q1, q2⟩
    · exact h
    · have := (clean_look l).1 h2 _ hmem (by simpa using hdone)
      rw [In.look_bad _ j q2 q1] at this
      exact absurd this q1
  obtain ⟨k, hk, hrd⟩ := List.mem_filterMap.1 hz
  have hk16 : k < 16 := List.mem_range.1 hk
  have hzk := In.rd_key _ _ _ hrd
  show (fromR l z).1 = -1 ∨ _
  unfold fromR at hok ⊢
  by_cases h0 : z.2 = 0
  · rw [if_pos h0]; exact .inl rfl
  · rw [if_neg h0] at hok ⊢
    obtain ⟨j, hj, e1, e2, e3⟩ := fromGo_who z.1 z.2 l 0 hok
    refine .inr ⟨j, by omega, by rw [e1]; simp, fun e => ?_, ?_⟩
    · subst e
      have := own_no hgood k z hrd
      rw [← hzk, e2] at this
      cases this
    · rw [ht j (by omega), txnOf]
      refine List.mem_map.2 ⟨(z.1, z.2), ?_, rfl⟩
      refine mem_keys _ k 16 hk16 _ ?_
      rw [wr, ← hzk, e3]
      rfl
end Go.Proofs.Ytahacjfeopjbaaa.So
/-
  Plain facts for walks of layer 7, the reference's among them (no Go in it): each loop's step: writes counted, writes that are unlike, whose a value is, reads in their order.
  Conditions: none beyond those that each theorem states.
-/
set_option maxRecDepth 4000
namespace Go.Proofs.Ytahacjfeopjbaaa.So
open In (isK isK_iff lastOf lookR readsTo writesTo rd wr)

/-- Whose a value is, transaction by transaction. -/
theorem from_step (key v : Int) (l : List Gr.Tx) (n i : Nat) (hi : i < l.length) (h : wrote key v l[i].ops = false) : fromGo key v n (l.drop i) = fromGo key v (if l[i].done = true then n + 1 else n) (l.drop (i + 1)) := by
  rw [List.drop_eq_getElem_cons hi, fromGo, if_neg (by rw [h]; simp)]
theorem from_hit (key v : Int) (l : List Gr.Tx) (n i : Nat) (hi : i < l.length) (h : wrote key v l[i].ops = true) : fromGo key v n (l.drop i) = if l[i].done = false then (0, 13) else if lastOf 2 key l[i].ops ≠ some v then (0, 14) else ((n : Int), 0) := by
  rw [List.drop_eq_getElem_cons hi, fromGo, if_pos h]
theorem from_end (key v : Int) (l : List Gr.Tx) (n i : Nat) (hi : l.length ≤ i) : fromGo key v n (l.drop i) = (0, 12) := by rw [List.drop_eq_nil_of_le hi, fromGo]
/-- So far nobody wrote it: the number of those ahead that were committed goes with it. -/
theorem from_number (key v : Int) (l : List Gr.Tx) (i : Nat) (hi : i ≤ l.length) (h : ∀ j (hj : j < l.length), j < i → wrote key v l[j].ops = false) : fromGo key v 0 l = fromGo key v ((l.take i).filter (·.done)).length (l.drop i) := by
  induction i with
  | zero => rfl
  | succ i ih =>
    rw [ih (by omega) (fun j hj hji => h j hj (by omega)), from_step key v l _ i (by omega) (h i (by omega) (by omega)), done_next l i (by omega)]
    congr 1
    split <;> rfl
/-- Transactions in their order, as the history is filled. -/
theorem txns_step (l : List Gr.Tx) (i : Nat) (hi : i < l.length) : ((l.take (i + 1)).filter (·.done)).map (txnOf l) = ((l.take i).filter (·.done)).map (txnOf l) ++ if l[i].done = true then [txnOf l l[i]] else [] := by
  rw [List.take_succ_eq_append_getElem hi, List.filter_append, List.map_append]
  congr 1
  cases h : l[i].done <;> simp [h]
theorem mayT_iff (t : Gr.Tx) : mayT t = true ↔ (∀ e ∈ t.ops, (Ev.right e && Ev.hasKey e.kind) = true) ∧ 0 ≤ t.session ∧ t.session < 8 := by
  rw [mayT, Bool.and_eq_true, List.all_eq_true, decide_eq_true_eq]
end Go.Proofs.Ytahacjfeopjbaaa.So
/-
  Words for histories in memory: rows of integers, and rows of transactions as a history has them (a session, the keys written, and the reads), how these last and grow.
  Conditions: none beyond those that each theorem states.
-/
set_option maxRecDepth 4000
namespace Go.Proofs.Ytahacjfeopjbaaa
open Go.RowKit

/-! Rows of integers. -/
def nC (n : Int) : List Value := [.int .i64 n]
theorem nC_len (n : Int) : (nC n).length = 1 := rfl
theorem one_nC (n : Int) : ∀ u ∈ nC n, u.oneCell' = true := by
  intro u hu
  rw [List.mem_singleton.1 hu]
  rfl
def Ns (w : World) (v : Value) (l : List Int) : Prop := Rows' 1 nC w v l
theorem Ns.below {w w' : World} {v : Value} {l : List Int} (h : Ns w v l) (hb : Below w.heap.size w w') : Ns w' v l := Rows'.below h hb
theorem Ns.nil (w : World) (A : Option Addr) : Ns w (.slice A 0 0) [] := Rows'.nil w A
theorem Ns.none_ {w : World} {v : Value} {l : List Int} (h : Ns w v l) (hl : l = []) : ∃ A c, v = .slice A 0 c := Rows'.none_ h hl
theorem Ns.spelled {w : World} {v : Value} {l : List Int} (h : Ns w v l) : ∃ A c, v = .slice A l.length c ∧ ∀ (k : Nat) (hk : k < l.length), ∃ ad : Addr, A = some ad ∧ ad.block < w.heap.size ∧ w.cell? (ad.add k) = some (.int .i64 l[k]) := by
  obtain ⟨A, c, hv, hh⟩ := Rows'.form nC_len h
  refine ⟨A, c, hv, fun k hk => ?_⟩
  obtain ⟨ad, e, hb, hc⟩ := hh k hk
  refine ⟨ad, e, hb, ?_⟩
  have := hc 0 _ rfl
  rwa [Nat.mul_one, Nat.add_zero] at this

/-! Rows of transactions, as a history has them: the two rows of each lie elsewhere. -/
def txnC (x : So.Txn × Value × Value) : List Value := [.int .i64 x.1.session, x.2.1, x.2.2]
theorem txnC_len (x : So.Txn × Value × Value) : (txnC x).length = 3 := rfl
theorem one_txnC (t : So.Txn) (A B : Option Addr) (n m c d : Nat) : ∀ u ∈ txnC (t, .slice A n c, .slice B m d), u.oneCell' = true := by
  intro u hu
  simp only [txnC, List.mem_cons, List.not_mem_nil, or_false] at hu
  rcases hu with rfl | rfl | rfl
  all_goals rfl
def Txns (w : World) (v : Value) (l : List So.Txn) : Prop := ∃ p : List (So.Txn × Value × Value), p.map (·.1) = l ∧ Sl w 3 v p.length (p.flatMap txnC) ∧ ∀ x ∈ p, Ns w x.2.1 x.1.writes ∧ Its w x.2.2 x.1.reads
theorem Txns.below {w w' : World} {v : Value} {l : List So.Txn} (h : Txns w v l) (hb : Below w.heap.size w w') : Txns w' v l := by
  obtain ⟨p, h1, h2, h3⟩ := h
  exact ⟨p, h1, h2.below hb, fun x hx => ⟨(h3 x hx).1.below hb, (h3 x hx).2.below hb⟩⟩
theorem Txns.nil (w : World) (A : Option Addr) : Txns w (.slice A 0 0) [] := ⟨[], rfl, Sl.nil w 3 A, fun x hx => by cases hx⟩
theorem Txns.none_ {w : World} {v : Value} {l : List So.Txn} (h : Txns w v l) (hl : l = []) : ∃ A c, v = .slice A 0 c := by
  obtain ⟨p, h1, h2, _⟩ := h
  subst hl
  have hp : p = [] := List.map_eq_nil_iff.1 h1
  subst hp
  obtain ⟨A, c, hv, _⟩ := h2.form
  exact ⟨A, c, hv⟩
/-- Element k, as the walk spells its cells' places. -/
structure TxnIn (w : World) (ad : Addr) (k : Nat) (t : So.Txn) (u v : Value) : Prop where
  c0 : w.cell? (ad.add (k * 3)) = some (.int .i64 t.session)
  c1 : w.cell? ⟨(ad.add (k * 3)).block, (ad.add (k * 3)).off + 1, none⟩ = some u
  c2 : w.cell? ⟨(ad.add (k * 3)).block, (ad.add (k * 3)).off + 2, none⟩ = some v
theorem TxnIn.below {w w' : World} {ad : Addr} {k : Nat} {t : So.Txn} {u v : Value} (h : TxnIn w ad k t u v) (hlt : ad.block < w.heap.size) (hb : Below w.heap.size w w') : TxnIn w' ad k t u v := by
  have e : ad.block = (ad.add (k * 3)).block := (add_block ad _).symm
  refine ⟨(hb.cell ?_).trans h.c0, (hb.cell ?_).trans h.c1, (hb.cell ?_).trans h.c2⟩
  all_goals exact e ▸ hlt
theorem Txns.spelled {w : World} {v : Value} {l : List So.Txn} (h : Txns w v l) : ∃ A c, v = .slice A l.length c ∧ ∀ (k : Nat) (hk : k < l.length), ∃ (ad : Addr) (x y : Value), A = some ad ∧ ad.block < w.heap.size ∧ TxnIn w ad k l[k] x y ∧ Ns w x l[k].writes ∧ Its w y l[k].reads := by
  obtain ⟨p, rfl, h2, h3⟩ := h
  obtain ⟨A, c, hv, hh⟩ := h2.form
  refine ⟨A, c, by rw [List.length_map]; exact hv, fun k hk => ?_⟩
  have hk' : k < p.length := by simpa using hk
  obtain ⟨ad, e, hb, hc⟩ := hh (by omega)
  have key : ∀ j u, (txnC p[k])[j]? = some u → w.cell? (ad.add (k * 3 + j)) = some u := fun j u hu => by
    have hj : j < 3 := (List.getElem?_eq_some_iff.1 hu).1
    exact hc _ _ (by rw [flat_at txnC_len p k hk' j hj]; exact hu)
  have hel : (p.map (·.1))[k] = p[k].1 := by simp
  obtain ⟨h4, h5⟩ := h3 _ (List.getElem_mem hk')
  refine ⟨ad, p[k].2.1, p[k].2.2, e, hb, ?_, by rw [hel]; exact h4, by rw [hel]; exact h5⟩
  rw [hel]
  refine ⟨key 0 _ rfl, ?_, ?_⟩
  · rw [add_more ad _ 1 (by omega)]; exact key 1 _ rfl
  · rw [add_more ad _ 2 (by omega)]; exact key 2 _ rfl
/-- Such a row of the call's own, its elements' rows too: te, ti, tk are the elements' types of the three. -/
structure OwnTxns (te ti tk : TypeId) (w : World) (base : Nat) (v : Value) (p : List (So.Txn × Value × Value)) : Prop where
  row : w.ownsRow base te 3 v p.length (p.flatMap txnC)
  writes : ∀ x ∈ p, w.ownsRow base ti 1 x.2.1 x.1.writes.length (x.1.writes.flatMap nC)
  reads : ∀ x ∈ p, w.ownsRow base tk 2 x.2.2 x.1.reads.length (x.1.reads.flatMap itC)
section
variable {te ti tk : TypeId} {w : World} {base : Nat} {v : Value} {p : List (So.Txn × Value × Value)}
theorem OwnTxns.nil (te ti tk : TypeId) (w : World) (base : Nat) : OwnTxns te ti tk w base (.slice none 0 0) [] := ⟨World.ownsRow_nil _ _ _ _, fun _ hx => (List.not_mem_nil hx).elim, fun _ hx => (List.not_mem_nil hx).elim⟩
theorem OwnTxns.below {w' : World} (h : OwnTxns te ti tk w base v p) (hb : Below w.heap.size w w') : OwnTxns te ti tk w' base v p := ⟨own_below h.row hb, fun x hx => own_below (h.writes x hx) hb, fun x hx => own_below (h.reads x hx) hb⟩
theorem OwnTxns.drewN (h : OwnTxns te ti tk w base v p) (k : Nat) : OwnTxns te ti tk (w.drewN k) base v p := ⟨own_drewN h.row k, fun x hx => own_drewN (h.writes x hx) k, fun x hx => own_drewN (h.reads x hx) k⟩
theorem OwnTxns.txns (h : OwnTxns te ti tk w base v p) : Txns w v (p.map (·.1)) := ⟨p, rfl, Sl.own h.row, fun x hx => ⟨Rows'.own (h.writes x hx), Rows'.own (h.reads x hx)⟩⟩
/-- One more, behind an append onto the row. -/
theorem OwnTxns.snoc {w' : World} {v' : Value} {x : So.Txn × Value × Value} (h : OwnTxns te ti tk w base v p) (hi : te ≠ ti) (hk : te ≠ tk) (hw : w.ownsRow base ti 1 x.2.1 x.1.writes.length (x.1.writes.flatMap nC)) (hr : w.ownsRow base tk 2 x.2.2 x.1.reads.length (x.1.reads.flatMap itC))
    (hrow : w'.ownsRow base te 3 v' (p.length + 1) (p.flatMap txnC ++ txnC x)) (hg : w.grownBy w' v.ownBlock) : OwnTxns te ti tk w' base v' (p ++ [x]) := by
  have kw : ∀ y : So.Txn × Value × Value, w.ownsRow base ti 1 y.2.1 y.1.writes.length (y.1.writes.flatMap nC) → w'.ownsRow base ti 1 y.2.1 y.1.writes.length (y.1.writes.flatMap nC) := fun y hy => hy.kept hg (own_types hy h.row (fun e => hi e.symm))
  have kr : ∀ y : So.Txn × Value × Value, w.ownsRow base tk 2 y.2.2 y.1.reads.length (y.1.reads.flatMap itC) → w'.ownsRow base tk 2 y.2.2 y.1.reads.length (y.1.reads.flatMap itC) := fun y hy => hy.kept hg (own_types hy h.row (fun e => hk e.symm))
  refine ⟨Rows'.own_snoc hrow, fun y hy => ?_, fun y hy => ?_⟩
  · rcases List.mem_append.1 hy with hy | hy
    · exact kw y (h.writes y hy)
    · rw [List.mem_singleton.1 hy]; exact kw x hw
  · rcases List.mem_append.1 hy with hy | hy
    · exact kr y (h.reads y hy)
    · rw [List.mem_singleton.1 hy]; exact kr x hr
end
/-- A history, a place and an error: what a call hands back lies in memory of its own; what was there stays. -/
def RetHist (w : World) (r : List So.Txn × Int × Int) (e : Ending) (w' : World) : Prop := ∃ v, e = .returned (.tuple #[.agg #[v], .int .i64 r.2.1, .int .i64 r.2.2]) ∧ Txns w' v r.1 ∧ Below w.heap.size w w'
end Go.Proofs.Ytahacjfeopjbaaa
/-
  Words for layer 7 in memory: items as keys of a map, the map of who wrote what, rows of faces, rows of numbers of a call's own, and all that reads are held against; how these last and are written.
  Conditions: none beyond those that each theorem states.
  (This program has not all of these functions: item_row, item_wide, item_law, item_lits, item_key, item_ne, Wrs.put, PastAt, PastAt.below are left out here.)
-/
set_option maxRecDepth 4000
namespace Go.Proofs.Ytahacjfeopjbaaa
open Go.RowKit
open Go.Maps (Keyed IsMap)

/-! Items as keys. -/
theorem so_laid : laidOutB Try.prog = true := by kernel_rfl
def okN (n : Int) : Prop := (Lit.int .i64 n).wf = true
theorem okN_small {n : Int} (h : 0 ≤ n) (h' : n ≤ 4294967296) : okN n := WalkArith.wf_i64 (by omega)
def itemLit (k v : Int) : Lit := .string (keyBytes [.int .i64 k, .int .i64 v])
theorem item_lit (k v : Int) : WideAt.IsKeyLit (itemLit k v) := trivial

/-! The map of who wrote what: of whole transactions, and of one's ops so far. -/
structure Wrs (D : DataW Unit) (l : List Gr.Tx) (i : Nat) (c : List Ev.Event) : Prop where
  has : ∀ k v, okN k → okN v → Maps.has D (itemLit k v) = So.wrote k v ((l.take i).flatMap (·.ops) ++ c)
  old : ∀ k v, okN k → okN v → ∀ m (hm : m < l.length), m < i → So.wrote k v l[m].ops = true → D.atKey (itemLit k v) (.lit (.int .i64 0)) = .lit (.int .i64 (m : Int))
  cur : ∀ k v, okN k → okN v → So.wrote k v c = true → D.atKey (itemLit k v) (.lit (.int .i64 0)) = .lit (.int .i64 (i : Int))
theorem Wrs.start (l : List Gr.Tx) : Wrs (.map []) l 0 [] := ⟨fun _ _ _ _ => rfl, fun _ _ _ _ _ _ h => absurd h (by omega), fun _ _ _ _ h => by cases h⟩
theorem wrote_append (k v : Int) (a b : List Ev.Event) : So.wrote k v (a ++ b) = (So.wrote k v a || So.wrote k v b) := by simp [So.wrote]
theorem wrote_one (k v : Int) (e : Ev.Event) : So.wrote k v [e] = So.isW k v e := by simp [So.wrote]
theorem isW_no {k v : Int} {e : Ev.Event} (h : ¬ (e.kind = 2 ∧ e.key = k ∧ e.value = v)) : So.isW k v e = false := by
  cases hq : So.isW k v e with
  | false => rfl
  | true => exact absurd ((So.isW_iff _ _ _).1 hq) h
section
variable {D : DataW Unit} {l : List Gr.Tx} {i : Nat} {c : List Ev.Event}
/-- An op that is no write. -/
theorem Wrs.pass (h : Wrs D l i c) (e : Ev.Event) (he : e.kind ≠ 2) : Wrs D l i (c ++ [e]) := by
  have hw : ∀ k v, So.wrote k v (c ++ [e]) = So.wrote k v c := fun k v => by rw [wrote_append, wrote_one, isW_no (fun q => he q.1), Bool.or_false]
  refine ⟨fun k v hk hv => ?_, h.old, fun k v hk hv hq => h.cur k v hk hv (by rw [← hw]; exact hq)⟩
  rw [h.has k v hk hv, wrote_append, wrote_append, hw]
/-- The next transaction. -/
theorem Wrs.next (hi : i < l.length) (h : Wrs D l i l[i].ops) : Wrs D l (i + 1) [] := by
  refine ⟨fun k v hk hv => ?_, fun k v hk hv m hm hmi hw => ?_, fun k v _ _ hq => by cases hq⟩
  · rw [h.has k v hk hv, List.append_nil, List.take_succ_eq_append_getElem hi, List.flatMap_append]
    simp
  · by_cases e : m = i
    · subst e
      exact h.cur k v hk hv hw
    · exact h.old k v hk hv m hm (by omega) hw
/-- Whose a value is, by the map. -/
theorem Wrs.who (h : Wrs D l l.length []) (k v : Int) (hk : okN k) (hv : okN v) :
    (Maps.has D (itemLit k v) = false ∧ So.fromGo k v 0 l = (0, 12)) ∨
    ∃ m, ∃ hm : m < l.length, Maps.has D (itemLit k v) = true ∧ D.atKey (itemLit k v) (.lit (.int .i64 0)) = .lit (.int .i64 (m : Int)) ∧ So.wrote k v l[m].ops = true ∧
      So.fromGo k v 0 l = if l[m].done = false then (0, 13) else if In.lastOf 2 k l[m].ops ≠ some v then (0, 14) else ((((l.take m).filter (·.done)).length : Int), 0) := by
  have hh := h.has k v hk hv
  rw [List.take_length, List.append_nil] at hh
  cases hq : So.wrote k v (l.flatMap (·.ops)) with
  | false =>
    refine .inl ⟨by rw [hh, hq], ?_⟩
    rw [So.from_number k v l l.length (Nat.le_refl _) (fun j hj _ => So.wrote_sub (fun x hx => List.mem_flatMap.2 ⟨_, List.getElem_mem hj, hx⟩) hq), So.from_end _ _ _ _ _ (Nat.le_refl _)]
  | true =>
    rw [So.wrote, List.any_eq_true] at hq
    obtain ⟨x, hx, hx2⟩ := hq
    obtain ⟨t, ht, hxt⟩ := List.mem_flatMap.1 hx
    obtain ⟨m, hm, rfl⟩ := List.getElem_of_mem ht
    have hw : So.wrote k v l[m].ops = true := by rw [So.wrote, List.any_eq_true]; exact ⟨x, hxt, hx2⟩
    have hat := h.old k v hk hv m hm hm hw
    refine .inr ⟨m, hm, ?_, hat, hw, ?_⟩
    · rw [hh, So.wrote, List.any_eq_true]
      exact ⟨x, hx, hx2⟩
    · rw [So.from_number k v l m (by omega) (fun j hj hjm => ?_), So.from_hit _ _ _ _ _ hm hw]
      cases hj2 : So.wrote k v l[j].ops with
      | false => rfl
      | true =>
        have := h.old k v hk hv j hj hj hj2
        rw [hat] at this
        simp at this
        omega
end

/-! Rows of faces. -/
def faC (x : (List (Int × Int) × List (Int × Int)) × Value × Value) : List Value := [x.2.1, x.2.2]
theorem faC_len (x : (List (Int × Int) × List (Int × Int)) × Value × Value) : (faC x).length = 2 := rfl
def Faces (w : World) (v : Value) (l : List (List (Int × Int) × List (Int × Int))) : Prop := ∃ p : List ((List (Int × Int) × List (Int × Int)) × Value × Value), p.map (·.1) = l ∧ Sl w 2 v p.length (p.flatMap faC) ∧ ∀ x ∈ p, Its w x.2.1 x.1.1 ∧ Its w x.2.2 x.1.2
theorem Faces.below {w w' : World} {v : Value} {l : List (List (Int × Int) × List (Int × Int))} (h : Faces w v l) (hb : Below w.heap.size w w') : Faces w' v l := by
  obtain ⟨p, h1, h2, h3⟩ := h
  exact ⟨p, h1, h2.below hb, fun x hx => ⟨(h3 x hx).1.below hb, (h3 x hx).2.below hb⟩⟩
structure FaIn (w : World) (ad : Addr) (k : Nat) (u v : Value) : Prop where
  c0 : w.cell? (ad.add (k * 2)) = some u
  c1 : w.cell? ⟨(ad.add (k * 2)).block, (ad.add (k * 2)).off + 1, none⟩ = some v
theorem FaIn.below {w w' : World} {ad : Addr} {k : Nat} {u v : Value} (h : FaIn w ad k u v) (hlt : ad.block < w.heap.size) (hb : Below w.heap.size w w') : FaIn w' ad k u v := by
  have e : ad.block = (ad.add (k * 2)).block := (add_block ad _).symm
  refine ⟨(hb.cell ?_).trans h.c0, (hb.cell ?_).trans h.c1⟩
  all_goals exact e ▸ hlt
theorem Faces.spelled {w : World} {v : Value} {l : List (List (Int × Int) × List (Int × Int))} (h : Faces w v l) : ∃ A c, v = .slice A l.length c ∧ ∀ (k : Nat) (hk : k < l.length), ∃ (ad : Addr) (x y : Value), A = some ad ∧ ad.block < w.heap.size ∧ FaIn w ad k x y ∧ Its w x l[k].1 ∧ Its w y l[k].2 := by
  obtain ⟨p, rfl, h2, h3⟩ := h
  obtain ⟨A, c, hv, hh⟩ := h2.form
  refine ⟨A, c, by rw [List.length_map]; exact hv, fun k hk => ?_⟩
  have hk' : k < p.length := by simpa using hk
  obtain ⟨ad, e, hb, hc⟩ := hh (by omega)
  have key : ∀ j u, (faC p[k])[j]? = some u → w.cell? (ad.add (k * 2 + j)) = some u := fun j u hu => by
    have hj : j < 2 := (List.getElem?_eq_some_iff.1 hu).1
    exact hc _ _ (by rw [flat_at faC_len p k hk' j hj]; exact hu)
  have hel : (p.map (·.1))[k] = p[k].1 := by simp
  obtain ⟨h4, h5⟩ := h3 _ (List.getElem_mem hk')
  refine ⟨ad, p[k].2.1, p[k].2.2, e, hb, ⟨key 0 _ rfl, ?_⟩, by rw [hel]; exact h4, by rw [hel]; exact h5⟩
  rw [add_more ad _ 1 (by omega)]
  exact key 1 _ rfl
/-- Such a row of the call's own. -/
structure OwnFaces (te ti : TypeId) (w : World) (base : Nat) (v : Value) (p : List ((List (Int × Int) × List (Int × Int)) × Value × Value)) : Prop where
  row : w.ownsRow base te 2 v p.length (p.flatMap faC)
  reads : ∀ x ∈ p, w.ownsRow base ti 2 x.2.1 x.1.1.length (x.1.1.flatMap itC)
  writes : ∀ x ∈ p, w.ownsRow base ti 2 x.2.2 x.1.2.length (x.1.2.flatMap itC)
section
variable {te ti : TypeId} {w : World} {base : Nat} {v : Value} {p : List ((List (Int × Int) × List (Int × Int)) × Value × Value)}
theorem OwnFaces.below {w' : World} (h : OwnFaces te ti w base v p) (hb : Below w.heap.size w w') : OwnFaces te ti w' base v p := ⟨own_below h.row hb, fun x hx => own_below (h.reads x hx) hb, fun x hx => own_below (h.writes x hx) hb⟩
theorem OwnFaces.faces (h : OwnFaces te ti w base v p) : Faces w v (p.map (·.1)) := ⟨p, rfl, Sl.own h.row, fun x hx => ⟨Rows'.own (h.reads x hx), Rows'.own (h.writes x hx)⟩⟩
theorem OwnFaces.form (h : OwnFaces te ti w base v p) (k : Nat) (hk : k < p.length) : ∃ g c, v = .slice (some ⟨g, 0, none⟩) p.length c ∧ w.cell? ⟨g, k * 2, none⟩ = some p[k].2.1 ∧ w.cell? ⟨g, k * 2 + 1, none⟩ = some p[k].2.2 ∧ w.frozen? ⟨g, k * 2, none⟩ = false ∧ w.frozen? ⟨g, k * 2 + 1, none⟩ = false ∧ base ≤ g ∧ g < w.heap.size := by
  rcases h.row.2 with ⟨_, h0⟩ | ⟨g, cap, cur, rfl, _⟩
  · omega
  · refine ⟨g, cap, rfl, ?_, ?_, h.row.frozenAt _, h.row.frozenAt _, (h.row.lt g rfl).1, (h.row.lt g rfl).2⟩
    · rw [h.row.cellAt _ (by omega)]
      have := flat_at faC_len p k hk 0 (by omega)
      rw [Nat.add_zero] at this
      rw [this]; rfl
    · rw [h.row.cellAt _ (by omega), flat_at faC_len p k hk 1 (by omega)]; rfl
/-- A face is laid into its place. -/
theorem OwnFaces.put {g c : Nat} (h : OwnFaces te ti w base (.slice (some ⟨g, 0, none⟩) p.length c) p) (k : Nat) (hk : k < p.length) (hne : te ≠ ti) (y : (List (Int × Int) × List (Int × Int)) × Value × Value)
    (hr : w.ownsRow base ti 2 y.2.1 y.1.1.length (y.1.1.flatMap itC)) (hw : w.ownsRow base ti 2 y.2.2 y.1.2.length (y.1.2.flatMap itC)) :
    OwnFaces te ti ((w.setCell ⟨g, k * 2, none⟩ y.2.1).setCell ⟨g, k * 2 + 1, none⟩ y.2.2) base (.slice (some ⟨g, 0, none⟩) p.length c) (p.set k y) := by
  obtain ⟨s1, g1⟩ := h.row.stored (k * 2) y.2.1
  obtain ⟨s2, g2⟩ := s1.stored (k * 2 + 1) y.2.2
  have keep : ∀ (u : Value) (q : List (Int × Int)), w.ownsRow base ti 2 u q.length (q.flatMap itC) → ((w.setCell ⟨g, k * 2, none⟩ y.2.1).setCell ⟨g, k * 2 + 1, none⟩ y.2.2).ownsRow base ti 2 u q.length (q.flatMap itC) := fun u q hu => by
    have h1 := hu.kept g1 (own_types hu h.row (fun e => hne e.symm))
    exact h1.kept g2 (own_types h1 s1 (fun e => hne e.symm))
  refine ⟨?_, fun x hx => ?_, fun x hx => ?_⟩
  · have e1 : (p.flatMap faC).set (k * 2) y.2.1 = (p.set k (p[k].1, y.2.1, p[k].2.2)).flatMap faC := by
      have := flat_set faC_len p k hk 0 (by omega) (p[k].1, y.2.1, p[k].2.2) y.2.1 rfl
      rw [Nat.add_zero] at this
      exact this
    have hk2 : k < (p.set k (p[k].1, y.2.1, p[k].2.2)).length := by rw [List.length_set]; exact hk
    have e2 : ((p.set k (p[k].1, y.2.1, p[k].2.2)).flatMap faC).set (k * 2 + 1) y.2.2 = (p.set k y).flatMap faC := by
      have := flat_set faC_len (p.set k (p[k].1, y.2.1, p[k].2.2)) k hk2 1 (by omega) y y.2.2 (by simp [faC])
      rw [List.set_set] at this
      exact this
    rw [e1, e2] at s2
    rw [List.length_set]
    exact s2
  · rcases mem_set_at hx with rfl | ⟨i, hi, _, rfl⟩
    · exact keep _ _ hr
    · exact keep _ _ (h.reads _ (List.getElem_mem hi))
  · rcases mem_set_at hx with rfl | ⟨i, hi, _, rfl⟩
    · exact keep _ _ hw
    · exact keep _ _ (h.writes _ (List.getElem_mem hi))
end
/-- Made cells, in twos. -/
theorem made_two (z : Value) (n : Nat) : (madeCells #[z, z] (n * 2)).toList = (List.replicate n (([], []), z, z)).flatMap faC := by
  have e1 : (madeCells #[z, z] (n * 2)).toList = List.replicate (n * 2) z := by
    apply List.ext_getElem?
    intro j
    rw [Array.getElem?_toList, List.getElem?_replicate]
    simp only [madeCells, Array.getElem?_map, Array.getElem?_range]
    split
    · have : j % 2 = 0 ∨ j % 2 = 1 := by omega
      rcases this with h | h <;> simp [h]
    · rfl
  rw [e1]
  induction n with
  | zero => rfl
  | succ n ih =>
    have ih' := ih (by
      apply List.ext_getElem?
      intro j
      rw [Array.getElem?_toList, List.getElem?_replicate]
      simp only [madeCells, Array.getElem?_map, Array.getElem?_range]
      split
      · have : j % 2 = 0 ∨ j % 2 = 1 := by omega
        rcases this with h | h <;> simp [h]
      · rfl)
    rw [List.replicate_succ (n := n), List.flatMap_cons, ← ih', Nat.succ_mul]
    rw [show n * 2 + 2 = (n * 2 + 1) + 1 by omega, List.replicate_succ, List.replicate_succ]
    rfl
/-- What a committed one shows, by transactions; and its number. -/
def faceT (t : Gr.Tx) : List (Int × Int) × List (Int × Int) := if t.done = true then (In.readsTo t.ops 16, In.writesTo t.ops 16) else ([], [])
def numsTo (l : List Gr.Tx) (n : Nat) : List Int := (List.range n).map fun i => (((l.take i).filter (·.done)).length : Int)
theorem numsTo_len (l : List Gr.Tx) (n : Nat) : (numsTo l n).length = n := by simp [numsTo]
theorem numsTo_at (l : List Gr.Tx) (n i : Nat) (hi : i < n) : (numsTo l n)[i]? = some (((l.take i).filter (·.done)).length : Int) := by simp [numsTo, hi]

end Go.Proofs.Ytahacjfeopjbaaa
/-
  What source's small functions answer: isOp, checkOps, numbersOf, keysOf, and slices.Index and slices.Contains over items; what was in memory stays as it was.
  Conditions: a row has at most 2^32 elements.
  (This program has not all of these functions: soIsOp_at, checkOps_at, keysOf_at, itIndex_at, contains_at, soNumbers_at are left out here.)
-/
set_option maxRecDepth 4000
namespace Go.Proofs.Ytahacjfeopjbaaa
open Go.RowKit

namespace So
/-- The first transaction with an error of the p-th kind, and that error. -/
def firstR (l : List Gr.Tx) (p : Nat) : Int × Int := match firstNZ (phase l p) l.length with
  | some i => ((i : Int), phase l p i)
  | none => (0, 0)
theorem may_bad (l : List Gr.Tx) (i : Nat) (hi : i < l.length) (h : mayT l[i] ≠ true) : phase l 0 i = 1 := by
  rw [phase_at l 0 i hi]
  simp [phaseT, h]
end So
/-- Two numbers, in whatever memory was made. -/
def RetTwo (w : World) (r : Int × Int) (e : Ending) (w' : World) : Prop := e = .returned (.tuple #[.int .i64 r.1, .int .i64 r.2]) ∧ Below w.heap.size w w'
theorem RetTwo.mk {w w' : World} {r : Int × Int} {a b : Int} (h : r = (a, b)) (hb : Below w.heap.size w w') : RetTwo w r (.returned (.tuple #[.int .i64 a, .int .i64 b])) w' := by
  subst h
  exact ⟨rfl, hb⟩

/-! Numbers, keys, items. -/
theorem int_info : (Try.prog.info? 3).map (fun i => (i.zero, i.size, i.bytes)) = some (some (.int .i64 0), 1, 8) := by kernel_rfl
/-- A row of numbers of the call's own. -/
def RetNs (w : World) (l : List Int) (e : Ending) (w' : World) : Prop := ∃ v, e = .returned v ∧ w'.ownsRow w.heap.size 3 1 v l.length (l.flatMap nC) ∧ Below w.heap.size w w'
theorem new_nC (w : World) (n : Int) (e : TypeId) : ∀ j u, (nC n)[j]? = some u → (w.alloc (.cells #[.int .i64 n] e)).cell? ((⟨w.heap.size, 0, none⟩ : Addr).add j) = some u := new_row w (nC n) e
end Go.Proofs.Ytahacjfeopjbaaa
/-
  What source.facesOf and source.writersOf answer: the first error of their kind with its place, else the faces of the committed ones, and the map of who wrote what; what was in memory stays as it was.
  Conditions: a row has at most 2^32 elements; writersOf: at most 32 transactions, whose ops may all be.
  (This program has not all of these functions: face_info, FacesMid, FacesMid.later, FacesMid.put, facesOf_at, RetWriters, RetWriters.mk, WrMid, WrMid.later, writersOf_at are left out here.)
-/
set_option maxRecDepth 4000
namespace Go.Proofs.Ytahacjfeopjbaaa
open Go.RowKit

/-- Faces, a place and an error. -/
def RetFaces (w : World) (l : List Gr.Tx) (e : Ending) (w' : World) : Prop := ∃ A n c, e = .returned (.tuple #[.slice A n c, .int .i64 (So.firstR l 2).1, .int .i64 (So.firstR l 2).2]) ∧ (So.Clean l 2 → Faces w' (.slice A n c) (l.map faceT)) ∧ Below w.heap.size w w'
theorem RetFaces.mk {w w' : World} {l : List Gr.Tx} (A : Option Addr) (n c : Nat) (a b : Int) (h : So.firstR l 2 = (a, b)) (hf : So.Clean l 2 → Faces w' (.slice A n c) (l.map faceT)) (hb : Below w.heap.size w w') : RetFaces w l (.returned (.tuple #[.slice A n c, .int .i64 a, .int .i64 b])) w' :=
  ⟨A, n, c, by rw [h], hf, hb⟩
theorem Wrs.found {D : DataW Unit} {l : List Gr.Tx} {i : Nat} {c : List Ev.Event} (h : Wrs D l i c) (hi : i ≤ l.length) (k v : Int) (hk : okN k) (hv : okN v) (hw : So.wrote k v ((l.take i).flatMap (·.ops) ++ c) = true) : ∃ m : Nat, D.atKey (itemLit k v) (.lit (.int .i64 0)) = .lit (.int .i64 (m : Int)) := by
  rw [wrote_append] at hw
  cases hc : So.wrote k v c with
  | true => exact ⟨i, h.cur k v hk hv hc⟩
  | false =>
    rw [hc, Bool.or_false, So.wrote, List.any_eq_true] at hw
    obtain ⟨x, hx, hx2⟩ := hw
    obtain ⟨t, ht, hxt⟩ := List.mem_flatMap.1 hx
    obtain ⟨m, hm, rfl⟩ := List.mem_take_iff_getElem.1 ht
    exact ⟨m, h.old k v hk hv m (by omega) (by omega) (by rw [So.wrote, List.any_eq_true]; exact ⟨x, hxt, hx2⟩)⟩
end Go.Proofs.Ytahacjfeopjbaaa
/-
  What source's methods writer and takes answer: whose a value is that is read (So.fromR), and the reads of a face with those who wrote them, or the first error; what was in memory stays as it was.
  Conditions: a row has at most 2^32 elements; keys are 0 to 15, values numbers of their kind.
  (This program has not all of these functions: writer_at, takes_at are left out here.)
-/
set_option maxRecDepth 4000
namespace Go.Proofs.Ytahacjfeopjbaaa
open Go.RowKit

/-- A variable of four cells. -/
def Four (w : World) (b : Nat) (x0 x1 x2 x3 : Value) : Prop := w.cell? ⟨b, 0, none⟩ = some x0 ∧ w.cell? ⟨b, 1, none⟩ = some x1 ∧ w.cell? ⟨b, 2, none⟩ = some x2 ∧ w.cell? ⟨b, 3, none⟩ = some x3
theorem Four.below {w w' : World} {b : Nat} {x0 x1 x2 x3 : Value} (h : Four w b x0 x1 x2 x3) (hlt : b < w.heap.size) (hb : Below w.heap.size w w') : Four w' b x0 x1 x2 x3 :=
  ⟨(hb.cell hlt).trans h.1, (hb.cell hlt).trans h.2.1, (hb.cell hlt).trans h.2.2.1, (hb.cell hlt).trans h.2.2.2⟩
theorem Four.grown {w w' : World} {b : Nat} {x0 x1 x2 x3 : Value} {row : Option Nat} (h : Four w b x0 x1 x2 x3) (hg : w.grownBy w' row) (hne : some b ≠ row) : Four w' b x0 x1 x2 x3 :=
  ⟨hg.cell h.1 hne, hg.cell h.2.1 hne, hg.cell h.2.2.1 hne, hg.cell h.2.2.2 hne⟩
/-- The reads of a face, each with the one who wrote it, and an error. -/
def takesL (l : List Gr.Tx) (ys : List (Int × Int)) : List (Int × Int) := ys.map fun y => (y.1, (So.fromR l y).1)
def RetTakes (w : World) (l : List Gr.Tx) (ys : List (Int × Int)) (e : Ending) (w' : World) : Prop := ∃ A n c, e = .returned (.tuple #[.slice A n c, .int .i64 (So.readsErr l ys)]) ∧ (So.readsErr l ys = 0 → w'.ownsRow w.heap.size 62 2 (.slice A n c) (takesL l ys).length ((takesL l ys).flatMap itC)) ∧ Below w.heap.size w w'
theorem RetTakes.mk {w w' : World} {l : List Gr.Tx} {ys : List (Int × Int)} (v : Value) (A : Option Addr) (n c : Nat) (q : Int) (hv : v = .slice A n c) (h : So.readsErr l ys = q) (hf : So.readsErr l ys = 0 → w'.ownsRow w.heap.size 62 2 v (takesL l ys).length ((takesL l ys).flatMap itC)) (hb : Below w.heap.size w w') : RetTakes w l ys (.returned (.tuple #[v, .int .i64 q])) w' := by
  subst hv
  exact ⟨A, n, c, by rw [h], hf, hb⟩
end Go.Proofs.Ytahacjfeopjbaaa
/-
  What source's method history and source.Hist answer: So.histR, the history of any transactions, or which one is wrong, and how; what was in memory stays as it was.
  Conditions: a row has at most 2^32 elements.
  (This program has not all of these functions: results_hist, results_hist9, end_hist, end_hist9, history_at are left out here.)
-/
set_option maxRecDepth 4000
namespace Go.Proofs.Ytahacjfeopjbaaa
open Go.RowKit

namespace So
end So
theorem txn_info : (Try.prog.info? 65).map (fun i => (i.zero, i.size, i.bytes)) = some (some (.agg #[.int .i64 0, .slice none 0 0, .slice none 0 0]), 3, 56) := by kernel_rfl
theorem one_cell {w : World} {b : Nat} {u : Value} {t : TypeId} (h : w.heap[b]? = some (.cells #[u] t (0, 0))) : w.cell? ⟨b, 0, none⟩ = some u ∧ w.frozen? ⟨b, 0, none⟩ = false := by
  refine ⟨?_, ?_⟩
  · simp [World.cell?, h]
  · simp [World.frozen?, h]
theorem one_set {w : World} {b : Nat} {u : Value} {t : TypeId} (h : w.heap[b]? = some (.cells #[u] t (0, 0))) (x : Value) : (w.setCell ⟨b, 0, none⟩ x).heap[b]? = some (.cells #[x] t (0, 0)) := by
  simp [World.setCell, Array.getElem?_modify, h]
theorem OwnTxns.set {te ti tk : TypeId} {w : World} {base : Nat} {v : Value} {p : List (So.Txn × Value × Value)} (h : OwnTxns te ti tk w base v p) {a : Addr} (ha : a.block < base) (u : Value) : OwnTxns te ti tk (w.setCell a u) base v p :=
  ⟨ownsRow_setCell_below h.row ha u, fun x hx => ownsRow_setCell_below (h.writes x hx) ha u, fun x hx => ownsRow_setCell_below (h.reads x hx) ha u⟩
/-- What history holds at the head of each round: its receiver, its result variable, the history so far. -/
structure HistMid (w wr : World) (l : List Gr.Tx) (k : Nat) (U : Value) (b : Nat) (F N V : Value) (p : List (So.Txn × Value × Value)) : Prop where
  box : Four wr w.heap.size U (.map (some b)) F N
  res : wr.heap[w.heap.size + 1]? = some (.cells #[.slice none 0 0] 24 (0, 0))
  cell : wr.heap[w.heap.size + 2]? = some (.cells #[V] 24 (0, 0))
  own : OwnTxns 65 3 62 wr (w.heap.size + 3) V p
  same : p.map (·.1) = ((l.take k).filter (·.done)).map (So.txnOf l)
  below : Below w.heap.size w wr
section
variable {w wr w' : World} {l : List Gr.Tx} {k : Nat} {U : Value} {b : Nat} {F N V : Value} {p : List (So.Txn × Value × Value)}
theorem HistMid.lt (h : HistMid w wr l k U b F N V p) : w.heap.size + 2 < wr.heap.size := lt_of_block h.cell
theorem HistMid.later (h : HistMid w wr l k U b F N V p) (hb : Below wr.heap.size wr w') : HistMid w w' l k U b F N V p := by
  have := h.lt
  exact ⟨h.box.below (by omega) hb, (hb.block _ (by omega)).trans h.res, (hb.block _ (by omega)).trans h.cell, h.own.below hb, h.same, below_all h.below hb⟩
/-- One transaction more: it was appended, and the row is laid into the history. -/
theorem HistMid.more {w3 : World} {v' kv rv : Value} (h : HistMid w wr l k U b F N V p) (hk : k < l.length) (hd : l[k].done = true)
    (hkv : wr.ownsRow (w.heap.size + 3) 3 1 kv (So.txnOf l l[k]).writes.length ((So.txnOf l l[k]).writes.flatMap nC)) (hrv : wr.ownsRow (w.heap.size + 3) 62 2 rv (So.txnOf l l[k]).reads.length ((So.txnOf l l[k]).reads.flatMap itC))
    (hrow : w3.ownsRow (w.heap.size + 3) 65 3 v' (p.length + 1) (p.flatMap txnC ++ txnC (So.txnOf l l[k], kv, rv))) (hg : wr.grownBy w3 V.ownBlock) :
    HistMid w (w3.setCell ⟨w.heap.size + 2, 0, none⟩ v') l (k + 1) U b F N v' (p ++ [(So.txnOf l l[k], kv, rv)]) := by
  have hlt := h.lt
  have hne : ∀ j, j ≤ w.heap.size + 2 → some j ≠ V.ownBlock := fun j hj e => by
    have := (h.own.row.lt j e.symm).1
    omega
  have hfar : ∀ j, j ≠ w.heap.size + 2 → (w3.setCell ⟨w.heap.size + 2, 0, none⟩ v').heap[j]? = w3.heap[j]? := fun j hj => Below.heap_setCell _ _ _ _ hj
  have hb3 : ∀ j, j ≤ w.heap.size + 2 → w3.heap[j]? = wr.heap[j]? := fun j hj => hg.block j (by omega) (hne j hj)
  refine ⟨?_, ?_, ?_, ?_, ?_, ?_⟩
  · have hx : ∀ o, (w3.setCell ⟨w.heap.size + 2, 0, none⟩ v').cell? ⟨w.heap.size, o, none⟩ = wr.cell? ⟨w.heap.size, o, none⟩ := fun o => World.cell?_of_block ((hfar w.heap.size (by omega)).trans (hb3 w.heap.size (by omega)))
    exact ⟨(hx 0).trans h.box.1, (hx 1).trans h.box.2.1, (hx 2).trans h.box.2.2.1, (hx 3).trans h.box.2.2.2⟩
  · exact (hfar _ (by omega)).trans ((hb3 _ (by omega)).trans h.res)
  · exact one_set ((hb3 _ (by omega)).trans h.cell) v'
  · exact (h.own.snoc (by decide) (by decide) hkv hrv hrow hg).set (by show w.heap.size + 2 < w.heap.size + 3; omega) _
  · rw [So.txns_step l k hk, hd, List.map_append, h.same]
    simp
  · exact (h.below.grown hg h.below.size (fun j hj => by have := (h.own.row.lt j hj).1; omega)).setCell (by show w.heap.size ≤ w.heap.size + 2; omega) _
end
theorem HistMid.far {w wr : World} {l : List Gr.Tx} {k : Nat} {U : Value} {b : Nat} {F N V : Value} {p : List (So.Txn × Value × Value)} (h : HistMid w wr l k U b F N V p) (j : Nat) (hj : j ≤ w.heap.size + 2) : some j ≠ V.ownBlock := fun e => by
  have := (h.own.row.lt j e.symm).1
  omega
theorem own_any {w : World} {base size n : Nat} {e : TypeId} {v : Value} {xs : List Value} (h : w.ownsRow base e size v n xs) : ∃ A m c, v = .slice A m c := by
  obtain ⟨A, c, e⟩ := own_form h
  exact ⟨A, n, c, e⟩
theorem new_txn (w : World) (t : So.Txn) (u v : Value) (e : TypeId) : ∀ j x, (txnC (t, u, v))[j]? = some x → (w.alloc (.cells #[.int .i64 t.session, u, v] e)).cell? ((⟨w.heap.size, 0, none⟩ : Addr).add j) = some x := new_row w (txnC (t, u, v)) e
theorem OwnTxns.mono {te ti tk : TypeId} {w : World} {base base' : Nat} {v : Value} {p : List (So.Txn × Value × Value)} (h : OwnTxns te ti tk w base v p) (hb : base' ≤ base) : OwnTxns te ti tk w base' v p :=
  ⟨h.row.mono hb, fun x hx => (h.writes x hx).mono hb, fun x hx => (h.reads x hx).mono hb⟩
/-- As RetHist, all rows in memory that the call made. -/
def RetHistOwn (w : World) (r : List So.Txn × Int × Int) (e : Ending) (w' : World) : Prop := ∃ v p, e = .returned (.tuple #[.agg #[v], .int .i64 r.2.1, .int .i64 r.2.2]) ∧ OwnTxns 65 3 62 w' w.heap.size v p ∧ p.map (·.1) = r.1 ∧ Below w.heap.size w w'
theorem RetHistOwn.ret {w w' : World} {r : List So.Txn × Int × Int} {e : Ending} (h : RetHistOwn w r e w') : RetHist w r e w' := by
  obtain ⟨v, p, he, ho, hp, hb⟩ := h
  refine ⟨v, he, ?_, hb⟩
  rw [← hp]
  exact ho.txns
/-- What the last step of a round reads. -/
def HeldAt (B n : Nat) (ad : Addr) (k : Nat) (s F Y : Value) (w : World) : Prop := w.cell? ⟨n, 0, none⟩ = some s ∧ w.cell? ⟨B, 2, none⟩ = some F ∧ w.cell? ⟨(ad.add (k * 2)).block, (ad.add (k * 2)).off + 1, none⟩ = some Y
theorem HeldAt.on {B n : Nat} {ad : Addr} {k : Nat} {s F Y : Value} {w w' : World} {row : Option Nat} (h : HeldAt B n ad k s F Y w) (hg : w.grownBy w' row) (h2 : some n ≠ row) (h3 : some B ≠ row) (h4 : some ad.block ≠ row) : HeldAt B n ad k s F Y w' :=
  ⟨hg.cell h.1 h2, hg.cell h.2.1 h3, hg.cell h.2.2 (by rw [add_block]; exact h4)⟩
theorem HeldAt.below {B n : Nat} {ad : Addr} {k : Nat} {s F Y : Value} {w w' : World} (h : HeldAt B n ad k s F Y w) (hb : Below w.heap.size w w') : HeldAt B n ad k s F Y w' :=
  h.on (row := none) ⟨hb.os, hb.tape, hb.output, hb.size, fun k hk _ => hb.block k hk⟩ (by simp) (by simp) (by simp)
theorem HeldAt.set {B n : Nat} {ad : Addr} {k : Nat} {s F Y : Value} {w : World} (h : HeldAt B n ad k s F Y w) (j : Nat) (u : Value) (h2 : n ≠ j) (h3 : B ≠ j) (h4 : ad.block ≠ j) : HeldAt B n ad k s F Y (w.setCell ⟨j, 0, none⟩ u) :=
  ⟨(far_cell h2).trans h.1, (far_cell h3).trans h.2.1, (far_cell (by rw [add_block]; exact h4)).trans h.2.2⟩
end Go.Proofs.Ytahacjfeopjbaaa
/-
  What source.Hist answers: So.histR, the history of any transactions, or which one is wrong, and how; what was in memory stays as it was.
  Conditions: a row of ops has at most 2^32 elements.
  (This program has not all of these functions: hist_no, hist_own, hist_at are left out here.)
-/
set_option maxRecDepth 4000
namespace Go.Proofs.Ytahacjfeopjbaaa
open Go.RowKit

/-- Hist's result variable is as it was made; what was in memory stays. -/
structure HistRes (w wr : World) : Prop where
  below : Below w.heap.size w wr
  res : wr.heap[w.heap.size]? = some (.cells #[.slice none 0 0] 24 (0, 0))
theorem HistRes.start (w : World) : HistRes w (w.alloc (.cells #[.slice none 0 0] 24)) := ⟨alloc_below _ _, heap_alloc_new _ _⟩
theorem HistRes.later {w wr w1 : World} (h : HistRes w wr) (hb : Below wr.heap.size wr w1) : HistRes w w1 := ⟨below_all h.below hb, (hb.block _ (lt_of_block h.res)).trans h.res⟩
end Go.Proofs.Ytahacjfeopjbaaa
