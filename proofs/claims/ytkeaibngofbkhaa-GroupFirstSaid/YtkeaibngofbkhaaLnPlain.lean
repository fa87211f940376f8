/-
  Plain facts on texts of lines and on lines of words (no Go in it): the lines of a text, the text of lines, that each is the other's inverse, the words of a line.
  Conditions: none beyond those that each theorem states.
-/
namespace Go.Proofs.Ytkeaibngofbkhaa.Ln

theorem snocRec {α : Type} {motive : List α → Prop} (l : List α) (nil : motive []) (snoc : ∀ l c, motive l → motive (l ++ [c])) : motive l := by
  rw [← List.reverse_reverse l]
  generalize l.reverse = r
  induction r with
  | nil => exact nil
  | cons c r ih => rw [List.reverse_cons]; exact snoc _ c ih

/-- Bytes as a text. -/
def bs (l : List UInt8) : ByteArray := ⟨l.toArray⟩
theorem bs_data (l : List UInt8) : (bs l).data.toList = l := by simp [bs]
theorem bs_size (l : List UInt8) : (bs l).size = l.length := by simp [bs, ByteArray.size]
theorem bs_of (s : ByteArray) : bs s.data.toList = s := by cases s; simp [bs]
theorem bs_inj {a b : List UInt8} (h : bs a = bs b) : a = b := by rw [← bs_data a, h, bs_data]
theorem bs_get (l : List UInt8) (k : Nat) (h : k < (bs l).size) (hl : k < l.length) : (bs l)[k]'h = l[k]'hl := by
  show (l.toArray)[k] = _
  simp
theorem data_len (s : ByteArray) : s.data.toList.length = s.size := by simp

/-- Lines as a text. -/
def joinS (l : List (List UInt8)) : List UInt8 := l.flatMap (· ++ [10])
theorem joinS_nil : joinS [] = [] := rfl
theorem joinS_append (a b : List (List UInt8)) : joinS (a ++ b) = joinS a ++ joinS b := by simp [joinS]
theorem joinS_one (x : List UInt8) : joinS [x] = x ++ [10] := by simp [joinS]
theorem joinS_snoc (a : List (List UInt8)) (x : List UInt8) : joinS (a ++ [x]) = joinS a ++ (x ++ [10]) := by rw [joinS_append, joinS_one]
theorem joinS_cons (x : List UInt8) (a : List (List UInt8)) : joinS (x :: a) = x ++ 10 :: joinS a := by simp [joinS]

/-- Byte by byte: the lines that have ended, and what has been begun. -/
def step (st : List (List UInt8) × List UInt8) (b : UInt8) : List (List UInt8) × List UInt8 := if b = 10 then (st.1 ++ [st.2], []) else (st.1, st.2 ++ [b])
def run (s : List UInt8) : List (List UInt8) × List UInt8 := s.foldl step ([], [])
def full (s : List UInt8) : List (List UInt8) := (run s).1
def rest (s : List UInt8) : List UInt8 := (run s).2

theorem run_nil : run [] = ([], []) := rfl
theorem run_snoc (s : List UInt8) (b : UInt8) : run (s ++ [b]) = step (run s) b := by simp [run, List.foldl_append]
theorem full_nl (s : List UInt8) : full (s ++ [10]) = full s ++ [rest s] := by simp [full, rest, run_snoc, step]
theorem rest_nl (s : List UInt8) : rest (s ++ [10]) = [] := by simp [rest, run_snoc, step]
theorem full_other (s : List UInt8) (b : UInt8) (h : b ≠ 10) : full (s ++ [b]) = full s := by simp [full, run_snoc, step, h]
theorem rest_other (s : List UInt8) (b : UInt8) (h : b ≠ 10) : rest (s ++ [b]) = rest s ++ [b] := by simp [rest, run_snoc, step, h]

theorem run_join (s : List UInt8) : joinS (full s) ++ rest s = s := by
  induction s using snocRec with
  | nil => rfl
  | snoc s b ih =>
    by_cases h : b = 10
    · subst h
      rw [full_nl, rest_nl, joinS_snoc, List.append_nil, ← List.append_assoc, ih]
    · rw [full_other s b h, rest_other s b h, ← List.append_assoc, ih]

theorem full_no (s : List UInt8) : (∀ x ∈ full s, (10 : UInt8) ∉ x) ∧ (10 : UInt8) ∉ rest s := by
  induction s using snocRec with
  | nil => exact ⟨by simp [full, run], by simp [rest, run]⟩
  | snoc s b ih =>
    by_cases h : b = 10
    · subst h
      rw [full_nl, rest_nl]
      refine ⟨fun x hx => ?_, by simp⟩
      rcases List.mem_append.1 hx with hx | hx
      · exact ih.1 x hx
      · rw [List.mem_singleton.1 hx]; exact ih.2
    · rw [full_other s b h, rest_other s b h]
      refine ⟨ih.1, fun hx => ?_⟩
      rcases List.mem_append.1 hx with hx | hx
      · exact ih.2 hx
      · exact h (List.mem_singleton.1 hx).symm

theorem full_len (s : List UInt8) : (full s).length = s.count 10 := by
  induction s using snocRec with
  | nil => rfl
  | snoc s b ih =>
    by_cases h : b = 10
    · subst h
      rw [full_nl, List.length_append, ih, List.count_append]; simp
    · rw [full_other s b h, ih, List.count_append]
      have : List.count (10 : UInt8) [b] = 0 := by simp [h]
      omega

theorem rest_len (s : List UInt8) : (rest s).length ≤ s.length := by
  have := congrArg List.length (run_join s)
  rw [List.length_append] at this
  omega

/-- Has a text an open line at its end? -/
def shut (s : List UInt8) : Bool := s.getLast?.all (· == 10)
theorem shut_nil : shut [] = true := rfl
theorem shut_snoc (s : List UInt8) (b : UInt8) : shut (s ++ [b]) = (b == 10) := by simp [shut]
theorem shut_iff (s : List UInt8) : shut s = true ↔ rest s = [] := by
  induction s using snocRec with
  | nil => simp [shut_nil, rest, run]
  | snoc s b _ =>
    rw [shut_snoc]
    by_cases h : b = 10
    · subst h; simp [rest_nl]
    · rw [rest_other s b h]; simp [h]

theorem foldl_step (s : List UInt8) : ∀ (d : List (List UInt8)) (c : List UInt8), s.foldl step (d, c) = (d ++ (s.foldl step ([], c)).1, (s.foldl step ([], c)).2) := by
  induction s with
  | nil => intro d c; simp
  | cons b s ih =>
    intro d c
    by_cases h : b = 10
    · simp only [List.foldl_cons, step, h, if_pos]
      rw [ih (d ++ [c]) [], ih ([] ++ [c]) []]
      simp
    · simp only [List.foldl_cons, step, h, if_neg, not_false_eq_true]
      exact ih d _

theorem run_append (a b : List UInt8) (h : rest a = []) : run (a ++ b) = (full a ++ full b, rest b) := by
  have e : run a = (full a, []) := by rw [← h]; rfl
  show (a ++ b).foldl step ([], []) = _
  rw [List.foldl_append]
  show b.foldl step (run a) = _
  rw [e, foldl_step]
  rfl
theorem full_append (a b : List UInt8) (h : rest a = []) : full (a ++ b) = full a ++ full b := by rw [full, run_append a b h]
theorem rest_append (a b : List UInt8) (h : rest a = []) : rest (a ++ b) = rest b := by rw [rest, run_append a b h]

theorem run_plain (a : List UInt8) (h : (10 : UInt8) ∉ a) : full a = [] ∧ rest a = a := by
  induction a using snocRec with
  | nil => exact ⟨rfl, rfl⟩
  | snoc s b ih =>
    have hs := ih (fun hx => h (List.mem_append.2 (.inl hx)))
    have hb : b ≠ 10 := fun e => h (by simp [e])
    rw [full_other s b hb, rest_other s b hb, hs.1, hs.2]
    exact ⟨rfl, rfl⟩
theorem run_line (a r : List UInt8) (h : (10 : UInt8) ∉ a) : full (a ++ 10 :: r) = a :: full r ∧ rest (a ++ 10 :: r) = rest r := by
  have hp := run_plain a h
  have e : a ++ 10 :: r = (a ++ [10]) ++ r := by simp
  rw [e, full_append _ _ (rest_nl a), rest_append _ _ (rest_nl a), full_nl, hp.1, hp.2]
  exact ⟨rfl, rfl⟩
theorem run_joinS (l : List (List UInt8)) (h : ∀ x ∈ l, (10 : UInt8) ∉ x) : full (joinS l) = l ∧ rest (joinS l) = [] := by
  induction l with
  | nil => exact ⟨rfl, rfl⟩
  | cons x l ih =>
    have hl := ih (fun y hy => h y (List.mem_cons_of_mem _ hy))
    have hx := run_line x (joinS l) (h x List.mem_cons_self)
    rw [joinS_cons, hx.1, hx.2, hl.1, hl.2]
    exact ⟨rfl, rfl⟩

/-- Split's answer. -/
def splitR (s : List UInt8) : List (List UInt8) × Int := if shut s = true then (if s.count 10 ≤ 400 then (full s, 0) else ([], 4)) else ([], 2)
/-- Has some line a newline? -/
def anyNl (l : List (List UInt8)) : Bool := l.any (·.contains 10)
/-- Join's answer. -/
def joinR (l : List (List UInt8)) : List UInt8 × Int := if l.length ≤ 400 then (if anyNl l = true then ([], 1) else (joinS l, 0)) else ([], 4)

theorem splitR_form (s : List UInt8) (h : shut s = false) : splitR s = ([], 2) := by rw [splitR, if_neg (by simp [h])]
theorem splitR_many (s : List UInt8) (h : shut s = true) (h' : 400 < s.count 10) : splitR s = ([], 4) := by rw [splitR, if_pos h, if_neg (by omega)]
theorem splitR_ok (s : List UInt8) (h : shut s = true) (h' : s.count 10 ≤ 400) : splitR s = (full s, 0) := by rw [splitR, if_pos h, if_pos h']
theorem splitR_len (s : List UInt8) : (splitR s).1.length ≤ 400 := by
  unfold splitR
  split
  · split
    · rw [full_len]; assumption
    · simp
  · simp
theorem joinR_many (l : List (List UInt8)) (h : 400 < l.length) : joinR l = ([], 4) := by rw [joinR, if_neg (by omega)]
theorem joinR_arg (l : List (List UInt8)) (h : l.length ≤ 400) (h' : anyNl l = true) : joinR l = ([], 1) := by rw [joinR, if_pos h, if_pos h']
theorem joinR_ok (l : List (List UInt8)) (h : l.length ≤ 400) (h' : anyNl l = false) : joinR l = (joinS l, 0) := by rw [joinR, if_pos h, if_neg (by simp [h'])]
theorem anyNl_take (l : List (List UInt8)) (k : Nat) (hk : k < l.length) : anyNl (l.take (k + 1)) = (anyNl (l.take k) || l[k].contains 10) := by
  unfold anyNl; rw [List.take_succ_eq_append_getElem hk, List.any_append, List.any_cons, List.any_nil, Bool.or_false]
theorem anyNl_of (l : List (List UInt8)) (k : Nat) (hk : k < l.length) (h : l[k].contains 10 = true) : anyNl l = true := by
  rw [anyNl, List.any_eq_true]; exact ⟨l[k], List.getElem_mem hk, h⟩
theorem anyNl_iff (l : List (List UInt8)) : anyNl l = false ↔ ∀ x ∈ l, (10 : UInt8) ∉ x := by
  simp [anyNl]

/-- What is joined is split. -/
theorem back_join (l : List (List UInt8)) (h : (joinR l).2 = 0) : joinR l = (joinS l, 0) ∧ splitR (joinS l) = (l, 0) := by
  unfold joinR at h ⊢
  split at h
  · rename_i h1
    split at h
    · exact absurd h (by decide)
    · rename_i h2
      rw [if_pos h1, if_neg h2]
      refine ⟨rfl, ?_⟩
      have hn := (anyNl_iff l).1 (by simpa using h2)
      have hr := run_joinS l hn
      rw [splitR_ok _ ((shut_iff _).2 hr.2) (by rw [← full_len, hr.1]; exact h1), hr.1]
  · exact absurd h (by decide)
theorem joinR_err (l : List (List UInt8)) (h : (joinR l).2 ≠ 0) : (joinR l).1 = [] := by
  unfold joinR at h ⊢
  split
  · split
    · rfl
    · rename_i h1 h2; rw [if_pos h1, if_neg h2] at h; exact absurd rfl h
  · rfl
theorem splitR_err (s : List UInt8) (h : (splitR s).2 ≠ 0) : (splitR s).1 = [] := by
  unfold splitR at h ⊢
  split
  · split
    · rename_i h1 h2; rw [if_pos h1, if_pos h2] at h; exact absurd rfl h
    · rfl
  · rfl
theorem splitR_yes (s : List UInt8) (h : (splitR s).2 = 0) : shut s = true ∧ s.count 10 ≤ 400 ∧ splitR s = (full s, 0) := by
  unfold splitR at h
  split at h
  · split at h
    · exact ⟨by assumption, by assumption, splitR_ok s (by assumption) (by assumption)⟩
    · exact absurd h (by decide)
  · exact absurd h (by decide)
/-- What is split is joined. -/
theorem back_split (s : List UInt8) (h : (splitR s).2 = 0) : joinR (splitR s).1 = (s, 0) := by
  obtain ⟨h1, h2, e⟩ := splitR_yes s h
  rw [e]
  have hj := run_join s
  rw [(shut_iff s).1 h1, List.append_nil] at hj
  show joinR (full s) = _
  rw [joinR_ok _ (by rw [full_len]; exact h2) ((anyNl_iff _).2 (full_no s).1), hj]
/-- The lines of two texts. -/
theorem split_both (s t : List UInt8) (hs : (splitR s).2 = 0) (ht : (splitR t).2 = 0) :
    splitR (s ++ t) = if 400 < (splitR s).1.length + (splitR t).1.length then ([], 4) else ((splitR s).1 ++ (splitR t).1, 0) := by
  obtain ⟨h1, h2, e1⟩ := splitR_yes s hs
  obtain ⟨h3, h4, e2⟩ := splitR_yes t ht
  rw [e1, e2]
  have hr := (shut_iff s).1 h1
  have hsh : shut (s ++ t) = true := (shut_iff _).2 (by rw [rest_append s t hr]; exact (shut_iff t).1 h3)
  show splitR (s ++ t) = if 400 < (full s).length + (full t).length then ([], 4) else (full s ++ full t, 0)
  rw [full_len, full_len]
  by_cases h : 400 < s.count 10 + t.count 10
  · rw [if_pos h, splitR_many _ hsh (by rw [List.count_append]; exact h)]
  · rw [if_neg h, splitR_ok _ hsh (by rw [List.count_append]; omega), full_append s t hr]

/-- Are lines few, and short? -/
def short (l : List (List UInt8)) : Bool := decide (l.length ≤ 500) && l.all fun x => decide (x.length ≤ 200)
theorem short_many (l : List (List UInt8)) (h : 500 < l.length) : short l = false := by simp [short]; omega
theorem short_long (l : List (List UInt8)) (k : Nat) (hk : k < l.length) (h : 200 < l[k].length) : short l = false := by
  rw [Bool.eq_false_iff]
  intro hs
  simp only [short, Bool.and_eq_true, List.all_eq_true, decide_eq_true_eq] at hs
  have := hs.2 l[k] (List.getElem_mem hk)
  omega
theorem short_yes (l : List (List UInt8)) (h : l.length ≤ 500) (ha : ∀ k (hk : k < l.length), l[k].length ≤ 200) : short l = true := by
  simp only [short, Bool.and_eq_true, List.all_eq_true, decide_eq_true_eq]
  refine ⟨h, fun x hx => ?_⟩
  obtain ⟨k, hk, rfl⟩ := List.getElem_of_mem hx
  exact ha k hk
theorem short_is (l : List (List UInt8)) (h : short l = true) : l.length ≤ 500 ∧ ∀ x ∈ l, x.length ≤ 200 := by
  simpa [short] using h
theorem joinS_len (l : List (List UInt8)) (n : Nat) (h : ∀ x ∈ l, x.length ≤ n) : (joinS l).length ≤ l.length * (n + 1) := by
  induction l with
  | nil => simp [joinS]
  | cons x l ih =>
    have h1 := ih (fun y hy => h y (List.mem_cons_of_mem _ hy))
    have h2 := h x List.mem_cons_self
    rw [joinS_cons, List.length_append, List.length_cons, List.length_cons, Nat.add_mul]
    omega
theorem short_len (l : List (List UInt8)) (h : short l = true) : (joinS l).length ≤ 100500 := by
  have hs := short_is l h
  have := joinS_len l 200 hs.2
  omega

/-- Is a byte one of a word? -/
def sign (c : UInt8) : Bool := decide (33 ≤ c.toNat) && decide (c.toNat ≤ 126)
theorem sign_iff (c : UInt8) : sign c = true ↔ 33 ≤ c.toNat ∧ c.toNat ≤ 126 := by simp [sign]
theorem sign_not (c : UInt8) : sign c = false ↔ c.toNat < 33 ∨ 126 < c.toNat := by rw [← Bool.not_eq_true, sign_iff]; omega

/-- Byte by byte: the words that have ended, and the one that has been begun; nothing if it is no line of words. -/
def wstep (st : Option (List (List UInt8) × List UInt8)) (b : UInt8) : Option (List (List UInt8) × List UInt8) :=
  match st with
  | none => none
  | some (d, c) => if sign b = true then some (d, c ++ [b]) else if b = 32 ∧ c ≠ [] then some (d ++ [c], []) else none
def wrun (s : List UInt8) : Option (List (List UInt8) × List UInt8) := s.foldl wstep (some ([], []))
/-- Words' answer. -/
def wordsR (s : List UInt8) : List (List UInt8) × Int :=
  match wrun s with
  | none => ([], 2)
  | some (d, c) => if c ≠ [] ∧ d.length ≤ 7 then (d ++ [c], 0) else ([], 2)

theorem wrun_snoc (s : List UInt8) (b : UInt8) : wrun (s ++ [b]) = wstep (wrun s) b := by simp [wrun, List.foldl_append]
theorem wrun_take (s : List UInt8) (k : Nat) (hk : k < s.length) : wrun (s.take (k + 1)) = wstep (wrun (s.take k)) s[k] := by
  rw [List.take_succ_eq_append_getElem hk, wrun_snoc]
theorem wstep_sign {d : List (List UInt8)} {c : List UInt8} {b : UInt8} (h : sign b = true) : wstep (some (d, c)) b = some (d, c ++ [b]) := by simp [wstep, h]
theorem wstep_space {d : List (List UInt8)} {c : List UInt8} (h : c ≠ []) : wstep (some (d, c)) 32 = some (d ++ [c], []) := by
  have : sign 32 = false := by decide
  simp [wstep, this, h]
theorem wstep_no {d : List (List UInt8)} {c : List UInt8} {b : UInt8} (h : sign b = false) (h' : ¬ (b = 32 ∧ c ≠ [])) : wstep (some (d, c)) b = none := by
  simp [wstep, h, h']
theorem foldl_none (s : List UInt8) : s.foldl wstep none = none := by
  induction s with
  | nil => rfl
  | cons b s ih => exact ih
theorem wrun_split (s : List UInt8) (k : Nat) : wrun s = (s.drop k).foldl wstep (wrun (s.take k)) := by
  show s.foldl wstep (some ([], [])) = _
  conv => lhs; rw [← List.take_append_drop k s]
  rw [List.foldl_append]
  rfl
theorem wrun_none (s : List UInt8) (k : Nat) (h : wrun (s.take k) = none) : wrun s = none := by rw [wrun_split s k, h, foldl_none]
theorem wordsR_none (s : List UInt8) (k : Nat) (h : wrun (s.take k) = none) : wordsR s = ([], 2) := by rw [wordsR, wrun_none s k h]
theorem wordsR_some (s : List UInt8) (d : List (List UInt8)) (c : List UInt8) (h : wrun s = some (d, c)) : wordsR s = if c ≠ [] ∧ d.length ≤ 7 then (d ++ [c], 0) else ([], 2) := by
  rw [wordsR, h]
/-- The words never get fewer. -/
theorem foldl_more (s : List UInt8) : ∀ (d : List (List UInt8)) (c : List UInt8), ∀ d' c', s.foldl wstep (some (d, c)) = some (d', c') → d.length ≤ d'.length := by
  induction s with
  | nil => intro d c d' c' h; simp at h; rw [h.1]; exact Nat.le_refl _
  | cons b s ih =>
    intro d c d' c' h
    rw [List.foldl_cons] at h
    by_cases hb : sign b = true
    · rw [wstep_sign hb] at h; exact ih _ _ _ _ h
    · have hb' : sign b = false := by simpa using hb
      by_cases hc : b = 32 ∧ c ≠ []
      · obtain ⟨rfl, hc⟩ := hc
        rw [wstep_space hc] at h
        have := ih _ _ _ _ h
        rw [List.length_append] at this
        omega
      · rw [wstep_no hb' hc, foldl_none] at h; cases h
theorem wordsR_many (s : List UInt8) (k : Nat) (d : List (List UInt8)) (c : List UInt8) (h : wrun (s.take k) = some (d, c)) (hd : 8 ≤ d.length) : wordsR s = ([], 2) := by
  cases hw : wrun s with
  | none => rw [wordsR, hw]
  | some r =>
    obtain ⟨d', c'⟩ := r
    have hs := wrun_split s k
    rw [hw, h] at hs
    have := foldl_more _ _ _ _ _ hs.symm
    rw [wordsR_some s d' c' hw, if_neg (by omega)]

/-- Words with one byte 32 between. -/
def spaced (l : List (List UInt8)) : List UInt8 := l.dropLast.flatMap (· ++ [32]) ++ l.getLastD []
theorem spaced_nil : spaced [] = [] := rfl
theorem spaced_snoc (l : List (List UInt8)) (x : List UInt8) : spaced (l ++ [x]) = l.flatMap (· ++ [32]) ++ x := by simp [spaced, List.getLastD_eq_getLast?]
theorem spaced_one (x : List UInt8) : spaced [x] = x := by simp [spaced]
theorem spaced_more (l : List (List UInt8)) (x : List UInt8) (h : l ≠ []) : spaced (l ++ [x]) = spaced l ++ ([32] ++ x) := by
  induction l using snocRec with
  | nil => exact absurd rfl h
  | snoc l y _ => rw [spaced_snoc, spaced_snoc]; simp

theorem spaced_le (a b : List (List UInt8)) : (spaced a).length ≤ (spaced (a ++ b)).length := by
  induction b using snocRec with
  | nil => simp
  | snoc b x ih =>
    rw [← List.append_assoc]
    by_cases h : a ++ b = []
    · rw [h] at ih
      exact Nat.le_trans ih (by simp [spaced_nil])
    · rw [spaced_more _ _ h, List.length_append]
      omega
theorem spaced_take (l : List (List UInt8)) (k : Nat) (hk : k < l.length) : spaced (l.take (k + 1)) = if k = 0 then l[k] else spaced (l.take k) ++ ([32] ++ l[k]) := by
  rw [List.take_succ_eq_append_getElem hk]
  by_cases h : k = 0
  · subst h
    simp [spaced_one]
  · rw [if_neg h, spaced_more _ _ (fun e => (List.take_eq_nil_iff.1 e).elim (fun e => h e) (fun e => by rw [e] at hk; simp at hk))]
theorem spaced_take_le (l : List (List UInt8)) (k : Nat) : (spaced (l.take k)).length ≤ (spaced l).length := by
  have := spaced_le (l.take k) (l.drop k)
  rwa [List.take_append_drop] at this

theorem wrun_is (s : List UInt8) : ∀ d c, wrun s = some (d, c) → s = d.flatMap (· ++ [32]) ++ c ∧ (∀ x ∈ d, x ≠ [] ∧ ∀ b ∈ x, sign b = true) ∧ ∀ b ∈ c, sign b = true := by
  induction s using snocRec with
  | nil =>
    intro d c h
    simp [wrun] at h
    obtain ⟨rfl, rfl⟩ := h
    simp
  | snoc s b ih =>
    intro d c h
    rw [wrun_snoc] at h
    cases hw : wrun s with
    | none => rw [hw] at h; simp [wstep] at h
    | some r =>
      obtain ⟨d', c'⟩ := r
      obtain ⟨i1, i2, i3⟩ := ih d' c' hw
      rw [hw] at h
      by_cases hb : sign b = true
      · rw [wstep_sign hb] at h
        simp only [Option.some.injEq, Prod.mk.injEq] at h
        obtain ⟨rfl, rfl⟩ := h
        refine ⟨by rw [i1]; simp, i2, fun x hx => ?_⟩
        rcases List.mem_append.1 hx with hx | hx
        · exact i3 x hx
        · rw [List.mem_singleton.1 hx]; exact hb
      · have hb' : sign b = false := by simpa using hb
        by_cases hc : b = 32 ∧ c' ≠ []
        · obtain ⟨rfl, hc⟩ := hc
          rw [wstep_space hc] at h
          simp only [Option.some.injEq, Prod.mk.injEq] at h
          obtain ⟨rfl, rfl⟩ := h
          refine ⟨by rw [i1]; simp, fun x hx => ?_, by simp⟩
          rcases List.mem_append.1 hx with hx | hx
          · exact i2 x hx
          · rw [List.mem_singleton.1 hx]; exact ⟨hc, i3⟩
        · rw [wstep_no hb' hc] at h; cases h

theorem wordsR_err (s : List UInt8) (h : (wordsR s).2 ≠ 0) : wordsR s = ([], 2) := by
  cases hw : wrun s with
  | none => rw [wordsR, hw]
  | some r =>
    obtain ⟨d, c⟩ := r
    rw [wordsR_some s d c hw] at h ⊢
    split
    · rename_i hc; rw [if_pos hc] at h; exact absurd rfl h
    · rfl
theorem wordsR_ok (s : List UInt8) (h : (wordsR s).2 = 0) : ∃ d c, wrun s = some (d, c) ∧ c ≠ [] ∧ d.length ≤ 7 ∧ wordsR s = (d ++ [c], 0) := by
  cases hw : wrun s with
  | none => rw [wordsR, hw] at h; exact absurd h (by decide)
  | some r =>
    obtain ⟨d, c⟩ := r
    rw [wordsR_some s d c hw] at h
    by_cases hc : c ≠ [] ∧ d.length ≤ 7
    · exact ⟨d, c, rfl, hc.1, hc.2, by rw [wordsR_some s d c hw, if_pos hc]⟩
    · rw [if_neg hc] at h; exact absurd h (by decide)
theorem wordsR_len (s : List UInt8) : (wordsR s).1.length ≤ 8 := by
  by_cases h : (wordsR s).2 = 0
  · obtain ⟨d, c, _, _, hd, e⟩ := wordsR_ok s h
    rw [e]; simp; omega
  · rw [wordsR_err s h]; simp
/-- What Words tells is a line's words. -/
theorem wordsR_is (s : List UInt8) (h : (wordsR s).2 = 0) : spaced (wordsR s).1 = s ∧ 1 ≤ (wordsR s).1.length ∧ ∀ x ∈ (wordsR s).1, x ≠ [] ∧ ∀ b ∈ x, sign b = true := by
  obtain ⟨d, c, hw, hc, _, e⟩ := wordsR_ok s h
  obtain ⟨i1, i2, i3⟩ := wrun_is s d c hw
  rw [e]
  refine ⟨by rw [spaced_snoc, ← i1], by simp, fun x hx => ?_⟩
  rcases List.mem_append.1 hx with hx | hx
  · exact i2 x hx
  · rw [List.mem_singleton.1 hx]; exact ⟨hc, i3⟩
end Go.Proofs.Ytkeaibngofbkhaa.Ln
