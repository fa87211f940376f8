/-
  Several texts in one, each with its own first words: LnPlain, NumPlain, Base, Mem, Frame.
  Conditions: as each says.
-/
import Derived.WalkKit
import Derived.WalkSpells
import Derived.WalkLawsBesides
import Derived.BigQuiet
import Derived.Deep.QuietTactic
import Derived.RegionTactic
import Derived.Lib.Hide
import Derived.Lib.Strings
import Derived.Outline
import Derived.Deep.Light
import Derived.Below
import Derived.Laws.OwnMore
import Derived.Maps.AppendAt
import Derived.Deep.AppendLies
import Derived.OwnWalk
import Derived.SliceStrings
import Derived.Laws.BytesArg
import Derived.Lib.AppendStr
import Derived.ProofKit
import Derived.OpenShut
import Derived.ShutString
import Derived.Carry
import Derived.ChangeSame
/-
  Plain facts on texts of lines and on lines of words (no Go in it): the lines of a text, the text of lines, that each is the other's inverse, the words of a line.
  Conditions: none beyond those that each theorem states.
-/
set_option maxRecDepth 4000
namespace Go.Proofs.YtfjamdpgbbnmcaaGreatDoor.Ln

theorem snocRec {α : Type} {motive : List α → Prop} (l : List α) (nil : motive []) (snoc : ∀ l c, motive l → motive (l ++ [c])) : motive l := by
  rw [← List.reverse_reverse l]
  generalize l.reverse = r
  induction r with
  | nil => exact nil
  | cons c r ih => rw [List.reverse_cons]; exact snoc _ c ih

/-- Bytes as a text. -/
def bs (l : List UInt8) : ByteArray := ⟨l.toArray⟩
theorem bs_data (l : List UInt8) : (bs l).data.toList = l := by simp [bs]
theorem bs_size (l : List UInt8) : (bs l).size = l.length := by simp [bs, ByteArray.size]
theorem bs_of (s : ByteArray) : bs s.data.toList = s := by cases s; simp [bs]
theorem bs_inj {a b : List UInt8} (h : bs a = bs b) : a = b := by rw [← bs_data a, h, bs_data]
theorem bs_get (l : List UInt8) (k : Nat) (h : k < (bs l).size) (hl : k < l.length) : (bs l)[k]'h = l[k]'hl := by
  show (l.toArray)[k] = _
  simp
theorem data_len (s : ByteArray) : s.data.toList.length = s.size := by simp

/-- Lines as a text. -/
def joinS (l : List (List UInt8)) : List UInt8 := l.flatMap (· ++ [10])
theorem joinS_nil : joinS [] = [] := rfl
theorem joinS_append (a b : List (List UInt8)) : joinS (a ++ b) = joinS a ++ joinS b := by simp [joinS]
theorem joinS_one (x : List UInt8) : joinS [x] = x ++ [10] := by simp [joinS]
theorem joinS_snoc (a : List (List UInt8)) (x : List UInt8) : joinS (a ++ [x]) = joinS a ++ (x ++ [10]) := by rw [joinS_append, joinS_one]
theorem joinS_cons (x : List UInt8) (a : List (List UInt8)) : joinS (x :: a) = x ++ 10 :: joinS a := by simp [joinS]

/-- Byte by byte: the lines that have ended, and what has been begun. -/
def step (st : List (List UInt8) × List UInt8) (b : UInt8) : List (List UInt8) × List UInt8 := if b = 10 then (st.1 ++ [st.2], []) else (st.1, st.2 ++ [b])
def run (s : List UInt8) : List (List UInt8) × List UInt8 := s.foldl step ([], [])
def full (s : List UInt8) : List (List UInt8) := (run s).1
def rest (s : List UInt8) : List UInt8 := (run s).2

theorem run_nil : run [] = ([], []) := rfl
theorem run_snoc (s : List UInt8) (b : UInt8) : run (s ++ [b]) = step (run s) b := by simp [run, List.foldl_append]
theorem full_nl (s : List UInt8) : full (s ++ [10]) = full s ++ [rest s] := by simp [full, rest, run_snoc, step]
theorem rest_nl (s : List UInt8) : rest (s ++ [10]) = [] := by simp [rest, run_snoc, step]
theorem full_other (s : List UInt8) (b : UInt8) (h : b ≠ 10) : full (s ++ [b]) = full s := by simp [full, run_snoc, step, h]
theorem rest_other (s : List UInt8) (b : UInt8) (h : b ≠ 10) : rest (s ++ [b]) = rest s ++ [b] := by simp [rest, run_snoc, step, h]

theorem run_join (s : List UInt8) : joinS (full s) ++ rest s = s := by
  induction s using snocRec with
  | nil => rfl
  | snoc s b ih =>
    by_cases h : b = 10
    · subst h
      rw [full_nl, rest_nl, joinS_snoc, List.append_nil, ← List.append_assoc, ih]
    · rw [full_other s b h, rest_other s b h, ← List.append_assoc, ih]

theorem full_no (s : List UInt8) : (∀ x ∈ full s, (10 : UInt8) ∉ x) ∧ (10 : UInt8) ∉ rest s := by
  induction s using snocRec with
  | nil => exact ⟨by simp [full, run], by simp [rest, run]⟩
  | snoc s b ih =>
    by_cases h : b = 10
    · subst h
      rw [full_nl, rest_nl]
      refine ⟨fun x hx => ?_, by simp⟩
      rcases List.mem_append.1 hx with hx | hx
      · exact ih.1 x hx
      · rw [List.mem_singleton.1 hx]; exact ih.2
    · rw [full_other s b h, rest_other s b h]
      refine ⟨ih.1, fun hx => ?_⟩
      rcases List.mem_append.1 hx with hx | hx
      · exact ih.2 hx
      · exact h (List.mem_singleton.1 hx).symm

theorem full_len (s : List UInt8) : (full s).length = s.count 10 := by
  induction s using snocRec with
  | nil => rfl
  | snoc s b ih =>
    by_cases h : b = 10
    · subst h
      rw [full_nl, List.length_append, ih, List.count_append]; simp
    · rw [full_other s b h, ih, List.count_append]
      have : List.count (10 : UInt8) [b] = 0 := by simp [h]
      omega

theorem rest_len (s : List UInt8) : (rest s).length ≤ s.length := by
  have := congrArg List.length (run_join s)
  rw [List.length_append] at this
  omega

/-- Has a text an open line at its end? -/
def shut (s : List UInt8) : Bool := s.getLast?.all (· == 10)
theorem shut_nil : shut [] = true := rfl
theorem shut_snoc (s : List UInt8) (b : UInt8) : shut (s ++ [b]) = (b == 10) := by simp [shut]
theorem shut_iff (s : List UInt8) : shut s = true ↔ rest s = [] := by
  induction s using snocRec with
  | nil => simp [shut_nil, rest, run]
  | snoc s b _ =>
    rw [shut_snoc]
    by_cases h : b = 10
    · subst h; simp [rest_nl]
    · rw [rest_other s b h]; simp [h]

theorem foldl_step (s : List UInt8) : ∀ (d : List (List UInt8)) (c : List UInt8), s.foldl step (d, c) = (d ++ (s.foldl step ([], c)).1, (s.foldl step ([], c)).2) := by
  induction s with
  | nil => intro d c; simp
  | cons b s ih =>
    intro d c
    by_cases h : b = 10
    · simp only [List.foldl_cons, step, h, if_pos]
      rw [ih (d ++ [c]) [], ih ([] ++ [c]) []]
      simp
    · simp only [List.foldl_cons, step, h, if_neg, not_false_eq_true]
      exact ih d _

theorem run_append (a b : List UInt8) (h : rest a = []) : run (a ++ b) = (full a ++ full b, rest b) := by
  have e : run a = (full a, []) := by rw [← h]; rfl
  show (a ++ b).foldl step ([], []) = _
  rw [List.foldl_append]
  show b.foldl step (run a) = _
  rw [e, foldl_step]
  rfl
theorem full_append (a b : List UInt8) (h : rest a = []) : full (a ++ b) = full a ++ full b := by rw [full, run_append a b h]
theorem rest_append (a b : List UInt8) (h : rest a = []) : rest (a ++ b) = rest b := by rw [rest, run_append a b h]

theorem run_plain (a : List UInt8) (h : (10 : UInt8) ∉ a) : full a = [] ∧ rest a = a := by
  induction a using snocRec with
  | nil => exact ⟨rfl, rfl⟩
  | snoc s b ih =>
    have hs := ih (fun hx => h (List.mem_append.2 (.inl hx)))
    have hb : b ≠ 10 := fun e => h (by simp [e])
    rw [full_other s b hb, rest_other s b hb, hs.1, hs.2]
    exact ⟨rfl, rfl⟩
theorem run_line (a r : List UInt8) (h : (10 : UInt8) ∉ a) : full (a ++ 10 :: r) = a :: full r ∧ rest (a ++ 10 :: r) = rest r := by
  have hp := run_plain a h
  have e : a ++ 10 :: r = (a ++ [10]) ++ r := by simp
  rw [e, full_append _ _ (rest_nl a), rest_append _ _ (rest_nl a), full_nl, hp.1, hp.2]
  exact ⟨rfl, rfl⟩
theorem run_joinS (l : List (List UInt8)) (h : ∀ x ∈ l, (10 : UInt8) ∉ x) : full (joinS l) = l ∧ rest (joinS l) = [] := by
  induction l with
  | nil => exact ⟨rfl, rfl⟩
  | cons x l ih =>
    have hl := ih (fun y hy => h y (List.mem_cons_of_mem _ hy))
    have hx := run_line x (joinS l) (h x List.mem_cons_self)
    rw [joinS_cons, hx.1, hx.2, hl.1, hl.2]
    exact ⟨rfl, rfl⟩

/-- Split's answer. -/
def splitR (s : List UInt8) : List (List UInt8) × Int := if shut s = true then (if s.count 10 ≤ 400 then (full s, 0) else ([], 4)) else ([], 2)
/-- Has some line a newline? -/
def anyNl (l : List (List UInt8)) : Bool := l.any (·.contains 10)
/-- Join's answer. -/
def joinR (l : List (List UInt8)) : List UInt8 × Int := if l.length ≤ 400 then (if anyNl l = true then ([], 1) else (joinS l, 0)) else ([], 4)

theorem splitR_form (s : List UInt8) (h : shut s = false) : splitR s = ([], 2) := by rw [splitR, if_neg (by simp [h])]
theorem splitR_many (s : List UInt8) (h : shut s = true) (h' : 400 < s.count 10) : splitR s = ([], 4) := by rw [splitR, if_pos h, if_neg (by omega)]
theorem splitR_ok (s : List UInt8) (h : shut s = true) (h' : s.count 10 ≤ 400) : splitR s = (full s, 0) := by rw [splitR, if_pos h, if_pos h']
theorem splitR_len (s : List UInt8) : (splitR s).1.length ≤ 400 := by
  unfold splitR
  split
  · split
    · rw [full_len]; assumption
    · simp
  · simp
theorem joinR_many (l : List (List UInt8)) (h : 400 < l.length) : joinR l = ([], 4) := by rw [joinR, if_neg (by omega)]
theorem joinR_arg (l : List (List UInt8)) (h : l.length ≤ 400) (h' : anyNl l = true) : joinR l = ([], 1) := by rw [joinR, if_pos h, if_pos h']
theorem joinR_ok (l : List (List UInt8)) (h : l.length ≤ 400) (h' : anyNl l = false) : joinR l = (joinS l, 0) := by rw [joinR, if_pos h, if_neg (by simp [h'])]
theorem anyNl_take (l : List (List UInt8)) (k : Nat) (hk : k < l.length) : anyNl (l.take (k + 1)) = (anyNl (l.take k) || l[k].contains 10) := by
  unfold anyNl; rw [List.take_succ_eq_append_getElem hk, List.any_append, List.any_cons, List.any_nil, Bool.or_false]
theorem anyNl_of (l : List (List UInt8)) (k : Nat) (hk : k < l.length) (h : l[k].contains 10 = true) : anyNl l = true := by
  rw [anyNl, List.any_eq_true]; exact ⟨l[k], List.getElem_mem hk, h⟩
theorem anyNl_iff (l : List (List UInt8)) : anyNl l = false ↔ ∀ x ∈ l, (10 : UInt8) ∉ x := by
  simp [anyNl]

/-- What is joined is split. -/
theorem back_join (l : List (List UInt8)) (h : (joinR l).2 = 0) : joinR l = (joinS l, 0) ∧ splitR (joinS l) = (l, 0) := by
  unfold joinR at h ⊢
  split at h
  · rename_i h1
    split at h
    · exact absurd h (by decide)
    · rename_i h2
      rw [if_pos h1, if_neg h2]
      refine ⟨rfl, ?_⟩
      have hn := (anyNl_iff l).1 (by simpa using h2)
      have hr := run_joinS l hn
      rw [splitR_ok _ ((shut_iff _).2 hr.2) (by rw [← full_len, hr.1]; exact h1), hr.1]
  · exact absurd h (by decide)
theorem joinR_err (l : List (List UInt8)) (h : (joinR l).2 ≠ 0) : (joinR l).1 = [] := by
  unfold joinR at h ⊢
  split
  · split
    · rfl
    · rename_i h1 h2; rw [if_pos h1, if_neg h2] at h; exact absurd rfl h
  · rfl
theorem splitR_err (s : List UInt8) (h : (splitR s).2 ≠ 0) : (splitR s).1 = [] := by
  unfold splitR at h ⊢
  split
  · split
    · rename_i h1 h2; rw [if_pos h1, if_pos h2] at h; exact absurd rfl h
    · rfl
  · rfl
theorem splitR_yes (s : List UInt8) (h : (splitR s).2 = 0) : shut s = true ∧ s.count 10 ≤ 400 ∧ splitR s = (full s, 0) := by
  unfold splitR at h
  split at h
  · split at h
    · exact ⟨by assumption, by assumption, splitR_ok s (by assumption) (by assumption)⟩
    · exact absurd h (by decide)
  · exact absurd h (by decide)
/-- What is split is joined. -/
theorem back_split (s : List UInt8) (h : (splitR s).2 = 0) : joinR (splitR s).1 = (s, 0) := by
  obtain ⟨h1, h2, e⟩ := splitR_yes s h
  rw [e]
  have hj := run_join s
  rw [(shut_iff s).1 h1, List.append_nil] at hj
  show joinR (full s) = _
  rw [joinR_ok _ (by rw [full_len]; exact h2) ((anyNl_iff _).2 (full_no s).1), hj]
/-- The lines of two texts. -/
theorem split_both (s t : List UInt8) (hs : (splitR s).2 = 0) (ht : (splitR t).2 = 0) :
    splitR (s ++ t) = if 400 < (splitR s).1.length + (splitR t).1.length then ([], 4) else ((splitR s).1 ++ (splitR t).1, 0) := by
  obtain ⟨h1, h2, e1⟩ := splitR_yes s hs
  obtain ⟨h3, h4, e2⟩ := splitR_yes t ht
  rw [e1, e2]
  have hr := (shut_iff s).1 h1
  have hsh : shut (s ++ t) = true := (shut_iff _).2 (by rw [rest_append s t hr]; exact (shut_iff t).1 h3)
  show splitR (s ++ t) = if 400 < (full s).length + (full t).length then ([], 4) else (full s ++ full t, 0)
  rw [full_len, full_len]
  by_cases h : 400 < s.count 10 + t.count 10
  · rw [if_pos h, splitR_many _ hsh (by rw [List.count_append]; exact h)]
  · rw [if_neg h, splitR_ok _ hsh (by rw [List.count_append]; omega), full_append s t hr]

/-- Are lines few, and short? -/
def short (l : List (List UInt8)) : Bool := decide (l.length ≤ 500) && l.all fun x => decide (x.length ≤ 200)
theorem short_many (l : List (List UInt8)) (h : 500 < l.length) : short l = false := by simp [short]; omega
theorem short_long (l : List (List UInt8)) (k : Nat) (hk : k < l.length) (h : 200 < l[k].length) : short l = false := by
  rw [Bool.eq_false_iff]
  intro hs
  simp only [short, Bool.and_eq_true, List.all_eq_true, decide_eq_true_eq] at hs
  have := hs.2 l[k] (List.getElem_mem hk)
  omega
theorem short_yes (l : List (List UInt8)) (h : l.length ≤ 500) (ha : ∀ k (hk : k < l.length), l[k].length ≤ 200) : short l = true := by
  simp only [short, Bool.and_eq_true, List.all_eq_true, decide_eq_true_eq]
  refine ⟨h, fun x hx => ?_⟩
  obtain ⟨k, hk, rfl⟩ := List.getElem_of_mem hx
  exact ha k hk
theorem short_is (l : List (List UInt8)) (h : short l = true) : l.length ≤ 500 ∧ ∀ x ∈ l, x.length ≤ 200 := by
  simpa [short] using h
theorem joinS_len (l : List (List UInt8)) (n : Nat) (h : ∀ x ∈ l, x.length ≤ n) : (joinS l).length ≤ l.length * (n + 1) := by
  induction l with
  | nil => simp [joinS]
  | cons x l ih =>
    have h1 := ih (fun y hy => h y (List.mem_cons_of_mem _ hy))
    have h2 := h x List.mem_cons_self
    rw [joinS_cons, List.length_append, List.length_cons, List.length_cons, Nat.add_mul]
    omega
theorem short_len (l : List (List UInt8)) (h : short l = true) : (joinS l).length ≤ 100500 := by
  have hs := short_is l h
  have := joinS_len l 200 hs.2
  omega

/-- Is a byte one of a word? -/
def sign (c : UInt8) : Bool := decide (33 ≤ c.toNat) && decide (c.toNat ≤ 126)
theorem sign_iff (c : UInt8) : sign c = true ↔ 33 ≤ c.toNat ∧ c.toNat ≤ 126 := by simp [sign]
theorem sign_not (c : UInt8) : sign c = false ↔ c.toNat < 33 ∨ 126 < c.toNat := by rw [← Bool.not_eq_true, sign_iff]; omega

/-- Byte by byte: the words that have ended, and the one that has been begun; nothing if it is no line of words. -/
def wstep (st : Option (List (List UInt8) × List UInt8)) (b : UInt8) : Option (List (List UInt8) × List UInt8) :=
  match st with
  | none => none
  | some (d, c) => if sign b = true then some (d, c ++ [b]) else if b = 32 ∧ c ≠ [] then some (d ++ [c], []) else none
def wrun (s : List UInt8) : Option (List (List UInt8) × List UInt8) := s.foldl wstep (some ([], []))
/-- Words' answer. -/
def wordsR (s : List UInt8) : List (List UInt8) × Int :=
  match wrun s with
  | none => ([], 2)
  | some (d, c) => if c ≠ [] ∧ d.length ≤ 7 then (d ++ [c], 0) else ([], 2)

theorem wrun_snoc (s : List UInt8) (b : UInt8) : wrun (s ++ [b]) = wstep (wrun s) b := by simp [wrun, List.foldl_append]
theorem wrun_take (s : List UInt8) (k : Nat) (hk : k < s.length) : wrun (s.take (k + 1)) = wstep (wrun (s.take k)) s[k] := by
  rw [List.take_succ_eq_append_getElem hk, wrun_snoc]
theorem wstep_sign {d : List (List UInt8)} {c : List UInt8} {b : UInt8} (h : sign b = true) : wstep (some (d, c)) b = some (d, c ++ [b]) := by simp [wstep, h]
theorem wstep_space {d : List (List UInt8)} {c : List UInt8} (h : c ≠ []) : wstep (some (d, c)) 32 = some (d ++ [c], []) := by
  have : sign 32 = false := by decide
  simp [wstep, this, h]
theorem wstep_no {d : List (List UInt8)} {c : List UInt8} {b : UInt8} (h : sign b = false) (h' : ¬ (b = 32 ∧ c ≠ [])) : wstep (some (d, c)) b = none := by
  simp [wstep, h, h']
theorem foldl_none (s : List UInt8) : s.foldl wstep none = none := by
  induction s with
  | nil => rfl
  | cons b s ih => exact ih
theorem wrun_split (s : List UInt8) (k : Nat) : wrun s = (s.drop k).foldl wstep (wrun (s.take k)) := by
  show s.foldl wstep (some ([], [])) = _
  conv => lhs; rw [← List.take_append_drop k s]
  rw [List.foldl_append]
  rfl
theorem wrun_none (s : List UInt8) (k : Nat) (h : wrun (s.take k) = none) : wrun s = none := by rw [wrun_split s k, h, foldl_none]
theorem wordsR_none (s : List UInt8) (k : Nat) (h : wrun (s.take k) = none) : wordsR s = ([], 2) := by rw [wordsR, wrun_none s k h]
theorem wordsR_some (s : List UInt8) (d : List (List UInt8)) (c : List UInt8) (h : wrun s = some (d, c)) : wordsR s = if c ≠ [] ∧ d.length ≤ 7 then (d ++ [c], 0) else ([], 2) := by
  rw [wordsR, h]
/-- The words never get fewer. -/
theorem foldl_more (s : List UInt8) : ∀ (d : List (List UInt8)) (c : List UInt8), ∀ d' c', s.foldl wstep (some (d, c)) = some (d', c') → d.length ≤ d'.length := by
  induction s with
  | nil => intro d c d' c' h; simp at h; rw [h.1]; exact Nat.le_refl _
  | cons b s ih =>
    intro d c d' c' h
    rw [List.foldl_cons] at h
    by_cases hb : sign b = true
    · rw [wstep_sign hb] at h; exact ih _ _ _ _ h
    · have hb' : sign b = false := by simpa using hb
      by_cases hc : b = 32 ∧ c ≠ []
      · obtain ⟨rfl, hc⟩ := hc
        rw [wstep_space hc] at h
        have := ih _ _ _ _ h
        rw [List.length_append] at this
        omega
      · rw [wstep_no hb' hc, foldl_none] at h; cases h
theorem wordsR_many (s : List UInt8) (k : Nat) (d : List (List UInt8)) (c : List UInt8) (h : wrun (s.take k) = some (d, c)) (hd : 8 ≤ d.length) : wordsR s = ([], 2) := by
  cases hw : wrun s with
  | none => rw [wordsR, hw]
  | some r =>
    obtain ⟨d', c'⟩ := r
    have hs := wrun_split s k
    rw [hw, h] at hs
    have := foldl_more _ _ _ _ _ hs.symm
    rw [wordsR_some s d' c' hw, if_neg (by omega)]

/-- Words with one byte 32 between. -/
def spaced (l : List (List UInt8)) : List UInt8 := l.dropLast.flatMap (· ++ [32]) ++ l.getLastD []
theorem spaced_nil : spaced [] = [] := rfl
theorem spaced_snoc (l : List (List UInt8)) (x : List UInt8) : spaced (l ++ [x]) = l.flatMap (· ++ [32]) ++ x := by simp [spaced, List.getLastD_eq_getLast?]
theorem spaced_one (x : List UInt8) : spaced [x] = x := by simp [spaced]
theorem spaced_more (l : List (List UInt8)) (x : List UInt8) (h : l ≠ []) : spaced (l ++ [x]) = spaced l ++ ([32] ++ x) := by
  induction l using snocRec with
  | nil => exact absurd rfl h
  | snoc l y _ => rw [spaced_snoc, spaced_snoc]; simp

theorem spaced_le (a b : List (List UInt8)) : (spaced a).length ≤ (spaced (a ++ b)).length := by
  induction b using snocRec with
  | nil => simp
  | snoc b x ih =>
    rw [← List.append_assoc]
    by_cases h : a ++ b = []
    · rw [h] at ih
      exact Nat.le_trans ih (by simp [spaced_nil])
    · rw [spaced_more _ _ h, List.length_append]
      omega
theorem spaced_take (l : List (List UInt8)) (k : Nat) (hk : k < l.length) : spaced (l.take (k + 1)) = if k = 0 then l[k] else spaced (l.take k) ++ ([32] ++ l[k]) := by
  rw [List.take_succ_eq_append_getElem hk]
  by_cases h : k = 0
  · subst h
    simp [spaced_one]
  · rw [if_neg h, spaced_more _ _ (fun e => (List.take_eq_nil_iff.1 e).elim (fun e => h e) (fun e => by rw [e] at hk; simp at hk))]
theorem spaced_take_le (l : List (List UInt8)) (k : Nat) : (spaced (l.take k)).length ≤ (spaced l).length := by
  have := spaced_le (l.take k) (l.drop k)
  rwa [List.take_append_drop] at this

theorem wrun_is (s : List UInt8) : ∀ d c, wrun s = some (d, c) → s = d.flatMap (· ++ [32]) ++ c ∧ (∀ x ∈ d, x ≠ [] ∧ ∀ b ∈ x, sign b = true) ∧ ∀ b ∈ c, sign b = true := by
  induction s using snocRec with
  | nil =>
    intro d c h
    simp [wrun] at h
    obtain ⟨rfl, rfl⟩ := h
    simp
  | snoc s b ih =>
    intro d c h
    rw [wrun_snoc] at h
    cases hw : wrun s with
    | none => rw [hw] at h; simp [wstep] at h
    | some r =>
      obtain ⟨d', c'⟩ := r
      obtain ⟨i1, i2, i3⟩ := ih d' c' hw
      rw [hw] at h
      by_cases hb : sign b = true
      · rw [wstep_sign hb] at h
        simp only [Option.some.injEq, Prod.mk.injEq] at h
        obtain ⟨rfl, rfl⟩ := h
        refine ⟨by rw [i1]; simp, i2, fun x hx => ?_⟩
        rcases List.mem_append.1 hx with hx | hx
        · exact i3 x hx
        · rw [List.mem_singleton.1 hx]; exact hb
      · have hb' : sign b = false := by simpa using hb
        by_cases hc : b = 32 ∧ c' ≠ []
        · obtain ⟨rfl, hc⟩ := hc
          rw [wstep_space hc] at h
          simp only [Option.some.injEq, Prod.mk.injEq] at h
          obtain ⟨rfl, rfl⟩ := h
          refine ⟨by rw [i1]; simp, fun x hx => ?_, by simp⟩
          rcases List.mem_append.1 hx with hx | hx
          · exact i2 x hx
          · rw [List.mem_singleton.1 hx]; exact ⟨hc, i3⟩
        · rw [wstep_no hb' hc] at h; cases h

theorem wordsR_err (s : List UInt8) (h : (wordsR s).2 ≠ 0) : wordsR s = ([], 2) := by
  cases hw : wrun s with
  | none => rw [wordsR, hw]
  | some r =>
    obtain ⟨d, c⟩ := r
    rw [wordsR_some s d c hw] at h ⊢
    split
    · rename_i hc; rw [if_pos hc] at h; exact absurd rfl h
    · rfl
theorem wordsR_ok (s : List UInt8) (h : (wordsR s).2 = 0) : ∃ d c, wrun s = some (d, c) ∧ c ≠ [] ∧ d.length ≤ 7 ∧ wordsR s = (d ++ [c], 0) := by
  cases hw : wrun s with
  | none => rw [wordsR, hw] at h; exact absurd h (by decide)
  | some r =>
    obtain ⟨d, c⟩ := r
    rw [wordsR_some s d c hw] at h
    by_cases hc : c ≠ [] ∧ d.length ≤ 7
    · exact ⟨d, c, rfl, hc.1, hc.2, by rw [wordsR_some s d c hw, if_pos hc]⟩
    · rw [if_neg hc] at h; exact absurd h (by decide)
theorem wordsR_len (s : List UInt8) : (wordsR s).1.length ≤ 8 := by
  by_cases h : (wordsR s).2 = 0
  · obtain ⟨d, c, _, _, hd, e⟩ := wordsR_ok s h
    rw [e]; simp; omega
  · rw [wordsR_err s h]; simp
/-- What Words tells is a line's words. -/
theorem wordsR_is (s : List UInt8) (h : (wordsR s).2 = 0) : spaced (wordsR s).1 = s ∧ 1 ≤ (wordsR s).1.length ∧ ∀ x ∈ (wordsR s).1, x ≠ [] ∧ ∀ b ∈ x, sign b = true := by
  obtain ⟨d, c, hw, hc, _, e⟩ := wordsR_ok s h
  obtain ⟨i1, i2, i3⟩ := wrun_is s d c hw
  rw [e]
  refine ⟨by rw [spaced_snoc, ← i1], by simp, fun x hx => ?_⟩
  rcases List.mem_append.1 hx with hx | hx
  · exact i2 x hx
  · rw [List.mem_singleton.1 hx]; exact ⟨hc, i3⟩
end Go.Proofs.YtfjamdpgbbnmcaaGreatDoor.Ln
/-
  Plain facts on decimal digits (no Go in it): a number's digits, the value of digits, that each is the other's inverse, and that numbers rise as their digits do.
  Conditions: none beyond those that each theorem states.
-/
set_option maxRecDepth 4000
namespace Go.Proofs.YtfjamdpgbbnmcaaGreatDoor.Nm

/-- Is a byte a digit? -/
def isDig (c : UInt8) : Bool := decide (48 ≤ c.toNat) && decide (c.toNat ≤ 57)
/-- The digit of a number below ten. -/
def dig (k : Nat) : UInt8 := UInt8.ofNat (48 + k)
/-- A number's digits. -/
def digs (n : Nat) : List UInt8 := if n < 10 then [dig n] else digs (n / 10) ++ [dig (n % 10)]
  termination_by n
  decreasing_by omega
/-- What digits mean. -/
def val (l : List UInt8) : Nat := l.foldl (fun n c => n * 10 + (c.toNat - 48)) 0
/-- The digits ahead. -/
def lead (l : List UInt8) : List UInt8 := l.takeWhile isDig

theorem isDig_iff (c : UInt8) : isDig c = true ↔ 48 ≤ c.toNat ∧ c.toNat ≤ 57 := by simp [isDig]
theorem isDig_not (c : UInt8) : isDig c = false ↔ c.toNat < 48 ∨ 57 < c.toNat := by
  rw [← Bool.not_eq_true, isDig_iff]; omega

theorem dig_toNat (k : Nat) (h : k < 10) : (dig k).toNat = 48 + k := by
  unfold dig; rw [UInt8.toNat_ofNat']; omega
theorem isDig_dig (k : Nat) (h : k < 10) : isDig (dig k) = true := by
  rw [isDig_iff, dig_toNat k h]; omega
theorem dig_of (c : UInt8) (h : isDig c = true) : dig (c.toNat - 48) = c := by
  rw [isDig_iff] at h
  apply UInt8.toNat.inj
  rw [dig_toNat _ (by omega)]; omega

theorem digs_small (n : Nat) (h : n < 10) : digs n = [dig n] := by rw [digs, if_pos h]
theorem digs_big (n : Nat) (h : 10 ≤ n) : digs n = digs (n / 10) ++ [dig (n % 10)] := by rw [digs, if_neg (by omega)]

theorem val_nil : val [] = 0 := rfl
theorem val_snoc (l : List UInt8) (c : UInt8) : val (l ++ [c]) = val l * 10 + (c.toNat - 48) := by
  simp [val, List.foldl_append]
theorem val_one (c : UInt8) : val [c] = c.toNat - 48 := by simp [val]

theorem val_digs (n : Nat) : val (digs n) = n := by
  induction n using Nat.strongRecOn with
  | _ n ih =>
    by_cases h : n < 10
    · rw [digs_small n h, val_one, dig_toNat n h]; omega
    · rw [digs_big n (by omega), val_snoc, ih (n / 10) (by omega), dig_toNat _ (by omega)]; omega

theorem digs_all (n : Nat) : ∀ c ∈ digs n, isDig c = true := by
  induction n using Nat.strongRecOn with
  | _ n ih =>
    by_cases h : n < 10
    · rw [digs_small n h]; intro c hc; rw [List.mem_singleton.1 hc]; exact isDig_dig n h
    · rw [digs_big n (by omega)]
      intro c hc
      rcases List.mem_append.1 hc with hc | hc
      · exact ih (n / 10) (by omega) c hc
      · rw [List.mem_singleton.1 hc]; exact isDig_dig _ (by omega)

theorem digs_pos (n : Nat) : 0 < (digs n).length := by
  by_cases h : n < 10
  · rw [digs_small n h]; simp
  · rw [digs_big n (by omega)]; simp

theorem digs_ne (n : Nat) : digs n ≠ [] := by
  intro h; have := digs_pos n; rw [h] at this; simp at this

theorem digs_head (n : Nat) (hn : 0 < n) : ∃ c r, digs n = c :: r ∧ c ≠ 48 := by
  induction n using Nat.strongRecOn with
  | _ n ih =>
    by_cases h : n < 10
    · refine ⟨dig n, [], digs_small n h, fun e => ?_⟩
      have := congrArg UInt8.toNat e
      rw [dig_toNat n h] at this
      simp at this; omega
    · obtain ⟨c, r, e, hc⟩ := ih (n / 10) (by omega) (by omega)
      exact ⟨c, r ++ [dig (n % 10)], by rw [digs_big n (by omega), e]; rfl, hc⟩

theorem snocRec {motive : List UInt8 → Prop} (l : List UInt8) (nil : motive []) (snoc : ∀ l c, motive l → motive (l ++ [c])) : motive l := by
  rw [← List.reverse_reverse l]
  generalize l.reverse = r
  induction r with
  | nil => exact nil
  | cons c r ih => rw [List.reverse_cons]; exact snoc _ _ ih

/-- The value of a row of digits is below ten to the power of how many they are. -/
theorem val_lt (l : List UInt8) (h : ∀ c ∈ l, isDig c = true) : val l < 10 ^ l.length := by
  induction l using snocRec with
  | nil => simp [val]
  | snoc l c ih =>
    have h1 := ih (fun x hx => h x (by simp [hx]))
    have h2 := (isDig_iff c).1 (h c (by simp))
    rw [val_snoc, List.length_append, List.length_singleton, Nat.pow_succ]
    omega

/-- A row's value never falls as it gets longer. -/
theorem val_append_le (l m : List UInt8) : val l ≤ val (l ++ m) := by
  induction m using snocRec with
  | nil => simp
  | snoc m c ih => rw [← List.append_assoc, val_snoc]; omega

theorem foldl_val (l : List UInt8) (a : Nat) : l.foldl (fun n c => n * 10 + (c.toNat - 48)) a = a * 10 ^ l.length + val l := by
  induction l using snocRec generalizing a with
  | nil => simp [val]
  | snoc l c ih =>
    rw [List.foldl_append, ih, val_snoc]
    simp only [List.foldl_cons, List.foldl_nil, List.length_append, List.length_singleton, Nat.pow_succ]
    rw [Nat.add_mul, Nat.mul_assoc]; omega

theorem val_cons (c : UInt8) (l : List UInt8) : val (c :: l) = (c.toNat - 48) * 10 ^ l.length + val l := by
  have := foldl_val l (c.toNat - 48)
  rw [← this]; simp [val]

/-- Digits of which the first is no 0, or that are one alone, are those of their value. -/
theorem digs_val (l : List UInt8) (hne : l ≠ []) (h : ∀ c ∈ l, isDig c = true) (h0 : l.head? = some 48 → l.length = 1) : digs (val l) = l := by
  induction l using snocRec with
  | nil => exact absurd rfl hne
  | snoc l c ih =>
    have hc := h c (by simp)
    have hc' := (isDig_iff c).1 hc
    rcases l with _ | ⟨b, l⟩
    · rw [List.nil_append, val_one, digs_small _ (by omega), dig_of c hc]
    · have hb := (isDig_iff b).1 (h b (by simp))
      have hb0 : b ≠ 48 := fun e => by
        have := h0 (by simp [e])
        simp at this
      have hb1 : 49 ≤ b.toNat := by
        rcases Nat.lt_or_ge b.toNat 49 with hlt | hge
        · exact absurd (UInt8.toNat.inj (show b.toNat = (48 : UInt8).toNat by simp; omega)) hb0
        · exact hge
      have hv : 1 ≤ val (b :: l) := by
        rw [val_cons]
        have : 1 ≤ 10 ^ l.length := Nat.pos_of_ne_zero (by simp)
        have := Nat.mul_le_mul (show 1 ≤ b.toNat - 48 by omega) this
        omega
      have hi := ih (by simp) (fun x hx => h x (List.mem_append.2 (.inl hx))) (fun e => by
        simp at e; exact absurd e hb0)
      rw [val_snoc, digs_big _ (by omega)]
      have e1 : (val (b :: l) * 10 + (c.toNat - 48)) / 10 = val (b :: l) := by omega
      have e2 : (val (b :: l) * 10 + (c.toNat - 48)) % 10 = c.toNat - 48 := by omega
      rw [e1, e2, hi, dig_of c hc]

theorem digs_len (n k : Nat) (h : n < 10 ^ (k + 1)) : (digs n).length ≤ k + 1 := by
  induction k generalizing n with
  | zero => rw [digs_small n (by simpa using h)]; simp
  | succ k ih =>
    by_cases hs : n < 10
    · rw [digs_small n hs]; simp
    · rw [digs_big n (by omega), List.length_append, List.length_singleton]
      have := ih (n / 10) (by rw [Nat.pow_succ] at h; omega)
      omega

theorem digs_len10 (n : Nat) (h : n ≤ 2147483647) : (digs n).length ≤ 10 := digs_len n 9 (by omega)

theorem digs_ge (n : Nat) (hn : 0 < n) : 10 ^ ((digs n).length - 1) ≤ n := by
  induction n using Nat.strongRecOn with
  | _ n ih =>
    by_cases h : n < 10
    · rw [digs_small n h]; simp; omega
    · have h1 := ih (n / 10) (by omega) (by omega)
      have h2 := digs_pos (n / 10)
      rw [digs_big n (by omega), List.length_append, List.length_singleton, Nat.add_sub_cancel]
      have : (digs (n / 10)).length = ((digs (n / 10)).length - 1) + 1 := by omega
      rw [this, Nat.pow_succ]; omega

theorem digs_lt (n : Nat) : n < 10 ^ (digs n).length := by
  have := val_lt (digs n) (digs_all n)
  rwa [val_digs] at this

/-- Fewer digits are less. -/
theorem less_of_len (a b : Nat) (h : (digs a).length < (digs b).length) : a < b := by
  have hb : 0 < b := by
    rcases Nat.eq_zero_or_pos b with e | e
    · subst e; rw [digs_small 0 (by omega)] at h; simp at h; exact absurd h (digs_ne a)
    · exact e
  have h1 := digs_lt a
  have h2 := digs_ge b hb
  have h3 : 10 ^ (digs a).length ≤ 10 ^ ((digs b).length - 1) := Nat.pow_le_pow_right (by omega) (by omega)
  omega

/-- The digits ahead, by how many there are. -/
theorem lead_of (l : List UInt8) (k : Nat) (hk : k ≤ l.length) (h : ∀ j (hj : j < l.length), j < k → isDig l[j] = true) (he : ∀ hk' : k < l.length, isDig l[k] = false) : lead l = l.take k := by
  induction l generalizing k with
  | nil => simp [lead]
  | cons c l ih =>
    rcases k with _ | k
    · have := he (by simp)
      simp at this
      simp [lead, this]
    · have h0 := h 0 (by simp) (by omega)
      simp at h0
      simp only [lead, List.takeWhile_cons, h0, if_true, List.take_succ_cons]
      congr 1
      exact ih k (by simpa using hk) (fun j hj hjk => h (j + 1) (by simpa using hj) (by omega)) (fun hk' => he (by simpa using hk'))

theorem lead_all (l : List UInt8) : ∀ c ∈ lead l, isDig c = true := by
  induction l with
  | nil => simp [lead]
  | cons c l ih =>
    by_cases h : isDig c = true
    · simp only [lead, List.takeWhile_cons, h, if_true]
      intro d hd
      rcases List.mem_cons.1 hd with rfl | hd
      · exact h
      · exact ih d hd
    · simp [lead, h]

theorem lead_le (l : List UInt8) : (lead l).length ≤ l.length := by
  induction l with
  | nil => simp [lead]
  | cons c l ih =>
    by_cases h : isDig c = true
    · simp only [lead, List.takeWhile_cons, h, if_true, List.length_cons] at ih ⊢; omega
    · simp [lead, h]

/-- The digits ahead are what stands ahead. -/
theorem lead_take (l : List UInt8) : l.take (lead l).length = lead l := by
  induction l with
  | nil => simp [lead]
  | cons c l ih =>
    by_cases h : isDig c = true
    · simp only [lead, List.takeWhile_cons, h, if_true, List.length_cons, List.take_succ_cons] at ih ⊢; rw [ih]
    · simp [lead, h]

/-- Digits with no digit behind them are the digits ahead. -/
theorem lead_append (d l : List UInt8) (hd : ∀ c ∈ d, isDig c = true) (hl : ∀ c r, l = c :: r → isDig c = false) : lead (d ++ l) = d := by
  induction d with
  | nil =>
    rcases l with _ | ⟨c, r⟩
    · rfl
    · simp [lead, hl c r rfl]
  | cons c d ih =>
    have h := hd c (by simp)
    simp only [List.cons_append, lead, List.takeWhile_cons, h, if_true]
    congr 1
    exact ih (fun x hx => hd x (by simp [hx]))

/-- The value, if it is at most 2147483647, else 0; and whether it is. -/
def vnum (l : List UInt8) : Int := if val l ≤ 2147483647 then (val l : Int) else 0
def vok (l : List UInt8) : Bool := decide (val l ≤ 2147483647)
theorem vnum_yes (l : List UInt8) (h : val l ≤ 2147483647) : vnum l = val l := if_pos h
theorem vnum_no (l : List UInt8) (h : ¬ val l ≤ 2147483647) : vnum l = 0 := if_neg h
theorem vok_yes (l : List UInt8) (h : val l ≤ 2147483647) : vok l = true := decide_eq_true h
theorem vok_no (l : List UInt8) (h : ¬ val l ≤ 2147483647) : vok l = false := decide_eq_false h
/-- A row's value is at least that of what stands ahead with one digit more. -/
theorem val_ge (l : List UInt8) (k : Nat) (hk : k < l.length) : val (l.take k) * 10 + (l[k].toNat - 48) ≤ val l := by
  have h1 := val_append_le (l.take (k + 1)) (l.drop (k + 1))
  rw [List.take_append_drop, List.take_succ_eq_append_getElem hk, val_snoc] at h1
  exact h1
theorem val_step (l : List UInt8) (k : Nat) (hk : k < l.length) : val (l.take (k + 1)) = val (l.take k) * 10 + (l[k].toNat - 48) := by
  rw [List.take_succ_eq_append_getElem hk, val_snoc]

/-- The number at a place of a text, the place behind it, and the error's number: what P1.2 says. -/
def takeR (l : List UInt8) (a : Int) : Int × Int × Int :=
  if a < 0 ∨ (l.length : Int) < a then (0, 0, 1)
  else if lead (l.drop a.toNat) = [] ∨ ((lead (l.drop a.toNat)).head? = some 48 ∧ 1 < (lead (l.drop a.toNat)).length) then (0, 0, 2)
  else if val (lead (l.drop a.toNat)) ≤ 2147483647 then ((val (lead (l.drop a.toNat)) : Int), a + ((lead (l.drop a.toNat)).length : Int), 0) else (0, 0, 3)
theorem takeR_arg (l : List UInt8) (a : Int) (h : a < 0 ∨ (l.length : Int) < a) : takeR l a = (0, 0, 1) := if_pos h
theorem takeR_form (l : List UInt8) (n : Nat) (hn : n ≤ l.length) (h : lead (l.drop n) = [] ∨ ((lead (l.drop n)).head? = some 48 ∧ 1 < (lead (l.drop n)).length)) : takeR l (n : Int) = (0, 0, 2) := by
  unfold takeR
  rw [if_neg (by omega), Int.toNat_natCast, if_pos h]
theorem takeR_num (l : List UInt8) (n : Nat) (hn : n ≤ l.length) (h : ¬ (lead (l.drop n) = [] ∨ ((lead (l.drop n)).head? = some 48 ∧ 1 < (lead (l.drop n)).length))) (h2 : ¬ val (lead (l.drop n)) ≤ 2147483647) :
    takeR l (n : Int) = (0, 0, 3) := by
  unfold takeR
  rw [if_neg (by omega), Int.toNat_natCast, if_neg h, if_neg h2]
theorem takeR_ok (l : List UInt8) (n : Nat) (hn : n ≤ l.length) (h : ¬ (lead (l.drop n) = [] ∨ ((lead (l.drop n)).head? = some 48 ∧ 1 < (lead (l.drop n)).length))) (h2 : val (lead (l.drop n)) ≤ 2147483647) :
    takeR l (n : Int) = ((val (lead (l.drop n)) : Int), (n : Int) + ((lead (l.drop n)).length : Int), 0) := by
  unfold takeR
  rw [if_neg (by omega), Int.toNat_natCast, if_neg h, if_pos h2]

/-- What is taken without an error: it is where it was asked, of the form, and small enough. -/
theorem takeR_good (l : List UInt8) (a : Int) (h : (takeR l a).2.2 = 0) : ∃ n : Nat, a = (n : Int) ∧ n ≤ l.length ∧ ¬ (lead (l.drop n) = [] ∨ ((lead (l.drop n)).head? = some 48 ∧ 1 < (lead (l.drop n)).length)) ∧
    val (lead (l.drop n)) ≤ 2147483647 ∧ takeR l a = ((val (lead (l.drop n)) : Int), (n : Int) + ((lead (l.drop n)).length : Int), 0) := by
  by_cases h0 : a < 0 ∨ (l.length : Int) < a
  · rw [takeR_arg l a h0] at h; simp at h
  obtain ⟨n, rfl⟩ := Int.eq_ofNat_of_zero_le (show 0 ≤ a by omega)
  have hn : n ≤ l.length := by omega
  by_cases h1 : lead (l.drop n) = [] ∨ ((lead (l.drop n)).head? = some 48 ∧ 1 < (lead (l.drop n)).length)
  · rw [takeR_form l n hn h1] at h; simp at h
  by_cases h2 : val (lead (l.drop n)) ≤ 2147483647
  · exact ⟨n, rfl, hn, h1, h2, takeR_ok l n hn h1 h2⟩
  · rw [takeR_num l n hn h1 h2] at h; simp at h

theorem takeR_bad (l : List UInt8) (a : Int) (h : (takeR l a).2.2 ≠ 0) : (takeR l a).1 = 0 ∧ (takeR l a).2.1 = 0 := by
  unfold takeR at h ⊢
  split
  · exact ⟨rfl, rfl⟩
  · split
    · exact ⟨rfl, rfl⟩
    · split
      · rename_i h1 h2 h3
        rw [if_neg h1, if_neg h2, if_pos h3] at h
        exact absurd rfl h
      · exact ⟨rfl, rfl⟩

theorem takeR_end (l : List UInt8) (a : Int) (h : (takeR l a).2.2 = 0) : (takeR l a).2.1 ≤ (l.length : Int) := by
  obtain ⟨n, rfl, hn, _, _, e⟩ := takeR_good l a h
  have := lead_le (l.drop n)
  rw [List.length_drop] at this
  rw [e]
  show (n : Int) + _ ≤ _
  omega

/-- The number that a whole text is, and the error's number: what P1.3 says. -/
def wholeR (l : List UInt8) : Int × Int :=
  if (takeR l 0).2.2 = 0 then (if (takeR l 0).2.1 = (l.length : Int) then ((takeR l 0).1, 0) else (0, 2)) else (0, (takeR l 0).2.2)

/-- A number's text, and the error's number: what P1.1 says. -/
def isNum (n : Int) : Bool := decide (0 ≤ n) && decide (n ≤ 2147483647)
def showS (n : Int) : List UInt8 := if isNum n = true then digs n.toNat else []
def showE (n : Int) : Int := if isNum n = true then 0 else 1
theorem isNum_iff (n : Int) : isNum n = true ↔ 0 ≤ n ∧ n ≤ 2147483647 := by simp [isNum]

end Go.Proofs.YtfjamdpgbbnmcaaGreatDoor.Nm
/-
  Small words that all texts share: what a call hands back, held against what it should; growth of memory, step by step.
  Conditions: none.
-/
set_option maxRecDepth 4000
namespace Go.Proofs.YtfjamdpgbbnmcaaGreatDoor
open Go.RowKit

theorem ret_str {a b : ByteArray} (h : a = b) : Ending.returned (.string a) = .returned (.string b) := by rw [h]
theorem ret_int {k : IntKind} {a b : Int} (h : a = b) : Ending.returned (.int k a) = .returned (.int k b) := by rw [h]
theorem ret_bool {a b : Bool} (h : a = b) : Ending.returned (.bool a) = .returned (.bool b) := by rw [h]
theorem ret_int_bool {k : IntKind} {a b : Int} {c d : Bool} (h : a = b) (h' : c = d) : Ending.returned (.tuple #[.int k a, .bool c]) = .returned (.tuple #[.int k b, .bool d]) := by rw [h, h']
theorem below_all {w w1 w2 : World} (h1 : Below w.heap.size w w1) (h2 : Below w1.heap.size w1 w2) : Below w.heap.size w w2 := h1.trans (h2.mono h1.size)
theorem below_drewN {B : Nat} {a w : World} (h : Below B a w) (n : Nat) : Below B a (w.drewN n) := ⟨h.os, h.tape, h.output, h.size, h.block⟩
end Go.Proofs.YtfjamdpgbbnmcaaGreatDoor
/-
  Words for memory: a slice that reads as a list of cells (nil and empty let in), and how that lasts while a call makes memory of its own.
  Conditions: none beyond those that each theorem states.
-/
set_option maxRecDepth 4000
namespace Go.Proofs.YtfjamdpgbbnmcaaGreatDoor
open Go.RowKit

theorem add_block (a : Addr) (n : Nat) : (a.add n).block = a.block := by unfold Addr.add; split <;> rfl

/-- The slice value v, of n elements of 'size' cells each, reads as the cells xs. -/
def Sl (w : World) (size : Nat) (v : Value) (n : Nat) (xs : List Value) : Prop :=
  xs.length = n * size ∧ ∃ A c, v = .slice A n c ∧ n ≤ c ∧ (A = none → c = 0) ∧ (0 < n → ∃ ad : Addr, A = some ad ∧ ad.block < w.heap.size ∧ ∀ j u, xs[j]? = some u → w.cell? (ad.add j) = some u)

theorem Sl.keep {w w' : World} {size n : Nat} {v : Value} {xs : List Value} (h : Sl w size v n xs) (hs : w.heap.size ≤ w'.heap.size) (hk : ∀ p : Addr, p.block < w.heap.size → w'.cell? p = w.cell? p) : Sl w' size v n xs := by
  obtain ⟨hl, A, c, hv, hc, hz, hh⟩ := h
  refine ⟨hl, A, c, hv, hc, hz, fun hn => ?_⟩
  obtain ⟨ad, e, hb, hc⟩ := hh hn
  exact ⟨ad, e, by omega, fun j u hu => (hk _ (by rw [add_block]; exact hb)).trans (hc j u hu)⟩
theorem Sl.below {w w' : World} {size n : Nat} {v : Value} {xs : List Value} (h : Sl w size v n xs) (hb : Below w.heap.size w w') : Sl w' size v n xs := h.keep hb.size fun _ hp => hb.cell hp
theorem Sl.nil (w : World) (size : Nat) (A : Option Addr) : Sl w size (.slice A 0 0) 0 [] := ⟨by simp, A, 0, rfl, Nat.le_refl _, fun _ => rfl, fun h => absurd h (by omega)⟩
theorem Sl.own {w : World} {base size n : Nat} {e : TypeId} {v : Value} {xs : List Value} (h : w.ownsRow base e size v n xs) : Sl w size v n xs := by
  refine ⟨h.1, ?_⟩
  have h0 := h
  rcases h.2 with ⟨hv, rfl⟩ | ⟨g, cap, cur, hv, _, hg, hc, _⟩
  · exact ⟨none, 0, hv, Nat.le_refl _, fun _ => rfl, fun h => absurd h (by omega)⟩
  · refine ⟨_, _, hv, hc, fun h => (by cases h), fun _ => ⟨_, rfl, (Array.getElem?_eq_some_iff.1 hg).1, ?_⟩⟩
    exact h0.cells (by rw [hv]; rfl)
theorem Sl.len {w : World} {size n : Nat} {v : Value} {xs : List Value} (h : Sl w size v n xs) : xs.length = n * size := h.1
/-- The value as the walk wants it: its head is known as soon as there is an element. -/
theorem Sl.form {w : World} {size n : Nat} {v : Value} {xs : List Value} (h : Sl w size v n xs) : ∃ A c, v = .slice A n c ∧ (0 < n → ∃ ad : Addr, A = some ad ∧ ad.block < w.heap.size ∧ ∀ j u, xs[j]? = some u → w.cell? (ad.add j) = some u) := by
  obtain ⟨_, A, c, hv, _, _, hh⟩ := h
  exact ⟨A, c, hv, hh⟩
theorem Sl.cap {w : World} {size n c : Nat} {A : Option Addr} {xs : List Value} (h : Sl w size (.slice A n c) n xs) : n ≤ c := by
  obtain ⟨_, _, _, hv, hc, _⟩ := h
  cases hv
  exact hc

theorem own_form {w : World} {base size n : Nat} {e : TypeId} {v : Value} {xs : List Value} (h : w.ownsRow base e size v n xs) : ∃ A c, v = .slice A n c := by
  rcases h.2 with ⟨rfl, rfl⟩ | ⟨g, cap, _, rfl, _⟩
  · exact ⟨_, _, rfl⟩
  · exact ⟨_, _, rfl⟩
theorem own_below {w w' : World} {base size n : Nat} {e : TypeId} {v : Value} {xs : List Value} (h : w.ownsRow base e size v n xs) (hb : Below w.heap.size w w') : w'.ownsRow base e size v n xs :=
  h.kept (row := none) ⟨hb.os, hb.tape, hb.output, hb.size, fun k hk _ => hb.block k hk⟩ (by cases v.ownBlock <;> simp)
theorem own_drewN {w : World} {base size n : Nat} {e : TypeId} {v : Value} {xs : List Value} (h : w.ownsRow base e size v n xs) (k : Nat) : (w.drewN k).ownsRow base e size v n xs := h
theorem below_append {B : Nat} {w w1 w' : World} {size n : Nat} {e : TypeId} {v : Value} {xs : List Value} (hb : Below B w w1) (hB : B ≤ w1.heap.size) (hown : w1.ownsRow B e size v n xs) (hg : w1.grownBy w' v.ownBlock) : Below B w w' :=
  hb.grown hg hB (fun k hk => (hown.lt k hk).1)
theorem drewN_below (w : World) (k : Nat) : Below w.heap.size w (w.drewN k) := ⟨rfl, rfl, rfl, Nat.le_refl _, fun _ _ => rfl⟩

theorem add_zero' (a : Addr) : a.add 0 = a := by simp [Addr.add]

/-- append of whatever slice reads as a list (nil among them) onto a row of the call's own. -/
theorem run_append_sl {P : Program} (w : World) (base : Nat) (t ty e : TypeId) (i : TypeInfo) (z : Value) (size bytes : Nat) (ht : P.underlying t = some (.slice e)) (hi : P.info? e = some i) (hz : i.zero = some z)
    (hsize : i.size = size) (hby : i.bytes = bytes) (hzs : z.cells.size = size) (hsz : 0 < size)
    (v : Value) (n : Nat) (xs : List Value) (hown : w.ownsRow base e size v n xs)
    (u : Value) (m : Nat) (news : List Value) (hu : Sl w size u m news) (h1 : ∀ x ∈ news, x.oneCell' = true)
    (h63 : n + m ≤ maxLen) (hbytes : (n + m) * bytes ≤ 140737488355328) (hbase : base ≤ w.heap.size) :
    ∃ v' w', (Builtin.append_ #[t, t] ty #[v, u]).run P w = .ok v' w' ∧ w'.ownsRow base e size v' (n + m) (xs ++ news) ∧ w.grownBy w' v.ownBlock ∧ (v'.ownBlock = v.ownBlock ∨ v'.ownBlock = some w.heap.size) := by
  obtain ⟨hl, A, c, rfl, _, hc0, hh⟩ := hu
  cases A with
  | none =>
    have hm : m = 0 := Nat.eq_zero_of_not_pos fun h0 => by
      obtain ⟨_, h, _⟩ := hh h0
      cases h
    obtain rfl := hc0 rfl
    subst hm
    obtain rfl : news = [] := List.eq_nil_of_length_eq_zero (by rw [hl, Nat.zero_mul])
    exact ⟨v, w, run_append_owned_none w base t ty e i size ht hi v n xs hown, by rw [List.append_nil]; exact hown, World.grownBy.refl w _, .inl rfl⟩
  | some ad =>
    have hcells : ∀ j x, news[j]? = some x → w.cell? (ad.add j) = some x := fun j x hx => by
      have hn : 0 < m := Nat.pos_of_ne_zero fun h0 => by
        have hnil : news = [] := List.eq_nil_of_length_eq_zero (by rw [hl, h0, Nat.zero_mul])
        rw [hnil] at hx
        cases hx
      obtain ⟨ad', h, _, hc⟩ := hh hn
      cases h
      exact hc j x hx
    obtain ⟨v', w', hrun, h2, h3, _, h5⟩ := run_append_own_at (P := P) w base t ty e i z size bytes ht hi hz hsize hby hzs hsz v n xs hown ad m c news hl hcells h1 h63 hbytes hbase
    exact ⟨v', w', hrun, h2, h3, h5⟩
/-- The same, at the operation. -/
theorem wpList_append_sl {P : Program} (w : World) {ops : Array Oper} {rest : List Oper} {o : Oper} {a : Act} {Q : Exit → Act → World → Prop} (hgd : o.guard = none) (s x : Operand) (t : TypeId)
    (ho : o.op = .call { callee := .builtin .append, args := #[s, x], argTypes := #[t, t] })
    (base : Nat) (e : TypeId) (i : TypeInfo) (z : Value) (size bytes : Nat) (ht : P.underlying t = some (.slice e)) (hi : P.info? e = some i) (hz : i.zero = some z)
    (hsize : i.size = size) (hby : i.bytes = bytes) (hzs : z.cells.size = size) (hsz : 0 < size)
    (v : Value) (n : Nat) (xs : List Value) (hs : a.eval s = v) (hown : w.ownsRow base e size v n xs)
    (u : Value) (m : Nat) (news : List Value) (hx : a.eval x = u) (hu : Sl w size u m news) (h1 : ∀ x ∈ news, x.oneCell' = true)
    (h63 : n + m ≤ maxLen) (hbytes : (n + m) * bytes ≤ 140737488355328) (hbase : base ≤ w.heap.size)
    (h : ∀ v' w', w'.ownsRow base e size v' (n + m) (xs ++ news) → w.grownBy w' v.ownBlock → (v'.ownBlock = v.ownBlock ∨ v'.ownBlock = some w.heap.size) → wpList P ops Q rest (a.put o.dst v') w') : wpList P ops Q (o :: rest) a w := by
  refine wpList_plain hgd fun K hK => ?_
  obtain ⟨v', w', hrun, h2, h3, h4⟩ := run_append_sl (P := P) w base t o.type e i z size bytes ht hi hz hsize hby hzs hsz v n xs hown u m news hu h1 h63 hbytes hbase
  unfold Oper.wp execOp
  simp only [ho, resolve, invoke, builtin, Sem.run_bind, Sem.run_pure, Result.andThen_ok, List.map_toArray, List.map_cons, List.map_nil, hs, hx, hrun]
  exact hK _ _ (h v' w' h2 h3 h4)

/-- How long a text is (a loop's measure). -/
def lenOf : Value → Nat | .string s => s.size | _ => 0

theorem nums_text (l : List UInt8) : strOfNums (l.map fun x => (x.toNat : Int)) = Ln.bs l := by
  unfold strOfNums Ln.bs
  rw [List.map_map]
  have : ((fun n : Int => UInt8.ofNat n.toNat) ∘ fun x : UInt8 => (x.toNat : Int)) = id := by funext x; simp
  rw [this, List.map_id]

/-- Bytes as cells. -/
def byV (x : List UInt8) : List Value := x.map fun b => .int .u8 (b.toNat : Int)
theorem byV_len (x : List UInt8) : (byV x).length = x.length := by simp [byV]
theorem byV_append (x y : List UInt8) : byV (x ++ y) = byV x ++ byV y := by simp [byV]
theorem strCells_bs (x : List UInt8) : Lib.strCells (Ln.bs x) = byV x := by rw [Lib.strCells, Ln.bs_data]; rfl
theorem own_more {w : World} {base : Nat} {e : TypeId} {v : Value} {x : List UInt8} (y : List UInt8) (h : w.ownsRow base e 1 v (x.length + (Ln.bs y).size) (byV x ++ Lib.strCells (Ln.bs y))) : w.ownsRow base e 1 v (x ++ y).length (byV (x ++ y)) := by
  rw [List.length_append, byV_append, ← strCells_bs y, ← Ln.bs_size y]
  exact h
/-- string(..) of a row of the call's own. -/
theorem own_text {P : Program} {w : World} {base : Nat} {e : TypeId} {v : Value} {x : List UInt8} (h : w.ownsRow base e 1 v x.length (byV x)) (src dst : TypeId) (hs : P.underlying src = some (.slice e)) (he : P.underlying e = some (.int .u8)) (hd : P.underlying dst = some .string) :
    (convert src dst v).run P w = .ok (.string (Ln.bs x)) w := by
  have h0 := h
  rcases h.2 with ⟨rfl, hn⟩ | ⟨g, cap, cur, rfl, _, _, _⟩
  · have : x = [] := List.eq_nil_of_length_eq_zero hn
    subst this
    exact run_convert_bytes_nil w src e hs he 0 0 dst hd
  · have := run_convert_bytes_arg (P := P) w src e hs he g 0 x.length cap (x.map fun b => (b.toNat : Int)) (by simp) (fun i hi => by
      have hc := h0.cellAt i (by simpa using hi)
      rw [Nat.zero_add, hc]
      simp [byV, List.getD, hi]) dst hd
    rw [this, nums_text]

theorem bs_add (a b : List UInt8) : Ln.bs a ++ Ln.bs b = Ln.bs (a ++ b) := by
  apply ByteArray.ext
  simp [Ln.bs]

theorem bs_eqb (a b : List UInt8) : ((Ln.bs a).toList == (Ln.bs b).toList) = (a == b) := by
  rw [Lib.toList_data, Lib.toList_data, Ln.bs_data, Ln.bs_data]

/-- Texts as cells. -/
def strV (x : List UInt8) : Value := .string (Ln.bs x)
/-- The slice value v reads as the texts l. -/
def Strs (w : World) (v : Value) (l : List (List UInt8)) : Prop := Sl w 1 v l.length (l.map strV)
theorem Strs.below {w w' : World} {v : Value} {l : List (List UInt8)} (h : Strs w v l) (hb : Below w.heap.size w w') : Strs w' v l := Sl.below h hb
theorem Strs.nil (w : World) (A : Option Addr) : Strs w (.slice A 0 0) [] := Sl.nil w 1 A
theorem Strs.form {w : World} {v : Value} {l : List (List UInt8)} (h : Strs w v l) :
    ∃ A c, v = .slice A l.length c ∧ ∀ (k : Nat) (hk : k < l.length), ∃ ad : Addr, A = some ad ∧ ad.block < w.heap.size ∧ w.cell? (ad.add k) = some (strV l[k]) := by
  obtain ⟨A, c, hv, hh⟩ := Sl.form h
  refine ⟨A, c, hv, fun k hk => ?_⟩
  obtain ⟨ad, e, hb, hc⟩ := hh (by omega)
  exact ⟨ad, e, hb, hc k _ (by rw [List.getElem?_map, List.getElem?_eq_getElem hk]; rfl)⟩
theorem Strs.none_ {w : World} {v : Value} {l : List (List UInt8)} (h : Strs w v l) (hl : l = []) : ∃ A c, v = .slice A 0 c := by
  subst hl
  obtain ⟨A, c, hv, _⟩ := h.form
  exact ⟨A, c, hv⟩
theorem Strs.own {w : World} {base : Nat} {e : TypeId} {v : Value} {l : List (List UInt8)} (h : w.ownsRow base e 1 v l.length (l.map strV)) : Strs w v l := Sl.own h

theorem Strs.own_snoc {w : World} {base : Nat} {e : TypeId} {v : Value} {d : List (List UInt8)} {x : List UInt8} (h : w.ownsRow base e 1 v (d.length + 1) (d.map strV ++ [strV x])) : w.ownsRow base e 1 v (d ++ [x]).length ((d ++ [x]).map strV) := by
  rw [List.length_append, List.map_append]
  exact h
theorem one_strs (x : List UInt8) : ∀ u ∈ [strV x], u.oneCell' = true := by
  intro u hu
  rw [List.mem_singleton.1 hu]
  rfl
theorem all_strs (l : List (List UInt8)) : ∀ u ∈ l.map strV, u.oneCell' = true := by
  intro u hu
  obtain ⟨x, _, rfl⟩ := List.mem_map.1 hu
  rfl
/-- The one cell of a new block. -/
theorem new_one (w : World) (u : Value) (e : TypeId) : ∀ j x, [u][j]? = some x → (w.alloc (.cells #[u] e)).cell? ((⟨w.heap.size, 0, none⟩ : Addr).add j) = some x := by
  intro j x hj
  match j, hj with
  | 0, hj =>
    simp at hj
    subst hj
    rw [add_zero', cell_of_row _ _ _ #[u] e (0, 0) (heap_alloc_new w _)]
    rfl

/-- A literal of texts. -/
theorem lit_strs (w : World) (e : TypeId) (l : List (List UInt8)) (hl : l.length ≤ maxLen) : Strs (w.alloc (.cells (l.map strV).toArray e)) (.slice (some ⟨w.heap.size, 0, none⟩) l.length l.length) l := by
  have h := World.ownsRow_lit (base := 0) (e := e) (size := 1) w (l.map strV).toArray l.length (Nat.zero_le _) hl (by simp)
  exact Strs.own h

/-- A row of texts, and a number beside it: what the call hands back lies in memory of its own; what was there stays. -/
def RetStrs (w : World) (r : List (List UInt8) × Int) (e : Ending) (w' : World) : Prop := ∃ v, e = .returned (.tuple #[v, .int .i64 r.2]) ∧ Strs w' v r.1 ∧ Below w.heap.size w w'
theorem RetStrs.mk {w w' : World} {r : List (List UInt8) × Int} (v : Value) (n : Int) (hr : r.2 = n) (hs : Strs w' v r.1) (hb : Below w.heap.size w w') : RetStrs w r (.returned (.tuple #[v, .int .i64 n])) w' :=
  ⟨v, by rw [hr], hs, hb⟩
/-- A text, and a number beside it. -/
def RetStr (w : World) (r : List UInt8 × Int) (e : Ending) (w' : World) : Prop := e = .returned (.tuple #[.string (Ln.bs r.1), .int .i64 r.2]) ∧ Below w.heap.size w w'
theorem RetStr.mk {w w' : World} {r : List UInt8 × Int} (s : ByteArray) (n : Int) (hr : r.2 = n) (hs : s = Ln.bs r.1) (hb : Below w.heap.size w w') : RetStr w r (.returned (.tuple #[.string s, .int .i64 n])) w' :=
  ⟨by rw [hr, hs], hb⟩
/-- A bool, in whatever memory was made. -/
def RetBool (w : World) (b : Bool) (e : Ending) (w' : World) : Prop := e = .returned (.bool b) ∧ Below w.heap.size w w'

end Go.Proofs.YtfjamdpgbbnmcaaGreatDoor
/-
  From a walk to a law's statement: a call that answers true and leaves what was there as it was meets 'for every input the law returns true, and each argument reads behind the call as it read before'; and how arguments are opened.
  Conditions: none beyond those that each theorem states.
-/
set_option maxRecDepth 4000
namespace Go.Proofs.YtfjamdpgbbnmcaaGreatDoor
open Go.ChangeShapes Go.WideShapes Go.ChangeAt Go.RowKit

section
variable {H : Type} {enc : TypeId × Value → H} {P : Program}

/-- All arguments read behind the call as they read before. -/
theorem args_stay (hl : laidOutB P = true) {W W' : World} (hb : Below W.heap.size W W') {sp : Nat → Bool} : ∀ {ts : List TypeId} {vs : List Value} {ds : List (DataW H)} {ps : List MemPlace},
    (∀ t ∈ ts, P.readableRec t = true ∧ t < P.types.size) → DataW.TrodAll enc P W 0 (fun _ => true) true ts vs ds ps → (∀ p ∈ ps, p.block < W.heap.size ∧ sp p.block = true) → DataW.TrodAll enc P W' 0 sp true ts vs ds ps
  | [], [], [], _, _, h, _ => h
  | t :: ts, v :: vs, d :: ds, ps, ht, h, hp => by
    obtain ⟨p, q, h1, h2, rfl⟩ := h
    obtain ⟨r1, r2⟩ := ht t List.mem_cons_self
    refine ⟨p, q, WideElems.Trod_stays hl r1 r2 h1 (fun x hx => hb.same (hp x (List.mem_append_left _ hx)).1) (fun x hx => (hp x (List.mem_append_left _ hx)).2), ?_, rfl⟩
    exact args_stay hl hb (fun t ht' => ht t (List.mem_cons_of_mem _ ht')) h2 (fun x hx => hp x (List.mem_append_right _ hx))
  | [], [], _ :: _, _, _, h, _ => h.elim
  | [], _ :: _, _, _, _, h, _ => h.elim
  | _ :: _, [], _, _, _, h, _ => h.elim
  | _ :: _, _ :: _, [], _, _, h, _ => h.elim

/-- A law's post: it answered true, and what was there is as it was. -/
theorem law_post {f : Func} {s : ChangeSpec} {W W' : World} {args : Array Value} {ds : List (DataW H)} {before : List MemPlace} {tb : TypeId} (hv : s.vars = [])
    (hW : DataW.Whole enc P f.params.toList s.vars false W args.toList ds [] before) (hfn : s.fn H ds = { results := [.lit (.bool true)], args := ds })
    (hrt : f.resultTypes = #[tb]) (htb : P.underlying tb = some .bool) (hl : laidOutB P = true) (hra : f.params.toList.all (fun t => P.readableRec t && decide (t < P.types.size)) = true) (hb : Below W.heap.size W W') :
    s.post enc P f false true false false W args (.bool true) W' := by
  have hr : ∀ t ∈ f.params.toList, P.readableRec t = true ∧ t < P.types.size := fun t ht => by
    have h := List.all_eq_true.1 hra t ht
    simpa using h
  have hlt : ∀ p ∈ before, p.block < W.heap.size := fun p hp => hW.lt p hp
  have hW0 := hW
  obtain ⟨p, q, hA, hV, rfl, hz, hn⟩ := hW
  rw [hv] at hV
  obtain rfl : q = [] := hV
  simp only [List.append_nil] at hlt hz hn hW0
  have hfn' : s.fn H (ds ++ []) = { results := [.lit (.bool true)], args := ds } := by rw [List.append_nil]; exact hfn
  have hA' : ∀ sp : Nat → Bool, (∀ x ∈ p, sp x.block = true) → DataW.TrodAll enc P W' 0 sp true f.params.toList args.toList (s.fn H (ds ++ [])).args p := fun sp hsp => by
    rw [hfn']
    exact args_stay hl hb hr hA (fun x hx => ⟨hlt x hx, hsp x hx⟩)
  have hres : ∀ (b : Nat) (sp : Nat → Bool) (hd : Bool), DataW.TrodAll enc P W' b sp hd f.resultTypes.toList ((Value.bool true).resultList f.resultTypes.size) (s.fn H (ds ++ [])).results [] := fun b sp hd => by
    rw [hfn', hrt]
    exact trodAll_cons_mk (shut_bool htb _) trodAll_mk0
  have hvars : ∀ sp : Nat → Bool, DataW.TrodVars enc P W' sp s.vars (s.fn H (ds ++ [])).vars [] := fun sp => by
    rw [hfn', hv]
    rfl
  have hold : ∀ x ∈ p, (fun b => decide (b < W.heap.size)) x.block = true := fun x hx => by simpa using hlt x hx
  refine ⟨ds, [], p, [], p, [], hW0, hres _ _ _, hA' _ hold, hvars _, World.keptBut_mono (fun x hx => ⟨hx, ?_⟩) (hb.frame (· ∈ p)), fun h => by cases h⟩
  exact Or.inr (Or.inl hx)
end

section
variable {H : Type} {enc : TypeId × Value → H} {P : Program} {w : World} {base : Nat} {r : Reach} {b0 : Nat}

/-- A slice of texts among the arguments. -/
theorem arg_strs {t e : TypeId} {v : Value} {d : DataW H} {ps : List MemPlace} (ht : P.underlying t = some (.slice e)) (he : P.underlying e = some .string) (hc : P.cellsOf e = 1)
    (hval : Value.okWide P w r b0 t v) (h : DataW.Trod enc P w base (fun _ => true) true t v d ps) :
    ∃ l : List (List UInt8), Strs w v l ∧ l.length ≤ maxLen ∧ ∀ x ∈ l, x.length ≤ maxLen := by
  obtain ⟨a0, len0, cap0, rfl⟩ := okWide_slice ht hval
  obtain ⟨fuel, hf⟩ := h
  rcases open_strings ht he hc hf with ⟨hcs, hx⟩ | ⟨a, len, cap, ss, hcs, _, hl, hm, hz, hx, hcell, hsz⟩
  · simp [Value.cells] at hcs
    obtain ⟨rfl, rfl, rfl⟩ := hcs
    exact ⟨[], Strs.nil _ _, by simp, by simp⟩
  · simp [Value.cells] at hcs
    obtain ⟨rfl, rfl, rfl⟩ := hcs
    simp only [if_true] at hz
    refine ⟨(ss.take len0).map (·.data.toList), ?_, by simp; omega, ?_⟩
    · have hlen : ((ss.take len0).map (·.data.toList)).length = len0 := by simp; omega
      rw [Strs, hlen]
      refine ⟨by simp; omega, some a, cap0, rfl, by omega, fun h => (by cases h), fun hn => ⟨a, rfl, ?_, fun j u hu => ?_⟩⟩
      · have hc0 := hcell 0 (by omega)
        rw [add_zero'] at hc0
        exact World.block_lt_of_cell? w a hc0
      · rw [List.getElem?_map, List.getElem?_map] at hu
        have hj : j < len0 := by
          rcases Nat.lt_or_ge j len0 with h | h
          · exact h
          · rw [List.getElem?_eq_none (by simp; omega)] at hu
            cases hu
        have hjs : j < ss.length := by omega
        rw [List.getElem?_take, if_pos hj, List.getElem?_eq_getElem hjs] at hu
        simp only [Option.map_some, Option.some.injEq] at hu
        rw [hcell j hjs, ← hu, strV, Ln.bs_of, List.getD_eq_getElem?_getD, List.getElem?_eq_getElem hjs]
        rfl
    · intro x hx
      obtain ⟨s, hs, rfl⟩ := List.mem_map.1 hx
      have := hsz s (List.mem_of_mem_take hs)
      simpa using this
end
end Go.Proofs.YtfjamdpgbbnmcaaGreatDoor
