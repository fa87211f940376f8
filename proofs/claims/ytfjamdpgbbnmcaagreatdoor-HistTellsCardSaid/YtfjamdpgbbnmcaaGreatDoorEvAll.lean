/-
  Several texts in one, each with its own first words: EvPlain, EvWalkA, EvWalkB, EvWalkC, EvWalkD, EvFrame, EvRefA, EvRefB.
  Conditions: as each says.
-/
import Derived.Test.YtfjamdpgbbnmcaaGreatDoorLow
import Derived.Test.YtfjamdpgbbnmcaaGreatDoorNumLn
import Derived.Test.YtfjamdpgbbnmcaaGreatDoorRows
import Derived.Laws.ResultCell
import Derived.Lib.LaidTab
import Derived.Lib.SmallJoins
import Derived.Deep.RegionHeld3
/-
  Plain facts on events and their lines (no Go in it): when an event may be, its line, a line's event, and that each is the other's inverse.
  Conditions: none beyond those that each theorem states.
-/
set_option maxRecDepth 4000
namespace Go.Proofs.YtfjamdpgbbnmcaaGreatDoor

namespace Nm
theorem digs_form (n : Nat) : ¬ (digs n = [] ∨ ((digs n).head? = some 48 ∧ 1 < (digs n).length)) := by
  rintro (h | ⟨h, h'⟩)
  · exact digs_ne n h
  · rcases Nat.eq_zero_or_pos n with e | e
    · subst e
      rw [digs_small 0 (by omega)] at h'
      simp at h'
    · obtain ⟨c, r, e1, e2⟩ := digs_head n e
      rw [e1] at h
      simp at h
      exact e2 h
theorem lead_self (l : List UInt8) (h : ∀ c ∈ l, isDig c = true) : lead l = l := by
  have := lead_append l [] h (fun _ _ e => by cases e)
  rwa [List.append_nil] at this
theorem whole_digs (n : Nat) (hn : n ≤ 2147483647) : wholeR (digs n) = ((n : Int), 0) := by
  have hl : lead ((digs n).drop 0) = digs n := lead_self _ (digs_all n)
  have h := takeR_ok (digs n) 0 (Nat.zero_le _) (by rw [hl]; exact digs_form n) (by rw [hl, val_digs]; exact hn)
  rw [hl, val_digs] at h
  have h' : takeR (digs n) 0 = ((n : Int), ((0 : Nat) : Int) + ((digs n).length : Int), 0) := h
  rw [wholeR, h']
  simp
/-- What is a number's whole text is its digits. -/
theorem whole_own (l : List UInt8) (h : (wholeR l).2 = 0) : ∃ n : Nat, n ≤ 2147483647 ∧ (wholeR l).1 = (n : Int) ∧ l = digs n := by
  by_cases h1 : (takeR l 0).2.2 = 0
  · obtain ⟨k, hk, _, hf, hv, ht⟩ := takeR_good l 0 h1
    obtain rfl : k = 0 := by omega
    by_cases h2 : (takeR l 0).2.1 = (l.length : Int)
    · rw [ht] at h2
      simp only [List.drop_zero] at h2 hf hv ht
      have hlen : (lead l).length = l.length := by omega
      have hl : lead l = l := by rw [← lead_take l, hlen, List.take_length]
      rw [hl] at hf hv ht
      refine ⟨val l, hv, ?_, ?_⟩
      · rw [wholeR, if_pos h1, ht]
        simp
      · refine (digs_val l (fun e => hf (.inl e)) (fun c hc => lead_all l c (by rw [hl]; exact hc)) (fun e => ?_)).symm
        have hp : 0 < l.length := List.length_pos_iff.2 (fun e => hf (.inl e))
        have : ¬ 1 < l.length := fun h' => hf (.inr ⟨e, h'⟩)
        omega
    · rw [wholeR, if_pos h1, if_neg h2] at h
      cases h
  · rw [wholeR, if_neg h1] at h
    exact absurd h h1
theorem whole_err (l : List UInt8) (h : (wholeR l).2 ≠ 0) : (wholeR l).1 = 0 := by
  unfold wholeR at h ⊢
  split
  · rename_i h1
    rw [if_pos h1] at h
    split
    · rename_i h2
      rw [if_pos h2] at h
      exact absurd rfl h
    · rfl
  · rfl
/-- A number with a digit 0 ahead has not the form. -/
theorem whole_zero (n : Nat) : wholeR (48 :: digs n) = (0, 2) := by
  have hl : lead ((48 :: digs n).drop 0) = 48 :: digs n := lead_self _ (fun c hc => by
    rcases List.mem_cons.1 hc with e | e
    · rw [e]; decide
    · exact digs_all n c e)
  have h := takeR_form (48 :: digs n) 0 (Nat.zero_le _) (.inr (by rw [hl]; exact ⟨rfl, by have := digs_pos n; simp; omega⟩))
  have h' : takeR (48 :: digs n) 0 = (0, 0, 2) := h
  rw [wholeR, h']
  simp
theorem showS_num (n : Int) (h : isNum n = true) : showS n = digs n.toNat := if_pos h
end Nm

namespace Ln
theorem sign_dig (c : UInt8) (h : Nm.isDig c = true) : sign c = true := by
  rw [Nm.isDig_iff] at h
  rw [sign_iff]
  omega
theorem foldl_word (x : List UInt8) (h : ∀ b ∈ x, sign b = true) : ∀ (d : List (List UInt8)) (c : List UInt8), x.foldl wstep (some (d, c)) = some (d, c ++ x) := by
  induction x with
  | nil => intro d c; simp
  | cons b x ih =>
    intro d c
    rw [List.foldl_cons, wstep_sign (h b List.mem_cons_self), ih (fun y hy => h y (List.mem_cons_of_mem _ hy))]
    simp
theorem foldl_words (l : List (List UInt8)) (h : ∀ x ∈ l, x ≠ [] ∧ ∀ b ∈ x, sign b = true) : ∀ d : List (List UInt8), (l.flatMap (· ++ [32])).foldl wstep (some (d, [])) = some (d ++ l, []) := by
  induction l with
  | nil => intro d; simp
  | cons x l ih =>
    intro d
    have hx := h x List.mem_cons_self
    rw [List.flatMap_cons, List.foldl_append, List.foldl_append, foldl_word x hx.2, List.nil_append, List.foldl_cons, List.foldl_nil, wstep_space hx.1, ih (fun y hy => h y (List.mem_cons_of_mem _ hy))]
    simp
/-- No word is longer than the line. -/
theorem spaced_word (l : List (List UInt8)) (x : List UInt8) (h : x ∈ l) : x.length ≤ (spaced l).length := by
  induction l using snocRec with
  | nil => cases h
  | snoc l y ih =>
    rcases List.mem_append.1 h with h | h
    · exact Nat.le_trans (ih h) (spaced_le l [y])
    · rw [List.mem_singleton.1 h, spaced_snoc, List.length_append]
      omega
/-- Words with one byte 32 between are that line's words. -/
theorem wordsR_spaced (l : List (List UInt8)) (hn : l ≠ []) (h8 : l.length ≤ 8) (h : ∀ x ∈ l, x ≠ [] ∧ ∀ b ∈ x, sign b = true) : wordsR (spaced l) = (l, 0) := by
  induction l using snocRec with
  | nil => exact absurd rfl hn
  | snoc d c _ =>
    have hw : wrun (spaced (d ++ [c])) = some (d, c) := by
      rw [spaced_snoc, wrun, List.foldl_append, foldl_words d (fun x hx => h x (List.mem_append_left _ hx)), foldl_word c (h c (by simp)).2]
      simp
    rw [wordsR_some _ d c hw, if_pos ⟨(h c (by simp)).1, by simp at h8; omega⟩]
end Ln

namespace Ev
/-- An event. -/
structure Event where
  kind : Int
  session : Int
  key : Int
  value : Int
  deriving DecidableEq

def zero : Event := ⟨0, 0, 0, 0⟩
/-- The words of the kinds. -/
def words : List (List UInt8) := [[98, 101, 103, 105, 110], [114, 101, 97, 100], [119, 114, 105, 116, 101], [99, 111, 109, 109, 105, 116], [97, 98, 111, 114, 116]]
def word (k : Nat) : List UInt8 := words.getD k []
def hasKey (k : Int) : Bool := decide (k = 1) || decide (k = 2)
/-- How many numbers a kind's line has. -/
def many (k : Int) : Nat := if hasKey k = true then 3 else 1

/-- May an event be? P3.1. -/
def right (e : Event) : Bool :=
  decide (0 ≤ e.kind ∧ e.kind < 5 ∧ 0 ≤ e.session ∧ e.session < 8 ∧ (if hasKey e.kind = true then 0 ≤ e.key ∧ e.key < 16 ∧ Nm.isNum e.value = true else e.key = 0 ∧ e.value = 0))
def nums (e : Event) : List Int := if hasKey e.kind = true then [e.session, e.key, e.value] else [e.session]
/-- The words of an event's line. -/
def parts (e : Event) : List (List UInt8) := word e.kind.toNat :: (nums e).map Nm.showS
/-- Show's answer. -/
def showR (e : Event) : List UInt8 × Int := if right e = true then (Ln.spaced (parts e), 0) else ([], 1)

/-- The kind of a word: 5 if there is none. -/
def kindI (x : List UInt8) : Nat := words.findIdx (· == x)
/-- What kindOf answers. -/
def kindN (x : List UInt8) : Int := if kindI x < 5 then (kindI x : Int) else 0
def kindB (x : List UInt8) : Bool := decide (kindI x < 5)
/-- The error of the first word that is no number. -/
def bad : List (List UInt8) → Int
  | [] => 0
  | x :: r => if (Nm.wholeR x).2 ≠ 0 then (Nm.wholeR x).2 else bad r
def vals (l : List (List UInt8)) : List Int := l.map fun x => (Nm.wholeR x).1
def ofNums (k : Int) (l : List Int) : Event := ⟨k, l.getD 0 0, l.getD 1 0, l.getD 2 0⟩
/-- What words are, of which the first is a kind's: P3.2's last words. -/
def ofWords (k : Int) (l : List (List UInt8)) : Event × Int :=
  if bad l ≠ 0 then (zero, bad l) else if 8 ≤ (vals l).getD 0 0 ∨ 16 ≤ (vals l).getD 1 0 then (zero, 4) else (ofNums k (vals l), 0)
/-- Parse's answer: P3.2. -/
def parseR (s : List UInt8) : Event × Int :=
  if (Ln.wordsR s).2 ≠ 0 then (zero, 2)
  else if kindI ((Ln.wordsR s).1.getD 0 []) < 5 ∧ (Ln.wordsR s).1.length = 1 + many (kindI ((Ln.wordsR s).1.getD 0 []) : Int) then ofWords (kindI ((Ln.wordsR s).1.getD 0 []) : Int) (Ln.wordsR s).1.tail
  else (zero, 2)

theorem many_le (k : Int) : many k ≤ 3 := by unfold many; split <;> omega
theorem many_pos (k : Int) : 1 ≤ many k := by unfold many; split <;> omega
theorem hasKey_iff (k : Int) : hasKey k = true ↔ k = 1 ∨ k = 2 := by simp [hasKey]

theorem kindI_le (x : List UInt8) : kindI x ≤ 5 := List.findIdx_le_length
theorem word_lt (k : Nat) (hk : k < 5) : ∃ h : k < words.length, word k = words[k] := ⟨hk, by rw [word, List.getD_eq_getElem?_getD, List.getElem?_eq_getElem (show k < words.length from hk)]; rfl⟩
theorem kindI_word (k : Nat) (hk : k < 5) : kindI (word k) = k := by
  match k, hk with
  | 0, _ => decide
  | 1, _ => decide
  | 2, _ => decide
  | 3, _ => decide
  | 4, _ => decide
theorem word_kindI (x : List UInt8) (h : kindI x < 5) : word (kindI x) = x := by
  have h1 := List.findIdx_getElem (p := (· == x)) (w := h)
  obtain ⟨h2, e⟩ := word_lt (kindI x) h
  rw [e]
  exact eq_of_beq h1
theorem word_iff (x : List UInt8) (k : Nat) (hk : k < 5) : word k = x ↔ kindI x = k := by
  constructor
  · rintro rfl; exact kindI_word k hk
  · rintro rfl; exact word_kindI x hk
theorem word_good (k : Nat) (hk : k < 5) : word k ≠ [] ∧ ∀ b ∈ word k, Ln.sign b = true := by
  match k, hk with
  | 0, _ => decide
  | 1, _ => decide
  | 2, _ => decide
  | 3, _ => decide
  | 4, _ => decide
theorem word_len (k : Nat) (hk : k < 5) : (word k).length ≤ 6 := by
  match k, hk with
  | 0, _ => decide
  | 1, _ => decide
  | 2, _ => decide
  | 3, _ => decide
  | 4, _ => decide

theorem digs_good (n : Nat) : Nm.digs n ≠ [] ∧ ∀ b ∈ Nm.digs n, Ln.sign b = true := ⟨Nm.digs_ne n, fun b hb => Ln.sign_dig b (Nm.digs_all n b hb)⟩
theorem showS_good (n : Int) (h : Nm.isNum n = true) : Nm.showS n ≠ [] ∧ ∀ b ∈ Nm.showS n, Ln.sign b = true := by rw [Nm.showS_num n h]; exact digs_good _
theorem showS_whole (n : Int) (h : Nm.isNum n = true) : Nm.wholeR (Nm.showS n) = (n, 0) := by
  have hn := (Nm.isNum_iff n).1 h
  rw [Nm.showS_num n h, Nm.whole_digs n.toNat (by omega), Int.toNat_of_nonneg hn.1]
theorem showS_len (n : Int) : (Nm.showS n).length ≤ 10 := by
  unfold Nm.showS
  split
  · rename_i h
    have hn := (Nm.isNum_iff n).1 h
    exact Nm.digs_len10 _ (by omega)
  · simp

theorem bad_cons (x : List UInt8) (r : List (List UInt8)) (h : (Nm.wholeR x).2 = 0) : bad (x :: r) = bad r := by rw [bad, if_neg (by simpa using h)]
theorem bad_nums (l : List Int) (h : ∀ n ∈ l, Nm.isNum n = true) : bad (l.map Nm.showS) = 0 ∧ vals (l.map Nm.showS) = l := by
  induction l with
  | nil => exact ⟨rfl, rfl⟩
  | cons n l ih =>
    have hn := showS_whole n (h n List.mem_cons_self)
    have hi := ih (fun m hm => h m (List.mem_cons_of_mem _ hm))
    refine ⟨?_, ?_⟩
    · rw [List.map_cons, bad_cons _ _ (by rw [hn]), hi.1]
    · rw [vals, List.map_cons, List.map_cons, hn]
      rw [vals] at hi
      rw [hi.2]
theorem bad_zero (l : List (List UInt8)) (h : bad l = 0) : ∀ x ∈ l, (Nm.wholeR x).2 = 0 := by
  induction l with
  | nil => intro x hx; cases hx
  | cons y l ih =>
    by_cases hy : (Nm.wholeR y).2 = 0
    · rw [bad_cons _ _ hy] at h
      intro x hx
      rcases List.mem_cons.1 hx with e | e
      · rw [e]; exact hy
      · exact ih h x e
    · rw [bad, if_pos hy] at h
      exact absurd h hy
/-- Words that are numbers are those numbers' digits. -/
theorem vals_own (l : List (List UInt8)) (h : bad l = 0) : (∀ n ∈ vals l, Nm.isNum n = true) ∧ (vals l).map Nm.showS = l := by
  have hz := bad_zero l h
  clear h
  induction l with
  | nil => exact ⟨fun n hn => (List.not_mem_nil hn).elim, rfl⟩
  | cons x l ih =>
    obtain ⟨i1, i2⟩ := ih (fun y hy => hz y (List.mem_cons_of_mem _ hy))
    obtain ⟨n, hn, e1, e2⟩ := Nm.whole_own x (hz x List.mem_cons_self)
    have hN : Nm.isNum (n : Int) = true := (Nm.isNum_iff _).2 ⟨by omega, by omega⟩
    refine ⟨fun m hm => ?_, ?_⟩
    · rw [vals, List.map_cons] at hm
      rcases List.mem_cons.1 hm with e | e
      · rw [e, e1]; exact hN
      · exact i1 m e
    · rw [vals, List.map_cons, List.map_cons, e1, Nm.showS_num _ hN, Int.toNat_natCast, ← e2]
      rw [vals] at i2
      rw [i2]

theorem bad_take (l : List (List UInt8)) (k : Nat) (hk : k < l.length) (h : bad (l.take k) = 0) : bad (l.take (k + 1)) = (Nm.wholeR l[k]).2 ∧ ((Nm.wholeR l[k]).2 ≠ 0 → bad l = (Nm.wholeR l[k]).2) := by
  induction l generalizing k with
  | nil => simp at hk
  | cons x l ih =>
    cases k with
    | zero =>
      by_cases hx : (Nm.wholeR x).2 = 0
      · exact ⟨by simp [bad, hx], fun e => absurd hx e⟩
      · exact ⟨by simp [bad, hx], fun _ => by simp [bad, hx]⟩
    | succ k =>
      rw [List.take_succ_cons] at h
      by_cases hx : (Nm.wholeR x).2 = 0
      · rw [bad_cons _ _ hx] at h
        rw [List.take_succ_cons, bad_cons _ _ hx, bad_cons _ _ hx]
        exact ih k (by simpa using hk) h
      · rw [bad, if_pos hx] at h
        exact absurd h hx
theorem vals_take (l : List (List UInt8)) (k : Nat) (hk : k < l.length) : vals (l.take (k + 1)) = vals (l.take k) ++ [(Nm.wholeR l[k]).1] := by
  rw [List.take_succ_eq_append_getElem hk, vals, vals, List.map_append]
  rfl
theorem vals_len (l : List (List UInt8)) : (vals l).length = l.length := by simp [vals]

/-- A line of a kind's word and of words behind it. -/
theorem parse_line (k : Nat) (hk : k < 5) (l : List (List UInt8)) (hl : l.length = many (k : Int)) (hg : ∀ x ∈ l, x ≠ [] ∧ ∀ b ∈ x, Ln.sign b = true) : parseR (Ln.spaced (word k :: l)) = ofWords (k : Int) l := by
  have h3 := many_le (k : Int)
  have hw := Ln.wordsR_spaced (word k :: l) (by simp) (by simp; omega) (fun x hx => by
    rcases List.mem_cons.1 hx with e | e
    · rw [e]; exact word_good k hk
    · exact hg x e)
  have e0 : (word k :: l).getD 0 [] = word k := rfl
  unfold parseR
  rw [hw]
  simp only [e0, kindI_word k hk]
  rw [if_neg (by simp), if_pos ⟨hk, by simp; omega⟩]
  rfl

theorem right_iff (e : Event) : right e = true ↔ 0 ≤ e.kind ∧ e.kind < 5 ∧ 0 ≤ e.session ∧ e.session < 8 ∧ (if hasKey e.kind = true then 0 ≤ e.key ∧ e.key < 16 ∧ Nm.isNum e.value = true else e.key = 0 ∧ e.value = 0) := by simp [right]
theorem nums_len (e : Event) : (nums e).length = many e.kind := by unfold nums many; split <;> rfl
theorem nums_good (e : Event) (h : right e = true) : ∀ n ∈ nums e, Nm.isNum n = true := by
  obtain ⟨_, _, h3, h4, h5⟩ := (right_iff e).1 h
  intro n hn
  unfold nums at hn
  have hs : Nm.isNum e.session = true := (Nm.isNum_iff _).2 ⟨h3, by omega⟩
  split at hn
  · rename_i hk
    rw [if_pos hk] at h5
    simp only [List.mem_cons, List.not_mem_nil, or_false] at hn
    rcases hn with rfl | rfl | rfl
    · exact hs
    · exact (Nm.isNum_iff _).2 ⟨h5.1, by omega⟩
    · exact h5.2.2
  · rw [List.mem_singleton.1 hn]; exact hs

/-- What is shown is parsed as it was: P3.3. -/
theorem parse_back (e : Event) (h : right e = true) : parseR (showR e).1 = (e, 0) := by
  obtain ⟨h1, h2, h3, h4, h5⟩ := (right_iff e).1 h
  have hk : ((e.kind.toNat : Nat) : Int) = e.kind := Int.toNat_of_nonneg h1
  rw [showR, if_pos h]
  show parseR (Ln.spaced (word e.kind.toNat :: (nums e).map Nm.showS)) = _
  rw [parse_line e.kind.toNat (by omega) _ (by rw [List.length_map, nums_len, hk]) (fun x hx => by
    obtain ⟨n, hn, rfl⟩ := List.mem_map.1 hx
    exact showS_good n (nums_good e h n hn))]
  obtain ⟨b1, b2⟩ := bad_nums (nums e) (nums_good e h)
  rw [ofWords, b1, b2, hk, if_neg (by simp)]
  obtain ⟨kind, session, key, value⟩ := e
  simp only at *
  unfold nums
  by_cases hy : hasKey kind = true
  · simp only [hy, if_true] at h5 ⊢
    rw [if_neg]
    · rfl
    · show ¬ (8 ≤ session ∨ 16 ≤ key)
      omega
  · simp only [hy] at h5 ⊢
    obtain ⟨rfl, rfl⟩ := h5
    rw [if_neg]
    · rfl
    · show ¬ (8 ≤ session ∨ (16 : Int) ≤ 0)
      omega

theorem ofWords_err (k : Int) (l : List (List UInt8)) (h : (ofWords k l).2 ≠ 0) : (ofWords k l).1 = zero := by
  unfold ofWords at h ⊢
  split
  · rfl
  · split
    · rfl
    · rename_i h1 h2
      rw [if_neg h1, if_neg h2] at h
      exact absurd rfl h
theorem parse_err (s : List UInt8) (h : (parseR s).2 ≠ 0) : (parseR s).1 = zero := by
  unfold parseR at h ⊢
  split
  · rfl
  · rename_i h1
    rw [if_neg h1] at h
    split
    · rename_i h2
      rw [if_pos h2] at h
      exact ofWords_err _ _ h
    · rfl

theorem ofWords_ok (k : Int) (l : List (List UInt8)) (h : (ofWords k l).2 = 0) : bad l = 0 ∧ (vals l).getD 0 0 < 8 ∧ (vals l).getD 1 0 < 16 ∧ ofWords k l = (ofNums k (vals l), 0) := by
  unfold ofWords at h ⊢
  split
  · rename_i h1
    rw [if_pos h1] at h
    exact absurd h h1
  · rename_i h1
    rw [if_neg h1] at h
    split
    · rename_i h2
      rw [if_pos h2] at h
      cases h
    · rename_i h2
      exact ⟨by simpa using h1, by omega, by omega, rfl⟩

/-- What is parsed may be, and is shown as it was: P3.3. -/
theorem parse_own (s : List UInt8) (h : (parseR s).2 = 0) : right (parseR s).1 = true ∧ showR (parseR s).1 = (s, 0) := by
  by_cases h1 : (Ln.wordsR s).2 = 0
  · obtain ⟨hsp, hlen, hall⟩ := Ln.wordsR_is s h1
    have h1' : ¬ (Ln.wordsR s).2 ≠ 0 := by simpa using h1
    obtain ⟨l, hl⟩ : ∃ l, l = (Ln.wordsR s).1 := ⟨_, rfl⟩
    rw [← hl] at hsp hlen hall
    unfold parseR at h ⊢
    rw [if_neg h1', ← hl] at h ⊢
    obtain ⟨x, r, rfl⟩ : ∃ x r, l = x :: r := by
      cases l with
      | nil => simp at hlen
      | cons x r => exact ⟨x, r, rfl⟩
    have e0 : (x :: r).getD 0 [] = x := rfl
    simp only [e0, List.tail_cons] at h ⊢
    by_cases h2 : kindI x < 5 ∧ (x :: r).length = 1 + many (kindI x : Int)
    · rw [if_pos h2] at h ⊢
      obtain ⟨b, v0, v1, e⟩ := ofWords_ok _ _ h
      obtain ⟨o1, o2⟩ := vals_own r b
      have hr : r.length = many (kindI x : Int) := by have := h2.2; simp at this; omega
      rw [e]
      have hv := vals_len r
      obtain ⟨v, hvv⟩ : ∃ v, v = vals r := ⟨_, rfl⟩
      rw [← hvv] at v0 v1 o1 o2 hv ⊢
      have hx := word_kindI x h2.1
      have key : right (ofNums (kindI x : Int) v) = true ∧ nums (ofNums (kindI x : Int) v) = v := by
        unfold many at hr
        by_cases hk : hasKey (kindI x : Int) = true
        · rw [if_pos hk] at hr
          match v, hv.trans hr with
          | [a, b, c], _ =>
            have ha := (Nm.isNum_iff a).1 (o1 a (by simp))
            have hb := (Nm.isNum_iff b).1 (o1 b (by simp))
            have hc := o1 c (by simp)
            simp only [List.getD_cons_zero, List.getD_cons_succ] at v0 v1
            refine ⟨(right_iff _).2 ⟨?_, ?_, ha.1, v0, ?_⟩, ?_⟩
            · show (0 : Int) ≤ (kindI x : Int); omega
            · show ((kindI x : Nat) : Int) < 5; omega
            · show (if hasKey (kindI x : Int) = true then 0 ≤ b ∧ b < 16 ∧ Nm.isNum c = true else b = 0 ∧ c = 0)
              rw [if_pos hk]
              exact ⟨hb.1, v1, hc⟩
            · show (if hasKey (kindI x : Int) = true then [a, b, c] else [a]) = _
              rw [if_pos hk]
        · rw [if_neg hk] at hr
          match v, hv.trans hr with
          | [a], _ =>
            have ha := (Nm.isNum_iff a).1 (o1 a (by simp))
            simp only [List.getD_cons_zero] at v0
            refine ⟨(right_iff _).2 ⟨?_, ?_, ha.1, v0, ?_⟩, ?_⟩
            · show (0 : Int) ≤ (kindI x : Int); omega
            · show ((kindI x : Nat) : Int) < 5; omega
            · show (if hasKey (kindI x : Int) = true then _ else (0 : Int) = 0 ∧ (0 : Int) = 0)
              rw [if_neg hk]
              exact ⟨rfl, rfl⟩
            · show (if hasKey (kindI x : Int) = true then _ else [a]) = _
              rw [if_neg hk]
      refine ⟨key.1, ?_⟩
      show showR (ofNums (kindI x : Int) v) = _
      rw [showR, if_pos key.1, parts, key.2, o2]
      have : word ((ofNums (kindI x : Int) v).kind).toNat = x := hx
      rw [this, hsp]
    · rw [if_neg h2] at h
      cases h
  · rw [parseR, if_pos h1] at h
    cases h

/-- The numbers of an event, by their places. -/
def arr (e : Event) (k : Nat) : Int := [e.session, e.key, e.value].getD k 0
theorem parts_len (e : Event) : (parts e).length = 1 + many e.kind := by rw [parts, List.length_cons, List.length_map, nums_len]; omega
theorem parts_zero (e : Event) : Ln.spaced ((parts e).take 1) = word e.kind.toNat := by simp [parts, Ln.spaced_one]
theorem parts_next (e : Event) (k : Nat) (hk : k < many e.kind) : Ln.spaced ((parts e).take (k + 2)) = Ln.spaced ((parts e).take (k + 1)) ++ ([32] ++ Nm.showS (arr e k)) := by
  have hl := parts_len e
  have h1 : k + 1 < (parts e).length := by omega
  rw [Ln.spaced_take (parts e) (k + 1) h1, if_neg (by omega)]
  have h2 : (parts e)[k + 1] = Nm.showS (arr e k) := by
    unfold parts nums arr many at *
    by_cases hy : hasKey e.kind = true
    · simp only [hy, if_true] at hk ⊢
      obtain rfl | rfl | rfl : k = 0 ∨ k = 1 ∨ k = 2 := by omega
      all_goals rfl
    · simp only [hy] at hk ⊢
      obtain rfl : k = 0 := by simp at hk; exact hk
      rfl
  rw [h2]
theorem parts_all (e : Event) : (parts e).take (many e.kind + 1) = parts e := List.take_of_length_le (by rw [parts_len]; omega)

theorem spaced2 (a b : List UInt8) : Ln.spaced [a, b] = a ++ ([32] ++ b) := by simp [Ln.spaced]
theorem spaced4 (a b c d : List UInt8) : Ln.spaced [a, b, c, d] = a ++ ([32] ++ (b ++ ([32] ++ (c ++ ([32] ++ d))))) := by simp [Ln.spaced]

/-- A write's line, by its words. -/
def writeL (a b c : List UInt8) : List UInt8 := [119, 114, 105, 116, 101, 32] ++ a ++ [32] ++ b ++ [32] ++ c
theorem writeL_spaced (a b c : List UInt8) : writeL a b c = Ln.spaced (word 2 :: [a, b, c]) := by
  rw [spaced4, writeL, show word 2 = [119, 114, 105, 116, 101] from rfl]
  simp
theorem write_line (a b c : Int) (ha : Nm.isNum a = true) (hb : Nm.isNum b = true) (hc : Nm.isNum c = true) : parseR (writeL (Nm.showS a) (Nm.showS b) (Nm.showS c)) = if 8 ≤ a ∨ 16 ≤ b then (zero, 4) else (⟨2, a, b, c⟩, 0) := by
  have hall : ∀ n ∈ [a, b, c], Nm.isNum n = true := fun n hn => by
    simp only [List.mem_cons, List.not_mem_nil, or_false] at hn
    rcases hn with rfl | rfl | rfl
    · exact ha
    · exact hb
    · exact hc
  obtain ⟨b1, b2⟩ := bad_nums [a, b, c] hall
  rw [writeL_spaced, show [Nm.showS a, Nm.showS b, Nm.showS c] = [a, b, c].map Nm.showS from rfl, parse_line 2 (by omega) _ rfl (fun x hx => by
    obtain ⟨n, hn, rfl⟩ := List.mem_map.1 hx
    exact showS_good n (hall n hn)), ofWords, b1, b2, if_neg (by simp)]
  rfl
theorem write_zero (a b c : Int) (ha : Nm.isNum a = true) (hb : Nm.isNum b = true) (hc : Nm.isNum c = true) : parseR (writeL (Nm.showS a) (48 :: Nm.showS b) (Nm.showS c)) = (zero, 2) := by
  have hz : Nm.wholeR (48 :: Nm.showS b) = (0, 2) := by rw [Nm.showS_num b hb]; exact Nm.whole_zero _
  rw [writeL_spaced, parse_line 2 (by omega) _ rfl (fun x hx => by
    simp only [List.mem_cons, List.not_mem_nil, or_false] at hx
    rcases hx with rfl | rfl | rfl
    · exact showS_good a ha
    · refine ⟨by simp, fun y hy => ?_⟩
      rcases List.mem_cons.1 hy with e | e
      · rw [e]; decide
      · exact (showS_good b hb).2 y e
    · exact showS_good c hc)]
  have hbad : bad [Nm.showS a, 48 :: Nm.showS b, Nm.showS c] = 2 := by
    rw [bad_cons _ _ (by rw [showS_whole a ha]), bad, hz]
    rfl
  rw [ofWords, hbad, if_pos (by decide)]
theorem right_write (a b c : Int) (h : ¬ (Nm.isNum a = true ∧ Nm.isNum b = true ∧ Nm.isNum c = true)) : right ⟨2, a, b, c⟩ = false := by
  rw [← Bool.not_eq_true, right_iff]
  rintro ⟨_, _, h3, h4, h5⟩
  rw [if_pos (show hasKey 2 = true from by decide)] at h5
  simp only at h3 h4 h5
  exact h ⟨(Nm.isNum_iff _).2 ⟨h3, by omega⟩, (Nm.isNum_iff _).2 ⟨h5.1, by omega⟩, h5.2.2⟩

theorem showR_len (e : Event) : (showR e).1.length ≤ 40 := by
  unfold showR
  split
  · rename_i h
    obtain ⟨h1, h2, _⟩ := (right_iff e).1 h
    have hw := word_len e.kind.toNat (by omega)
    show (Ln.spaced (parts e)).length ≤ 40
    unfold parts nums
    have a := showS_len e.session
    have b := showS_len e.key
    have c := showS_len e.value
    split
    · simp [Ln.spaced]
      omega
    · simp [Ln.spaced]
      omega
  · simp
end Ev
end Go.Proofs.YtfjamdpgbbnmcaaGreatDoor
/-
  Words for events in memory and for the kinds' words; what event.hasKey, numbersOf, isNumber, Right and kindOf answer, for every input: Ev.hasKey, Ev.many, Nm.isNum, Ev.right, Ev.kindI; what was in memory stays as it was.
  Conditions: kindOf: the variable that lists the kinds' words holds them.
-/
set_option maxRecDepth 4000
namespace Go.Proofs.YtfjamdpgbbnmcaaGreatDoor
open Go.RowKit

/-- An event as a value. -/
def evV (e : Ev.Event) : Value := .agg #[.int .i64 e.kind, .int .i64 e.session, .int .i64 e.key, .int .i64 e.value]
/-- The variable holds the kinds' words. -/
def KW (w : World) : Prop := ∀ k, k < 5 → w.cell? ⟨0, k, none⟩ = some (.string (Ln.bs (Ev.word k)))
theorem KW.below {w w' : World} (h : KW w) (hb : Below w.heap.size w w') : KW w' := fun k hk => (hb.cell (World.block_lt_of_cell? w _ (h k hk))).trans (h k hk)
/-- An event, and a number beside it. -/
def RetEv (w : World) (r : Ev.Event × Int) (e : Ending) (w' : World) : Prop := e = .returned (.tuple #[evV r.1, .int .i64 r.2]) ∧ Below w.heap.size w w'

theorem hasKey_at (k : Int) (w : World) :
    Calls Tryz.prog 84 #[.int .i64 k] w fun e w' => e = .returned (.bool (Ev.hasKey k)) ∧ w = w' := by
  by_cases h : k = 1
  · have HR : Hid (Ev.hasKey k = true) := by rw [Hid, Ev.hasKey_iff]; exact .inl h
    have hb : (k == 1) = true := by rw [beq_iff_eq]; exact h
    clear h
    go_enter Tryz.func84, Tryz.ntmps84
    go_wp2
    go_ret
    exact ⟨ret_bool HR.out.symm, rfl⟩
  · have HR : Hid ((k == 2) = Ev.hasKey k) := by
      rw [Hid, Ev.hasKey, decide_eq_false h, Bool.false_or]; rfl
    have hb : (k == 1) = false := by rw [beq_eq_false_iff_ne]; exact h
    clear h
    go_enter Tryz.func84, Tryz.ntmps84
    go_wp2
    go_ret
    exact ⟨ret_bool HR.out, rfl⟩

theorem numbersOf_at (k : Int) (w : World) :
    Calls Tryz.prog 67 #[.int .i64 k] w fun e w' => e = .returned (.int .i64 (Ev.many k : Int)) ∧ w = w' := by
  go_enter Tryz.func67, Tryz.ntmps67
  go_wp2_with fail
  refine (hasKey_at k w).mono ?_
  rintro e w' ⟨rfl, rfl⟩
  cases h : Ev.hasKey k with
  | true =>
    have HR : Hid (Ev.many k = 3) := by rw [Hid, Ev.many, if_pos h]
    clear h
    go_wp2
    go_ret
    exact ⟨ret_int (by rw [HR.out]; rfl), rfl⟩
  | false =>
    have HR : Hid (Ev.many k = 1) := by rw [Hid, Ev.many, if_neg (by rw [h]; simp)]
    clear h
    go_wp2
    go_ret
    exact ⟨ret_int (by rw [HR.out]; rfl), rfl⟩

theorem isNumber_at (n : Int) (w : World) : Calls Tryz.prog 85 #[.int .i64 n] w (RetBool w (Nm.isNum n)) := by
  go_enter Tryz.func85, Tryz.ntmps85
  go_wp2_with fail
  refine (show_any n w).mono ?_
  rintro e w1 ⟨rfl, hg⟩
  have HB := Lib.hid hg
  clear hg
  cases h : Nm.isNum n with
  | true =>
    have he : Nm.showE n = 0 := if_pos h
    have HR := Lib.hid h
    rw [he]
    clear h he
    go_wp2
    go_ret
    exact ⟨ret_bool (by rw [HR.out]), HB.out⟩
  | false =>
    have he : Nm.showE n = 1 := if_neg (by rw [h]; simp)
    have HR := Lib.hid h
    rw [he]
    clear h he
    go_wp2
    go_ret
    exact ⟨ret_bool (by rw [HR.out]), HB.out⟩

theorem evRight_at (x : Ev.Event) (w : World) : Calls Tryz.prog 66 #[evV x] w (RetBool w (Ev.right x)) := by
  obtain ⟨a, b, c, d⟩ := x
  unfold evV
  dsimp only
  by_cases h1 : 0 ≤ a ∧ a < 5 ∧ 0 ≤ b ∧ b < 8
  · obtain ⟨h1, h2, h3, h4⟩ := h1
    have q1 : decide (a < 0) = false := by simp; omega
    have q2 : decide (5 ≤ a) = false := by simp; omega
    have q3 : decide (b < 0) = false := by simp; omega
    have q4 : decide (8 ≤ b) = false := by simp; omega
    have HR : Hid (Ev.right ⟨a, b, c, d⟩ = decide (if Ev.hasKey a = true then 0 ≤ c ∧ c < 16 ∧ Nm.isNum d = true else c = 0 ∧ d = 0)) := by
      rw [Hid, Ev.right]
      simp only [h1, h2, h3, h4, true_and]
    clear h1 h2 h3 h4
    go_enter Tryz.func66, Tryz.ntmps66
    go_wp2_with fail
    refine (hasKey_at _ _).mono ?_
    rintro e w' ⟨rfl, rfl⟩
    cases hk : Ev.hasKey a with
    | true =>
      have HR2 : Hid (Ev.right ⟨a, b, c, d⟩ = decide (0 ≤ c ∧ c < 16 ∧ Nm.isNum d = true)) := by rw [Hid, HR.out]; simp only [hk, if_true]
      clear HR hk
      by_cases hc : 0 ≤ c ∧ c < 16
      · have q5 : decide (0 ≤ c) = true := by simp; omega
        have q6 : decide (c < 16) = true := by simp; omega
        have HR3 : Hid (Ev.right ⟨a, b, c, d⟩ = Nm.isNum d) := by rw [Hid, HR2.out]; simp [hc.1, hc.2]
        clear HR2 hc
        go_wp2_with fail
        refine (isNumber_at _ _).mono ?_
        rintro e w1 ⟨rfl, hb⟩
        have HB := Lib.hid (below_all ((Below.refl _ w).alloc (Nat.le_refl _) _) hb)
        clear hb
        go_wp2
        go_ret
        exact ⟨ret_bool (by rw [HR3.out]), HB.out⟩
      · have HR3 : Hid (Ev.right ⟨a, b, c, d⟩ = false) := by
          rw [Hid, HR2.out, decide_eq_false_iff_not]
          exact fun h => hc ⟨h.1, h.2.1⟩
        by_cases hc0 : 0 ≤ c
        · have q5 : decide (0 ≤ c) = true := by simp; omega
          have q6 : decide (c < 16) = false := by simp; omega
          clear HR2 hc hc0
          go_wp2_with fail
          go_ret
          exact ⟨ret_bool (by rw [HR3.out]), (Below.refl _ w).alloc (Nat.le_refl _) _⟩
        · have q5 : decide (0 ≤ c) = false := by simp; omega
          clear HR2 hc hc0
          go_wp2_with fail
          go_ret
          exact ⟨ret_bool (by rw [HR3.out]), (Below.refl _ w).alloc (Nat.le_refl _) _⟩
    | false =>
      have HR2 : Hid (Ev.right ⟨a, b, c, d⟩ = decide (c = 0 ∧ d = 0)) := by rw [Hid, HR.out]; simp only [hk, if_false, Bool.false_eq_true]
      clear HR hk
      by_cases hc : c = 0
      · have q5 : (c == 0) = true := by rw [beq_iff_eq]; exact hc
        have HR3 : Hid (Ev.right ⟨a, b, c, d⟩ = (d == 0)) := by rw [Hid, HR2.out]; simp only [hc, true_and]; rfl
        clear HR2 hc
        go_wp2_with fail
        go_ret
        exact ⟨ret_bool (by rw [HR3.out]), (Below.refl _ w).alloc (Nat.le_refl _) _⟩
      · have q5 : (c == 0) = false := by rw [beq_eq_false_iff_ne]; exact hc
        have HR3 : Hid (Ev.right ⟨a, b, c, d⟩ = false) := by rw [Hid, HR2.out]; simp [hc]
        clear HR2 hc
        go_wp2_with fail
        go_ret
        exact ⟨ret_bool (by rw [HR3.out]), (Below.refl _ w).alloc (Nat.le_refl _) _⟩
  · have HR : Hid (Ev.right ⟨a, b, c, d⟩ = false) := by
      rw [Hid, Ev.right, decide_eq_false_iff_not]
      exact fun h => h1 ⟨h.1, h.2.1, h.2.2.1, h.2.2.2.1⟩
    have key : decide (a < 0) = true ∨ decide (a < 0) = false ∧ (decide (5 ≤ a) = true ∨ decide (5 ≤ a) = false ∧ (decide (b < 0) = true ∨ decide (b < 0) = false ∧ decide (8 ≤ b) = true)) := by
      simp only [decide_eq_true_eq, decide_eq_false_iff_not]; omega
    clear h1
    rcases key with q1 | ⟨q1, q2 | ⟨q2, q3 | ⟨q3, q4⟩⟩⟩
    all_goals
      go_enter Tryz.func66, Tryz.ntmps66
      go_wp2_with fail
      go_ret
      exact ⟨ret_bool (by rw [HR.out]), (Below.refl _ w).alloc (Nat.le_refl _) _⟩
end Go.Proofs.YtfjamdpgbbnmcaaGreatDoor
/-
  What event.kindOf and event.Show answer, for every input: Ev.kindI and Ev.showR; what was in memory stays as it was.
  Conditions: the variable that lists the kinds' words holds them.
-/
set_option maxRecDepth 4000
namespace Go.Proofs.YtfjamdpgbbnmcaaGreatDoor
open Go.RowKit

/-- The array of the kinds' words, as a value. -/
def wordsV : Value := .agg #[.string (Ln.bs (Ev.word 0)), .string (Ln.bs (Ev.word 1)), .string (Ln.bs (Ev.word 2)), .string (Ln.bs (Ev.word 3)), .string (Ln.bs (Ev.word 4))]
theorem index_words (k : Nat) (hk : k < 5) (w : World) : (Instr.index 124 wordsV (.int .i64 (k : Int))).run Tryz.prog w = .ok (.string (Ln.bs (Ev.word k))) w := by
  obtain rfl | rfl | rfl | rfl | rfl : k = 0 ∨ k = 1 ∨ k = 2 ∨ k = 3 ∨ k = 4 := by omega
  all_goals kernel_rfl

theorem kindOf_at (x : List UInt8) (w : World) (hK : KW w) :
    Calls Tryz.prog 90 #[.string (Ln.bs x)] w fun e w' => e = .returned (.tuple #[.int .i64 (Ev.kindN x), .bool (Ev.kindB x)]) ∧ w = w' := by
  have c0 := hK 0 (by omega)
  have c1 := hK 1 (by omega)
  have c2 := hK 2 (by omega)
  have c3 := hK 3 (by omega)
  have c4 := hK 4 (by omega)
  have H5 := Lib.hid (Ev.kindI_le x)
  clear hK
  go_enter Tryz.func90, Tryz.ntmps90
  go_wp2
  go_loop [7] (fun i => ∃ k : Nat, k ≤ 5 ∧ i = .int .i64 k ∧ Hid (k ≤ Ev.kindI x)) (fun i => 5 - (intOf i).toNat)
  case atStart => exact ⟨0, Nat.zero_le _, rfl, Nat.zero_le _⟩
  case round =>
    obtain ⟨k, hk, rfl, hx⟩ := hrel
    by_cases hlt : k < 5
    · have hrun := index_words k hlt w
      unfold wordsV at hrun
      by_cases he : Ev.word k = x
      · have HR : Hid (Ev.kindI x = k) := (Ev.word_iff x k hlt).1 he
        have hq : ((Ln.bs (Ev.word k)).toList == (Ln.bs x).toList) = true := by rw [bs_eqb]; simp [he]
        clear he
        go_wp2
        go_ret2
        exact ⟨by rw [Ev.kindN, Ev.kindB, HR.out, if_pos hlt, decide_eq_true hlt]; rfl, rfl⟩
      · have HR : Hid (k + 1 ≤ Ev.kindI x) := by
          have h1 := hx.out
          have h2 : Ev.kindI x ≠ k := fun h => he ((Ev.word_iff x k hlt).2 h)
          rw [Hid]
          omega
        have hq : ((Ln.bs (Ev.word k)).toList == (Ln.bs x).toList) = false := by rw [bs_eqb]; simp [he]
        clear he
        go_wp2
        go_round
        case rel => exact ⟨k + 1, by omega, by go_num, HR⟩
        case measure => simp [intOf]; omega
    · have HR : Hid (¬ Ev.kindI x < 5) := by
        have h1 := hx.out
        rw [Hid]
        omega
      go_wp2
      go_ret2
      exact ⟨by rw [Ev.kindN, Ev.kindB, if_neg HR.out, decide_eq_false HR.out]; rfl, rfl⟩

/-- The cells of a new block. -/
theorem new_cell (w : World) (cs : Array Value) (t : TypeId) (k : Nat) (v : Value) (h : cs[k]? = some v) : (w.alloc (.cells cs t)).cell? ⟨w.heap.size, k, none⟩ = some v := by
  rw [cell_of_row _ _ _ cs t (0, 0) (heap_alloc_new w _)]
  exact h
theorem alloc_below (w : World) (o : Obj) : Below w.heap.size w (w.alloc o) := (Below.refl _ w).alloc (Nat.le_refl _) o
theorem below_new {w w1 : World} {o : Obj} (h : Below (w.alloc o).heap.size (w.alloc o) w1) : Below w.heap.size w w1 := below_all ((Below.refl _ w).alloc (Nat.le_refl _) o) h
theorem size_new (w : World) (o : Obj) : (w.alloc o).heap.size = w.heap.size + 1 := by simp

theorem evShow_at (x : Ev.Event) (w : World) (hK : KW w) : Calls Tryz.prog 40 #[evV x] w (RetStr w (Ev.showR x)) := by
  have HK := Lib.hid (KW.below hK ((Below.refl _ w).alloc (Nat.le_refl _) (.cells #[.int .i64 x.kind, .int .i64 x.session, .int .i64 x.key, .int .i64 x.value] 74)))
  clear hK
  unfold evV
  go_enter Tryz.func40, Tryz.ntmps40
  go_wp2_with fail
  refine (evRight_at x _).mono ?_
  rintro e w1 ⟨rfl, hb1⟩
  have hx0 : w1.cell? ⟨w.heap.size, 0, none⟩ = some (.int .i64 x.kind) := (hb1.cell (by simp)).trans (new_cell w _ _ 0 _ rfl)
  have hx1 : w1.cell? ⟨w.heap.size, 1, none⟩ = some (.int .i64 x.session) := (hb1.cell (by simp)).trans (new_cell w _ _ 1 _ rfl)
  have hx2 : w1.cell? ⟨w.heap.size, 2, none⟩ = some (.int .i64 x.key) := (hb1.cell (by simp)).trans (new_cell w _ _ 2 _ rfl)
  have hx3 : w1.cell? ⟨w.heap.size, 3, none⟩ = some (.int .i64 x.value) := (hb1.cell (by simp)).trans (new_cell w _ _ 3 _ rfl)
  have HK1 := Lib.hid (HK.out.below hb1)
  have HB1 := Lib.hid (below_new hb1)
  clear hb1 HK
  cases hr : Ev.right x with
  | false =>
    have HR : Hid (Ev.showR x = ([], 1)) := by rw [Hid, Ev.showR, if_neg (by rw [hr]; simp)]
    clear hr
    go_wp2_with fail
    go_ret2
    exact RetStr.mk _ _ (by rw [HR.out]) (by rw [HR.out]; rfl) HB1.out
  | true =>
    have HR : Hid (Ev.showR x = (Ln.spaced (Ev.parts x), 0)) := by rw [Hid, Ev.showR, if_pos hr]
    obtain ⟨a1, a2, _⟩ := (Ev.right_iff x).1 hr
    obtain ⟨n, hn⟩ := Int.eq_ofNat_of_zero_le a1
    have hn5 : n < 5 := by omega
    have hw := HK1.out n hn5
    rw [hn] at hx0
    have hy0 : ∀ o, (w1.alloc o).cell? ⟨w.heap.size, 0, none⟩ = some (.int .i64 (n : Int)) := fun o => (((Below.refl _ w1).alloc (Nat.le_refl _) o).cell (World.block_lt_of_cell? w1 _ hx0)).trans hx0
    have HN := Lib.hid hn
    have hm1 := Ev.many_pos (n : Int)
    have hm3 := Ev.many_le (n : Int)
    clear hr a1 a2 hn
    go_wp2_with fail
    refine (numbersOf_at _ _).mono ?_
    rintro e w' ⟨rfl, rfl⟩
    have HC : Hid (∀ k, k < 3 → (w1.alloc (.cells #[.int .i64 x.session, .int .i64 x.key, .int .i64 x.value] 125)).cell? ⟨w1.heap.size, k, none⟩ = some (.int .i64 (Ev.arr x k))) := fun k hk => by
      obtain rfl | rfl | rfl : k = 0 ∨ k = 1 ∨ k = 2 := by omega
      all_goals exact new_cell w1 _ _ _ _ rfl
    have HZ : Hid (∀ k, (Ln.spaced ((Ev.parts x).take k)).length ≤ 40) := fun k => by
      have h1 := Ev.showR_len x
      rw [HR.out] at h1
      exact Nat.le_trans (Ln.spaced_take_le _ k) h1
    have HM : Hid (Ev.many x.kind = Ev.many (n : Int)) := by rw [Hid, HN.out]
    have HB2 := Lib.hid (below_all HB1.out ((Below.refl _ w1).alloc (Nat.le_refl _) (.cells #[.int .i64 x.session, .int .i64 x.key, .int .i64 x.value] 125)))
    have hsz : w1.heap.size < (w1.alloc (.cells #[.int .i64 x.session, .int .i64 x.key, .int .i64 x.value] 125)).heap.size := by simp
    generalize Ev.many (n : Int) = m at *
    generalize hW2 : w1.alloc (.cells #[.int .i64 x.session, .int .i64 x.key, .int .i64 x.value] 125) = w2 at *
    clear hx0 hx1 hx2 hx3 hy0 hw hW2
    go_wp2_with fail
    go_loopw [4, 26] (fun t i wr => ∃ k : Nat, k ≤ m ∧ i = .int .i64 k ∧ t = .string (Ln.bs (Ln.spaced ((Ev.parts x).take (k + 1)))) ∧ Below w2.heap.size w2 wr) (fun _ i _ => m - (intOf i).toNat)
    case atStart => exact ⟨0, Nat.zero_le _, rfl, by rw [Ev.parts_zero, HN.out]; rfl, Below.refl _ _⟩
    case round =>
      obtain ⟨k, hk, rfl, rfl, hb⟩ := hrel
      have HB := Lib.hid hb
      by_cases hlt : k < m
      · have hc : wr.cell? ⟨w1.heap.size, k, none⟩ = some (.int .i64 (Ev.arr x k)) := (hb.cell hsz).trans (HC.out k (by omega))
        have hk3 : (k : Int) < 3 := by omega
        clear hb
        have HNX := Lib.hid (Ev.parts_next x k (by rw [HM.out]; exact hlt))
        have hz1 := HZ.out (k + 1)
        have hz2 := HZ.out (k + 2)
        rw [HNX.out, List.length_append, List.length_append] at hz2
        generalize Ln.spaced ((Ev.parts x).take (k + 1)) = t at *
        go_wp2_with fail
        refine (show_any _ _).mono ?_
        rintro e w3 ⟨rfl, hb3⟩
        have HB3 := Lib.hid (HB.out.trans (hb3.mono HB.out.size))
        rw [show (⟨(Nm.showS (Ev.arr x k)).toArray⟩ : ByteArray) = Ln.bs (Nm.showS (Ev.arr x k)) from rfl]
        generalize Nm.showS (Ev.arr x k) = d at *
        generalize Nm.showE (Ev.arr x k) = q
        rw [List.length_singleton] at hz2
        have hs1 : (Ln.bs t).size = t.length := Ln.bs_size t
        have hs2 : (Ln.bs d).size = d.length := Ln.bs_size d
        have hv1 : ¬ 9223372036854775807 < 1 + (Ln.bs d).size := by omega
        have hv2 : ¬ 9223372036854775807 < (Ln.bs t).size + (1 + (Ln.bs d).size) := by omega
        clear hb3 hs1 hs2
        go_wp2_with fail
        go_roundw
        case rel =>
          refine ⟨k + 1, by omega, by go_num, ?_, HB3.out⟩
          rw [show k + 1 + 1 = k + 2 from rfl, HNX.out, ← bs_add, ← bs_add]
          rfl
        case measure => simp [intOf]; omega
      · obtain rfl : k = m := by omega
        have HE : Hid (Ln.spaced ((Ev.parts x).take (k + 1)) = (Ev.showR x).1) := by rw [Hid, HR.out, ← HM.out, Ev.parts_all]
        clear hb
        go_wp2_with fail
        go_ret2
        exact RetStr.mk _ _ (by rw [HR.out]) (by rw [HE.out]) (below_all HB2.out HB.out)
end Go.Proofs.YtfjamdpgbbnmcaaGreatDoor
/-
  Words for event.Parse: its result variable, and what it hands back out of it.
  Conditions: none beyond those that each theorem states.
-/
set_option maxRecDepth 4000
namespace Go.Proofs.YtfjamdpgbbnmcaaGreatDoor
open Go.RowKit

theorem zeros_frozen {w w1 : World} {cs : Array Value} {t : TypeId} (hb : Below (w.alloc (.cells cs t)).heap.size (w.alloc (.cells cs t)) w1) (k : Nat) : w1.frozen? ⟨w.heap.size, k, none⟩ = false := by
  have h : w1.heap[w.heap.size]? = some (.cells cs t (0, 0)) := (hb.block w.heap.size (by simp)).trans (heap_alloc_new w _)
  simp [World.frozen?, h]

theorem put_getD (l : List Int) (v : Int) (j k : Nat) (hl : l.length = k) : (l ++ [v]).getD j 0 = if j = k then v else l.getD j 0 := by
  rw [List.getD_eq_getElem?_getD, List.getD_eq_getElem?_getD, List.getElem?_append]
  split
  · rw [if_neg (by omega)]
  · split
    · subst hl
      rename_i h
      subst h
      simp
    · rw [List.getElem?_eq_none (by simp; omega), List.getElem?_eq_none (by omega)]
/-- One number more is there. -/
theorem three_put {l m : List Int} {k : Nat} {a b d v : Int} (h : a = l.getD 0 0 ∧ b = l.getD 1 0 ∧ d = l.getD 2 0) (hm : m = l ++ [v]) (hl : l.length = k) :
    (if 0 = k then v else a) = m.getD 0 0 ∧ (if 1 = k then v else b) = m.getD 1 0 ∧ (if 2 = k then v else d) = m.getD 2 0 := by
  rw [hm, put_getD l v 0 k hl, put_getD l v 1 k hl, put_getD l v 2 k hl, h.1, h.2.1, h.2.2]
  exact ⟨rfl, rfl, rfl⟩

/-- What the call's own result variable, block b, is known to be: four numbers that may be written. -/
structure Mine (w : World) (b : Nat) : Prop where
  c0 : w.cell? ⟨b, 0, none⟩ = some (.int .i64 0)
  c1 : w.cell? ⟨b, 1, none⟩ = some (.int .i64 0)
  c2 : w.cell? ⟨b, 2, none⟩ = some (.int .i64 0)
  c3 : w.cell? ⟨b, 3, none⟩ = some (.int .i64 0)
  f : ∀ k, w.frozen? ⟨b, k, none⟩ = false
theorem Mine.alloc {w : World} {b : Nat} (h : Mine w b) (o : Obj) : Mine (w.alloc o) b := by
  have hlt : b < w.heap.size := World.block_lt_of_cell? w ⟨b, 0, none⟩ h.c0
  have hb := (Below.refl w.heap.size w).alloc (Nat.le_refl _) o
  have hh : (w.alloc o).heap[b]? = w.heap[b]? := hb.block b hlt
  refine ⟨(hb.cell hlt).trans h.c0, (hb.cell hlt).trans h.c1, (hb.cell hlt).trans h.c2, (hb.cell hlt).trans h.c3, fun k => ?_⟩
  have := h.f k
  simp only [World.frozen?, hh] at this ⊢
  exact this
theorem results_ev (X : World) (b : Nat) (tmps : Array Value) (q a0 a1 a2 a3 : Int) (hp : tmps.getD 2 undef = .pointer (some ⟨b, 0, none⟩)) (hq : tmps.getD 3 undef = .int .i64 q)
    (h0 : X.cell? ⟨b, 0, none⟩ = some (.int .i64 a0)) (h1 : X.cell? ⟨b, 1, none⟩ = some (.int .i64 a1)) (h2 : X.cell? ⟨b, 2, none⟩ = some (.int .i64 a2)) (h3 : X.cell? ⟨b, 3, none⟩ = some (.int .i64 a3)) :
    (results Tryz.f74 tmps).run Tryz.prog X = .ok (.tuple #[evV ⟨a0, a1, a2, a3⟩, .int .i64 q]) X := by
  rw [results_cell_tmp (p := 2) (u := 3) (ty := 74) rfl, hp, hq]
  simp [asAddr, go_sem, h0, h1, h2, h3, evV]

/-- Four numbers stored into it. -/
def put4 (W : World) (b : Nat) (a0 a1 a2 a3 : Int) : World := (((W.setCell ⟨b, 0, none⟩ (.int .i64 a0)).setCell ⟨b, 1, none⟩ (.int .i64 a1)).setCell ⟨b, 2, none⟩ (.int .i64 a2)).setCell ⟨b, 3, none⟩ (.int .i64 a3)
theorem put4_cells {W : World} {b : Nat} (h : Mine W b) (a0 a1 a2 a3 : Int) :
    (put4 W b a0 a1 a2 a3).cell? ⟨b, 0, none⟩ = some (.int .i64 a0) ∧ (put4 W b a0 a1 a2 a3).cell? ⟨b, 1, none⟩ = some (.int .i64 a1) ∧ (put4 W b a0 a1 a2 a3).cell? ⟨b, 2, none⟩ = some (.int .i64 a2) ∧ (put4 W b a0 a1 a2 a3).cell? ⟨b, 3, none⟩ = some (.int .i64 a3) := by
  unfold put4
  refine ⟨?_, ?_, ?_, ?_⟩
  all_goals simp [go_sem, h.c0, h.c1, h.c2, h.c3]
theorem put4_below {w W : World} {b : Nat} (hb : Below w.heap.size w W) (h : w.heap.size ≤ b) (a0 a1 a2 a3 : Int) : Below w.heap.size w (put4 W b a0 a1 a2 a3) :=
  (((hb.setCell h _).setCell h _).setCell h _).setCell h _
/-- The call's end: four numbers are stored into the result variable, and handed back. -/
theorem end_ev {w W : World} {b : Nat} {r : Ev.Event × Int} (tmps : Array Value) (ds : List Deferred) (h : Mine W b) (hb : Below w.heap.size w W) (hw : w.heap.size ≤ b) (a0 a1 a2 a3 q : Int) (hr : r = (⟨a0, a1, a2, a3⟩, q))
    (hp : tmps.getD 2 undef = .pointer (some ⟨b, 0, none⟩)) (hq : tmps.getD 3 undef = .int .i64 q) (hd : ds = []) :
    bodyPost Tryz.prog Tryz.f74 (RetEv w r) Exit.ret { tmps := tmps, defers := ds } (put4 W b a0 a1 a2 a3) := by
  subst hd
  obtain ⟨c0, c1, c2, c3⟩ := put4_cells h a0 a1 a2 a3
  refine bodyPost_ret (results_ev _ b _ q a0 a1 a2 a3 hp hq c0 c1 c2 c3) rfl ?_
  exact ⟨by rw [hr], put4_below hb hw _ _ _ _⟩
end Go.Proofs.YtfjamdpgbbnmcaaGreatDoor
/-
  What event.Parse answers, for every text that a string may hold: Ev.parseR; what was in memory stays as it was.
  Conditions: the variable that lists the kinds' words holds them; a string's length is at most the model's greatest.
-/
set_option maxRecDepth 4000
namespace Go.Proofs.YtfjamdpgbbnmcaaGreatDoor
open Go.RowKit

set_option maxHeartbeats 1000000 in
theorem evParse_at (s : List UInt8) (w : World) (hs : s.length ≤ maxLen) (hK : KW w) : Calls Tryz.prog 74 #[.string (Ln.bs s)] w (RetEv w (Ev.parseR s)) := by
  have HK := Lib.hid (KW.below hK ((Below.refl _ w).alloc (Nat.le_refl _) (.cells #[.int .i64 0, .int .i64 0, .int .i64 0, .int .i64 0] 74)))
  clear hK
  go_enter Tryz.func74, Tryz.ntmps74
  go_wp2_with fail
  refine (words_at s _ hs).mono ?_
  rintro e w1 ⟨v1, rfl, hs1, hb1⟩
  have HM1 : Hid (Mine w1 w.heap.size) := ⟨(hb1.cell (by simp)).trans (new_cell w _ _ 0 _ rfl), (hb1.cell (by simp)).trans (new_cell w _ _ 1 _ rfl), (hb1.cell (by simp)).trans (new_cell w _ _ 2 _ rfl), (hb1.cell (by simp)).trans (new_cell w _ _ 3 _ rfl), fun k => zeros_frozen hb1 k⟩
  have HK1 := Lib.hid (HK.out.below hb1)
  have HB1 := Lib.hid (below_new hb1)
  clear hb1 HK
  have HBB : Hid (w.heap.size ≤ w.heap.size) := Nat.le_refl _
  have HSM := Lib.hid hs
  obtain ⟨b, hb⟩ : ∃ b, b = w.heap.size := ⟨_, rfl⟩
  rw [← hb] at HM1 ⊢
  have HBB : Hid (w.heap.size ≤ b) := by rw [Hid, hb]; exact Nat.le_refl _
  clear hb hs
  have hz0 := HM1.out.c0
  have hz1 := HM1.out.c1
  have hz2 := HM1.out.c2
  have hz3 := HM1.out.c3
  have hf := HM1.out.f
  by_cases hq : (Ln.wordsR s).2 = 0
  · obtain ⟨hsp, hl1, hall⟩ := Ln.wordsR_is s hq
    have hl8 := Ln.wordsR_len s
    have HP : Hid (Ev.parseR s = if Ev.kindI ((Ln.wordsR s).1.getD 0 []) < 5 ∧ (Ln.wordsR s).1.length = 1 + Ev.many (Ev.kindI ((Ln.wordsR s).1.getD 0 []) : Int) then Ev.ofWords (Ev.kindI ((Ln.wordsR s).1.getD 0 []) : Int) (Ln.wordsR s).1.tail else (Ev.zero, 2)) := by rw [Hid, Ev.parseR, if_neg (by simpa using hq)]
    rw [hq]
    obtain ⟨l, hl⟩ : ∃ l, l = (Ln.wordsR s).1 := ⟨_, rfl⟩
    rw [← hl] at hs1 hl1 hl8 HP hsp
    have HLN : Hid (∀ x ∈ l, x.length ≤ maxLen) := fun x hx => Nat.le_trans (Ln.spaced_word l x hx) (by rw [hsp]; exact HSM.out)
    obtain ⟨x, r, rfl⟩ : ∃ x r, l = x :: r := by
      cases l with
      | nil => simp at hl1
      | cons x r => exact ⟨x, r, rfl⟩
    rw [show (x :: r).getD 0 [] = x from rfl, List.tail_cons] at HP
    obtain ⟨A, c, rfl, hform⟩ := hs1.form
    have hcap : r.length + 1 ≤ c := Sl.cap hs1
    obtain ⟨ad, rfl, hblk, hcell⟩ := hform 0 (by simp)
    have hc0 : w1.cell? ad = some (.string (Ln.bs x)) := by rw [add_zero'] at hcell; exact hcell
    have HF := Lib.hid hform
    have hlen : (x :: r).length = r.length + 1 := rfl
    have hr7 : r.length ≤ 7 := by rw [hlen] at hl8; omega
    rw [hlen]
    clear hs1 hform hcell hl hsp hall hl1 hl8 hlen hq
    go_wp2_with fail
    refine (kindOf_at x _ HK1.out).mono ?_
    rintro e w' ⟨rfl, rfl⟩
    by_cases hk : Ev.kindI x < 5
    · rw [show Ev.kindN x = (Ev.kindI x : Int) from if_pos hk, show Ev.kindB x = true from decide_eq_true hk]
      go_wp2_with fail
      refine (numbersOf_at _ _).mono ?_
      rintro e w' ⟨rfl, rfl⟩
      have hm1 := Ev.many_pos (Ev.kindI x : Int)
      have hm3 := Ev.many_le (Ev.kindI x : Int)
      generalize Ev.kindI x = n at *
      generalize hm : Ev.many (n : Int) = m at *
      by_cases hrm : r.length = m
      · have hqm : (((m : Int) + 1) != 1 + (m : Int)) = false := by rw [bne_eq_false_iff_eq]; omega
        have hc1 : ¬ c = 1 := by omega
        have HP2 : Hid (Ev.parseR s = Ev.ofWords (n : Int) r) := by rw [Hid, HP.out, if_pos ⟨hk, by rw [List.length_cons]; omega⟩]
        have HRM := Lib.hid hrm
        go_wp2_with fail
        clear hrm hqm HP hm hc0 hk hc1 hcap hr7
        go_loopw [43] (fun i wr => ∃ (k : Nat) (a b d : Int), k ≤ m ∧ i = .int .i64 k ∧ wr = w1.alloc (.cells #[.int .i64 a, .int .i64 b, .int .i64 d] 125) ∧ Hid (Ev.bad (r.take k) = 0 ∧ a = (Ev.vals (r.take k)).getD 0 0 ∧ b = (Ev.vals (r.take k)).getD 1 0 ∧ d = (Ev.vals (r.take k)).getD 2 0)) (fun i _ => m - (intOf i).toNat)
        case atStart => exact ⟨0, 0, 0, 0, Nat.zero_le _, rfl, rfl, rfl, rfl, rfl, rfl⟩
        case round =>
          obtain ⟨k, a, y2, d, hkm, rfl, rfl, hst⟩ := hrel
          by_cases hlt : k < m
          · have hkr : k < r.length := by rw [HRM.out]; exact hlt
            obtain ⟨_, e1, _, hcell⟩ := HF.out (k + 1) (by rw [List.length_cons]; omega)
            cases e1
            obtain ⟨y, hy⟩ : ∃ y, y = r[k]'hkr := ⟨_, rfl⟩
            have hcy : w1.cell? ⟨ad.block, ad.off + 1 + k, none⟩ = some (.string (Ln.bs y)) := by
              rw [show (⟨ad.block, ad.off + 1 + k, none⟩ : Addr) = ad.add (k + 1) from by simp [Addr.add]; omega, hcell, hy]
              rfl
            have HYM : Hid (y.length ≤ maxLen) := by rw [hy]; exact HLN.out _ (List.mem_cons_of_mem _ (List.getElem_mem _))
            obtain ⟨hb0, ha0, hb1', hd0⟩ := hst.out
            have HBT := Lib.hid (Ev.bad_take r k hkr hb0)
            have HVT := Lib.hid (Ev.vals_take r k hkr)
            rw [← hy] at HBT HVT
            have HVL : Hid ((Ev.vals (r.take k)).length = k) := by rw [Hid, Ev.vals_len, List.length_take]; omega
            clear hcell hy hb0 ha0 hb1' hd0
            go_wp2_with fail
            refine (whole_at _ _ (by rw [Ln.bs_size]; exact HYM.out)).mono ?_
            rintro e w' ⟨rfl, rfl⟩
            rw [Ln.bs_data]
            by_cases hw : (Nm.wholeR y).2 = 0
            · rw [hw]
              have hst2 := three_put hst.out.2 HVT.out HVL.out
              have HST := Lib.hid (And.intro (HBT.out.1.trans hw) hst2)
              clear hst2 hw
              generalize (Nm.wholeR y).1 = v at *
              obtain rfl | rfl | rfl : k = 0 ∨ k = 1 ∨ k = 2 := by omega
              all_goals
                go_wp2_with fail
                go_roundw
                case rel => exact ⟨_, _, _, _, by omega, by go_num, rfl, HST⟩
                case measure => simp [intOf]; omega
            · have HR : Hid (Ev.parseR s = (Ev.zero, (Nm.wholeR y).2)) := by
                have hb := HBT.out.2 hw
                rw [Hid, HP2.out, Ev.ofWords, hb, if_pos hw]
              generalize (Nm.wholeR y).1 = v at *
              generalize (Nm.wholeR y).2 = q at *
              have hq : (q != 0) = true := by rw [bne_iff_ne]; exact hw
              have HMW := Lib.hid (HM1.out.alloc (.cells #[.int .i64 a, .int .i64 y2, .int .i64 d] 125))
              have HBW := Lib.hid (below_all HB1.out ((Below.refl _ w1).alloc (Nat.le_refl _) (.cells #[.int .i64 a, .int .i64 y2, .int .i64 d] 125)))
              generalize w1.alloc (.cells #[.int .i64 a, .int .i64 y2, .int .i64 d] 125) = W at *
              clear hw hz0 hz1 hz2 hz3 hf hcy hst HBT HVT
              have hz0 := HMW.out.c0
              have hz1 := HMW.out.c1
              have hz2 := HMW.out.c2
              have hz3 := HMW.out.c3
              have hf := HMW.out.f
              go_wp2_with fail
              exact end_ev _ _ HMW.out HBW.out HBB.out 0 0 0 0 q HR.out rfl rfl rfl
          · obtain rfl : k = m := by omega
            have HT : Hid (r.take k = r) := by rw [Hid, List.take_of_length_le (by rw [HRM.out]; exact Nat.le_refl _)]
            obtain ⟨hb0, ha0, hb1', hd0⟩ := hst.out
            rw [HT.out] at hb0 ha0 hb1' hd0
            have HO : Hid (Ev.parseR s = if 8 ≤ a ∨ 16 ≤ y2 then (Ev.zero, 4) else (⟨(n : Int), a, y2, d⟩, 0)) := by
              rw [Hid, HP2.out, Ev.ofWords, hb0, if_neg (by simp), ← ha0, ← hb1']
              split
              · rfl
              · rw [Ev.ofNums, ← ha0, ← hb1', ← hd0]
            have HMW := Lib.hid (HM1.out.alloc (.cells #[.int .i64 a, .int .i64 y2, .int .i64 d] 125))
            have HBW := Lib.hid (below_all HB1.out ((Below.refl _ w1).alloc (Nat.le_refl _) (.cells #[.int .i64 a, .int .i64 y2, .int .i64 d] 125)))
            have hn0 : (w1.alloc (.cells #[.int .i64 a, .int .i64 y2, .int .i64 d] 125)).cell? ⟨w1.heap.size, 0, none⟩ = some (.int .i64 a) := new_cell w1 _ _ 0 _ rfl
            have hn1 : (w1.alloc (.cells #[.int .i64 a, .int .i64 y2, .int .i64 d] 125)).cell? ⟨w1.heap.size, 1, none⟩ = some (.int .i64 y2) := new_cell w1 _ _ 1 _ rfl
            have hn2 : (w1.alloc (.cells #[.int .i64 a, .int .i64 y2, .int .i64 d] 125)).cell? ⟨w1.heap.size, 2, none⟩ = some (.int .i64 d) := new_cell w1 _ _ 2 _ rfl
            generalize w1.alloc (.cells #[.int .i64 a, .int .i64 y2, .int .i64 d] 125) = W at *
            clear hb0 ha0 hb1' hd0 hst hz0 hz1 hz2 hz3 hf
            have HMW2 := Lib.hid (HMW.out.alloc (.cells #[.int .i64 (n : Int), .int .i64 a, .int .i64 y2, .int .i64 d] 74))
            have HBW2 := Lib.hid (below_all HBW.out ((Below.refl _ W).alloc (Nat.le_refl _) (.cells #[.int .i64 (n : Int), .int .i64 a, .int .i64 y2, .int .i64 d] 74)))
            have hz0 := HMW2.out.c0
            have hz1 := HMW2.out.c1
            have hz2 := HMW2.out.c2
            have hz3 := HMW2.out.c3
            have hf := HMW2.out.f
            by_cases h8 : 8 ≤ a
            · have q1 : decide (8 ≤ a) = true := decide_eq_true h8
              have HR : Hid (Ev.parseR s = (Ev.zero, 4)) := by rw [Hid, HO.out, if_pos (.inl h8)]
              clear h8
              go_wp2_with fail
              exact end_ev _ _ HMW2.out HBW2.out HBB.out 0 0 0 0 4 HR.out rfl rfl rfl
            · have q1 : decide (8 ≤ a) = false := decide_eq_false h8
              by_cases h16 : 16 ≤ y2
              · have q2 : decide (16 ≤ y2) = true := decide_eq_true h16
                have HR : Hid (Ev.parseR s = (Ev.zero, 4)) := by rw [Hid, HO.out, if_pos (.inr h16)]
                clear h8 h16
                go_wp2_with fail
                exact end_ev _ _ HMW2.out HBW2.out HBB.out 0 0 0 0 4 HR.out rfl rfl rfl
              · have q2 : decide (16 ≤ y2) = false := decide_eq_false h16
                have HR : Hid (Ev.parseR s = (⟨(n : Int), a, y2, d⟩, 0)) := by rw [Hid, HO.out, if_neg (by omega)]
                clear h8 h16
                go_wp2_with fail
                exact end_ev _ _ HMW2.out HBW2.out HBB.out (n : Int) a y2 d 0 HR.out rfl rfl rfl
      · have HR : Hid (Ev.parseR s = (Ev.zero, 2)) := by rw [Hid, HP.out, if_neg (fun h => hrm (by have := h.2; rw [List.length_cons] at this; omega))]
        have hqm : (((r.length : Int) + 1) != 1 + (m : Int)) = true := by rw [bne_iff_ne]; omega
        clear hrm hm
        go_wp2_with fail
        exact end_ev _ _ HM1.out HB1.out HBB.out 0 0 0 0 2 HR.out rfl rfl rfl
    · have HR : Hid (Ev.parseR s = (Ev.zero, 2)) := by rw [Hid, HP.out, if_neg (fun h => hk h.1)]
      rw [show Ev.kindB x = false from decide_eq_false hk]
      generalize Ev.kindN x = kn
      clear hk
      go_wp2_with fail
      exact end_ev _ _ HM1.out HB1.out HBB.out 0 0 0 0 2 HR.out rfl rfl rfl
  · have HR : Hid (Ev.parseR s = (Ev.zero, 2)) := by rw [Hid, Ev.parseR, if_pos hq]
    have he := Ln.wordsR_err s hq
    rw [he] at hs1 ⊢
    obtain ⟨A, c, rfl⟩ := hs1.none_ rfl
    clear hs1 hq he
    go_wp2_with fail
    exact end_ev _ _ HM1.out HB1.out HBB.out 0 0 0 0 2 HR.out rfl rfl rfl
end Go.Proofs.YtfjamdpgbbnmcaaGreatDoor
/-
  From a row's list of package-level variables to what the walks ask: the variable that lists the kinds' words holds them; and an event among the arguments.
  Conditions: none beyond those that each theorem states.
-/
set_option maxRecDepth 4000
namespace Go.Proofs.YtfjamdpgbbnmcaaGreatDoor
open Go.ChangeShapes Go.WideShapes Go.ChangeAt Go.RowKit Go.Joins

/-- An array of texts at package level, first on the row's list: each of its cells. -/
theorem texts_laid {P : Program} {W : World} {name : String} {xs : List (List UInt8)} {rest : List (String × DataW Unit)} {g : Nat} {t e : TypeId} {n : Nat}
    (hg : P.globalNamed name = some g) (hty : (P.globals[g]?).map (·.type) = some t) (ht : P.underlying t = some (.array n e)) (he : P.underlying e = some .string) (hce : P.cellsOf e = 1)
    (h : laidMet P ((name, .agg (xs.map fun x => .lit (.string x))) :: rest) W) (i : Nat) (hi : i < xs.length) : W.cell? ⟨g, i, none⟩ = some (.string (Ln.bs xs[i])) := by
  obtain ⟨_, ⟨g', t', cs, fuel, p, q, hg', ht', hvar, hd, _⟩, _⟩ := h
  cases hg.symm.trans hg'
  cases hty.symm.trans ht'
  obtain ⟨ys, m, _, hx, _, hn, hat⟩ := DataW.trod_array ht hd
  have hys : ys.map (·.1) = xs.map fun x => (DataW.lit (.string x) : DataW Unit) := by
    have := congrArg Prod.fst hx
    simpa using this.symm
  have hlen : ys.length = xs.length := by simpa using congrArg List.length hys
  have hi' := hat i (by omega)
  rw [hce, Nat.mul_one, List.getElem?_eq_getElem (by omega)] at hi'
  obtain ⟨s, h1, h2, _⟩ := DataW.trod_string he hi'
  have hb : s.data.toList = xs[i] := by
    have h3 := congrArg (·[i]?) hys
    simp only [List.getElem?_map, List.getElem?_eq_getElem hi, List.getElem?_eq_getElem (show i < ys.length by omega), h2, Option.map_some, Option.some.injEq, DataW.lit.injEq, Lit.string.injEq] at h3
    exact h3
  have hc : cs[i]? = some (.string s) := by
    have h4 := congrArg (·[0]?) h1
    simpa [List.getElem?_take, List.getElem?_drop] using h4
  rw [← hb, Ln.bs_of]
  exact (World.var?_cell hg hvar i).trans hc

theorem kindWords_named : Tryz.prog.globalNamed "inquest/event.kindWords" = some 0 := by kernel_rfl
theorem kindWords_type : (Tryz.prog.globals[0]?).map (·.type) = some 124 := by kernel_rfl
theorem str_cells : Tryz.prog.cellsOf 9 = 1 := by kernel_rfl

theorem kw_laid {W : World} {rest : List (String × DataW Unit)} (h : laidMet Tryz.prog (("inquest/event.kindWords", Rows.laid_inquest_event_kindWords) :: rest) W) : KW W := fun k hk => by
  have hw : k < Ev.words.length := hk
  rw [(Ev.word_lt k hk).2]
  exact texts_laid kindWords_named kindWords_type Tryz.underlying124 Tryz.underlying9 str_cells (xs := Ev.words) h k hw

section
variable {H : Type} {enc : TypeId × Value → H} {w : World} {base : Nat} {r : Reach} {b0 : Nat}
/-- An event among the arguments. -/
theorem arg_ev {v : Value} {d : DataW H} {ps : List MemPlace} (hval : Value.okWide Tryz.prog w r b0 74 v) (h : DataW.Trod enc Tryz.prog w base (fun _ => true) true 74 v d ps) : ∃ e : Ev.Event, v = evV e := by
  obtain ⟨v0, v1, v2, v3, y0, y1, y2, y3, n, rfl, _, _, t0, t1, t2, t3⟩ := open_agg4 Tryz.underlying74 (by kernel_rfl) (by kernel_rfl) hval h
  obtain ⟨z0, e0, _⟩ := DataW.trod_int Tryz.underlying3 t0
  obtain ⟨z1, e1, _⟩ := DataW.trod_int Tryz.underlying3 t1
  obtain ⟨z2, e2, _⟩ := DataW.trod_int Tryz.underlying3 t2
  obtain ⟨z3, e3, _⟩ := DataW.trod_int Tryz.underlying3 t3
  cases e0
  cases e1
  cases e2
  cases e3
  exact ⟨⟨z0, z1, z2, z3⟩, rfl⟩
end

/-- A world in which the variable holds the kinds' words, for the witness. -/
noncomputable def laidWorld (os : Os) : World :=
  { World.holding Tryz.prog os ⟨#[], #[], []⟩ with heap := (World.holding Tryz.prog os ⟨#[], #[], []⟩).heap.modify 0 fun o => match o with
      | .cells _ t z => .cells (Ev.words.map strV).toArray t z
      | o => o }
end Go.Proofs.YtfjamdpgbbnmcaaGreatDoor
/-
  What the reference's word, digits, Right and Show of layer 3 answer: Ev.word, Nm.showS, Ev.right, Ev.showR; what was in memory stays as it was.
  Conditions: word: a kind from 0 to 4.
-/
set_option maxRecDepth 4000
namespace Go.Proofs.YtfjamdpgbbnmcaaGreatDoor
open Go.RowKit

theorem rWord_at (k : Nat) (hk : k < 5) (w : World) :
    Calls Tryz.prog 59 #[.int .i64 (k : Int)] w fun e w' => e = .returned (.string (Ln.bs (Ev.word k))) ∧ w = w' := by
  obtain rfl | rfl | rfl | rfl | rfl : k = 0 ∨ k = 1 ∨ k = 2 ∨ k = 3 ∨ k = 4 := by omega
  all_goals
    go_enter Tryz.func59, Tryz.ntmps59
    go_wp2
    go_ret
    exact ⟨rfl, rfl⟩

theorem rDigs_at (n : Int) (w : World) :
    Calls Tryz.prog 71 #[.int .i64 n] w fun e w' => e = .returned (.string (Ln.bs (Nm.showS n))) ∧ Below w.heap.size w w' := by
  go_enter Tryz.func71, Tryz.ntmps71
  go_wp2_with fail
  refine (rShow_at n w).mono ?_
  rintro e w1 ⟨rfl, hb⟩
  have HB := Lib.hid hb
  clear hb
  rw [show (⟨(Nm.showS n).toArray⟩ : ByteArray) = Ln.bs (Nm.showS n) from rfl]
  generalize hd : Ln.bs (Nm.showS n) = d
  have HD := Lib.hid hd
  clear hd
  generalize Nm.showE n = q
  go_wp2_with fail
  go_ret
  exact ⟨ret_str (by rw [HD.out]), HB.out⟩

theorem rEvRight_at (x : Ev.Event) (w : World) : Calls Tryz.prog 34 #[evV x] w (RetBool w (Ev.right x)) := by
  obtain ⟨a, b, c, d⟩ := x
  unfold evV
  dsimp only
  by_cases h1 : 0 ≤ a ∧ a < 5 ∧ 0 ≤ b ∧ b < 8
  · obtain ⟨h1, h2, h3, h4⟩ := h1
    have q1 : decide (a < 0) = false := by simp; omega
    have q2 : decide (4 < a) = false := by simp; omega
    have q3 : decide (b < 0) = false := by simp; omega
    have q4 : decide (7 < b) = false := by simp; omega
    have HR : Hid (Ev.right ⟨a, b, c, d⟩ = decide (if Ev.hasKey a = true then 0 ≤ c ∧ c < 16 ∧ Nm.isNum d = true else c = 0 ∧ d = 0)) := by
      rw [Hid, Ev.right]
      simp only [h1, h2, h3, h4, true_and]
    clear h1 h2 h3 h4
    by_cases hk : a = 1 ∨ a = 2
    · have HR2 : Hid (Ev.right ⟨a, b, c, d⟩ = decide (0 ≤ c ∧ c < 16 ∧ Nm.isNum d = true)) := by rw [Hid, HR.out]; simp only [(Ev.hasKey_iff a).2 hk, if_true]
      have key : (a == 1) = true ∨ (a == 1) = false ∧ (a == 2) = true := by
        rcases hk with h | h
        · exact .inl (by rw [beq_iff_eq]; exact h)
        · exact .inr ⟨by rw [beq_eq_false_iff_ne]; omega, by rw [beq_iff_eq]; exact h⟩
      clear HR hk
      by_cases hc : 0 ≤ c ∧ c < 16
      · have q5 : decide (0 ≤ c) = true := by simp; omega
        have q6 : decide (c ≤ 15) = true := by simp; omega
        have HR3 : Hid (Ev.right ⟨a, b, c, d⟩ = Nm.isNum d) := by rw [Hid, HR2.out]; simp [hc.1, hc.2]
        clear HR2 hc
        rcases key with k1 | ⟨k1, k2⟩
        all_goals
          go_enter Tryz.func34, Tryz.ntmps34
          go_wp2_with fail
          refine (rIs_at _ _).mono ?_
          rintro e w1 ⟨rfl, rfl⟩
          go_wp2_with fail
          go_ret
          exact ⟨ret_bool (by rw [HR3.out]), (Below.refl _ w).alloc (Nat.le_refl _) _⟩
      · have HR3 : Hid (Ev.right ⟨a, b, c, d⟩ = false) := by
          rw [Hid, HR2.out, decide_eq_false_iff_not]
          exact fun h => hc ⟨h.1, h.2.1⟩
        have kc : decide (0 ≤ c) = false ∨ decide (0 ≤ c) = true ∧ decide (c ≤ 15) = false := by
          simp only [decide_eq_true_eq, decide_eq_false_iff_not]; omega
        clear HR2 hc
        rcases key with k1 | ⟨k1, k2⟩ <;> rcases kc with q5 | ⟨q5, q6⟩
        all_goals
          go_enter Tryz.func34, Tryz.ntmps34
          go_wp2_with fail
          refine (rIs_at _ _).mono ?_
          rintro e w1 ⟨rfl, rfl⟩
          go_wp2_with fail
          go_ret
          exact ⟨ret_bool (by rw [HR3.out]), (Below.refl _ w).alloc (Nat.le_refl _) _⟩
    · have HR2 : Hid (Ev.right ⟨a, b, c, d⟩ = decide (c = 0 ∧ d = 0)) := by
        rw [Hid, HR.out]
        have : ¬ Ev.hasKey a = true := fun h => hk ((Ev.hasKey_iff a).1 h)
        simp only [this, if_false, Bool.false_eq_true]
      have k1 : (a == 1) = false := by rw [beq_eq_false_iff_ne]; omega
      have k2 : (a == 2) = false := by rw [beq_eq_false_iff_ne]; omega
      clear HR hk
      by_cases hc : c = 0
      · have q5 : (c == 0) = true := by rw [beq_iff_eq]; exact hc
        have HR3 : Hid (Ev.right ⟨a, b, c, d⟩ = (d == 0)) := by rw [Hid, HR2.out]; simp only [hc, true_and]; rfl
        clear HR2 hc
        go_enter Tryz.func34, Tryz.ntmps34
        go_wp2_with fail
        go_ret
        exact ⟨ret_bool (by rw [HR3.out]), (Below.refl _ w).alloc (Nat.le_refl _) _⟩
      · have q5 : (c == 0) = false := by rw [beq_eq_false_iff_ne]; exact hc
        have HR3 : Hid (Ev.right ⟨a, b, c, d⟩ = false) := by rw [Hid, HR2.out]; simp [hc]
        clear HR2 hc
        go_enter Tryz.func34, Tryz.ntmps34
        go_wp2_with fail
        go_ret
        exact ⟨ret_bool (by rw [HR3.out]), (Below.refl _ w).alloc (Nat.le_refl _) _⟩
  · have HR : Hid (Ev.right ⟨a, b, c, d⟩ = false) := by
      rw [Hid, Ev.right, decide_eq_false_iff_not]
      exact fun h => h1 ⟨h.1, h.2.1, h.2.2.1, h.2.2.2.1⟩
    have key : decide (a < 0) = true ∨ decide (a < 0) = false ∧ (decide (4 < a) = true ∨ decide (4 < a) = false ∧ (decide (b < 0) = true ∨ decide (b < 0) = false ∧ decide (7 < b) = true)) := by
      simp only [decide_eq_true_eq, decide_eq_false_iff_not]; omega
    clear h1
    rcases key with q1 | ⟨q1, q2 | ⟨q2, q3 | ⟨q3, q4⟩⟩⟩
    all_goals
      go_enter Tryz.func34, Tryz.ntmps34
      go_wp2_with fail
      go_ret
      exact ⟨ret_bool (by rw [HR.out]), (Below.refl _ w).alloc (Nat.le_refl _) _⟩

theorem cell_on {w w' : World} {a : Addr} {v : Value} (hb : Below w.heap.size w w') (h : w.cell? a = some v) : w'.cell? a = some v := (hb.cell (World.block_lt_of_cell? w a h)).trans h
theorem hid_below {w w1 w2 : World} (h : Hid (Below w.heap.size w w1)) (hb : Below w1.heap.size w1 w2) : Hid (Below w.heap.size w w2) := below_all h.out hb
theorem hid_drew (w : World) : Hid (Below w.heap.size w w.drew) := (Below.refl _ _).drew

theorem held_two {w W w3 : World} {p q : Addr} {u v : Value} (h : W.cell? p = some u ∧ W.cell? q = some v ∧ Hid (Below w.heap.size w W)) (hb : Below W.heap.size W w3) : w3.cell? p = some u ∧ w3.cell? q = some v ∧ Hid (Below w.heap.size w w3) :=
  ⟨cell_on hb h.1, cell_on hb h.2.1, hid_below h.2.2 hb⟩

set_option maxHeartbeats 1000000 in
theorem rEvShow_at (x : Ev.Event) (w : World) : Calls Tryz.prog 44 #[evV x] w (RetStr w (Ev.showR x)) := by
  unfold evV
  go_enter Tryz.func44, Tryz.ntmps44
  go_wp2_with fail
  refine (rEvRight_at x _).mono ?_
  rintro e w1 ⟨rfl, hb1⟩
  have hx0 : w1.cell? ⟨w.heap.size, 0, none⟩ = some (.int .i64 x.kind) := (hb1.cell (by simp)).trans (new_cell w _ _ 0 _ rfl)
  have hx1 : w1.cell? ⟨w.heap.size, 1, none⟩ = some (.int .i64 x.session) := (hb1.cell (by simp)).trans (new_cell w _ _ 1 _ rfl)
  have hx2 : w1.cell? ⟨w.heap.size, 2, none⟩ = some (.int .i64 x.key) := (hb1.cell (by simp)).trans (new_cell w _ _ 2 _ rfl)
  have hx3 : w1.cell? ⟨w.heap.size, 3, none⟩ = some (.int .i64 x.value) := (hb1.cell (by simp)).trans (new_cell w _ _ 3 _ rfl)
  have HB1 := Lib.hid (below_new hb1)
  clear hb1
  cases hr : Ev.right x with
  | false =>
    have HR : Hid (Ev.showR x = ([], 1)) := by rw [Hid, Ev.showR, if_neg (by rw [hr]; simp)]
    clear hr
    go_wp2_with fail
    go_ret2
    exact RetStr.mk _ _ (by rw [HR.out]) (by rw [HR.out]; rfl) HB1.out
  | true =>
    have HR : Hid (Ev.showR x = (Ln.spaced (Ev.parts x), 0)) := by rw [Hid, Ev.showR, if_pos hr]
    obtain ⟨a1, a2, _⟩ := (Ev.right_iff x).1 hr
    obtain ⟨n, hn⟩ := Int.eq_ofNat_of_zero_le a1
    have hn5 : n < 5 := by omega
    rw [hn] at hx0
    have HN := Lib.hid hn
    clear hr a1 a2 hn
    obtain ⟨b, hb⟩ : ∃ b, b = w.heap.size := ⟨_, rfl⟩
    rw [← hb] at hx0 hx1 hx2 hx3 ⊢
    clear hb
    have HZ1 : Hid ((Ln.bs (Ev.word n)).size ≤ 6) := by rw [Hid, Ln.bs_size]; exact Ev.word_len n hn5
    have HZ2 : ∀ i : Int, Hid ((Ln.bs (Nm.showS i)).size ≤ 10) := fun i => by rw [Hid, Ln.bs_size]; exact Ev.showS_len i
    have z1 : ¬ 9223372036854775807 < (Ln.bs (Ev.word n)).size + 1 := by have := HZ1.out; omega
    have z2 : ¬ 9223372036854775807 < (Ln.bs (Ev.word n)).size + 1 + (Ln.bs (Nm.showS x.session)).size := by have := HZ1.out; have := (HZ2 x.session).out; omega
    go_wp2_with fail
    go_region_held3 (fun w' => w'.cell? ⟨b, 0, none⟩ = some (.int .i64 (n : Int)) ∧ w'.cell? ⟨b, 1, none⟩ = some (.int .i64 x.session) ∧ w'.cell? ⟨b, 2, none⟩ = some (.int .i64 x.key) ∧ w'.cell? ⟨b, 3, none⟩ = some (.int .i64 x.value) ∧ Hid (Below w1.heap.size w1 w'))
      (first | (exact ⟨hx0, hx1, hx2, hx3, hid_drew w1⟩) | (exact ⟨cell_on hb2 hx0, cell_on hb2 hx1, cell_on hb2 hx2, cell_on hb2 hx3, hid_below (hid_drew w1) hb2⟩))
      (first | (go_at_call 59; refine (rWord_at n hn5 _).mono ?_; rintro e w' ⟨rfl, rfl⟩) | (go_at_call 71; refine (rDigs_at _ _).mono ?_; rintro e w2 ⟨rfl, hb2⟩))
    obtain ⟨y0, y1, y2, y3, HB2⟩ : w2.cell? ⟨b, 0, none⟩ = some (.int .i64 (n : Int)) ∧ w2.cell? ⟨b, 1, none⟩ = some (.int .i64 x.session) ∧ w2.cell? ⟨b, 2, none⟩ = some (.int .i64 x.key) ∧ w2.cell? ⟨b, 3, none⟩ = some (.int .i64 x.value) ∧ Hid (Below w1.heap.size w1 w2) := by assumption
    rename_i hHeld
    clear hHeld hb2 hx0 hx1 hx2 hx3
    by_cases hk : Ev.hasKey (n : Int) = true
    · have key : ((n : Int) == 1) = true ∨ ((n : Int) == 1) = false ∧ ((n : Int) == 2) = true := by
        rcases (Ev.hasKey_iff _).1 hk with h | h
        · exact .inl (by rw [beq_iff_eq]; exact h)
        · exact .inr ⟨by rw [beq_eq_false_iff_ne]; omega, by rw [beq_iff_eq]; exact h⟩
      have HE : Hid (Ln.bs (Ev.word n) ++ ⟨#[32]⟩ ++ Ln.bs (Nm.showS x.session) ++ ⟨#[32]⟩ ++ Ln.bs (Nm.showS x.key) ++ ⟨#[32]⟩ ++ Ln.bs (Nm.showS x.value) = Ln.bs (Ev.showR x).1) := by
        rw [Hid, HR.out]
        show Ln.bs (Ev.word n) ++ Ln.bs [32] ++ Ln.bs (Nm.showS x.session) ++ Ln.bs [32] ++ Ln.bs (Nm.showS x.key) ++ Ln.bs [32] ++ Ln.bs (Nm.showS x.value) = _
        rw [bs_add, bs_add, bs_add, bs_add, bs_add, bs_add, Ev.parts, Ev.nums, HN.out, if_pos hk]
        simp only [List.append_assoc]
        exact congrArg Ln.bs (Ev.spaced4 _ _ _ _).symm
      have HT : Hid ((Ln.bs (Ev.word n) ++ ⟨#[32]⟩ ++ Ln.bs (Nm.showS x.session)).size ≤ 17) := by
        have h1 := HZ1.out
        have h2 := (HZ2 x.session).out
        rw [Ln.bs_size] at h1 h2
        show (Ln.bs (Ev.word n) ++ Ln.bs [32] ++ Ln.bs (Nm.showS x.session)).size ≤ 17
        rw [bs_add, bs_add, Ln.bs_size, List.length_append, List.length_append, List.length_singleton]
        omega
      generalize hT : Ln.bs (Ev.word n) ++ ⟨#[32]⟩ ++ Ln.bs (Nm.showS x.session) = T at HT HE ⊢
      have e1 := HT.out
      have e2 := (HZ2 x.key).out
      have e3 := (HZ2 x.value).out
      have v1 : ¬ 9223372036854775807 < T.size + 1 := by omega
      have v2 : ¬ 9223372036854775807 < T.size + 1 + (Ln.bs (Nm.showS x.key)).size := by omega
      have v3 : ¬ 9223372036854775807 < T.size + 1 + (Ln.bs (Nm.showS x.key)).size + 1 := by omega
      have v4 : ¬ 9223372036854775807 < T.size + 1 + (Ln.bs (Nm.showS x.key)).size + 1 + (Ln.bs (Nm.showS x.value)).size := by omega
      clear hk hT e1 e2 e3 z1 z2
      rcases key with k1 | ⟨k1, k2⟩
      all_goals
        go_wp2_with fail
        go_region_held3 (fun w' => w'.cell? ⟨b, 2, none⟩ = some (.int .i64 x.key) ∧ w'.cell? ⟨b, 3, none⟩ = some (.int .i64 x.value) ∧ Hid (Below w2.heap.size w2 w'))
          (first | (exact ⟨y2, y3, hid_drew w2⟩) | (exact held_two (by assumption) hb3) | (exact held_two ⟨y2, y3, hid_drew w2⟩ hb3))
          (first | (go_at_call 71; refine (rDigs_at _ _).mono ?_; rintro e w3 ⟨rfl, hb3⟩))
        obtain ⟨_, _, HB4⟩ : w3.cell? ⟨b, 2, none⟩ = some (.int .i64 x.key) ∧ w3.cell? ⟨b, 3, none⟩ = some (.int .i64 x.value) ∧ Hid (Below w2.heap.size w2 w3) := by assumption
        clear hb3
        go_wp2_with fail
        go_ret2
        exact RetStr.mk _ _ (by rw [HR.out]) (by rw [← HE.out]) (below_all HB1.out (below_all HB2.out HB4.out))
    · have k1 : ((n : Int) == 1) = false := by rw [beq_eq_false_iff_ne]; exact fun h => hk ((Ev.hasKey_iff _).2 (.inl h))
      have k2 : ((n : Int) == 2) = false := by rw [beq_eq_false_iff_ne]; exact fun h => hk ((Ev.hasKey_iff _).2 (.inr h))
      have HE : Hid (Ln.bs (Ev.word n) ++ ⟨#[32]⟩ ++ Ln.bs (Nm.showS x.session) = Ln.bs (Ev.showR x).1) := by
        rw [Hid, HR.out]
        show Ln.bs (Ev.word n) ++ Ln.bs [32] ++ Ln.bs (Nm.showS x.session) = _
        rw [bs_add, bs_add, Ev.parts, Ev.nums, HN.out, if_neg hk, List.append_assoc]
        exact congrArg Ln.bs (Ev.spaced2 _ _).symm
      clear hk
      go_wp2_with fail
      go_ret2
      exact RetStr.mk _ _ (by rw [HR.out]) (by rw [HE.out]) (below_all HB1.out HB2.out)
end Go.Proofs.YtfjamdpgbbnmcaaGreatDoor
/-
  What the reference's Parse of layer 3 answers: Ev.parseR; what was in memory stays as it was.
  Conditions: a line has at most 2^32 bytes.
-/
set_option maxRecDepth 4000
namespace Go.Proofs.YtfjamdpgbbnmcaaGreatDoor
open Go.RowKit

/-- What the reference's Parse hands back out of its result variable. -/
theorem results_rev (X : World) (b : Nat) (tmps : Array Value) (q a0 a1 a2 a3 : Int) (hp : tmps.getD 2 undef = .pointer (some ⟨b, 0, none⟩)) (hq : tmps.getD 3 undef = .int .i64 q)
    (h0 : X.cell? ⟨b, 0, none⟩ = some (.int .i64 a0)) (h1 : X.cell? ⟨b, 1, none⟩ = some (.int .i64 a1)) (h2 : X.cell? ⟨b, 2, none⟩ = some (.int .i64 a2)) (h3 : X.cell? ⟨b, 3, none⟩ = some (.int .i64 a3)) :
    (results Tryz.f33 tmps).run Tryz.prog X = .ok (.tuple #[evV ⟨a0, a1, a2, a3⟩, .int .i64 q]) X := by
  rw [results_cell_tmp (p := 2) (u := 3) (ty := 74) rfl, hp, hq]
  simp [asAddr, go_sem, h0, h1, h2, h3, evV]
theorem end_rev {w W : World} {b : Nat} {r : Ev.Event × Int} (tmps : Array Value) (ds : List Deferred) (h : Mine W b) (hb : Below w.heap.size w W) (hw : w.heap.size ≤ b) (a0 a1 a2 a3 q : Int) (hr : r = (⟨a0, a1, a2, a3⟩, q))
    (hp : tmps.getD 2 undef = .pointer (some ⟨b, 0, none⟩)) (hq : tmps.getD 3 undef = .int .i64 q) (hd : ds = []) :
    bodyPost Tryz.prog Tryz.f33 (RetEv w r) Exit.ret { tmps := tmps, defers := ds } (put4 W b a0 a1 a2 a3) := by
  subst hd
  obtain ⟨c0, c1, c2, c3⟩ := put4_cells h a0 a1 a2 a3
  refine bodyPost_ret (results_rev _ b _ q a0 a1 a2 a3 hp hq c0 c1 c2 c3) rfl ?_
  exact ⟨by rw [hr], put4_below hb hw _ _ _ _⟩

theorem end_rev_drew {w W : World} {b : Nat} {r : Ev.Event × Int} (tmps : Array Value) (ds : List Deferred) (h : Mine W b) (hb : Below w.heap.size w W) (hw : w.heap.size ≤ b) (a0 a1 a2 a3 q : Int) (hr : r = (⟨a0, a1, a2, a3⟩, q))
    (hp : tmps.getD 2 undef = .pointer (some ⟨b, 0, none⟩)) (hq : tmps.getD 3 undef = .int .i64 q) (hd : ds = []) :
    bodyPost Tryz.prog Tryz.f33 (RetEv w r) Exit.ret { tmps := tmps, defers := ds } (put4 W b a0 a1 a2 a3).drew := by
  subst hd
  obtain ⟨c0, c1, c2, c3⟩ := put4_cells h a0 a1 a2 a3
  have hB := put4_below hb hw a0 a1 a2 a3
  generalize put4 W b a0 a1 a2 a3 = X at *
  have hd : ∀ p, X.drew.cell? p = X.cell? p := fun _ => rfl
  refine bodyPost_ret (results_rev X.drew b tmps q a0 a1 a2 a3 hp hq ((hd _).trans c0) ((hd _).trans c1) ((hd _).trans c2) ((hd _).trans c3)) rfl ?_
  exact ⟨by rw [hr], hB.drew⟩

/-- The kind that the reference has found among the first k words: -1 if none. -/
def seenK (x : List UInt8) (k : Nat) : Int := if Ev.kindI x < k then (Ev.kindI x : Int) else -1

set_option maxHeartbeats 1000000 in
theorem rEvParse_at (s : List UInt8) (w : World) (hs : s.length ≤ 4294967296) : Calls Tryz.prog 33 #[.string (Ln.bs s)] w (RetEv w (Ev.parseR s)) := by
  go_enter Tryz.func33, Tryz.ntmps33
  go_wp2_with fail
  refine (rWords_at s _ hs).mono ?_
  rintro e w1 ⟨v1, rfl, hs1, hb1⟩
  have HM1 : Hid (Mine w1 w.heap.size) := ⟨(hb1.cell (by simp)).trans (new_cell w _ _ 0 _ rfl), (hb1.cell (by simp)).trans (new_cell w _ _ 1 _ rfl), (hb1.cell (by simp)).trans (new_cell w _ _ 2 _ rfl), (hb1.cell (by simp)).trans (new_cell w _ _ 3 _ rfl), fun k => zeros_frozen hb1 k⟩
  have HB1 := Lib.hid (below_new hb1)
  clear hb1
  have HSM := Lib.hid hs
  obtain ⟨b, hb⟩ : ∃ b, b = w.heap.size := ⟨_, rfl⟩
  rw [← hb] at HM1 ⊢
  have HBB : Hid (w.heap.size ≤ b) := by rw [Hid, hb]; exact Nat.le_refl _
  clear hb hs
  have hz0 := HM1.out.c0
  have hz1 := HM1.out.c1
  have hz2 := HM1.out.c2
  have hz3 := HM1.out.c3
  have hf := HM1.out.f
  by_cases hq : (Ln.wordsR s).2 = 0
  · obtain ⟨hsp, hl1, hall⟩ := Ln.wordsR_is s hq
    have hl8 := Ln.wordsR_len s
    have HP : Hid (Ev.parseR s = if Ev.kindI ((Ln.wordsR s).1.getD 0 []) < 5 ∧ (Ln.wordsR s).1.length = 1 + Ev.many (Ev.kindI ((Ln.wordsR s).1.getD 0 []) : Int) then Ev.ofWords (Ev.kindI ((Ln.wordsR s).1.getD 0 []) : Int) (Ln.wordsR s).1.tail else (Ev.zero, 2)) := by rw [Hid, Ev.parseR, if_neg (by simpa using hq)]
    rw [hq]
    obtain ⟨l, hl⟩ : ∃ l, l = (Ln.wordsR s).1 := ⟨_, rfl⟩
    rw [← hl] at hs1 hl1 hl8 HP hsp
    have HLN : Hid (∀ x ∈ l, x.length ≤ 4294967296) := fun x hx => Nat.le_trans (Ln.spaced_word l x hx) (by rw [hsp]; exact HSM.out)
    obtain ⟨x, r, rfl⟩ : ∃ x r, l = x :: r := by
      cases l with
      | nil => simp at hl1
      | cons x r => exact ⟨x, r, rfl⟩
    rw [show (x :: r).getD 0 [] = x from rfl, List.tail_cons] at HP
    obtain ⟨A, c, rfl, hform⟩ := hs1.form
    obtain ⟨ad, rfl, hblk, hcell⟩ := hform 0 (by simp)
    have hc0 : w1.cell? ad = some (.string (Ln.bs x)) := by rw [add_zero'] at hcell; exact hcell
    have HF := Lib.hid hform
    have hlen : (x :: r).length = r.length + 1 := rfl
    have hr7 : r.length ≤ 7 := by rw [hlen] at hl8; omega
    rw [hlen]
    clear hs1 hform hcell hl hsp hall hl1 hl8 hlen hq
    go_wp2_with fail
    go_loop [6, 7] (fun q i => ∃ k : Nat, k ≤ 5 ∧ i = .int .i64 k ∧ q = .int .i64 (seenK x k)) (fun _ i => 5 - (intOf i).toNat)
    case atStart => exact ⟨0, Nat.zero_le _, rfl, by rw [seenK, if_neg (by omega)]⟩
    case round =>
      obtain ⟨k, hk, rfl, rfl⟩ := hrel
      by_cases hlt : k < 5
      · have HW := Lib.hid (Ev.word_iff x k hlt)
        go_wp2_with fail
        refine (rWord_at k hlt _).mono ?_
        rintro e w' ⟨rfl, rfl⟩
        by_cases he : Ev.word k = x
        · have hqq : ((Ln.bs (Ev.word k)).toList == (Ln.bs x).toList) = true := by rw [bs_eqb]; simp [he]
          have HS : Hid (seenK x (k + 1) = (k : Int)) := by rw [Hid, seenK, HW.out.1 he, if_pos (by omega)]
          clear he
          go_wp2_with fail
          go_round
          case rel => exact ⟨k + 1, by omega, by go_num, by rw [HS.out]⟩
          case measure => simp [intOf]; omega
        · have hqq : ((Ln.bs (Ev.word k)).toList == (Ln.bs x).toList) = false := by rw [bs_eqb]; simp [he]
          have HS : Hid (seenK x (k + 1) = seenK x k) := by
            have hne : Ev.kindI x ≠ k := fun h => he (HW.out.2 h)
            rw [Hid, seenK, seenK]
            by_cases h : Ev.kindI x < k
            · rw [if_pos h, if_pos (by omega)]
            · rw [if_neg h, if_neg (by omega)]
          clear he
          generalize seenK x k = q at HS ⊢
          go_wp2_with fail
          go_round
          case rel => exact ⟨k + 1, by omega, by go_num, by rw [HS.out]⟩
          case measure => simp [intOf]; omega
      · obtain rfl : k = 5 := by omega
        by_cases hk5 : Ev.kindI x < 5
        · rw [show seenK x 5 = (Ev.kindI x : Int) from if_pos hk5]
          generalize Ev.kindI x = n at *
          obtain ⟨m, HM, key⟩ : ∃ m : Nat, Hid (Ev.many (n : Int) = m) ∧ (m = 3 ∧ ((n : Int) == 1) = true ∨ m = 3 ∧ ((n : Int) == 1) = false ∧ ((n : Int) == 2) = true ∨ m = 1 ∧ ((n : Int) == 1) = false ∧ ((n : Int) == 2) = false) := by
            refine ⟨_, rfl, ?_⟩
            unfold Ev.many
            by_cases h1 : (n : Int) = 1
            · exact .inl ⟨if_pos ((Ev.hasKey_iff _).2 (.inl h1)), beq_iff_eq.2 h1⟩
            · by_cases h2 : (n : Int) = 2
              · exact .inr (.inl ⟨if_pos ((Ev.hasKey_iff _).2 (.inr h2)), beq_eq_false_iff_ne.2 h1, beq_iff_eq.2 h2⟩)
              · exact .inr (.inr ⟨if_neg (fun h => ((Ev.hasKey_iff _).1 h).elim h1 h2), beq_eq_false_iff_ne.2 h1, beq_eq_false_iff_ne.2 h2⟩)
          by_cases hrm : r.length = m
          · have HP2 : Hid (Ev.parseR s = Ev.ofWords (n : Int) r) := by rw [Hid, HP.out, if_pos ⟨hk5, by rw [List.length_cons, HM.out]; omega⟩]
            have HRM := Lib.hid hrm
            rw [hrm]
            clear hrm hr7 HP hc0 HM
            have q0 : decide ((n : Int) < 0) = false := by simp
            have HC : Hid (∀ (k : Nat) (hk : k < r.length), w1.cell? ⟨ad.block, ad.off + (k + 1), none⟩ = some (.string (Ln.bs (r[k]'hk)))) := fun k hk => by
              obtain ⟨_, e1, _, hcell⟩ := HF.out (k + 1) (by rw [List.length_cons]; omega)
              cases e1
              rw [show (⟨ad.block, ad.off + (k + 1), none⟩ : Addr) = ad.add (k + 1) from by simp [Addr.add]]
              exact hcell
            have HWL : Hid (∀ y ∈ r, (Ln.bs y).size ≤ 9223372036854775806) := fun y hy => by
              have h := HLN.out y (List.mem_cons_of_mem _ hy)
              rw [Ln.bs_size]
              omega
            clear HF HLN hk5 hk hlt
            rcases key with ⟨rfl, k1⟩ | ⟨rfl, k1, k2⟩ | ⟨rfl, k1, k2⟩
            all_goals
              go_wp2_with fail
              go_loopw [11] (fun i wr => ∃ (k : Nat) (a b d : Int), k ≤ r.length ∧ i = .int .i64 ((k : Int) + 1) ∧ wr = w1.alloc (.cells #[.int .i64 a, .int .i64 b, .int .i64 d] 3) ∧ Hid (Ev.bad (r.take k) = 0 ∧ a = (Ev.vals (r.take k)).getD 0 0 ∧ b = (Ev.vals (r.take k)).getD 1 0 ∧ d = (Ev.vals (r.take k)).getD 2 0)) (fun i _ => 4 - (intOf i).toNat)
              case atStart => exact ⟨0, 0, 0, 0, Nat.zero_le _, rfl, rfl, rfl, rfl, rfl, rfl⟩
              case round =>
                obtain ⟨k, a, y2, d, hkm, rfl, rfl, hst⟩ := hrel
                have hr3 := HRM.out
                by_cases hlt : k < r.length
                · obtain ⟨y, hy⟩ : ∃ y, y = r[k]'hlt := ⟨_, rfl⟩
                  have hcy := HC.out k hlt
                  rw [← hy] at hcy
                  have HYM : Hid ((Ln.bs y).size ≤ 9223372036854775806) := HWL.out y (by rw [hy]; exact List.getElem_mem _)
                  obtain ⟨hb0, ha0, hb1', hd0⟩ := hst.out
                  have HBT := Lib.hid (Ev.bad_take r k hlt hb0)
                  have HVT := Lib.hid (Ev.vals_take r k hlt)
                  rw [← hy] at HBT HVT
                  have HVL : Hid ((Ev.vals (r.take k)).length = k) := by rw [Hid, Ev.vals_len, List.length_take]; omega
                  clear hy hb0 ha0 hb1' hd0
                  go_wp2_with fail
                  refine (rWhole_at _ _ HYM.out).mono ?_
                  rintro e w' ⟨rfl, rfl⟩
                  rw [Ln.bs_data]
                  by_cases hw : (Nm.wholeR y).2 = 0
                  · rw [hw]
                    have hst2 := three_put hst.out.2 HVT.out HVL.out
                    have HST := Lib.hid (And.intro (HBT.out.1.trans hw) hst2)
                    clear hst2 hw
                    generalize (Nm.wholeR y).1 = v at *
                    obtain rfl | rfl | rfl : k = 0 ∨ k = 1 ∨ k = 2 := by omega
                    all_goals
                      first
                      | omega
                      | (go_wp2_with fail
                         go_roundw
                         case rel => exact ⟨_, _, _, _, by omega, by go_num, rfl, HST⟩
                         case measure => simp [intOf])
                  · have HR : Hid (Ev.parseR s = (Ev.zero, (Nm.wholeR y).2)) := by
                      have hb := HBT.out.2 hw
                      rw [Hid, HP2.out, Ev.ofWords, hb, if_pos hw]
                    generalize (Nm.wholeR y).1 = v at *
                    generalize (Nm.wholeR y).2 = q at *
                    have hq : (q != 0) = true := by rw [bne_iff_ne]; exact hw
                    have HMW := Lib.hid (HM1.out.alloc (.cells #[.int .i64 a, .int .i64 y2, .int .i64 d] 3))
                    have HBW := Lib.hid (below_all HB1.out ((Below.refl _ w1).alloc (Nat.le_refl _) (.cells #[.int .i64 a, .int .i64 y2, .int .i64 d] 3)))
                    generalize w1.alloc (.cells #[.int .i64 a, .int .i64 y2, .int .i64 d] 3) = W at *
                    clear hw hz0 hz1 hz2 hz3 hf hcy hst HBT HVT
                    have hz0 := HMW.out.c0
                    have hz1 := HMW.out.c1
                    have hz2 := HMW.out.c2
                    have hz3 := HMW.out.c3
                    have hf := HMW.out.f
                    go_wp2_with fail
                    exact end_rev _ _ HMW.out HBW.out HBB.out 0 0 0 0 q HR.out rfl rfl rfl
                · obtain rfl : k = r.length := by omega
                  obtain ⟨hb0, ha0, hb1', hd0⟩ := hst.out
                  rw [List.take_length] at hb0 ha0 hb1' hd0
                  have HO : Hid (Ev.parseR s = if 8 ≤ a ∨ 16 ≤ y2 then (Ev.zero, 4) else (⟨(n : Int), a, y2, d⟩, 0)) := by
                    rw [Hid, HP2.out, Ev.ofWords, hb0, if_neg (by simp), ← ha0, ← hb1']
                    split
                    · rfl
                    · rw [Ev.ofNums, ← ha0, ← hb1', ← hd0]
                  have HMW := Lib.hid (HM1.out.alloc (.cells #[.int .i64 a, .int .i64 y2, .int .i64 d] 3))
                  have HBW := Lib.hid (below_all HB1.out ((Below.refl _ w1).alloc (Nat.le_refl _) (.cells #[.int .i64 a, .int .i64 y2, .int .i64 d] 3)))
                  have hn0 : (w1.alloc (.cells #[.int .i64 a, .int .i64 y2, .int .i64 d] 3)).cell? ⟨w1.heap.size, 0, none⟩ = some (.int .i64 a) := new_cell w1 _ _ 0 _ rfl
                  have hn1 : (w1.alloc (.cells #[.int .i64 a, .int .i64 y2, .int .i64 d] 3)).cell? ⟨w1.heap.size, 1, none⟩ = some (.int .i64 y2) := new_cell w1 _ _ 1 _ rfl
                  have hn2 : (w1.alloc (.cells #[.int .i64 a, .int .i64 y2, .int .i64 d] 3)).cell? ⟨w1.heap.size, 2, none⟩ = some (.int .i64 d) := new_cell w1 _ _ 2 _ rfl
                  generalize w1.alloc (.cells #[.int .i64 a, .int .i64 y2, .int .i64 d] 3) = W at *
                  clear hb0 ha0 hb1' hd0 hst hz0 hz1 hz2 hz3 hf hkm hlt
                  have hz0 := HMW.out.c0
                  have hz1 := HMW.out.c1
                  have hz2 := HMW.out.c2
                  have hz3 := HMW.out.c3
                  have hf := HMW.out.f
                  by_cases h8 : 8 ≤ a
                  · have q1 : decide (7 < a) = true := by simp; omega
                    have HR : Hid (Ev.parseR s = (Ev.zero, 4)) := by rw [Hid, HO.out, if_pos (.inl h8)]
                    clear h8
                    go_wp2_with fail
                    exact end_rev _ _ HMW.out HBW.out HBB.out 0 0 0 0 4 HR.out rfl rfl rfl
                  · have q1 : decide (7 < a) = false := by simp; omega
                    by_cases h16 : 16 ≤ y2
                    · have q2 : decide (15 < y2) = true := by simp; omega
                      have HR : Hid (Ev.parseR s = (Ev.zero, 4)) := by rw [Hid, HO.out, if_pos (.inr h16)]
                      clear h8 h16
                      go_wp2_with fail
                      exact end_rev _ _ HMW.out HBW.out HBB.out 0 0 0 0 4 HR.out rfl rfl rfl
                    · have q2 : decide (15 < y2) = false := by simp; omega
                      have HR : Hid (Ev.parseR s = (⟨(n : Int), a, y2, d⟩, 0)) := by rw [Hid, HO.out, if_neg (by omega)]
                      clear h8 h16
                      go_wp2_with fail
                      go_region
                      go_wp2_with fail
                      exact end_rev_drew _ _ HMW.out HBW.out HBB.out (n : Int) a y2 d 0 HR.out rfl rfl rfl
          · have HR : Hid (Ev.parseR s = (Ev.zero, 2)) := by rw [Hid, HP.out, if_neg (fun h => hrm (by have := h.2; rw [List.length_cons, HM.out] at this; omega))]
            rcases key with ⟨rfl, k1⟩ | ⟨rfl, k1, k2⟩ | ⟨rfl, k1, k2⟩
            · have q2 : (((r.length : Int) + 1) != 4) = true := by rw [bne_iff_ne]; omega
              clear hrm
              go_wp2_with fail
              exact end_rev _ _ HM1.out HB1.out HBB.out 0 0 0 0 2 HR.out rfl rfl rfl
            · have q2 : (((r.length : Int) + 1) != 4) = true := by rw [bne_iff_ne]; omega
              clear hrm
              go_wp2_with fail
              exact end_rev _ _ HM1.out HB1.out HBB.out 0 0 0 0 2 HR.out rfl rfl rfl
            · have q2 : (((r.length : Int) + 1) != 2) = true := by rw [bne_iff_ne]; omega
              clear hrm
              go_wp2_with fail
              exact end_rev _ _ HM1.out HB1.out HBB.out 0 0 0 0 2 HR.out rfl rfl rfl
        · have HR : Hid (Ev.parseR s = (Ev.zero, 2)) := by rw [Hid, HP.out, if_neg (fun h => hk5 h.1)]
          rw [show seenK x 5 = -1 from if_neg hk5]
          clear hk5
          go_wp2_with fail
          exact end_rev _ _ HM1.out HB1.out HBB.out 0 0 0 0 2 HR.out rfl rfl rfl
  · have HR : Hid (Ev.parseR s = (Ev.zero, 2)) := by rw [Hid, Ev.parseR, if_pos hq]
    have he := Ln.wordsR_err s hq
    rw [he] at hs1 ⊢
    obtain ⟨A, c, rfl⟩ := hs1.none_ rfl
    clear hs1 hq he
    go_wp2_with fail
    exact end_rev _ _ HM1.out HB1.out HBB.out 0 0 0 0 2 HR.out rfl rfl rfl
end Go.Proofs.YtfjamdpgbbnmcaaGreatDoor
