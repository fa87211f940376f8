/-
  Plain facts on texts of events (no Go in it): a text's events, or where it is wrong, and how; events' text; that each is the other's inverse; two texts, one behind the other.
  Conditions: none beyond those that each theorem states.
-/
import Derived.Test.YtkeaibngofbkhaaEvPlain
namespace Go.Proofs.Ytkeaibngofbkhaa.Di

/-- The error of the first line that is no event's, and that line's number, from 1 on: 0 and 0 if all are events'. -/
def bad : List (List UInt8) → Int
  | [] => 0
  | x :: r => if (Ev.parseR x).2 ≠ 0 then (Ev.parseR x).2 else bad r
def place : List (List UInt8) → Nat
  | [] => 0
  | x :: r => if (Ev.parseR x).2 ≠ 0 then 1 else if bad r ≠ 0 then place r + 1 else 0
def evs (l : List (List UInt8)) : List Ev.Event := l.map fun x => (Ev.parseR x).1
/-- Parse's answer: P4.1. -/
def parseR (s : List UInt8) : List Ev.Event × Int × Int :=
  if (Ln.splitR s).2 ≠ 0 then ([], 0, (Ln.splitR s).2)
  else if bad (Ln.splitR s).1 ≠ 0 then ([], (place (Ln.splitR s).1 : Int), bad (Ln.splitR s).1)
  else (evs (Ln.splitR s).1, 0, 0)
def lines (l : List Ev.Event) : List (List UInt8) := l.map fun e => (Ev.showR e).1
/-- Show's answer: P4.2. -/
def showR (l : List Ev.Event) : List UInt8 × Int :=
  if 400 < l.length then ([], 4) else if l.all Ev.right = true then (Ln.joinS (lines l), 0) else ([], 1)

theorem parse_split (s : List UInt8) (h : (Ln.splitR s).2 ≠ 0) : parseR s = ([], 0, (Ln.splitR s).2) := if_pos h
theorem parse_bad (s : List UInt8) (h : (Ln.splitR s).2 = 0) (h' : bad (Ln.splitR s).1 ≠ 0) : parseR s = ([], (place (Ln.splitR s).1 : Int), bad (Ln.splitR s).1) := by
  rw [parseR, if_neg (by simpa using h), if_pos h']
theorem parse_ok (s : List UInt8) (h : (Ln.splitR s).2 = 0) (h' : bad (Ln.splitR s).1 = 0) : parseR s = (evs (Ln.splitR s).1, 0, 0) := by
  rw [parseR, if_neg (by simpa using h), if_neg (by simpa using h')]
theorem parse_yes (s : List UInt8) (h : (parseR s).2.2 = 0) : (Ln.splitR s).2 = 0 ∧ bad (Ln.splitR s).1 = 0 ∧ parseR s = (evs (Ln.splitR s).1, 0, 0) := by
  by_cases h1 : (Ln.splitR s).2 = 0
  · by_cases h2 : bad (Ln.splitR s).1 = 0
    · exact ⟨h1, h2, parse_ok s h1 h2⟩
    · rw [parse_bad s h1 h2] at h; exact absurd h h2
  · rw [parse_split s h1] at h; exact absurd h h1
theorem parse_none (s : List UInt8) (h : (parseR s).2.2 ≠ 0) : (parseR s).1 = [] := by
  by_cases h1 : (Ln.splitR s).2 = 0
  · by_cases h2 : bad (Ln.splitR s).1 = 0
    · rw [parse_ok s h1 h2] at h; exact absurd rfl h
    · rw [parse_bad s h1 h2]
  · rw [parse_split s h1]

theorem bad_cons (x : List UInt8) (r : List (List UInt8)) (h : (Ev.parseR x).2 = 0) : bad (x :: r) = bad r := by rw [bad, if_neg (by simpa using h)]
theorem bad_zero (l : List (List UInt8)) : bad l = 0 ↔ ∀ x ∈ l, (Ev.parseR x).2 = 0 := by
  induction l with
  | nil => simp [bad]
  | cons y l ih =>
    by_cases hy : (Ev.parseR y).2 = 0
    · rw [bad_cons _ _ hy, ih]
      constructor
      · intro h x hx
        rcases List.mem_cons.1 hx with e | e
        · rw [e]; exact hy
        · exact h x e
      · exact fun h x hx => h x (List.mem_cons_of_mem _ hx)
    · rw [bad, if_pos hy]
      exact ⟨fun h => absurd h hy, fun h => absurd (h y List.mem_cons_self) hy⟩
/-- One line more, all ahead of it being events'. -/
theorem bad_take (l : List (List UInt8)) (k : Nat) (hk : k < l.length) (h : bad (l.take k) = 0) :
    bad (l.take (k + 1)) = (Ev.parseR l[k]).2 ∧ ((Ev.parseR l[k]).2 ≠ 0 → bad l = (Ev.parseR l[k]).2 ∧ place l = k + 1) := by
  induction l generalizing k with
  | nil => simp at hk
  | cons x l ih =>
    cases k with
    | zero =>
      by_cases hx : (Ev.parseR x).2 = 0
      · exact ⟨by simp [bad, hx], fun e => absurd hx e⟩
      · exact ⟨by simp [bad, hx], fun _ => by simp [bad, place, hx]⟩
    | succ k =>
      rw [List.take_succ_cons] at h
      by_cases hx : (Ev.parseR x).2 = 0
      · rw [bad_cons _ _ hx] at h
        obtain ⟨i1, i2⟩ := ih k (by simpa using hk) h
        rw [List.take_succ_cons, bad_cons _ _ hx, bad_cons _ _ hx]
        refine ⟨i1, fun e => ?_⟩
        obtain ⟨j1, j2⟩ := i2 e
        have hne : bad l ≠ 0 := by rw [j1]; exact e
        refine ⟨j1, ?_⟩
        rw [place, if_neg (by simpa using hx), if_pos hne, j2]
      · rw [bad, if_pos hx] at h
        exact absurd h hx
/-- Where the first wrong line is: all ahead of it are events', it is not, and its error is told. -/
theorem place_is (l : List (List UInt8)) (h : bad l ≠ 0) : ∃ k, ∃ hk : k < l.length, place l = k + 1 ∧ bad (l.take k) = 0 ∧ (Ev.parseR l[k]).2 = bad l := by
  induction l with
  | nil => exact absurd rfl h
  | cons x l ih =>
    by_cases hx : (Ev.parseR x).2 = 0
    · rw [bad_cons _ _ hx] at h
      obtain ⟨k, hk, e1, e2, e3⟩ := ih h
      refine ⟨k + 1, by simpa using hk, ?_, ?_, ?_⟩
      · rw [place, if_neg (by simpa using hx), if_pos h, e1]
      · rw [List.take_succ_cons, bad_cons _ _ hx, e2]
      · rw [bad_cons _ _ hx]; exact e3
    · exact ⟨0, by simp, by rw [place, if_pos hx], rfl, by rw [bad, if_pos hx]; rfl⟩
theorem bad_append (a b : List (List UInt8)) (h : bad a ≠ 0) : bad (a ++ b) = bad a ∧ place (a ++ b) = place a := by
  induction a with
  | nil => exact absurd rfl h
  | cons x a ih =>
    by_cases hx : (Ev.parseR x).2 = 0
    · rw [bad_cons _ _ hx] at h
      obtain ⟨i1, i2⟩ := ih h
      refine ⟨by rw [List.cons_append, bad_cons _ _ hx, bad_cons _ _ hx, i1], ?_⟩
      simp only [List.cons_append, place, hx, i1, i2, h, ne_eq, not_true_eq_false, not_false_eq_true, if_true, if_false]
    · rw [List.cons_append, bad, bad, place, place, if_pos hx, if_pos hx, if_pos hx, if_pos hx]
      exact ⟨rfl, rfl⟩
theorem bad_both (a b : List (List UInt8)) (ha : bad a = 0) (hb : bad b = 0) : bad (a ++ b) = 0 := by
  rw [bad_zero] at ha hb ⊢
  intro x hx
  rcases List.mem_append.1 hx with h | h
  · exact ha x h
  · exact hb x h
theorem evs_append (a b : List (List UInt8)) : evs (a ++ b) = evs a ++ evs b := by simp [evs]
theorem evs_len (l : List (List UInt8)) : (evs l).length = l.length := by simp [evs]
theorem evs_take (l : List (List UInt8)) (k : Nat) (hk : k < l.length) : evs (l.take (k + 1)) = evs (l.take k) ++ [(Ev.parseR l[k]).1] := by
  rw [List.take_succ_eq_append_getElem hk, evs_append]
  rfl

theorem all_right (l : List Ev.Event) : l.all Ev.right = true ↔ ∀ e ∈ l, Ev.right e = true := by simp
theorem show_many (l : List Ev.Event) (h : 400 < l.length) : showR l = ([], 4) := if_pos h
theorem show_arg (l : List Ev.Event) (h : ¬ 400 < l.length) (h' : ¬ l.all Ev.right = true) : showR l = ([], 1) := by rw [showR, if_neg h, if_neg h']
theorem show_ok (l : List Ev.Event) (h : ¬ 400 < l.length) (h' : l.all Ev.right = true) : showR l = (Ln.joinS (lines l), 0) := by rw [showR, if_neg h, if_pos h']
theorem show_yes (l : List Ev.Event) (h : (showR l).2 = 0) : l.length ≤ 400 ∧ (∀ e ∈ l, Ev.right e = true) ∧ showR l = (Ln.joinS (lines l), 0) := by
  by_cases h1 : 400 < l.length
  · rw [show_many l h1] at h; cases h
  · by_cases h2 : l.all Ev.right = true
    · exact ⟨by omega, (all_right l).1 h2, show_ok l h1 h2⟩
    · rw [show_arg l h1 h2] at h; cases h
theorem show_none (l : List Ev.Event) (h : (showR l).2 ≠ 0) : (showR l).1 = [] := by
  unfold showR at h ⊢
  split
  · rfl
  · rename_i h1
    rw [if_neg h1] at h
    split
    · rename_i h2; rw [if_pos h2] at h; exact absurd rfl h
    · rfl
theorem lines_len (l : List Ev.Event) : (lines l).length = l.length := by simp [lines]

/-- An event's line has no newline. -/
theorem line_nl (e : Ev.Event) : (10 : UInt8) ∉ (Ev.showR e).1 := by
  by_cases h : Ev.right e = true
  · have hp := Ev.parse_back e h
    intro hm
    have hw : (Ln.wordsR (Ev.showR e).1).2 = 0 := by
      by_cases hw : (Ln.wordsR (Ev.showR e).1).2 = 0
      · exact hw
      · rw [Ev.parseR, if_pos hw] at hp
        cases hp
    obtain ⟨d, c, hr, _⟩ := Ln.wordsR_ok _ hw
    obtain ⟨i1, i2, i3⟩ := Ln.wrun_is _ d c hr
    have n10 : Ln.sign 10 = false := by decide
    rw [i1] at hm
    rcases List.mem_append.1 hm with h1 | h1
    · obtain ⟨x, hx, h2⟩ := List.mem_flatMap.1 h1
      rcases List.mem_append.1 h2 with h3 | h3
      · have := (i2 x hx).2 10 h3
        rw [n10] at this
        cases this
      · simp at h3
    · have := i3 10 h1
      rw [n10] at this
      cases this
  · rw [Ev.showR, if_neg h]
    simp
theorem lines_nl (l : List Ev.Event) : Ln.anyNl (lines l) = false := by
  rw [Ln.anyNl_iff]
  intro x hx
  obtain ⟨e, _, rfl⟩ := List.mem_map.1 hx
  exact line_nl e

theorem mem_join (l : List (List UInt8)) (x : List UInt8) (h : x ∈ l) : x.length ≤ (Ln.joinS l).length := by
  obtain ⟨a, b, rfl⟩ := List.append_of_mem h
  rw [show a ++ x :: b = (a ++ [x]) ++ b by simp, Ln.joinS_append, Ln.joinS_snoc]
  simp only [List.length_append, List.length_singleton]
  omega
theorem lines_join (l : List Ev.Event) : (Ln.joinS (lines l)).length ≤ 41 * l.length := by
  induction l with
  | nil => simp [lines, Ln.joinS]
  | cons e l ih =>
    have h := Ev.showR_len e
    rw [lines, List.map_cons, Ln.joinS_cons, List.length_append, List.length_cons, List.length_cons]
    rw [lines] at ih
    omega
theorem lines_take (l : List Ev.Event) (k : Nat) (hk : k < l.length) : lines (l.take (k + 1)) = lines (l.take k) ++ [(Ev.showR l[k]).1] := by
  rw [List.take_succ_eq_append_getElem hk, lines, lines, List.map_append]
  rfl
theorem right_take (l : List Ev.Event) (k : Nat) (hk : k < l.length) : (l.take (k + 1)).all Ev.right = ((l.take k).all Ev.right && Ev.right l[k]) := by
  rw [List.take_succ_eq_append_getElem hk, List.all_append]
  simp
theorem right_not (l : List Ev.Event) (k : Nat) (hk : k < l.length) (h : Ev.right l[k] = false) : ¬ l.all Ev.right = true := by
  rw [all_right]
  intro h'
  rw [h' _ (List.getElem_mem hk)] at h
  cases h
/-- Join, over the events' lines. -/
theorem show_join (l : List Ev.Event) (h : ¬ 400 < l.length) (h' : l.all Ev.right = true) : Ln.joinR (lines l) = showR l := by
  rw [show_ok l h h', Ln.joinR_ok _ (by rw [lines_len]; omega) (lines_nl l)]
theorem show_len (l : List Ev.Event) : (showR l).1.length ≤ 16400 := by
  by_cases h : (showR l).2 = 0
  · obtain ⟨h1, _, e⟩ := show_yes l h
    rw [e]
    have := lines_join l
    show (Ln.joinS (lines l)).length ≤ 16400
    omega
  · rw [show_none l h]
    exact Nat.zero_le _
/-- A line is no longer than its text. -/
theorem line_len (s : List UInt8) (h : (Ln.splitR s).2 = 0) (x : List UInt8) (hx : x ∈ (Ln.splitR s).1) : x.length ≤ s.length := by
  have hj := Ln.back_split s h
  have hq : (Ln.joinR (Ln.splitR s).1).2 = 0 := by rw [hj]
  have e := (Ln.back_join _ hq).1
  rw [hj] at e
  have := mem_join _ x hx
  rw [← (Prod.mk.inj e).1] at this
  exact this

theorem parse_len (s : List UInt8) : (parseR s).1.length ≤ 400 := by
  by_cases h : (parseR s).2.2 = 0
  · obtain ⟨_, _, e⟩ := parse_yes s h
    rw [e]
    show (evs (Ln.splitR s).1).length ≤ 400
    rw [evs_len]
    exact Ln.splitR_len s
  · rw [parse_none s h]
    exact Nat.zero_le _

/-- What is shown is parsed as it was: P4.3. -/
theorem parse_back (l : List Ev.Event) (h : (showR l).2 = 0) : parseR (showR l).1 = (l, 0, 0) := by
  obtain ⟨h1, h2, h3⟩ := show_yes l h
  obtain ⟨_, hs⟩ := Ln.back_join (lines l) (by rw [Ln.joinR_ok _ (by rw [lines_len]; exact h1) (lines_nl l)])
  have hp : ∀ e ∈ l, Ev.parseR (Ev.showR e).1 = (e, 0) := fun e he => Ev.parse_back e (h2 e he)
  have hb : bad (lines l) = 0 := (bad_zero _).2 (fun x hx => by
    obtain ⟨e, he, rfl⟩ := List.mem_map.1 hx
    rw [hp e he])
  have he : evs (lines l) = l := by
    rw [evs, lines, List.map_map]
    conv => rhs; rw [← List.map_id l]
    exact List.map_congr_left (fun e he => by simp [hp e he])
  have hs' : Ln.splitR (showR l).1 = (lines l, 0) := by rw [h3]; exact hs
  rw [parse_ok _ (by rw [hs']) (by rw [hs']; exact hb), hs', he]
/-- What is parsed is shown as it was: P4.3. -/
theorem parse_own (s : List UInt8) (h : (parseR s).2.2 = 0) : showR (parseR s).1 = (s, 0) := by
  obtain ⟨h1, h2, h3⟩ := parse_yes s h
  have hj := Ln.back_split s h1
  have hl := Ln.splitR_len s
  rw [h3]
  obtain ⟨l, hl'⟩ : ∃ l, l = (Ln.splitR s).1 := ⟨_, rfl⟩
  rw [← hl'] at h2 hj hl ⊢
  have ho : ∀ x ∈ l, Ev.right (Ev.parseR x).1 = true ∧ Ev.showR (Ev.parseR x).1 = (x, 0) := fun x hx => Ev.parse_own x ((bad_zero l).1 h2 x hx)
  have hr : (evs l).all Ev.right = true := (all_right _).2 (fun e he => by
    obtain ⟨x, hx, rfl⟩ := List.mem_map.1 he
    exact (ho x hx).1)
  have hls : lines (evs l) = l := by
    rw [evs, lines, List.map_map]
    conv => rhs; rw [← List.map_id l]
    exact List.map_congr_left (fun x hx => by simp [(ho x hx).2])
  rw [show_ok _ (by rw [evs_len]; omega) hr, hls]
  have hq : (Ln.joinR l).2 = 0 := by rw [hj]
  have := (Ln.back_join l hq).1
  rw [hj] at this
  rw [← this]

/-- Two texts of whole lines, one behind the other: the second is one too, if both together are. -/
theorem split_more (s t : List UInt8) (hs : (Ln.splitR s).2 = 0) (h : (Ln.splitR (s ++ t)).2 = 0) : (Ln.splitR t).2 = 0 ∧ Ln.splitR (s ++ t) = ((Ln.splitR s).1 ++ (Ln.splitR t).1, 0) := by
  obtain ⟨a1, a2, _⟩ := Ln.splitR_yes s hs
  obtain ⟨b1, b2, _⟩ := Ln.splitR_yes (s ++ t) h
  rw [List.count_append] at b2
  have ht : Ln.shut t = true := by
    induction t using Ln.snocRec with
    | nil => rfl
    | snoc t b _ => rw [← List.append_assoc, Ln.shut_snoc] at b1; rw [Ln.shut_snoc]; exact b1
  have ht2 : (Ln.splitR t).2 = 0 := by rw [Ln.splitR_ok t ht (by omega)]
  have hb := Ln.split_both s t hs ht2
  refine ⟨ht2, ?_⟩
  by_cases hc : 400 < (Ln.splitR s).1.length + (Ln.splitR t).1.length
  · rw [if_pos hc] at hb
    rw [hb] at h
    cases h
  · rw [hb, if_neg hc]
/-- Behind a wrong line nothing plays a part: P4.3. -/
theorem parse_more (s t : List UInt8) (hs : (Ln.splitR s).2 = 0) (hb : bad (Ln.splitR s).1 ≠ 0) (h : (Ln.splitR (s ++ t)).2 = 0) : parseR (s ++ t) = ([], (place (Ln.splitR s).1 : Int), bad (Ln.splitR s).1) := by
  obtain ⟨_, e⟩ := split_more s t hs h
  obtain ⟨i1, i2⟩ := bad_append (Ln.splitR s).1 (Ln.splitR t).1 hb
  rw [parse_bad (s ++ t) h (by rw [e]; show bad ((Ln.splitR s).1 ++ (Ln.splitR t).1) ≠ 0; rw [i1]; exact hb), e]
  show ([], (place ((Ln.splitR s).1 ++ (Ln.splitR t).1) : Int), bad ((Ln.splitR s).1 ++ (Ln.splitR t).1)) = _
  rw [i1, i2]
/-- Two texts of events, one behind the other. -/
theorem parse_both (s t : List UInt8) (hs : (parseR s).2.2 = 0) (ht : (parseR t).2.2 = 0) (hn : (parseR s).1.length + (parseR t).1.length ≤ 400) : parseR (s ++ t) = ((parseR s).1 ++ (parseR t).1, 0, 0) := by
  obtain ⟨a1, a2, a3⟩ := parse_yes s hs
  obtain ⟨b1, b2, b3⟩ := parse_yes t ht
  rw [a3, b3] at hn ⊢
  simp only [evs_len] at hn
  have e := Ln.split_both s t a1 b1
  rw [if_neg (by omega)] at e
  rw [parse_ok (s ++ t) (by rw [e]) (by rw [e]; exact bad_both _ _ a2 b2), e]
  show (evs ((Ln.splitR s).1 ++ (Ln.splitR t).1), (0 : Int), (0 : Int)) = _
  rw [evs_append]
end Go.Proofs.Ytkeaibngofbkhaa.Di
