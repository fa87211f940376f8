/-
  Several texts in one, each with its own first words: DiPlain, DiMem, DiWalkA, DiWalkB, DiWalkC, DiWalkD, DiRefA, DiRefB.
  Conditions: as each says.
-/
import Derived.Test.YtfjamdpgbbnmcaaGreatDoorEvAll
import Derived.Test.YtfjamdpgbbnmcaaGreatDoorNumLn
import Derived.Deep.Slices
import Derived.Deep.Fields
import Derived.ChangeSame
import Derived.Defers
import Derived.Recover
/-
  Plain facts on texts of events (no Go in it): a text's events, or where it is wrong, and how; events' text; that each is the other's inverse; two texts, one behind the other.
  Conditions: none beyond those that each theorem states.
-/
set_option maxRecDepth 4000
namespace Go.Proofs.YtfjamdpgbbnmcaaGreatDoor.Di

/-- The error of the first line that is no event's, and that line's number, from 1 on: 0 and 0 if all are events'. -/
def bad : List (List UInt8) → Int
  | [] => 0
  | x :: r => if (Ev.parseR x).2 ≠ 0 then (Ev.parseR x).2 else bad r
def place : List (List UInt8) → Nat
  | [] => 0
  | x :: r => if (Ev.parseR x).2 ≠ 0 then 1 else if bad r ≠ 0 then place r + 1 else 0
def evs (l : List (List UInt8)) : List Ev.Event := l.map fun x => (Ev.parseR x).1
/-- Parse's answer: P4.1. -/
def parseR (s : List UInt8) : List Ev.Event × Int × Int :=
  if (Ln.splitR s).2 ≠ 0 then ([], 0, (Ln.splitR s).2)
  else if bad (Ln.splitR s).1 ≠ 0 then ([], (place (Ln.splitR s).1 : Int), bad (Ln.splitR s).1)
  else (evs (Ln.splitR s).1, 0, 0)
def lines (l : List Ev.Event) : List (List UInt8) := l.map fun e => (Ev.showR e).1
/-- Show's answer: P4.2. -/
def showR (l : List Ev.Event) : List UInt8 × Int :=
  if 400 < l.length then ([], 4) else if l.all Ev.right = true then (Ln.joinS (lines l), 0) else ([], 1)

theorem parse_split (s : List UInt8) (h : (Ln.splitR s).2 ≠ 0) : parseR s = ([], 0, (Ln.splitR s).2) := if_pos h
theorem parse_bad (s : List UInt8) (h : (Ln.splitR s).2 = 0) (h' : bad (Ln.splitR s).1 ≠ 0) : parseR s = ([], (place (Ln.splitR s).1 : Int), bad (Ln.splitR s).1) := by
  rw [parseR, if_neg (by simpa using h), if_pos h']
theorem parse_ok (s : List UInt8) (h : (Ln.splitR s).2 = 0) (h' : bad (Ln.splitR s).1 = 0) : parseR s = (evs (Ln.splitR s).1, 0, 0) := by
  rw [parseR, if_neg (by simpa using h), if_neg (by simpa using h')]
theorem parse_yes (s : List UInt8) (h : (parseR s).2.2 = 0) : (Ln.splitR s).2 = 0 ∧ bad (Ln.splitR s).1 = 0 ∧ parseR s = (evs (Ln.splitR s).1, 0, 0) := by
  by_cases h1 : (Ln.splitR s).2 = 0
  · by_cases h2 : bad (Ln.splitR s).1 = 0
    · exact ⟨h1, h2, parse_ok s h1 h2⟩
    · rw [parse_bad s h1 h2] at h; exact absurd h h2
  · rw [parse_split s h1] at h; exact absurd h h1
theorem parse_none (s : List UInt8) (h : (parseR s).2.2 ≠ 0) : (parseR s).1 = [] := by
  by_cases h1 : (Ln.splitR s).2 = 0
  · by_cases h2 : bad (Ln.splitR s).1 = 0
    · rw [parse_ok s h1 h2] at h; exact absurd rfl h
    · rw [parse_bad s h1 h2]
  · rw [parse_split s h1]

theorem bad_cons (x : List UInt8) (r : List (List UInt8)) (h : (Ev.parseR x).2 = 0) : bad (x :: r) = bad r := by rw [bad, if_neg (by simpa using h)]
theorem bad_zero (l : List (List UInt8)) : bad l = 0 ↔ ∀ x ∈ l, (Ev.parseR x).2 = 0 := by
  induction l with
  | nil => simp [bad]
  | cons y l ih =>
    by_cases hy : (Ev.parseR y).2 = 0
    · rw [bad_cons _ _ hy, ih]
      constructor
      · intro h x hx
        rcases List.mem_cons.1 hx with e | e
        · rw [e]; exact hy
        · exact h x e
      · exact fun h x hx => h x (List.mem_cons_of_mem _ hx)
    · rw [bad, if_pos hy]
      exact ⟨fun h => absurd h hy, fun h => absurd (h y List.mem_cons_self) hy⟩
/-- One line more, all ahead of it being events'. -/
theorem bad_take (l : List (List UInt8)) (k : Nat) (hk : k < l.length) (h : bad (l.take k) = 0) :
    bad (l.take (k + 1)) = (Ev.parseR l[k]).2 ∧ ((Ev.parseR l[k]).2 ≠ 0 → bad l = (Ev.parseR l[k]).2 ∧ place l = k + 1) := by
  induction l generalizing k with
  | nil => simp at hk
  | cons x l ih =>
    cases k with
    | zero =>
      by_cases hx : (Ev.parseR x).2 = 0
      · exact ⟨by simp [bad, hx], fun e => absurd hx e⟩
      · exact ⟨by simp [bad, hx], fun _ => by simp [bad, place, hx]⟩
    | succ k =>
      rw [List.take_succ_cons] at h
      by_cases hx : (Ev.parseR x).2 = 0
      · rw [bad_cons _ _ hx] at h
        obtain ⟨i1, i2⟩ := ih k (by simpa using hk) h
        rw [List.take_succ_cons, bad_cons _ _ hx, bad_cons _ _ hx]
        refine ⟨i1, fun e => ?_⟩
        obtain ⟨j1, j2⟩ := i2 e
        have hne : bad l ≠ 0 := by rw [j1]; exact e
        refine ⟨j1, ?_⟩
        rw [place, if_neg (by simpa using hx), if_pos hne, j2]
      · rw [bad, if_pos hx] at h
        exact absurd h hx
/-- Where the first wrong line is: all ahead of it are events', it is not, and its error is told. -/
theorem place_is (l : List (List UInt8)) (h : bad l ≠ 0) : ∃ k, ∃ hk : k < l.length, place l = k + 1 ∧ bad (l.take k) = 0 ∧ (Ev.parseR l[k]).2 = bad l := by
  induction l with
  | nil => exact absurd rfl h
  | cons x l ih =>
    by_cases hx : (Ev.parseR x).2 = 0
    · rw [bad_cons _ _ hx] at h
      obtain ⟨k, hk, e1, e2, e3⟩ := ih h
      refine ⟨k + 1, by simpa using hk, ?_, ?_, ?_⟩
      · rw [place, if_neg (by simpa using hx), if_pos h, e1]
      · rw [List.take_succ_cons, bad_cons _ _ hx, e2]
      · rw [bad_cons _ _ hx]; exact e3
    · exact ⟨0, by simp, by rw [place, if_pos hx], rfl, by rw [bad, if_pos hx]; rfl⟩
theorem bad_append (a b : List (List UInt8)) (h : bad a ≠ 0) : bad (a ++ b) = bad a ∧ place (a ++ b) = place a := by
  induction a with
  | nil => exact absurd rfl h
  | cons x a ih =>
    by_cases hx : (Ev.parseR x).2 = 0
    · rw [bad_cons _ _ hx] at h
      obtain ⟨i1, i2⟩ := ih h
      refine ⟨by rw [List.cons_append, bad_cons _ _ hx, bad_cons _ _ hx, i1], ?_⟩
      simp only [List.cons_append, place, hx, i1, i2, h, ne_eq, not_true_eq_false, not_false_eq_true, if_true, if_false]
    · rw [List.cons_append, bad, bad, place, place, if_pos hx, if_pos hx, if_pos hx, if_pos hx]
      exact ⟨rfl, rfl⟩
theorem bad_both (a b : List (List UInt8)) (ha : bad a = 0) (hb : bad b = 0) : bad (a ++ b) = 0 := by
  rw [bad_zero] at ha hb ⊢
  intro x hx
  rcases List.mem_append.1 hx with h | h
  · exact ha x h
  · exact hb x h
theorem evs_append (a b : List (List UInt8)) : evs (a ++ b) = evs a ++ evs b := by simp [evs]
theorem evs_len (l : List (List UInt8)) : (evs l).length = l.length := by simp [evs]
theorem evs_take (l : List (List UInt8)) (k : Nat) (hk : k < l.length) : evs (l.take (k + 1)) = evs (l.take k) ++ [(Ev.parseR l[k]).1] := by
  rw [List.take_succ_eq_append_getElem hk, evs_append]
  rfl

theorem all_right (l : List Ev.Event) : l.all Ev.right = true ↔ ∀ e ∈ l, Ev.right e = true := by simp
theorem show_many (l : List Ev.Event) (h : 400 < l.length) : showR l = ([], 4) := if_pos h
theorem show_arg (l : List Ev.Event) (h : ¬ 400 < l.length) (h' : ¬ l.all Ev.right = true) : showR l = ([], 1) := by rw [showR, if_neg h, if_neg h']
theorem show_ok (l : List Ev.Event) (h : ¬ 400 < l.length) (h' : l.all Ev.right = true) : showR l = (Ln.joinS (lines l), 0) := by rw [showR, if_neg h, if_pos h']
theorem show_yes (l : List Ev.Event) (h : (showR l).2 = 0) : l.length ≤ 400 ∧ (∀ e ∈ l, Ev.right e = true) ∧ showR l = (Ln.joinS (lines l), 0) := by
  by_cases h1 : 400 < l.length
  · rw [show_many l h1] at h; cases h
  · by_cases h2 : l.all Ev.right = true
    · exact ⟨by omega, (all_right l).1 h2, show_ok l h1 h2⟩
    · rw [show_arg l h1 h2] at h; cases h
theorem show_none (l : List Ev.Event) (h : (showR l).2 ≠ 0) : (showR l).1 = [] := by
  unfold showR at h ⊢
  split
  · rfl
  · rename_i h1
    rw [if_neg h1] at h
    split
    · rename_i h2; rw [if_pos h2] at h; exact absurd rfl h
    · rfl
theorem lines_len (l : List Ev.Event) : (lines l).length = l.length := by simp [lines]

/-- An event's line has no newline. -/
theorem line_nl (e : Ev.Event) : (10 : UInt8) ∉ (Ev.showR e).1 := by
  by_cases h : Ev.right e = true
  · have hp := Ev.parse_back e h
    intro hm
    have hw : (Ln.wordsR (Ev.showR e).1).2 = 0 := by
      by_cases hw : (Ln.wordsR (Ev.showR e).1).2 = 0
      · exact hw
      · rw [Ev.parseR, if_pos hw] at hp
        cases hp
    obtain ⟨d, c, hr, _⟩ := Ln.wordsR_ok _ hw
    obtain ⟨i1, i2, i3⟩ := Ln.wrun_is _ d c hr
    have n10 : Ln.sign 10 = false := by decide
    rw [i1] at hm
    rcases List.mem_append.1 hm with h1 | h1
    · obtain ⟨x, hx, h2⟩ := List.mem_flatMap.1 h1
      rcases List.mem_append.1 h2 with h3 | h3
      · have := (i2 x hx).2 10 h3
        rw [n10] at this
        cases this
      · simp at h3
    · have := i3 10 h1
      rw [n10] at this
      cases this
  · rw [Ev.showR, if_neg h]
    simp
theorem lines_nl (l : List Ev.Event) : Ln.anyNl (lines l) = false := by
  rw [Ln.anyNl_iff]
  intro x hx
  obtain ⟨e, _, rfl⟩ := List.mem_map.1 hx
  exact line_nl e

theorem mem_join (l : List (List UInt8)) (x : List UInt8) (h : x ∈ l) : x.length ≤ (Ln.joinS l).length := by
  obtain ⟨a, b, rfl⟩ := List.append_of_mem h
  rw [show a ++ x :: b = (a ++ [x]) ++ b by simp, Ln.joinS_append, Ln.joinS_snoc]
  simp only [List.length_append, List.length_singleton]
  omega
theorem lines_join (l : List Ev.Event) : (Ln.joinS (lines l)).length ≤ 41 * l.length := by
  induction l with
  | nil => simp [lines, Ln.joinS]
  | cons e l ih =>
    have h := Ev.showR_len e
    rw [lines, List.map_cons, Ln.joinS_cons, List.length_append, List.length_cons, List.length_cons]
    rw [lines] at ih
    omega
theorem lines_take (l : List Ev.Event) (k : Nat) (hk : k < l.length) : lines (l.take (k + 1)) = lines (l.take k) ++ [(Ev.showR l[k]).1] := by
  rw [List.take_succ_eq_append_getElem hk, lines, lines, List.map_append]
  rfl
theorem right_take (l : List Ev.Event) (k : Nat) (hk : k < l.length) : (l.take (k + 1)).all Ev.right = ((l.take k).all Ev.right && Ev.right l[k]) := by
  rw [List.take_succ_eq_append_getElem hk, List.all_append]
  simp
theorem right_not (l : List Ev.Event) (k : Nat) (hk : k < l.length) (h : Ev.right l[k] = false) : ¬ l.all Ev.right = true := by
  rw [all_right]
  intro h'
  rw [h' _ (List.getElem_mem hk)] at h
  cases h
/-- Join, over the events' lines. -/
theorem show_join (l : List Ev.Event) (h : ¬ 400 < l.length) (h' : l.all Ev.right = true) : Ln.joinR (lines l) = showR l := by
  rw [show_ok l h h', Ln.joinR_ok _ (by rw [lines_len]; omega) (lines_nl l)]
theorem show_len (l : List Ev.Event) : (showR l).1.length ≤ 16400 := by
  by_cases h : (showR l).2 = 0
  · obtain ⟨h1, _, e⟩ := show_yes l h
    rw [e]
    have := lines_join l
    show (Ln.joinS (lines l)).length ≤ 16400
    omega
  · rw [show_none l h]
    exact Nat.zero_le _
/-- A line is no longer than its text. -/
theorem line_len (s : List UInt8) (h : (Ln.splitR s).2 = 0) (x : List UInt8) (hx : x ∈ (Ln.splitR s).1) : x.length ≤ s.length := by
  have hj := Ln.back_split s h
  have hq : (Ln.joinR (Ln.splitR s).1).2 = 0 := by rw [hj]
  have e := (Ln.back_join _ hq).1
  rw [hj] at e
  have := mem_join _ x hx
  rw [← (Prod.mk.inj e).1] at this
  exact this

theorem parse_len (s : List UInt8) : (parseR s).1.length ≤ 400 := by
  by_cases h : (parseR s).2.2 = 0
  · obtain ⟨_, _, e⟩ := parse_yes s h
    rw [e]
    show (evs (Ln.splitR s).1).length ≤ 400
    rw [evs_len]
    exact Ln.splitR_len s
  · rw [parse_none s h]
    exact Nat.zero_le _

/-- What is shown is parsed as it was: P4.3. -/
theorem parse_back (l : List Ev.Event) (h : (showR l).2 = 0) : parseR (showR l).1 = (l, 0, 0) := by
  obtain ⟨h1, h2, h3⟩ := show_yes l h
  obtain ⟨_, hs⟩ := Ln.back_join (lines l) (by rw [Ln.joinR_ok _ (by rw [lines_len]; exact h1) (lines_nl l)])
  have hp : ∀ e ∈ l, Ev.parseR (Ev.showR e).1 = (e, 0) := fun e he => Ev.parse_back e (h2 e he)
  have hb : bad (lines l) = 0 := (bad_zero _).2 (fun x hx => by
    obtain ⟨e, he, rfl⟩ := List.mem_map.1 hx
    rw [hp e he])
  have he : evs (lines l) = l := by
    rw [evs, lines, List.map_map]
    conv => rhs; rw [← List.map_id l]
    exact List.map_congr_left (fun e he => by simp [hp e he])
  have hs' : Ln.splitR (showR l).1 = (lines l, 0) := by rw [h3]; exact hs
  rw [parse_ok _ (by rw [hs']) (by rw [hs']; exact hb), hs', he]
/-- What is parsed is shown as it was: P4.3. -/
theorem parse_own (s : List UInt8) (h : (parseR s).2.2 = 0) : showR (parseR s).1 = (s, 0) := by
  obtain ⟨h1, h2, h3⟩ := parse_yes s h
  have hj := Ln.back_split s h1
  have hl := Ln.splitR_len s
  rw [h3]
  obtain ⟨l, hl'⟩ : ∃ l, l = (Ln.splitR s).1 := ⟨_, rfl⟩
  rw [← hl'] at h2 hj hl ⊢
  have ho : ∀ x ∈ l, Ev.right (Ev.parseR x).1 = true ∧ Ev.showR (Ev.parseR x).1 = (x, 0) := fun x hx => Ev.parse_own x ((bad_zero l).1 h2 x hx)
  have hr : (evs l).all Ev.right = true := (all_right _).2 (fun e he => by
    obtain ⟨x, hx, rfl⟩ := List.mem_map.1 he
    exact (ho x hx).1)
  have hls : lines (evs l) = l := by
    rw [evs, lines, List.map_map]
    conv => rhs; rw [← List.map_id l]
    exact List.map_congr_left (fun x hx => by simp [(ho x hx).2])
  rw [show_ok _ (by rw [evs_len]; omega) hr, hls]
  have hq : (Ln.joinR l).2 = 0 := by rw [hj]
  have := (Ln.back_join l hq).1
  rw [hj] at this
  rw [← this]

/-- Two texts of whole lines, one behind the other: the second is one too, if both together are. -/
theorem split_more (s t : List UInt8) (hs : (Ln.splitR s).2 = 0) (h : (Ln.splitR (s ++ t)).2 = 0) : (Ln.splitR t).2 = 0 ∧ Ln.splitR (s ++ t) = ((Ln.splitR s).1 ++ (Ln.splitR t).1, 0) := by
  obtain ⟨a1, a2, _⟩ := Ln.splitR_yes s hs
  obtain ⟨b1, b2, _⟩ := Ln.splitR_yes (s ++ t) h
  rw [List.count_append] at b2
  have ht : Ln.shut t = true := by
    induction t using Ln.snocRec with
    | nil => rfl
    | snoc t b _ => rw [← List.append_assoc, Ln.shut_snoc] at b1; rw [Ln.shut_snoc]; exact b1
  have ht2 : (Ln.splitR t).2 = 0 := by rw [Ln.splitR_ok t ht (by omega)]
  have hb := Ln.split_both s t hs ht2
  refine ⟨ht2, ?_⟩
  by_cases hc : 400 < (Ln.splitR s).1.length + (Ln.splitR t).1.length
  · rw [if_pos hc] at hb
    rw [hb] at h
    cases h
  · rw [hb, if_neg hc]
/-- Behind a wrong line nothing plays a part: P4.3. -/
theorem parse_more (s t : List UInt8) (hs : (Ln.splitR s).2 = 0) (hb : bad (Ln.splitR s).1 ≠ 0) (h : (Ln.splitR (s ++ t)).2 = 0) : parseR (s ++ t) = ([], (place (Ln.splitR s).1 : Int), bad (Ln.splitR s).1) := by
  obtain ⟨_, e⟩ := split_more s t hs h
  obtain ⟨i1, i2⟩ := bad_append (Ln.splitR s).1 (Ln.splitR t).1 hb
  rw [parse_bad (s ++ t) h (by rw [e]; show bad ((Ln.splitR s).1 ++ (Ln.splitR t).1) ≠ 0; rw [i1]; exact hb), e]
  show ([], (place ((Ln.splitR s).1 ++ (Ln.splitR t).1) : Int), bad ((Ln.splitR s).1 ++ (Ln.splitR t).1)) = _
  rw [i1, i2]
/-- Two texts of events, one behind the other. -/
theorem parse_both (s t : List UInt8) (hs : (parseR s).2.2 = 0) (ht : (parseR t).2.2 = 0) (hn : (parseR s).1.length + (parseR t).1.length ≤ 400) : parseR (s ++ t) = ((parseR s).1 ++ (parseR t).1, 0, 0) := by
  obtain ⟨a1, a2, a3⟩ := parse_yes s hs
  obtain ⟨b1, b2, b3⟩ := parse_yes t ht
  rw [a3, b3] at hn ⊢
  simp only [evs_len] at hn
  have e := Ln.split_both s t a1 b1
  rw [if_neg (by omega)] at e
  rw [parse_ok (s ++ t) (by rw [e]) (by rw [e]; exact bad_both _ _ a2 b2), e]
  show (evs ((Ln.splitR s).1 ++ (Ln.splitR t).1), (0 : Int), (0 : Int)) = _
  rw [evs_append]
end Go.Proofs.YtfjamdpgbbnmcaaGreatDoor.Di
/-
  Words for rows of events in memory: a slice that reads as a list of events, and how that lasts; such a slice among the arguments.
  Conditions: none beyond those that each theorem states.
-/
set_option maxRecDepth 4000
namespace Go.Proofs.YtfjamdpgbbnmcaaGreatDoor
open Go.ChangeShapes Go.WideShapes Go.ChangeAt Go.RowKit Go.Joins Go.Deep

def evCells (e : Ev.Event) : List Value := [.int .i64 e.kind, .int .i64 e.session, .int .i64 e.key, .int .i64 e.value]
theorem evCells_len (l : List Ev.Event) : (l.flatMap evCells).length = l.length * 4 := by
  induction l with
  | nil => rfl
  | cons e l ih => rw [List.flatMap_cons, List.length_append, ih, List.length_cons, show (evCells e).length = 4 from rfl]; omega
theorem evCells_at (l : List Ev.Event) (k : Nat) (hk : k < l.length) (j : Nat) (hj : j < 4) : (l.flatMap evCells)[k * 4 + j]? = (evCells l[k])[j]? := by
  induction l generalizing k with
  | nil => simp at hk
  | cons e l ih =>
    have h4 : (evCells e).length = 4 := rfl
    rw [List.flatMap_cons]
    cases k with
    | zero => rw [List.getElem?_append_left (by omega)]; simp
    | succ k =>
      rw [List.getElem?_append_right (by omega), show (k + 1) * 4 + j - (evCells e).length = k * 4 + j by omega]
      exact ih k (by simpa using hk)
theorem evCells_snoc (d : List Ev.Event) (x : Ev.Event) : (d ++ [x]).flatMap evCells = d.flatMap evCells ++ evCells x := by simp [List.flatMap_append]

/-- The slice value v reads as the events l. -/
def Evs (w : World) (v : Value) (l : List Ev.Event) : Prop := Sl w 4 v l.length (l.flatMap evCells)
theorem Evs.below {w w' : World} {v : Value} {l : List Ev.Event} (h : Evs w v l) (hb : Below w.heap.size w w') : Evs w' v l := Sl.below h hb
theorem Evs.nil (w : World) (A : Option Addr) : Evs w (.slice A 0 0) [] := Sl.nil w 4 A
theorem Evs.own {w : World} {base : Nat} {e : TypeId} {v : Value} {l : List Ev.Event} (h : w.ownsRow base e 4 v l.length (l.flatMap evCells)) : Evs w v l := Sl.own h
theorem Evs.own_snoc {w : World} {base : Nat} {e : TypeId} {v : Value} {d : List Ev.Event} {x : Ev.Event} (h : w.ownsRow base e 4 v (d.length + 1) (d.flatMap evCells ++ evCells x)) : w.ownsRow base e 4 v (d ++ [x]).length ((d ++ [x]).flatMap evCells) := by
  rw [List.length_append, evCells_snoc]
  exact h
/-- The slice's head, and the four cells of each event. -/
theorem Evs.form {w : World} {v : Value} {l : List Ev.Event} (h : Evs w v l) :
    ∃ A c, v = .slice A l.length c ∧ ∀ (k : Nat) (hk : k < l.length), ∃ ad : Addr, A = some ad ∧ ad.block < w.heap.size ∧
      w.cell? (ad.add (k * 4)) = some (.int .i64 l[k].kind) ∧ w.cell? (ad.add (k * 4 + 1)) = some (.int .i64 l[k].session) ∧ w.cell? (ad.add (k * 4 + 2)) = some (.int .i64 l[k].key) ∧ w.cell? (ad.add (k * 4 + 3)) = some (.int .i64 l[k].value) := by
  obtain ⟨A, c, hv, hh⟩ := Sl.form h
  refine ⟨A, c, hv, fun k hk => ?_⟩
  obtain ⟨ad, e, hb, hc⟩ := hh (by omega)
  exact ⟨ad, e, hb, hc (k * 4) _ (evCells_at l k hk 0 (by omega)), hc _ _ (evCells_at l k hk 1 (by omega)), hc _ _ (evCells_at l k hk 2 (by omega)), hc _ _ (evCells_at l k hk 3 (by omega))⟩
theorem add_next (ad : Addr) (m j : Nat) (hj : 0 < j) : (⟨(ad.add m).block, (ad.add m).off + j, none⟩ : Addr) = ad.add (m + j) := by
  unfold Addr.add
  by_cases hm : m = 0
  · subst hm
    simp [show ¬ j = 0 by omega]
  · simp [hm]
    omega
/-- Element k of a slice is the event x, as the walk spells its cells' places. -/
structure EvIn (w : World) (ad : Addr) (k : Nat) (x : Ev.Event) : Prop where
  c0 : w.cell? (ad.add (k * 4)) = some (.int .i64 x.kind)
  c1 : w.cell? ⟨(ad.add (k * 4)).block, (ad.add (k * 4)).off + 1, none⟩ = some (.int .i64 x.session)
  c2 : w.cell? ⟨(ad.add (k * 4)).block, (ad.add (k * 4)).off + 2, none⟩ = some (.int .i64 x.key)
  c3 : w.cell? ⟨(ad.add (k * 4)).block, (ad.add (k * 4)).off + 3, none⟩ = some (.int .i64 x.value)
theorem EvIn.below {w w' : World} {ad : Addr} {k : Nat} {x : Ev.Event} (h : EvIn w ad k x) (hlt : ad.block < w.heap.size) (hb : Below w.heap.size w w') : EvIn w' ad k x := by
  have e : ad.block = (ad.add (k * 4)).block := (add_block ad _).symm
  refine ⟨(hb.cell ?_).trans h.c0, (hb.cell ?_).trans h.c1, (hb.cell ?_).trans h.c2, (hb.cell ?_).trans h.c3⟩
  all_goals exact e ▸ hlt
theorem Evs.spelled {w : World} {v : Value} {l : List Ev.Event} (h : Evs w v l) :
    ∃ A c, v = .slice A l.length c ∧ ∀ (k : Nat) (hk : k < l.length), ∃ ad : Addr, A = some ad ∧ ad.block < w.heap.size ∧ EvIn w ad k l[k] := by
  obtain ⟨A, c, hv, hh⟩ := h.form
  refine ⟨A, c, hv, fun k hk => ?_⟩
  obtain ⟨ad, e, hb, h0, h1, h2, h3⟩ := hh k hk
  refine ⟨ad, e, hb, h0, ?_, ?_, ?_⟩
  · rw [add_next ad _ 1 (by omega)]; exact h1
  · rw [add_next ad _ 2 (by omega)]; exact h2
  · rw [add_next ad _ 3 (by omega)]; exact h3
theorem Evs.none_ {w : World} {v : Value} {l : List Ev.Event} (h : Evs w v l) (hl : l = []) : ∃ A c, v = .slice A 0 c := by
  subst hl
  obtain ⟨A, c, hv, _⟩ := h.form
  exact ⟨A, c, hv⟩
/-- Events as cells of a call's own block. -/
theorem one_evs (x : Ev.Event) : ∀ u ∈ evCells x, u.oneCell' = true := by
  intro u hu
  simp only [evCells, List.mem_cons, List.not_mem_nil, or_false] at hu
  rcases hu with rfl | rfl | rfl | rfl
  all_goals rfl
theorem all_evs (l : List Ev.Event) : ∀ u ∈ l.flatMap evCells, u.oneCell' = true := by
  intro u hu
  obtain ⟨x, _, h⟩ := List.mem_flatMap.1 hu
  exact one_evs x u h

theorem ev_info : (Tryz.prog.info? 74).map (fun i => (i.zero, i.size, i.bytes)) = some (some (evV Ev.zero), 4, 32) := by kernel_rfl
/-- The four cells of a new block. -/
theorem new_ev (w : World) (x : Ev.Event) (e : TypeId) : ∀ j u, (evCells x)[j]? = some u → (w.alloc (.cells #[.int .i64 x.kind, .int .i64 x.session, .int .i64 x.key, .int .i64 x.value] e)).cell? ((⟨w.heap.size, 0, none⟩ : Addr).add j) = some u := by
  intro j u hj
  have e1 : (⟨w.heap.size, 0, none⟩ : Addr).add j = ⟨w.heap.size, j, none⟩ := by
    unfold Addr.add
    split
    · rename_i h; rw [h]
    · simp
  rw [e1]
  exact new_cell w _ _ j u (by rw [← hj, evCells, ← List.getElem?_toArray])

theorem new_ev2 (w : World) (o : Obj) (x : Ev.Event) (e : TypeId) : ∀ j u, (evCells x)[j]? = some u → ((w.alloc o).alloc (.cells #[.int .i64 x.kind, .int .i64 x.session, .int .i64 x.key, .int .i64 x.value] e)).cell? ((⟨w.heap.size + 1, 0, none⟩ : Addr).add j) = some u := by
  rw [← size_new w o]
  exact new_ev (w.alloc o) x e

/-- A literal of events. -/
theorem lit_evs (w : World) (e : TypeId) (l : List Ev.Event) (hl : l.length ≤ maxLen) : Evs (w.alloc (.cells (l.flatMap evCells).toArray e)) (.slice (some ⟨w.heap.size, 0, none⟩) l.length l.length) l := by
  have h := World.ownsRow_lit (base := 0) (e := e) (size := 4) w (l.flatMap evCells).toArray l.length (Nat.zero_le _) hl (by rw [List.size_toArray, evCells_len])
  exact Evs.own h

/-- Events, a place and an error: what a call hands back lies in memory of its own; what was there stays. -/
def RetEvs (w : World) (r : List Ev.Event × Int × Int) (e : Ending) (w' : World) : Prop := ∃ v, e = .returned (.tuple #[v, .int .i64 r.2.1, .int .i64 r.2.2]) ∧ Evs w' v r.1 ∧ Below w.heap.size w w'
theorem RetEvs.mk {w w' : World} {r : List Ev.Event × Int × Int} (v : Value) (n q : Int) (hn : r.2.1 = n) (hq : r.2.2 = q) (hs : Evs w' v r.1) (hb : Below w.heap.size w w') : RetEvs w r (.returned (.tuple #[v, .int .i64 n, .int .i64 q])) w' :=
  ⟨v, by rw [hn, hq], hs, hb⟩

/-- An event's session is a number of its kind (a key of a map may be nothing else). -/
def evWf (e : Ev.Event) : Prop := (Lit.int .i64 e.session).wf = true

section
variable {H : Type} {enc : TypeId × Value → H} {w : World} {base : Nat} {r : Reach} {b0 : Nat}
/-- Four cells that read as an event are an event's. -/
theorem cells_ev {spare : Nat → Bool} {held : Bool} {fuel : Nat} {cs : List Value} {x : DataW H × List MemPlace} (h : DataW.trod enc Tryz.prog w base spare held fuel 74 cs = some x) : ∃ e : Ev.Event, cs = evCells e ∧ evWf e := by
  obtain ⟨xs, n, _, _, hlen, hl, hg⟩ := DataW.trod_struct Tryz.underlying74 h
  have h4 : cs.length = 4 := hlen.trans (by kernel_rfl)
  match cs, h4 with
  | [c0, c1, c2, c3], _ =>
    have ci : Tryz.prog.cellsOf 3 = 1 := by kernel_rfl
    have g0 : DataW.trod enc Tryz.prog w base spare held n 3 (([c0, c1, c2, c3].drop 0).take (Tryz.prog.cellsOf 3)) = xs[0]? := hg 0 _ rfl
    have g1 : DataW.trod enc Tryz.prog w base spare held n 3 (([c0, c1, c2, c3].drop 1).take (Tryz.prog.cellsOf 3)) = xs[1]? := hg 1 _ rfl
    have g2 : DataW.trod enc Tryz.prog w base spare held n 3 (([c0, c1, c2, c3].drop 2).take (Tryz.prog.cellsOf 3)) = xs[2]? := hg 2 _ rfl
    have g3 : DataW.trod enc Tryz.prog w base spare held n 3 (([c0, c1, c2, c3].drop 3).take (Tryz.prog.cellsOf 3)) = xs[3]? := hg 3 _ rfl
    simp only [ci, List.drop_zero, List.drop_succ_cons, List.take_succ_cons, List.take_zero] at g0 g1 g2 g3
    have hx : xs.length = 4 := hl
    rw [List.getElem?_eq_getElem (by omega)] at g0 g1 g2 g3
    obtain ⟨z0, e0, _⟩ := DataW.trod_int Tryz.underlying3 g0
    obtain ⟨z1, e1, _, f1⟩ := DataW.trod_int Tryz.underlying3 g1
    obtain ⟨z2, e2, _⟩ := DataW.trod_int Tryz.underlying3 g2
    obtain ⟨z3, e3, _⟩ := DataW.trod_int Tryz.underlying3 g3
    cases e0
    cases e1
    cases e2
    cases e3
    exact ⟨⟨z0, z1, z2, z3⟩, rfl, f1⟩

/-- A cell that reads as a slice of events. -/
theorem cells_evs {t : TypeId} {fuel : Nat} {cs : List Value} {x : DataW H × List MemPlace} (ht : Tryz.prog.underlying t = some (.slice 74)) (hf : DataW.trod enc Tryz.prog w base (fun _ => true) true fuel t cs = some x) :
    ∃ (A : Option Addr) (n c : Nat), cs = [.slice A n c] ∧ ∃ l : List Ev.Event, Evs w (.slice A n c) l ∧ l.length ≤ maxLen ∧ ∀ e ∈ l, evWf e := by
  have ce : Tryz.prog.cellsOf 74 = 4 := by kernel_rfl
  rcases open_slice ht hf with ⟨hcs, _⟩ | ⟨a, len, cap, m, n, D, Pl, hcs, _, hl, hm, hmm, _, hi⟩
  · exact ⟨none, 0, 0, hcs, [], Evs.nil _ _, by simp, by simp⟩
  · simp only [if_true] at hmm
    have hall : ∀ k, k < len → ∃ e : Ev.Event, (∀ j, j < 4 → w.cell? (a.add (k * 4 + j)) = (evCells e)[j]?) ∧ evWf e := fun k hk => by
      obtain ⟨cs', hc, ht'⟩ := hi k (by omega)
      rw [ce] at hc
      obtain ⟨e, rfl, hwf⟩ := cells_ev ht'
      obtain ⟨_, _, hat⟩ := World.cells?_some hc
      exact ⟨e, fun j hj => by rw [← Go.Deep.add_add]; exact hat j hj, hwf⟩
    have hinh : Inhabited Ev.Event := ⟨Ev.zero⟩
    obtain ⟨f, hfn⟩ := choose_lt hall
    have hlen : ((List.range len).map f).length = len := by simp
    refine ⟨some a, len, cap, hcs, (List.range len).map f, ?_, by rw [hlen]; omega, fun e he => ?_⟩
    rotate_left
    · obtain ⟨k, hk, rfl⟩ := List.mem_map.1 he
      exact (hfn k (List.mem_range.1 hk)).2
    rw [Evs, hlen]
    refine ⟨by rw [evCells_len, hlen], some a, cap, rfl, hl, fun h => (by cases h), fun hn => ⟨a, rfl, ?_, fun j u hu => ?_⟩⟩
    · have h0 := (hfn 0 hn).1 0 (by omega)
      rw [Nat.zero_mul, Nat.zero_add, add_zero'] at h0
      exact World.block_lt_of_cell? w a (u := .int .i64 (f 0).kind) h0
    · have hj : j < len * 4 := by
        have := (List.getElem?_eq_some_iff.1 hu).1
        rw [evCells_len, hlen] at this
        exact this
      have hk : j / 4 < len := by omega
      have e1 : j / 4 * 4 + j % 4 = j := by omega
      have h1 := evCells_at ((List.range len).map f) (j / 4) (by rw [hlen]; exact hk) (j % 4) (by omega)
      rw [e1, hu] at h1
      have h2 := (hfn (j / 4) hk).1 (j % 4) (by omega)
      rw [e1] at h2
      rw [h2, h1]
      simp
/-- A slice of events among the arguments. -/
theorem arg_evs {t : TypeId} {v : Value} {d : DataW H} {ps : List MemPlace} (ht : Tryz.prog.underlying t = some (.slice 74)) (hval : Value.okWide Tryz.prog w r b0 t v) (h : DataW.Trod enc Tryz.prog w base (fun _ => true) true t v d ps) :
    ∃ l : List Ev.Event, Evs w v l ∧ l.length ≤ maxLen ∧ ∀ e ∈ l, evWf e := by
  obtain ⟨a0, len0, cap0, rfl⟩ := okWide_slice ht hval
  obtain ⟨fuel, hf⟩ := h
  obtain ⟨A, n, c, hcs, l, h1, h2, h3⟩ := cells_evs ht hf
  simp [Value.cells] at hcs
  obtain ⟨rfl, rfl, rfl⟩ := hcs
  exact ⟨l, h1, h2, h3⟩
end
end Go.Proofs.YtfjamdpgbbnmcaaGreatDoor
/-
  What diary.stopAt, linesOf and eventsOf do, for every input: they hand back what they should, or panic with the fault that tells the line and its error; what was in memory stays as it was.
  Conditions: the variable that lists the kinds' words holds them (eventsOf); a string's length is at most the model's greatest; a row has at most 400 lines (eventsOf).
-/
set_option maxRecDepth 4000
namespace Go.Proofs.YtfjamdpgbbnmcaaGreatDoor
open Go.RowKit

/-- The panic's value: a line's number, and its error. -/
def faultV (n q : Int) : Value := .iface 97 (.agg #[.int .i64 n, .int .i64 q])
def thrown (n q : Int) : Ending := .panicked [{ v := faultV n q, recovered := false }]

theorem stopAt_ok (n : Int) (w : World) : Calls Tryz.prog 75 #[.int .i64 n, .int .i64 0] w fun e w' => e = .returned (.tuple #[]) ∧ w = w' := by
  go_enter Tryz.func75, Tryz.ntmps75
  go_wp2
  go_end0
  exact ⟨rfl, rfl⟩

theorem stopAt_bad (n q : Int) (w : World) (hq : q ≠ 0) : Calls Tryz.prog 75 #[.int .i64 n, .int .i64 q] w fun e w' => e = thrown n q ∧ w = w' := by
  have hb : (q != 0) = true := by rw [bne_iff_ne]; exact hq
  clear hq
  go_enter Tryz.func75, Tryz.ntmps75
  go_wp2
  exact ⟨rfl, rfl, rfl⟩

theorem linesOf_ok (s : List UInt8) (w : World) (hs : s.length ≤ maxLen) (h : (Ln.splitR s).2 = 0) : Calls Tryz.prog 51 #[.string (Ln.bs s)] w fun e w' => ∃ v, e = .returned v ∧ Strs w' v (Ln.splitR s).1 ∧ Below w.heap.size w w' := by
  have HS := Lib.hid hs
  have HQ := Lib.hid h
  clear hs h
  go_enter Tryz.func51, Tryz.ntmps51
  go_wp2_with fail
  refine (split_at s w HS.out).mono ?_
  rintro e w1 ⟨v1, rfl, hs1, hb1⟩
  rw [HQ.out]
  have S1 := Lib.hid hs1
  have B1 := Lib.hid hb1
  clear hs1 hb1
  go_wp2_with fail
  refine (stopAt_ok 0 w1).mono ?_
  rintro e w2 ⟨rfl, rfl⟩
  go_wp2_with fail
  go_ret
  exact ⟨_, rfl, S1.out, B1.out⟩

theorem linesOf_bad (s : List UInt8) (w : World) (hs : s.length ≤ maxLen) (h : (Ln.splitR s).2 ≠ 0) : Calls Tryz.prog 51 #[.string (Ln.bs s)] w fun e w' => e = thrown 0 (Ln.splitR s).2 ∧ Below w.heap.size w w' := by
  have HS := Lib.hid hs
  have HQ := Lib.hid h
  clear hs h
  go_enter Tryz.func51, Tryz.ntmps51
  go_wp2_with fail
  refine (split_at s w HS.out).mono ?_
  rintro e w1 ⟨v1, rfl, hs1, hb1⟩
  have B1 := Lib.hid hb1
  clear hs1 hb1
  go_wp2_with fail
  refine (stopAt_bad 0 _ w1 HQ.out).mono ?_
  rintro e w2 ⟨rfl, rfl⟩
  unfold thrown
  go_wp2_with fail
  exact ⟨rfl, rfl, B1.out⟩

/-- What eventsOf's loop holds at the head of each round. -/
def EventsRel (w : World) (l : List (List UInt8)) (v i : Value) (wr : World) : Prop :=
  ∃ k : Nat, k ≤ l.length ∧ i = .int .i64 k ∧ Di.bad (l.take k) = 0 ∧ wr.ownsRow w.heap.size 74 4 v (Di.evs (l.take k)).length ((Di.evs (l.take k)).flatMap evCells) ∧ Below w.heap.size w wr
set_option maxHeartbeats 1000000 in
/-- Either all lines are events', and these are handed back, or the first one that is not is told. -/
theorem eventsOf_at (l : List (List UInt8)) (v : Value) (w : World) (hv : Strs w v l) (hK : KW w) (hl : l.length ≤ 400) (hm : ∀ x ∈ l, x.length ≤ maxLen) : Calls Tryz.prog 50 #[v] w fun e w' => Below w.heap.size w w' ∧ (Di.bad l = 0 ∧ (∃ v', e = .returned v' ∧ w'.ownsRow w.heap.size 74 4 v' (Di.evs l).length ((Di.evs l).flatMap evCells)) ∨ Di.bad l ≠ 0 ∧ e = thrown (Di.place l : Int) (Di.bad l)) := by
  obtain ⟨i0, hi0, hz0, hz1, hz2⟩ := info_parts ev_info
  have I0 := Lib.hid hi0
  have I1 := Lib.hid hz0
  have I2 := Lib.hid hz1
  have I3 := Lib.hid hz2
  clear hi0 hz0 hz1 hz2
  obtain ⟨A, c, rfl, hform⟩ := hv.form
  have HF := Lib.hid hform
  have HK := Lib.hid hK
  have HM := Lib.hid hm
  clear hform hv hK hm
  go_enter Tryz.func50, Tryz.ntmps50
  go_wp2
  go_loopw [3, 11] (fun v i wr => EventsRel w l v i wr) (fun _ i _ => l.length - (intOf i).toNat)
  case atStart =>
    exact ⟨0, Nat.zero_le _, rfl, rfl, World.ownsRow_lit w #[] 0 (Nat.le_refl _) (by simp [maxLen]) (by simp), (Below.refl _ _).alloc (Nat.le_refl _) _⟩
  case round =>
    obtain ⟨k, hk, rfl, hbad, hown, hb⟩ := hrel
    have HA := Lib.hid hbad
    have HO := Lib.hid hown
    have HB := Lib.hid hb
    obtain ⟨A', cp, rfl⟩ := own_form hown
    clear hbad hown hb
    by_cases hlt : k < l.length
    · obtain ⟨ad, rfl, hblk, hcell⟩ := HF.out k hlt
      obtain ⟨x, hx⟩ : ∃ x, x = l[k]'hlt := ⟨_, rfl⟩
      have hc2 : wr.cell? (ad.add k) = some (.string (Ln.bs x)) := by rw [hx]; exact (HB.out.cell (by rw [add_block]; exact hblk)).trans hcell
      have HKR := Lib.hid (KW.below HK.out HB.out)
      have HXM : Hid (x.length ≤ maxLen) := by rw [hx]; exact HM.out _ (List.getElem_mem _)
      have HBT := Lib.hid (Di.bad_take l k hlt HA.out)
      have HET := Lib.hid (Di.evs_take l k hlt)
      rw [← hx] at HBT HET
      have hdl : (Di.evs (l.take k)).length ≤ 400 := by rw [Di.evs_len, List.length_take]; omega
      generalize Di.evs (l.take k) = d at *
      clear hcell hx
      go_wp2_with fail
      refine (evParse_at x _ HXM.out HKR.out).mono ?_
      rintro e w1 ⟨rfl, hb1⟩
      have HB1 := Lib.hid (HB.out.trans (hb1.mono HB.out.size))
      have HO1 := Lib.hid (own_below HO.out hb1)
      obtain ⟨y, hy⟩ : ∃ y, y = (Ev.parseR x).1 := ⟨_, rfl⟩
      rw [← hy] at HET ⊢
      unfold evV
      clear hb1 hy HO
      by_cases hq : (Ev.parseR x).2 = 0
      · rw [hq]
        have HA1 : Hid (Di.bad (l.take (k + 1)) = 0) := HBT.out.1.trans hq
        clear hq HBT
        have HO2 := Lib.hid ((HO1.out.alloc (.cells #[.int .i64 y.kind, .int .i64 y.session, .int .i64 y.key, .int .i64 y.value] 74)).alloc (.cells #[.int .i64 y.kind, .int .i64 y.session, .int .i64 y.key, .int .i64 y.value] 74))
        have HB2 := Lib.hid ((HB1.out.alloc HB1.out.size (.cells #[.int .i64 y.kind, .int .i64 y.session, .int .i64 y.key, .int .i64 y.value] 74)).alloc (Nat.le_trans HB1.out.size (by simp)) (.cells #[.int .i64 y.kind, .int .i64 y.session, .int .i64 y.key, .int .i64 y.value] 74))
        go_wp2_with fail
        refine (stopAt_ok _ _).mono ?_
        rintro e w2 ⟨rfl, rfl⟩
        go_wp2_with (at_builtin; refine wpList_append_own_at _ rfl _ _ 45 rfl w.heap.size 74 i0 _ 4 32 Tryz.underlying45 I0.out I1.out I2.out I3.out rfl (by decide) _ d.length (d.flatMap evCells) rfl HO2.out ⟨w1.heap.size + 1, 0, none⟩ 1 1 (evCells y) rfl rfl (new_ev2 w1 _ y _) (one_evs y) (by simp only [maxLen]; omega) (by omega) HB2.out.size ?_; intro v' w3 hown' hgrow hnil hat; have HO3 := Lib.hid hown'; have HG3 := Lib.hid hgrow; clear hown' hgrow hnil hat)
        go_roundw
        case rel =>
          refine ⟨k + 1, by omega, by go_num, HA1.out, ?_, below_append HB2.out HB2.out.size HO2.out HG3.out⟩
          rw [HET.out]
          exact Evs.own_snoc HO3.out
        case measure => simp [intOf]; omega
      · obtain ⟨e1, e2⟩ := HBT.out.2 hq
        have HE1 := Lib.hid e1
        have HE2 := Lib.hid e2
        have HQ := Lib.hid hq
        clear e1 e2 hq HBT
        go_wp2_with fail
        refine (stopAt_bad _ _ _ HQ.out).mono ?_
        rintro e w2 ⟨rfl, rfl⟩
        unfold thrown
        go_wp2_with fail
        refine ⟨rfl, HB1.out.alloc HB1.out.size _, .inr ⟨by rw [HE1.out]; exact HQ.out, ?_⟩⟩
        rw [HE1.out, HE2.out]
        rfl
    · have HKE : Hid (Di.evs (l.take k) = Di.evs l ∧ Di.bad l = 0) := by
        have h : l.take k = l := List.take_of_length_le (by omega)
        have h2 := HA.out
        rw [h] at h2
        exact ⟨by rw [h], h2⟩
      generalize Di.evs (l.take k) = d at *
      go_wp2
      go_ret
      exact ⟨HB.out, .inl ⟨HKE.out.2, .slice A' d.length cp, rfl, by rw [← HKE.out.1]; exact HO.out⟩⟩
end Go.Proofs.YtfjamdpgbbnmcaaGreatDoor
/-
  What diary.Parse's deferred function does: of a call that ends well, nothing; of one that panics with a fault, it lays the fault's line and error into the result variables, and the panic is over.
  Conditions: the three result variables may be written.
-/
set_option maxRecDepth 4000
namespace Go.Proofs.YtfjamdpgbbnmcaaGreatDoor
open Go.RowKit

/-- A variable of one cell that may be written. -/
structure One (w : World) (b : Nat) (v : Value) : Prop where
  c : w.cell? ⟨b, 0, none⟩ = some v
  f : w.frozen? ⟨b, 0, none⟩ = false

theorem One.alloc {w : World} {b : Nat} {v : Value} (h : One w b v) (o : Obj) : One (w.alloc o) b v := by
  have hlt : b < w.heap.size := World.block_lt_of_cell? w ⟨b, 0, none⟩ h.c
  have hb := (Below.refl w.heap.size w).alloc (Nat.le_refl _) o
  have hh : (w.alloc o).heap[b]? = w.heap[b]? := hb.block b hlt
  refine ⟨(hb.cell hlt).trans h.c, ?_⟩
  have := h.f
  simp only [World.frozen?, hh] at this ⊢
  exact this

theorem assert_fault (n q : Int) (w : World) : (Instr.typeAssert (.iface 97 (.agg #[.int .i64 n, .int .i64 q])) 20 97 true).run Tryz.prog w = .ok (.tuple #[.agg #[.int .i64 n, .int .i64 q], .bool true]) w := by kernel_rfl

theorem catch_idle (a b c : Value) (w : World) : CallsD Tryz.prog 49 #[a, b, c] .returning w fun e u' w' => e = .returned (.tuple #[]) ∧ u' = .returning ∧ w = w' := by
  refine callsD_of_wpS Tryz.func49 rfl fun c₀ cs hu => ?_
  simp only [Tryz.ntmps49, List.size_toArray, List.length_cons, List.length_nil, Nat.reduceAdd, Nat.reduceSub, Array.replicate_succ, Array.replicate_zero, List.push_toArray, List.append_toArray, List.nil_append, List.cons_append]
  apply wpS_seq
  apply wpS_region
  simp [wpOpsS, go_sem, recoverD, hu, Exit.thenS]
  refine wpS_of_wp ?_
  go_wp2
  exact ⟨rfl, .returning, by rw [← hu], _, results_none rfl _ _ _, rfl, rfl, rfl⟩

/-- What the deferred function leaves behind: the three result variables turned, nothing else below. -/
def Caught (w : World) (b : Nat) (n q : Int) (w' : World) : Prop := w'.cell? ⟨b, 0, none⟩ = some (.slice none 0 0) ∧ w'.cell? ⟨b + 1, 0, none⟩ = some (.int .i64 n) ∧ w'.cell? ⟨b + 2, 0, none⟩ = some (.int .i64 q) ∧ Below b w w'

theorem caught_of {w W : World} {b : Nat} {x y z : Value} {n q : Int} (hb : Below b w W) (h0 : W.cell? ⟨b, 0, none⟩ = some x) (h1 : W.cell? ⟨b + 1, 0, none⟩ = some y) (h2 : W.cell? ⟨b + 2, 0, none⟩ = some z) :
    Caught w b n q (((W.setCell ⟨b, 0, none⟩ (.slice none 0 0)).setCell ⟨b + 1, 0, none⟩ (.int .i64 n)).setCell ⟨b + 2, 0, none⟩ (.int .i64 q)).drew := by
  refine ⟨?_, ?_, ?_, (((hb.setCell (Nat.le_refl _) _).setCell (Nat.le_add_right _ _) _).setCell (Nat.le_add_right _ _) _).drew⟩
  all_goals simp [go_sem, h0, h1, h2]

set_option maxHeartbeats 1000000 in
theorem catch_fault (b : Nat) (x y z : Value) (n q : Int) (older : List PanicEntry) (w : World) (hb : One w b x) (hc : One w (b + 1) y) (hd : One w (b + 2) z) :
    CallsD Tryz.prog 49 #[.pointer (some ⟨b, 0, none⟩), .pointer (some ⟨b + 1, 0, none⟩), .pointer (some ⟨b + 2, 0, none⟩)] (.panicking ({ v := faultV n q, recovered := false } :: older)) w fun e u' w' => e = .returned (.tuple #[]) ∧ u' = .panicking ({ v := faultV n q, recovered := true } :: older) ∧ Caught w b n q w' := by
  have hta := assert_fault n q w
  have hlt : b + 2 < w.heap.size := World.block_lt_of_cell? w ⟨b + 2, 0, none⟩ hd.c
  unfold faultV
  have b1 := (hb.alloc (.cells #[.int .i64 n, .int .i64 q] 97)).c
  have b2 := (hb.alloc (.cells #[.int .i64 n, .int .i64 q] 97)).f
  have c1 := (hc.alloc (.cells #[.int .i64 n, .int .i64 q] 97)).c
  have c2 := (hc.alloc (.cells #[.int .i64 n, .int .i64 q] 97)).f
  have d1 := (hd.alloc (.cells #[.int .i64 n, .int .i64 q] 97)).c
  have d2 := (hd.alloc (.cells #[.int .i64 n, .int .i64 q] 97)).f
  have e1 : (w.alloc (.cells #[.int .i64 n, .int .i64 q] 97)).cell? ⟨w.heap.size, 0, none⟩ = some (.int .i64 n) := new_cell w _ _ 0 _ rfl
  have e2 : (w.alloc (.cells #[.int .i64 n, .int .i64 q] 97)).cell? ⟨w.heap.size, 1, none⟩ = some (.int .i64 q) := new_cell w _ _ 1 _ rfl
  have HBW := Lib.hid (show Below b w (w.alloc (.cells #[.int .i64 n, .int .i64 q] 97)) from (Below.refl _ w).alloc (by omega) _)
  clear hb hc hd
  refine callsD_of_wpS Tryz.func49 rfl fun c₀ cs hu => ?_
  simp only [Tryz.ntmps49, List.size_toArray, List.length_cons, List.length_nil, Nat.reduceAdd, Nat.reduceSub, Array.replicate_succ, Array.replicate_zero, List.push_toArray, List.append_toArray, List.nil_append, List.cons_append]
  apply wpS_seq
  apply wpS_region
  simp [wpOpsS, go_sem, recoverD, hu, Exit.thenS]
  refine wpS_of_wp ?_
  go_wp2
  have n0 : ¬ b = w.heap.size := by omega
  have n1 : ¬ b + 1 = w.heap.size := by omega
  have n2 : ¬ b + 2 = w.heap.size := by omega
  generalize w.alloc (.cells #[.int .i64 n, .int .i64 q] 97) = W at *
  generalize w.heap.size = f at *
  clear hta hlt
  go_region
  go_wp2
  exact ⟨rfl, _, rfl, _, results_none rfl _ _ _, rfl, rfl, caught_of HBW.out b1 c1 d1⟩
end Go.Proofs.YtfjamdpgbbnmcaaGreatDoor
/-
  What diary.Parse answers, for every text that a string may hold: Di.parseR; what was in memory stays as it was.
  Conditions: the variable that lists the kinds' words holds them; a string's length is at most the model's greatest.
-/
set_option maxRecDepth 4000
namespace Go.Proofs.YtfjamdpgbbnmcaaGreatDoor
open Go.RowKit

theorem own_setCell {w : World} {base size n b o : Nat} {e : TypeId} {v x : Value} {xs : List Value} (h : w.ownsRow base e size v n xs) (hb : b < base) : (w.setCell ⟨b, o, none⟩ x).ownsRow base e size v n xs := by
  refine ⟨h.1, ?_⟩
  rcases h.2 with h2 | ⟨g, cap, cur, h1, h2, h3, h4⟩
  · exact .inl h2
  · refine .inr ⟨g, cap, cur, h1, h2, ?_, h4⟩
    simp only [World.setCell, Array.getElem?_modify]
    rw [if_neg (by omega)]
    exact h3

theorem own_less {w : World} {base base' size n : Nat} {e : TypeId} {v : Value} {xs : List Value} (hb : base' ≤ base) (h : w.ownsRow base e size v n xs) : w.ownsRow base' e size v n xs := by
  refine ⟨h.1, ?_⟩
  rcases h.2 with h2 | ⟨g, cap, cur, h1, h2, h3, h4⟩
  · exact .inl h2
  · exact .inr ⟨g, cap, cur, h1, Nat.le_trans hb h2, h3, h4⟩

theorem results_di (X : World) (b : Nat) (tmps : Array Value) (v n q : Value) (h0 : tmps.getD 2 undef = .pointer (some ⟨b, 0, none⟩)) (h1 : tmps.getD 3 undef = .pointer (some ⟨b + 1, 0, none⟩)) (h2 : tmps.getD 4 undef = .pointer (some ⟨b + 2, 0, none⟩))
    (c0 : X.cell? ⟨b, 0, none⟩ = some v) (c1 : X.cell? ⟨b + 1, 0, none⟩ = some n) (c2 : X.cell? ⟨b + 2, 0, none⟩ = some q) :
    (results Tryz.f29 tmps).run Tryz.prog X = .ok (.tuple #[v, n, q]) X := by
  have hr : Tryz.f29.results = #[.cell 2 45, .cell 3 3, .cell 4 27] := rfl
  have g0 : tmps[2]?.getD undef = .pointer (some ⟨b, 0, none⟩) := by simpa using h0
  have g1 : tmps[3]?.getD undef = .pointer (some ⟨b + 1, 0, none⟩) := by simpa using h1
  have g2 : tmps[4]?.getD undef = .pointer (some ⟨b + 2, 0, none⟩) := by simpa using h2
  simp only [results, hr]
  simp [Sem.run_bind, Result.andThen, g0, g1, g2, asAddr, go_sem, c0, c1, c2]

/-- What is deferred: the function that looks at a panic, over the three result variables. -/
def lastCall (b : Nat) : Deferred := { target := .fn (.func 49) #[.pointer (some ⟨b, 0, none⟩), .pointer (some ⟨b + 1, 0, none⟩), .pointer (some ⟨b + 1 + 1, 0, none⟩)], args := #[] }

/-- The call's end behind a fault. -/
theorem end_bad {w W : World} {r : List Ev.Event × Int × Int} {n q : Int} {x y z : Value} (tmps : Array Value) (hr : r = ([], n, q)) (hb : Below w.heap.size w W) (o0 : One W w.heap.size x) (o1 : One W (w.heap.size + 1) y) (o2 : One W (w.heap.size + 2) z)
    (h0 : tmps.getD 2 undef = .pointer (some ⟨w.heap.size, 0, none⟩)) (h1 : tmps.getD 3 undef = .pointer (some ⟨w.heap.size + 1, 0, none⟩)) (h2 : tmps.getD 4 undef = .pointer (some ⟨w.heap.size + 2, 0, none⟩)) :
    bodyPostD Tryz.prog Tryz.f29 (RetEvs w r) (Exit.panic [{ v := faultV n q, recovered := false }]) { tmps := tmps, defers := [lastCall w.heap.size] } W := by
  refine leaves_cons (f := 49) (args := #[.pointer (some ⟨w.heap.size, 0, none⟩), .pointer (some ⟨w.heap.size + 1, 0, none⟩), .pointer (some ⟨w.heap.size + 2, 0, none⟩)]) (by simp) (by simp [go_sem]) ?_
  refine (catch_fault _ _ _ _ n q [] W o0 o1 o2).mono ?_
  rintro e u' w2 ⟨rfl, rfl, c0, c1, c2, hb2⟩
  exact ⟨_, results_di w2 _ tmps _ _ _ h0 h1 h2 c0 c1 c2, RetEvs.mk _ n q (by rw [hr]) (by rw [hr]) (by rw [hr]; exact Evs.nil _ _) (hb.trans hb2)⟩

/-- The call's end behind all lines' events. -/
theorem end_ok {w W : World} {l : List Ev.Event} {r : List Ev.Event × Int × Int} {x y z v : Value} (tmps : Array Value) (hr : r = (l, 0, 0)) (hb : Below w.heap.size w W) (o0 : One W w.heap.size x) (o1 : One W (w.heap.size + 1) y) (o2 : One W (w.heap.size + 2) z)
    (hv : W.ownsRow (w.heap.size + 3) 74 4 v l.length (l.flatMap evCells))
    (h0 : tmps.getD 2 undef = .pointer (some ⟨w.heap.size, 0, none⟩)) (h1 : tmps.getD 3 undef = .pointer (some ⟨w.heap.size + 1, 0, none⟩)) (h2 : tmps.getD 4 undef = .pointer (some ⟨w.heap.size + 2, 0, none⟩)) :
    bodyPostD Tryz.prog Tryz.f29 (RetEvs w r) Exit.ret { tmps := tmps, defers := [lastCall w.heap.size] } (((W.setCell ⟨w.heap.size, 0, none⟩ v).setCell ⟨w.heap.size + 1, 0, none⟩ (.int .i64 0)).setCell ⟨w.heap.size + 1 + 1, 0, none⟩ (.int .i64 0)) := by
  refine leaves_cons (f := 49) (args := #[.pointer (some ⟨w.heap.size, 0, none⟩), .pointer (some ⟨w.heap.size + 1, 0, none⟩), .pointer (some ⟨w.heap.size + 2, 0, none⟩)]) (by simp) (by simp [go_sem]) ?_
  refine (catch_idle _ _ _ _).mono ?_
  rintro e u' w2 ⟨rfl, rfl, rfl⟩
  have k0 := o0.c
  have k1 := o1.c
  have k2 := o2.c
  have c0 : (((W.setCell ⟨w.heap.size, 0, none⟩ v).setCell ⟨w.heap.size + 1, 0, none⟩ (.int .i64 0)).setCell ⟨w.heap.size + 1 + 1, 0, none⟩ (.int .i64 0)).cell? ⟨w.heap.size, 0, none⟩ = some v := by simp [go_sem, k0]
  have c1 : (((W.setCell ⟨w.heap.size, 0, none⟩ v).setCell ⟨w.heap.size + 1, 0, none⟩ (.int .i64 0)).setCell ⟨w.heap.size + 1 + 1, 0, none⟩ (.int .i64 0)).cell? ⟨w.heap.size + 1, 0, none⟩ = some (.int .i64 0) := by simp [go_sem, k1]
  have c2 : (((W.setCell ⟨w.heap.size, 0, none⟩ v).setCell ⟨w.heap.size + 1, 0, none⟩ (.int .i64 0)).setCell ⟨w.heap.size + 1 + 1, 0, none⟩ (.int .i64 0)).cell? ⟨w.heap.size + 2, 0, none⟩ = some (.int .i64 0) := by simp [go_sem, k2]
  have hV := own_setCell (own_setCell (own_setCell hv (b := w.heap.size) (o := 0) (x := v) (by omega)) (b := w.heap.size + 1) (o := 0) (x := .int .i64 0) (by omega)) (b := w.heap.size + 1 + 1) (o := 0) (x := .int .i64 0) (by omega)
  exact ⟨_, results_di _ _ tmps _ _ _ h0 h1 h2 c0 c1 c2, RetEvs.mk _ 0 0 (by rw [hr]) (by rw [hr]) (by rw [hr]; exact Evs.own hV) (((hb.setCell (Nat.le_refl _) _).setCell (Nat.le_add_right _ _) _).setCell (show w.heap.size ≤ w.heap.size + 1 + 1 by omega) _)⟩

/-- The three result variables, as they are made. -/
def vars3 (w : World) : World := ((w.alloc (.cells #[.slice none 0 0] 45)).alloc (.cells #[.int .i64 0] 3)).alloc (.cells #[.int .i64 0] 27)
theorem vars3_size (w : World) : (vars3 w).heap.size = w.heap.size + 3 := by simp [vars3]
theorem vars3_below (w : World) : Below w.heap.size w (vars3 w) := by
  unfold vars3
  refine (((Below.refl _ w).alloc (Nat.le_refl _) _).alloc ?_ _).alloc ?_ _
  all_goals simp
  omega
theorem One.below {w w' : World} {b : Nat} {v : Value} (h : One w b v) (hb : Below w.heap.size w w') : One w' b v := by
  have hlt : b < w.heap.size := World.block_lt_of_cell? w ⟨b, 0, none⟩ h.c
  have hh : w'.heap[b]? = w.heap[b]? := hb.block b hlt
  refine ⟨(hb.cell hlt).trans h.c, ?_⟩
  have := h.f
  simp only [World.frozen?, hh] at this ⊢
  exact this
theorem One.new (w : World) (v : Value) (t : TypeId) : One (w.alloc (.cells #[v] t)) w.heap.size v := by
  exact ⟨new_cell w _ _ 0 _ rfl, zeros_frozen (Below.refl _ _) 0⟩
theorem vars3_one (w : World) : One (vars3 w) w.heap.size (.slice none 0 0) ∧ One (vars3 w) (w.heap.size + 1) (.int .i64 0) ∧ One (vars3 w) (w.heap.size + 2) (.int .i64 0) := by
  refine ⟨((One.new w _ _).alloc _).alloc _, ?_, ?_⟩
  · have h := One.new (w.alloc (.cells #[.slice none 0 0] 45)) (.int .i64 0) 3
    rw [size_new] at h
    exact h.alloc _
  · have h := One.new ((w.alloc (.cells #[.slice none 0 0] 45)).alloc (.cells #[.int .i64 0] 3)) (.int .i64 0) 27
    rw [size_new, size_new] at h
    exact h

set_option maxHeartbeats 1000000 in
theorem diParse_at (s : List UInt8) (w : World) (hs : s.length ≤ maxLen) (hK : KW w) : Calls Tryz.prog 29 #[.string (Ln.bs s)] w (RetEvs w (Di.parseR s)) := by
  have hmf : ∀ (fn : Fn) (first cap : Array Value) (w : World), (Instr.makeFunc fn first cap).run Tryz.prog w = .ok (.func fn first cap) w := fun _ _ _ _ => rfl
  have HS := Lib.hid hs
  have HK := Lib.hid (hK.below (vars3_below w))
  obtain ⟨o0, o1, o2⟩ := vars3_one w
  have O0 := Lib.hid o0
  have O1 := Lib.hid o1
  have O2 := Lib.hid o2
  clear hs hK o0 o1 o2
  by_cases hq : (Ln.splitR s).2 = 0
  · have HQ := Lib.hid hq
    have HL := Lib.hid (Ln.splitR_len s)
    clear hq
    go_enter_defers Tryz.func29, Tryz.ntmps29
    go_wp2_with fail
    refine (linesOf_ok s (vars3 w) HS.out HQ.out).mono ?_
    rintro e w1 ⟨v1, rfl, hs1, hb1⟩
    have S1 := Lib.hid hs1
    have B1 := Lib.hid hb1
    clear hs1 hb1
    go_wp2_with fail
    refine (eventsOf_at (Ln.splitR s).1 v1 w1 S1.out (HK.out.below B1.out) HL.out (fun x hx => Nat.le_trans (Di.line_len s HQ.out x hx) HS.out)).mono ?_
    rintro e w2 ⟨hb2, ⟨hbad, v2, rfl, hown⟩ | ⟨hbad, rfl⟩⟩
    · obtain ⟨A2, cap2, rfl⟩ := own_form hown
      have HR := Lib.hid (Di.parse_ok s HQ.out hbad)
      have B2 := Lib.hid (below_all B1.out hb2)
      have V2 := Lib.hid (own_less (show w.heap.size + 3 ≤ w1.heap.size from by rw [← vars3_size]; exact B1.out.size) hown)
      have D0 := Lib.hid (O0.out.below B2.out)
      have D1 := Lib.hid (O1.out.below B2.out)
      have D2 := Lib.hid (O2.out.below B2.out)
      clear hbad hb2 hown
      have c0 := D0.out.c
      have c1 := D1.out.c
      have c2 := D2.out.c
      have f0 := D0.out.f
      have f1 := D1.out.f
      have f2 := D2.out.f
      go_wp2_with fail
      exact end_ok _ HR.out (below_all (vars3_below w) B2.out) D0.out D1.out D2.out V2.out rfl rfl rfl
    · have HR := Lib.hid (Di.parse_bad s HQ.out hbad)
      have B2 := Lib.hid (below_all B1.out hb2)
      clear hbad hb2
      unfold thrown
      go_wp2_with fail
      exact end_bad _ HR.out (below_all (vars3_below w) B2.out) (O0.out.below B2.out) (O1.out.below B2.out) (O2.out.below B2.out) rfl rfl rfl
  · have HQ := Lib.hid hq
    clear hq
    go_enter_defers Tryz.func29, Tryz.ntmps29
    go_wp2_with fail
    refine (linesOf_bad s (vars3 w) HS.out HQ.out).mono ?_
    rintro e w1 ⟨rfl, hb1⟩
    have B1 := Lib.hid hb1
    clear hb1
    unfold thrown
    go_wp2_with fail
    exact end_bad _ (Di.parse_split s HQ.out) (below_all (vars3_below w) B1.out) (O0.out.below B1.out) (O1.out.below B1.out) (O2.out.below B1.out) rfl rfl rfl
end Go.Proofs.YtfjamdpgbbnmcaaGreatDoor
/-
  What diary.Show answers, for every row of events: Di.showR; what was in memory stays as it was.
  Conditions: the variable that lists the kinds' words holds them.
-/
set_option maxRecDepth 4000
namespace Go.Proofs.YtfjamdpgbbnmcaaGreatDoor
open Go.RowKit

/-- What Show's loop holds at the head of each round. -/
def ShowRel (w : World) (l : List Ev.Event) (v i : Value) (wr : World) : Prop :=
  ∃ k : Nat, k ≤ l.length ∧ i = .int .i64 k ∧ (l.take k).all Ev.right = true ∧ wr.ownsRow w.heap.size 9 1 v (Di.lines (l.take k)).length ((Di.lines (l.take k)).map strV) ∧ Below w.heap.size w wr

set_option maxHeartbeats 1000000 in
theorem diShow_at (l : List Ev.Event) (v : Value) (w : World) (hv : Evs w v l) (hK : KW w) : Calls Tryz.prog 17 #[v] w (RetStr w (Di.showR l)) := by
  obtain ⟨i0, hi0, hz0, hz1, hz2⟩ := info_parts str_info
  have I0 := Lib.hid hi0
  have I1 := Lib.hid hz0
  have I2 := Lib.hid hz1
  have I3 := Lib.hid hz2
  clear hi0 hz0 hz1 hz2
  obtain ⟨A, c, rfl, hform⟩ := hv.spelled
  have HF := Lib.hid hform
  have HK := Lib.hid hK
  clear hform hv hK
  by_cases hm : 400 < l.length
  · have HR := Lib.hid (Di.show_many l hm)
    have hm2 : decide ((400 : Int) < (l.length : Int)) = true := by simp; omega
    go_enter Tryz.func17, Tryz.ntmps17
    go_wp2
    go_ret2
    exact RetStr.mk _ _ (by rw [HR.out]) (by rw [HR.out]; rfl) (Below.refl _ _)
  · have hm2 : decide ((400 : Int) < (l.length : Int)) = false := by simp; omega
    have hm3 : l.length ≤ 400 := by omega
    have HM := Lib.hid hm
    clear hm
    go_enter Tryz.func17, Tryz.ntmps17
    go_wp2
    go_loopw [4, 15] (fun t i wr => ShowRel w l t i wr) (fun _ i _ => l.length - (intOf i).toNat)
    case atStart =>
      exact ⟨0, Nat.zero_le _, rfl, rfl, World.ownsRow_lit w #[] 0 (Nat.le_refl _) (by simp [maxLen]) (by simp), (Below.refl _ _).alloc (Nat.le_refl _) _⟩
    case round =>
      obtain ⟨k, hk, rfl, ha, hown, hb⟩ := hrel
      have HA := Lib.hid ha
      have HO := Lib.hid hown
      have HB := Lib.hid hb
      obtain ⟨A', cp, rfl⟩ := own_form hown
      clear ha hown hb
      by_cases hlt : k < l.length
      · obtain ⟨ad, rfl, hblk, hE⟩ := HF.out k hlt
        obtain ⟨x, hx⟩ : ∃ x, x = l[k]'hlt := ⟨_, rfl⟩
        rw [← hx] at hE
        have HE := Lib.hid (hE.below hblk HB.out)
        have hc0 := HE.out.c0
        have hc1 := HE.out.c1
        have hc2 := HE.out.c2
        have hc3 := HE.out.c3
        have HKR := Lib.hid ((KW.below HK.out HB.out).below (alloc_below wr (.cells #[.int .i64 x.kind, .int .i64 x.session, .int .i64 x.key, .int .i64 x.value] 74)))
        have HLT := Lib.hid (Di.lines_take l k hlt)
        have HRT := Lib.hid (Di.right_take l k hlt)
        have HRN := Lib.hid (Di.right_not l k hlt)
        rw [← hx] at HLT HRT HRN
        have hdl : (Di.lines (l.take k)).length ≤ 400 := by rw [Di.lines_len, List.length_take]; omega
        generalize Di.lines (l.take k) = d at *
        clear hE hx
        go_wp2_with fail
        refine (evShow_at x _ HKR.out).mono ?_
        rintro e w1 ⟨rfl, hb1⟩
        have HB1 := Lib.hid (HB.out.trans ((below_new hb1).mono HB.out.size))
        have HO1 := Lib.hid (own_below HO.out (below_new hb1))
        clear hb1 hc0 hc1 hc2 hc3 HE HO
        cases hr : Ev.right x with
        | true =>
          rw [show (Ev.showR x).2 = 0 from by rw [Ev.showR, if_pos hr]]
          have HA1 : Hid ((l.take (k + 1)).all Ev.right = true) := by rw [Hid, HRT.out, HA.out, hr]; rfl
          generalize (Ev.showR x).1 = y at *
          have HO2 := Lib.hid (HO1.out.alloc (.cells #[strV y] 9))
          have HB2 := Lib.hid (HB1.out.alloc HB1.out.size (.cells #[strV y] 9))
          clear hr HO1
          go_wp2_with (at_builtin; refine wpList_append_own_at _ rfl _ _ 70 rfl w.heap.size 9 i0 _ 1 16 Tryz.underlying70 I0.out I1.out I2.out I3.out rfl (by decide) _ d.length (d.map strV) rfl HO2.out ⟨w1.heap.size, 0, none⟩ 1 1 [strV y] rfl rfl (new_one _ _ _) (one_strs y) (by simp only [maxLen]; omega) (by omega) HB2.out.size ?_; intro v' w3 hown' hgrow hnil hat; have HO3 := Lib.hid hown'; have HG3 := Lib.hid hgrow; clear hown' hgrow hnil hat)
          go_roundw
          case rel =>
            refine ⟨k + 1, by omega, by go_num, HA1.out, ?_, below_append HB2.out HB2.out.size HO2.out HG3.out⟩
            rw [HLT.out]
            exact Strs.own_snoc HO3.out
          case measure => simp [intOf]; omega
        | false =>
          rw [show (Ev.showR x).2 = 1 from by rw [Ev.showR, if_neg (by rw [hr]; simp)]]
          have HR := Lib.hid (Di.show_arg l HM.out (HRN.out hr))
          clear hr
          go_wp2_with fail
          go_ret2
          exact RetStr.mk _ _ (by rw [HR.out]) (by rw [HR.out]; rfl) HB1.out
      · have HT : Hid (l.take k = l) := by rw [Hid, List.take_of_length_le (by omega)]
        rw [HT.out] at HA HO ⊢
        have HJ := Lib.hid (Di.show_join l HM.out HA.out)
        have hjl := Di.lines_join l
        have S := Lib.hid (Strs.own HO.out)
        generalize Di.lines l = d at *
        go_wp2_with fail
        refine (join_at d _ wr S.out (by omega)).mono ?_
        rintro e w1 ⟨rfl, hb1⟩
        have HB1 := Lib.hid (HB.out.trans (hb1.mono HB.out.size))
        rw [HJ.out]
        clear hb1
        go_wp2_with fail
        go_ret2
        exact ⟨rfl, HB1.out⟩
end Go.Proofs.YtfjamdpgbbnmcaaGreatDoor
/-
  What the reference's Same of layer 3 answers: whether two rows of events are one; what was in memory stays as it was.
  Conditions: a row has at most 2^32 elements.
  (This program has not all of these functions: rEvSame_at is left out here.)
-/
set_option maxRecDepth 4000
namespace Go.Proofs.YtfjamdpgbbnmcaaGreatDoor
open Go.RowKit

theorem take_succ_eq {α : Type} (l m : List α) (k : Nat) (hl : k < l.length) (hm : k < m.length) (h : l.take k = m.take k) (he : l[k] = m[k]) : l.take (k + 1) = m.take (k + 1) := by
  rw [List.take_succ_eq_append_getElem hl, List.take_succ_eq_append_getElem hm, h, he]

/-- Two events are one, or the first number in which they are not. -/
theorem ev_key (x y : Ev.Event) : x = y ∨ x ≠ y ∧ ((x.kind == y.kind) = false ∨ (x.kind == y.kind) = true ∧ ((x.session == y.session) = false ∨ (x.session == y.session) = true ∧ ((x.key == y.key) = false ∨ (x.key == y.key) = true ∧ (x.value == y.value) = false))) := by
  obtain ⟨a, b, c, d⟩ := x
  obtain ⟨a', b', c', d'⟩ := y
  simp only [Ev.Event.mk.injEq, ne_eq, beq_eq_false_iff_ne, beq_iff_eq]
  omega

end Go.Proofs.YtfjamdpgbbnmcaaGreatDoor
/-
  What the reference's Parse and Show of layer 4 answer: Di.parseR, Di.showR; what was in memory stays as it was.
  Conditions: a text that is parsed has at most 2^32 bytes.
-/
set_option maxRecDepth 4000
namespace Go.Proofs.YtfjamdpgbbnmcaaGreatDoor
open Go.RowKit

set_option maxHeartbeats 1000000 in
theorem rDiParse_at (s : List UInt8) (w : World) (hs : s.length ≤ 4294967296) : Calls Tryz.prog 14 #[.string (Ln.bs s)] w (RetEvs w (Di.parseR s)) := by
  obtain ⟨i0, hi0, hz0, hz1, hz2⟩ := info_parts ev_info
  have I0 := Lib.hid hi0
  have I1 := Lib.hid hz0
  have I2 := Lib.hid hz1
  have I3 := Lib.hid hz2
  clear hi0 hz0 hz1 hz2
  have HS := Lib.hid hs
  clear hs
  go_enter Tryz.func14, Tryz.ntmps14
  go_wp2_with fail
  refine (rSplit_at s w HS.out).mono ?_
  rintro e w1 ⟨v1, rfl, hs1, hb1⟩
  have B1 := Lib.hid hb1
  clear hb1
  by_cases hq : (Ln.splitR s).2 = 0
  · have HQ := Lib.hid hq
    have hl := Ln.splitR_len s
    have HM : Hid (∀ x ∈ (Ln.splitR s).1, x.length ≤ 4294967296) := fun x hx => Nat.le_trans (Di.line_len s hq x hx) HS.out
    have HP0 : Hid (Di.bad (Ln.splitR s).1 = 0 → Di.parseR s = (Di.evs (Ln.splitR s).1, 0, 0)) := fun h => Di.parse_ok s hq h
    have HP1 : Hid (Di.bad (Ln.splitR s).1 ≠ 0 → Di.parseR s = ([], (Di.place (Ln.splitR s).1 : Int), Di.bad (Ln.splitR s).1)) := fun h => Di.parse_bad s hq h
    rw [hq]
    generalize (Ln.splitR s).1 = l at *
    obtain ⟨A, c, rfl, hform⟩ := hs1.form
    have HF := Lib.hid hform
    clear hform hs1 hq
    go_wp2_with fail
    go_loopw [7, 8] (fun v i wr => EventsRel w1 l v i wr) (fun _ i _ => l.length - (intOf i).toNat)
    case atStart => exact ⟨0, Nat.zero_le _, rfl, rfl, World.ownsRow_nil _ _ _ _, Below.refl _ _⟩
    case round =>
      obtain ⟨k, hk, rfl, hbad, hown, hb⟩ := hrel
      have HA := Lib.hid hbad
      have HO := Lib.hid hown
      have HB := Lib.hid hb
      obtain ⟨A', cp, rfl⟩ := own_form hown
      clear hbad hown hb
      by_cases hlt : k < l.length
      · obtain ⟨ad, rfl, hblk, hcell⟩ := HF.out k hlt
        obtain ⟨x, hx⟩ : ∃ x, x = l[k]'hlt := ⟨_, rfl⟩
        have hc2 : wr.cell? (ad.add k) = some (.string (Ln.bs x)) := by rw [hx]; exact (HB.out.cell (by rw [add_block]; exact hblk)).trans hcell
        have HXM : Hid (x.length ≤ 4294967296) := by rw [hx]; exact HM.out _ (List.getElem_mem _)
        have HBT := Lib.hid (Di.bad_take l k hlt HA.out)
        have HET := Lib.hid (Di.evs_take l k hlt)
        rw [← hx] at HBT HET
        have hdl : (Di.evs (l.take k)).length ≤ 400 := by rw [Di.evs_len, List.length_take]; omega
        generalize Di.evs (l.take k) = d at *
        clear hcell hx
        go_wp2_with fail
        refine (rEvParse_at x _ HXM.out).mono ?_
        rintro e w2 ⟨rfl, hb1⟩
        have HB1 := Lib.hid (HB.out.trans (hb1.mono HB.out.size))
        have HO1 := Lib.hid (own_below HO.out hb1)
        obtain ⟨y, hy⟩ : ∃ y, y = (Ev.parseR x).1 := ⟨_, rfl⟩
        rw [← hy] at HET ⊢
        unfold evV
        clear hb1 hy HO
        by_cases hq : (Ev.parseR x).2 = 0
        · rw [hq]
          have HA1 : Hid (Di.bad (l.take (k + 1)) = 0) := HBT.out.1.trans hq
          clear hq HBT
          have HO2 := Lib.hid ((HO1.out.alloc (.cells #[.int .i64 y.kind, .int .i64 y.session, .int .i64 y.key, .int .i64 y.value] 74)).alloc (.cells #[.int .i64 y.kind, .int .i64 y.session, .int .i64 y.key, .int .i64 y.value] 74))
          have HB2 := Lib.hid ((HB1.out.alloc HB1.out.size (.cells #[.int .i64 y.kind, .int .i64 y.session, .int .i64 y.key, .int .i64 y.value] 74)).alloc (Nat.le_trans HB1.out.size (by simp)) (.cells #[.int .i64 y.kind, .int .i64 y.session, .int .i64 y.key, .int .i64 y.value] 74))
          go_wp2_with (at_builtin; refine wpList_append_own_at _ rfl _ _ 45 rfl w1.heap.size 74 i0 _ 4 32 Tryz.underlying45 I0.out I1.out I2.out I3.out rfl (by decide) _ d.length (d.flatMap evCells) rfl HO2.out ⟨w2.heap.size + 1, 0, none⟩ 1 1 (evCells y) rfl rfl (new_ev2 w2 _ y _) (one_evs y) (by simp only [maxLen]; omega) (by omega) HB2.out.size ?_; intro v' w3 hown' hgrow hnil hat; have HO3 := Lib.hid hown'; have HG3 := Lib.hid hgrow; clear hown' hgrow hnil hat)
          go_roundw
          case rel =>
            refine ⟨k + 1, by omega, by go_num, HA1.out, ?_, below_append HB2.out HB2.out.size HO2.out HG3.out⟩
            rw [HET.out]
            exact Evs.own_snoc HO3.out
          case measure => simp [intOf]; omega
        · obtain ⟨e1, e2⟩ := HBT.out.2 hq
          have HR : Hid (Di.parseR s = ([], (k : Int) + 1, (Ev.parseR x).2)) := by
            rw [Hid, HP1.out (by rw [e1]; exact hq), e1, e2]
            rfl
          have hqb : ((Ev.parseR x).2 != 0) = true := by rw [bne_iff_ne]; exact hq
          generalize (Ev.parseR x).2 = q at *
          clear e1 e2 hq HBT
          go_wp2_with fail
          refine bodyPost_ret (results_tmp3 rfl _ _ _) rfl ?_
          exact RetEvs.mk _ _ _ (by rw [HR.out]) (by rw [HR.out]) (by rw [HR.out]; exact Evs.nil _ _) (below_all B1.out (HB1.out.alloc HB1.out.size _))
      · have HKE : Hid (Di.parseR s = (Di.evs (l.take k), 0, 0)) := by
          have h : l.take k = l := List.take_of_length_le (by omega)
          have h2 := HA.out
          rw [h] at h2
          rw [Hid, h, HP0.out h2]
        generalize Di.evs (l.take k) = d at *
        go_wp2_with fail
        refine bodyPost_ret (results_tmp3 rfl _ _ _) rfl ?_
        exact RetEvs.mk _ _ _ (by rw [HKE.out]) (by rw [HKE.out]) (by rw [HKE.out]; exact Evs.own HO.out) (below_all B1.out HB.out)
  · have HR := Lib.hid (Di.parse_split s hq)
    have hqb : ((Ln.splitR s).2 != 0) = true := by rw [bne_iff_ne]; exact hq
    generalize (Ln.splitR s).2 = q at *
    clear hs1 hq
    go_wp2_with fail
    refine bodyPost_ret (results_tmp3 rfl _ _ _) rfl ?_
    exact RetEvs.mk _ _ _ (by rw [HR.out]) (by rw [HR.out]) (by rw [HR.out]; exact Evs.nil _ _) B1.out

theorem joinS_take (l : List Ev.Event) (k : Nat) (hk : k < l.length) : Ln.joinS (Di.lines (l.take (k + 1))) = Ln.joinS (Di.lines (l.take k)) ++ ((Ev.showR l[k]).1 ++ [10]) := by
  rw [Di.lines_take l k hk, Ln.joinS_snoc]

set_option maxHeartbeats 1000000 in
theorem rDiShow_at (l : List Ev.Event) (v : Value) (w : World) (hv : Evs w v l) : Calls Tryz.prog 21 #[v] w (RetStr w (Di.showR l)) := by
  obtain ⟨A, c, rfl, hform⟩ := hv.spelled
  have HF := Lib.hid hform
  clear hform hv
  by_cases hm : 400 < l.length
  · have HR := Lib.hid (Di.show_many l hm)
    have hm2 : decide ((400 : Int) < (l.length : Int)) = true := by simp; omega
    go_enter Tryz.func21, Tryz.ntmps21
    go_wp2
    go_ret2
    exact RetStr.mk _ _ (by rw [HR.out]) (by rw [HR.out]; rfl) (Below.refl _ _)
  · have hm2 : decide ((400 : Int) < (l.length : Int)) = false := by simp; omega
    have hm3 : l.length ≤ 400 := by omega
    have HM := Lib.hid hm
    clear hm
    go_enter Tryz.func21, Tryz.ntmps21
    go_wp2
    go_loopw [4, 5] (fun t i wr => ∃ k : Nat, k ≤ l.length ∧ i = .int .i64 k ∧ (l.take k).all Ev.right = true ∧ t = .string (Ln.bs (Ln.joinS (Di.lines (l.take k)))) ∧ Below w.heap.size w wr) (fun _ i _ => l.length - (intOf i).toNat)
    case atStart => exact ⟨0, Nat.zero_le _, rfl, rfl, rfl, Below.refl _ _⟩
    case round =>
      obtain ⟨k, hk, rfl, ha, rfl, hb⟩ := hrel
      have HA := Lib.hid ha
      have HB := Lib.hid hb
      clear ha hb
      by_cases hlt : k < l.length
      · obtain ⟨ad, rfl, hblk, hE⟩ := HF.out k hlt
        obtain ⟨x, hx⟩ : ∃ x, x = l[k]'hlt := ⟨_, rfl⟩
        rw [← hx] at hE
        have HE := Lib.hid (hE.below hblk HB.out)
        have hc0 := HE.out.c0
        have hc1 := HE.out.c1
        have hc2 := HE.out.c2
        have hc3 := HE.out.c3
        have HLT := Lib.hid (joinS_take l k hlt)
        have HRT := Lib.hid (Di.right_take l k hlt)
        have HRN := Lib.hid (Di.right_not l k hlt)
        rw [← hx] at HLT HRT HRN
        have hdl : (Ln.joinS (Di.lines (l.take k))).length ≤ 16400 := by
          have h := Di.lines_join (l.take k)
          rw [List.length_take] at h
          omega
        generalize Ln.joinS (Di.lines (l.take k)) = d at *
        have hxl := Ev.showR_len x
        clear hE hx
        go_wp2_with fail
        refine (rEvShow_at x _).mono ?_
        rintro e w1 ⟨rfl, hb1⟩
        have HB1 := Lib.hid (HB.out.trans (hb1.mono HB.out.size))
        clear hb1 hc0 hc1 hc2 hc3 HE
        cases hr : Ev.right x with
        | true =>
          rw [show (Ev.showR x).2 = 0 from by rw [Ev.showR, if_pos hr]]
          have HA1 : Hid ((l.take (k + 1)).all Ev.right = true) := by rw [Hid, HRT.out, HA.out, hr]; rfl
          generalize (Ev.showR x).1 = y at *
          have hs1 : (Ln.bs d).size = d.length := Ln.bs_size d
          have hs2 : (Ln.bs y).size = y.length := Ln.bs_size y
          have hv1 : ¬ 9223372036854775807 < (Ln.bs d).size + (Ln.bs y).size := by omega
          have hv2 : ¬ 9223372036854775807 < (Ln.bs d).size + (Ln.bs y).size + 1 := by omega
          clear hr hs1 hs2
          go_wp2_with fail
          go_roundw
          case rel =>
            refine ⟨k + 1, by omega, by go_num, HA1.out, ?_, HB1.out⟩
            rw [HLT.out, ← List.append_assoc, ← bs_add, ← bs_add]
            rfl
          case measure => simp [intOf]; omega
        | false =>
          rw [show (Ev.showR x).2 = 1 from by rw [Ev.showR, if_neg (by rw [hr]; simp)]]
          have HR := Lib.hid (Di.show_arg l HM.out (HRN.out hr))
          clear hr
          go_wp2_with fail
          go_ret2
          exact RetStr.mk _ _ (by rw [HR.out]) (by rw [HR.out]; rfl) HB1.out
      · have HT : Hid (l.take k = l) := by rw [Hid, List.take_of_length_le (by omega)]
        rw [HT.out] at HA ⊢
        have HR := Lib.hid (Di.show_ok l HM.out HA.out)
        go_wp2_with fail
        go_ret2
        exact RetStr.mk _ _ (by rw [HR.out]) (by rw [HR.out]) HB.out
end Go.Proofs.YtfjamdpgbbnmcaaGreatDoor
