/-
  Several texts in one, each with its own first words: DiPlain, DiMem, DiWalkA, DiWalkB, DiWalkC, DiWalkD, DiRefA, DiRefB.
  Conditions: as each says.
-/
import Derived.Test.YtahacjfeopjbaaaEvAll
import Derived.Test.YtahacjfeopjbaaaNumLn
import Derived.Deep.Slices
import Derived.Deep.Fields
import Derived.ChangeSame
import Derived.Defers
import Derived.Recover
/-
  Plain facts on texts of events (no Go in it): a text's events, or where it is wrong, and how; events' text; that each is the other's inverse; two texts, one behind the other.
  Conditions: none beyond those that each theorem states.
-/
set_option maxRecDepth 4000
namespace Go.Proofs.Ytahacjfeopjbaaa.Di

/-- The error of the first line that is no event's, and that line's number, from 1 on: 0 and 0 if all are events'. -/
def bad : List (List UInt8) → Int
  | [] => 0
  | x :: r => if (Ev.parseR x).2 ≠ 0 then (Ev.parseR x).2 else bad r
def place : List (List UInt8) → Nat
  | [] => 0
  | x :: r => if (Ev.parseR x).2 ≠ 0 then 1 else if bad r ≠ 0 then place r + 1 else 0
def evs (l : List (List UInt8)) : List Ev.Event := l.map fun x => (Ev.parseR x).1
/-- Parse's answer: P4.1. -/
def parseR (s : List UInt8) : List Ev.Event × Int × Int :=
  if (Ln.splitR s).2 ≠ 0 then ([], 0, (Ln.splitR s).2)
  else if bad (Ln.splitR s).1 ≠ 0 then ([], (place (Ln.splitR s).1 : Int), bad (Ln.splitR s).1)
  else (evs (Ln.splitR s).1, 0, 0)
def lines (l : List Ev.Event) : List (List UInt8) := l.map fun e => (Ev.showR e).1
/-- Show's answer: P4.2. -/
def showR (l : List Ev.Event) : List UInt8 × Int :=
  if 400 < l.length then ([], 4) else if l.all Ev.right = true then (Ln.joinS (lines l), 0) else ([], 1)

theorem parse_split (s : List UInt8) (h : (Ln.splitR s).2 ≠ 0) : parseR s = ([], 0, (Ln.splitR s).2) := if_pos h
theorem parse_bad (s : List UInt8) (h : (Ln.splitR s).2 = 0) (h' : bad (Ln.splitR s).1 ≠ 0) : parseR s = ([], (place (Ln.splitR s).1 : Int), bad (Ln.splitR s).1) := by
  rw [parseR, if_neg (by simpa using h), if_pos h']
theorem parse_ok (s : List UInt8) (h : (Ln.splitR s).2 = 0) (h' : bad (Ln.splitR s).1 = 0) : parseR s = (evs (Ln.splitR s).1, 0, 0) := by
  rw [parseR, if_neg (by simpa using h), if_neg (by simpa using h')]
theorem all_right (l : List Ev.Event) : l.all Ev.right = true ↔ ∀ e ∈ l, Ev.right e = true := by simp
theorem show_many (l : List Ev.Event) (h : 400 < l.length) : showR l = ([], 4) := if_pos h
theorem show_arg (l : List Ev.Event) (h : ¬ 400 < l.length) (h' : ¬ l.all Ev.right = true) : showR l = ([], 1) := by rw [showR, if_neg h, if_neg h']
theorem show_ok (l : List Ev.Event) (h : ¬ 400 < l.length) (h' : l.all Ev.right = true) : showR l = (Ln.joinS (lines l), 0) := by rw [showR, if_neg h, if_pos h']
theorem show_yes (l : List Ev.Event) (h : (showR l).2 = 0) : l.length ≤ 400 ∧ (∀ e ∈ l, Ev.right e = true) ∧ showR l = (Ln.joinS (lines l), 0) := by
  by_cases h1 : 400 < l.length
  · rw [show_many l h1] at h; cases h
  · by_cases h2 : l.all Ev.right = true
    · exact ⟨by omega, (all_right l).1 h2, show_ok l h1 h2⟩
    · rw [show_arg l h1 h2] at h; cases h
theorem show_none (l : List Ev.Event) (h : (showR l).2 ≠ 0) : (showR l).1 = [] := by
  unfold showR at h ⊢
  split
  · rfl
  · rename_i h1
    rw [if_neg h1] at h
    split
    · rename_i h2; rw [if_pos h2] at h; exact absurd rfl h
    · rfl
theorem lines_join (l : List Ev.Event) : (Ln.joinS (lines l)).length ≤ 41 * l.length := by
  induction l with
  | nil => simp [lines, Ln.joinS]
  | cons e l ih =>
    have h := Ev.showR_len e
    rw [lines, List.map_cons, Ln.joinS_cons, List.length_append, List.length_cons, List.length_cons]
    rw [lines] at ih
    omega
theorem show_len (l : List Ev.Event) : (showR l).1.length ≤ 16400 := by
  by_cases h : (showR l).2 = 0
  · obtain ⟨h1, _, e⟩ := show_yes l h
    rw [e]
    have := lines_join l
    show (Ln.joinS (lines l)).length ≤ 16400
    omega
  · rw [show_none l h]
    exact Nat.zero_le _
end Go.Proofs.Ytahacjfeopjbaaa.Di
/-
  Words for rows of events in memory: a slice that reads as a list of events, and how that lasts; such a slice among the arguments.
  Conditions: none beyond those that each theorem states.
  (This program has not all of these functions: ev_info, cells_ev, cells_evs, arg_evs are left out here.)
-/
set_option maxRecDepth 4000
namespace Go.Proofs.Ytahacjfeopjbaaa
open Go.ChangeShapes Go.WideShapes Go.ChangeAt Go.RowKit Go.Joins Go.Deep

def evCells (e : Ev.Event) : List Value := [.int .i64 e.kind, .int .i64 e.session, .int .i64 e.key, .int .i64 e.value]
theorem evCells_len (l : List Ev.Event) : (l.flatMap evCells).length = l.length * 4 := by
  induction l with
  | nil => rfl
  | cons e l ih => rw [List.flatMap_cons, List.length_append, ih, List.length_cons, show (evCells e).length = 4 from rfl]; omega
theorem evCells_at (l : List Ev.Event) (k : Nat) (hk : k < l.length) (j : Nat) (hj : j < 4) : (l.flatMap evCells)[k * 4 + j]? = (evCells l[k])[j]? := by
  induction l generalizing k with
  | nil => simp at hk
  | cons e l ih =>
    have h4 : (evCells e).length = 4 := rfl
    rw [List.flatMap_cons]
    cases k with
    | zero => rw [List.getElem?_append_left (by omega)]; simp
    | succ k =>
      rw [List.getElem?_append_right (by omega), show (k + 1) * 4 + j - (evCells e).length = k * 4 + j by omega]
      exact ih k (by simpa using hk)
theorem evCells_snoc (d : List Ev.Event) (x : Ev.Event) : (d ++ [x]).flatMap evCells = d.flatMap evCells ++ evCells x := by simp [List.flatMap_append]

/-- The slice value v reads as the events l. -/
def Evs (w : World) (v : Value) (l : List Ev.Event) : Prop := Sl w 4 v l.length (l.flatMap evCells)
theorem Evs.below {w w' : World} {v : Value} {l : List Ev.Event} (h : Evs w v l) (hb : Below w.heap.size w w') : Evs w' v l := Sl.below h hb
theorem Evs.nil (w : World) (A : Option Addr) : Evs w (.slice A 0 0) [] := Sl.nil w 4 A
theorem Evs.own {w : World} {base : Nat} {e : TypeId} {v : Value} {l : List Ev.Event} (h : w.ownsRow base e 4 v l.length (l.flatMap evCells)) : Evs w v l := Sl.own h
theorem Evs.own_snoc {w : World} {base : Nat} {e : TypeId} {v : Value} {d : List Ev.Event} {x : Ev.Event} (h : w.ownsRow base e 4 v (d.length + 1) (d.flatMap evCells ++ evCells x)) : w.ownsRow base e 4 v (d ++ [x]).length ((d ++ [x]).flatMap evCells) := by
  rw [List.length_append, evCells_snoc]
  exact h
/-- The slice's head, and the four cells of each event. -/
theorem Evs.form {w : World} {v : Value} {l : List Ev.Event} (h : Evs w v l) :
    ∃ A c, v = .slice A l.length c ∧ ∀ (k : Nat) (hk : k < l.length), ∃ ad : Addr, A = some ad ∧ ad.block < w.heap.size ∧
      w.cell? (ad.add (k * 4)) = some (.int .i64 l[k].kind) ∧ w.cell? (ad.add (k * 4 + 1)) = some (.int .i64 l[k].session) ∧ w.cell? (ad.add (k * 4 + 2)) = some (.int .i64 l[k].key) ∧ w.cell? (ad.add (k * 4 + 3)) = some (.int .i64 l[k].value) := by
  obtain ⟨A, c, hv, hh⟩ := Sl.form h
  refine ⟨A, c, hv, fun k hk => ?_⟩
  obtain ⟨ad, e, hb, hc⟩ := hh (by omega)
  exact ⟨ad, e, hb, hc (k * 4) _ (evCells_at l k hk 0 (by omega)), hc _ _ (evCells_at l k hk 1 (by omega)), hc _ _ (evCells_at l k hk 2 (by omega)), hc _ _ (evCells_at l k hk 3 (by omega))⟩
theorem add_next (ad : Addr) (m j : Nat) (hj : 0 < j) : (⟨(ad.add m).block, (ad.add m).off + j, none⟩ : Addr) = ad.add (m + j) := by
  unfold Addr.add
  by_cases hm : m = 0
  · subst hm
    simp [show ¬ j = 0 by omega]
  · simp [hm]
    omega
/-- Element k of a slice is the event x, as the walk spells its cells' places. -/
structure EvIn (w : World) (ad : Addr) (k : Nat) (x : Ev.Event) : Prop where
  c0 : w.cell? (ad.add (k * 4)) = some (.int .i64 x.kind)
  c1 : w.cell? ⟨(ad.add (k * 4)).block, (ad.add (k * 4)).off + 1, none⟩ = some (.int .i64 x.session)
  c2 : w.cell? ⟨(ad.add (k * 4)).block, (ad.add (k * 4)).off + 2, none⟩ = some (.int .i64 x.key)
  c3 : w.cell? ⟨(ad.add (k * 4)).block, (ad.add (k * 4)).off + 3, none⟩ = some (.int .i64 x.value)
theorem EvIn.below {w w' : World} {ad : Addr} {k : Nat} {x : Ev.Event} (h : EvIn w ad k x) (hlt : ad.block < w.heap.size) (hb : Below w.heap.size w w') : EvIn w' ad k x := by
  have e : ad.block = (ad.add (k * 4)).block := (add_block ad _).symm
  refine ⟨(hb.cell ?_).trans h.c0, (hb.cell ?_).trans h.c1, (hb.cell ?_).trans h.c2, (hb.cell ?_).trans h.c3⟩
  all_goals exact e ▸ hlt
theorem Evs.spelled {w : World} {v : Value} {l : List Ev.Event} (h : Evs w v l) :
    ∃ A c, v = .slice A l.length c ∧ ∀ (k : Nat) (hk : k < l.length), ∃ ad : Addr, A = some ad ∧ ad.block < w.heap.size ∧ EvIn w ad k l[k] := by
  obtain ⟨A, c, hv, hh⟩ := h.form
  refine ⟨A, c, hv, fun k hk => ?_⟩
  obtain ⟨ad, e, hb, h0, h1, h2, h3⟩ := hh k hk
  refine ⟨ad, e, hb, h0, ?_, ?_, ?_⟩
  · rw [add_next ad _ 1 (by omega)]; exact h1
  · rw [add_next ad _ 2 (by omega)]; exact h2
  · rw [add_next ad _ 3 (by omega)]; exact h3
theorem Evs.none_ {w : World} {v : Value} {l : List Ev.Event} (h : Evs w v l) (hl : l = []) : ∃ A c, v = .slice A 0 c := by
  subst hl
  obtain ⟨A, c, hv, _⟩ := h.form
  exact ⟨A, c, hv⟩
/-- Events, a place and an error: what a call hands back lies in memory of its own; what was there stays. -/
def RetEvs (w : World) (r : List Ev.Event × Int × Int) (e : Ending) (w' : World) : Prop := ∃ v, e = .returned (.tuple #[v, .int .i64 r.2.1, .int .i64 r.2.2]) ∧ Evs w' v r.1 ∧ Below w.heap.size w w'
theorem RetEvs.mk {w w' : World} {r : List Ev.Event × Int × Int} (v : Value) (n q : Int) (hn : r.2.1 = n) (hq : r.2.2 = q) (hs : Evs w' v r.1) (hb : Below w.heap.size w w') : RetEvs w r (.returned (.tuple #[v, .int .i64 n, .int .i64 q])) w' :=
  ⟨v, by rw [hn, hq], hs, hb⟩

section
variable {H : Type} {enc : TypeId × Value → H} {w : World} {base : Nat} {r : Reach} {b0 : Nat}
end
end Go.Proofs.Ytahacjfeopjbaaa
/-
  What diary.stopAt, linesOf and eventsOf do, for every input: they hand back what they should, or panic with the fault that tells the line and its error; what was in memory stays as it was.
  Conditions: the variable that lists the kinds' words holds them (eventsOf); a string's length is at most the model's greatest; a row has at most 400 lines (eventsOf).
  (This program has not all of these functions: faultV, thrown, stopAt_ok, stopAt_bad, linesOf_ok, linesOf_bad, EventsRel, eventsOf_at are left out here.)
-/
set_option maxRecDepth 4000
namespace Go.Proofs.Ytahacjfeopjbaaa
open Go.RowKit

end Go.Proofs.Ytahacjfeopjbaaa
/-
  What diary.Parse's deferred function does: of a call that ends well, nothing; of one that panics with a fault, it lays the fault's line and error into the result variables, and the panic is over.
  Conditions: the three result variables may be written.
  (This program has not all of these functions: assert_fault, catch_idle, catch_fault are left out here.)
-/
set_option maxRecDepth 4000
namespace Go.Proofs.Ytahacjfeopjbaaa
open Go.RowKit

/-- A variable of one cell that may be written. -/
structure One (w : World) (b : Nat) (v : Value) : Prop where
  c : w.cell? ⟨b, 0, none⟩ = some v
  f : w.frozen? ⟨b, 0, none⟩ = false

theorem One.alloc {w : World} {b : Nat} {v : Value} (h : One w b v) (o : Obj) : One (w.alloc o) b v := by
  have hlt : b < w.heap.size := World.block_lt_of_cell? w ⟨b, 0, none⟩ h.c
  have hb := (Below.refl w.heap.size w).alloc (Nat.le_refl _) o
  have hh : (w.alloc o).heap[b]? = w.heap[b]? := hb.block b hlt
  refine ⟨(hb.cell hlt).trans h.c, ?_⟩
  have := h.f
  simp only [World.frozen?, hh] at this ⊢
  exact this

end Go.Proofs.Ytahacjfeopjbaaa
/-
  What diary.Parse answers, for every text that a string may hold: Di.parseR; what was in memory stays as it was.
  Conditions: the variable that lists the kinds' words holds them; a string's length is at most the model's greatest.
  (This program has not all of these functions: results_di, lastCall, end_bad, end_ok, vars3, vars3_size, vars3_below, vars3_one, diParse_at are left out here.)
-/
set_option maxRecDepth 4000
namespace Go.Proofs.Ytahacjfeopjbaaa
open Go.RowKit

theorem own_setCell {w : World} {base size n b o : Nat} {e : TypeId} {v x : Value} {xs : List Value} (h : w.ownsRow base e size v n xs) (hb : b < base) : (w.setCell ⟨b, o, none⟩ x).ownsRow base e size v n xs := by
  refine ⟨h.1, ?_⟩
  rcases h.2 with h2 | ⟨g, cap, cur, h1, h2, h3, h4⟩
  · exact .inl h2
  · refine .inr ⟨g, cap, cur, h1, h2, ?_, h4⟩
    simp only [World.setCell, Array.getElem?_modify]
    rw [if_neg (by omega)]
    exact h3

theorem own_less {w : World} {base base' size n : Nat} {e : TypeId} {v : Value} {xs : List Value} (hb : base' ≤ base) (h : w.ownsRow base e size v n xs) : w.ownsRow base' e size v n xs := by
  refine ⟨h.1, ?_⟩
  rcases h.2 with h2 | ⟨g, cap, cur, h1, h2, h3, h4⟩
  · exact .inl h2
  · exact .inr ⟨g, cap, cur, h1, Nat.le_trans hb h2, h3, h4⟩

theorem One.below {w w' : World} {b : Nat} {v : Value} (h : One w b v) (hb : Below w.heap.size w w') : One w' b v := by
  have hlt : b < w.heap.size := World.block_lt_of_cell? w ⟨b, 0, none⟩ h.c
  have hh : w'.heap[b]? = w.heap[b]? := hb.block b hlt
  refine ⟨(hb.cell hlt).trans h.c, ?_⟩
  have := h.f
  simp only [World.frozen?, hh] at this ⊢
  exact this
theorem One.new (w : World) (v : Value) (t : TypeId) : One (w.alloc (.cells #[v] t)) w.heap.size v := by
  exact ⟨new_cell w _ _ 0 _ rfl, zeros_frozen (Below.refl _ _) 0⟩
end Go.Proofs.Ytahacjfeopjbaaa
/-
  What diary.Show answers, for every row of events: Di.showR; what was in memory stays as it was.
  Conditions: the variable that lists the kinds' words holds them.
  (This program has not all of these functions: diShow_at is left out here.)
-/
set_option maxRecDepth 4000
namespace Go.Proofs.Ytahacjfeopjbaaa
open Go.RowKit

end Go.Proofs.Ytahacjfeopjbaaa
/-
  What the reference's Same of layer 3 answers: whether two rows of events are one; what was in memory stays as it was.
  Conditions: a row has at most 2^32 elements.
  (This program has not all of these functions: rEvSame_at is left out here.)
-/
set_option maxRecDepth 4000
namespace Go.Proofs.Ytahacjfeopjbaaa
open Go.RowKit

end Go.Proofs.Ytahacjfeopjbaaa
/-
  What the reference's Parse and Show of layer 4 answer: Di.parseR, Di.showR; what was in memory stays as it was.
  Conditions: a text that is parsed has at most 2^32 bytes.
  (This program has not all of these functions: rDiParse_at, rDiShow_at are left out here.)
-/
set_option maxRecDepth 4000
namespace Go.Proofs.Ytahacjfeopjbaaa
open Go.RowKit

end Go.Proofs.Ytahacjfeopjbaaa
