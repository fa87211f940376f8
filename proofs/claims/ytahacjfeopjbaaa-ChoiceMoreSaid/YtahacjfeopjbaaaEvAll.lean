/-
  Several texts in one, each with its own first words: EvPlain, EvWalkA, EvWalkB, EvWalkC, EvWalkD, EvFrame, EvRefA, EvRefB.
  Conditions: as each says.
-/
import Derived.Test.YtahacjfeopjbaaaLow
import Derived.Test.YtahacjfeopjbaaaNumLn
import Derived.Test.YtahacjfeopjbaaaRows
import Derived.Laws.ResultCell
import Derived.Lib.LaidTab
import Derived.Lib.SmallJoins
import Derived.Deep.RegionHeld3
/-
  Plain facts on events and their lines (no Go in it): when an event may be, its line, a line's event, and that each is the other's inverse.
  Conditions: none beyond those that each theorem states.
-/
set_option maxRecDepth 4000
namespace Go.Proofs.Ytahacjfeopjbaaa

namespace Nm
end Nm

namespace Ln
end Ln

namespace Ev
/-- An event. -/
structure Event where
  kind : Int
  session : Int
  key : Int
  value : Int
  deriving DecidableEq

def zero : Event := ⟨0, 0, 0, 0⟩
/-- The words of the kinds. -/
def words : List (List UInt8) := [[98, 101, 103, 105, 110], [114, 101, 97, 100], [119, 114, 105, 116, 101], [99, 111, 109, 109, 105, 116], [97, 98, 111, 114, 116]]
def word (k : Nat) : List UInt8 := words.getD k []
def hasKey (k : Int) : Bool := decide (k = 1) || decide (k = 2)
/-- How many numbers a kind's line has. -/
def many (k : Int) : Nat := if hasKey k = true then 3 else 1

/-- May an event be? P3.1. -/
def right (e : Event) : Bool :=
  decide (0 ≤ e.kind ∧ e.kind < 5 ∧ 0 ≤ e.session ∧ e.session < 8 ∧ (if hasKey e.kind = true then 0 ≤ e.key ∧ e.key < 16 ∧ Nm.isNum e.value = true else e.key = 0 ∧ e.value = 0))
def nums (e : Event) : List Int := if hasKey e.kind = true then [e.session, e.key, e.value] else [e.session]
/-- The words of an event's line. -/
def parts (e : Event) : List (List UInt8) := word e.kind.toNat :: (nums e).map Nm.showS
/-- Show's answer. -/
def showR (e : Event) : List UInt8 × Int := if right e = true then (Ln.spaced (parts e), 0) else ([], 1)

/-- The kind of a word: 5 if there is none. -/
def kindI (x : List UInt8) : Nat := words.findIdx (· == x)
/-- The error of the first word that is no number. -/
def bad : List (List UInt8) → Int
  | [] => 0
  | x :: r => if (Nm.wholeR x).2 ≠ 0 then (Nm.wholeR x).2 else bad r
def vals (l : List (List UInt8)) : List Int := l.map fun x => (Nm.wholeR x).1
def ofNums (k : Int) (l : List Int) : Event := ⟨k, l.getD 0 0, l.getD 1 0, l.getD 2 0⟩
/-- What words are, of which the first is a kind's: P3.2's last words. -/
def ofWords (k : Int) (l : List (List UInt8)) : Event × Int :=
  if bad l ≠ 0 then (zero, bad l) else if 8 ≤ (vals l).getD 0 0 ∨ 16 ≤ (vals l).getD 1 0 then (zero, 4) else (ofNums k (vals l), 0)
/-- Parse's answer: P3.2. -/
def parseR (s : List UInt8) : Event × Int :=
  if (Ln.wordsR s).2 ≠ 0 then (zero, 2)
  else if kindI ((Ln.wordsR s).1.getD 0 []) < 5 ∧ (Ln.wordsR s).1.length = 1 + many (kindI ((Ln.wordsR s).1.getD 0 []) : Int) then ofWords (kindI ((Ln.wordsR s).1.getD 0 []) : Int) (Ln.wordsR s).1.tail
  else (zero, 2)

theorem many_le (k : Int) : many k ≤ 3 := by unfold many; split <;> omega
theorem hasKey_iff (k : Int) : hasKey k = true ↔ k = 1 ∨ k = 2 := by simp [hasKey]

theorem word_len (k : Nat) (hk : k < 5) : (word k).length ≤ 6 := by
  match k, hk with
  | 0, _ => decide
  | 1, _ => decide
  | 2, _ => decide
  | 3, _ => decide
  | 4, _ => decide

theorem showS_len (n : Int) : (Nm.showS n).length ≤ 10 := by
  unfold Nm.showS
  split
  · rename_i h
    have hn := (Nm.isNum_iff n).1 h
    exact Nm.digs_len10 _ (by omega)
  · simp

theorem right_iff (e : Event) : right e = true ↔ 0 ≤ e.kind ∧ e.kind < 5 ∧ 0 ≤ e.session ∧ e.session < 8 ∧ (if hasKey e.kind = true then 0 ≤ e.key ∧ e.key < 16 ∧ Nm.isNum e.value = true else e.key = 0 ∧ e.value = 0) := by simp [right]
theorem nums_len (e : Event) : (nums e).length = many e.kind := by unfold nums many; split <;> rfl
theorem showR_len (e : Event) : (showR e).1.length ≤ 40 := by
  unfold showR
  split
  · rename_i h
    obtain ⟨h1, h2, _⟩ := (right_iff e).1 h
    have hw := word_len e.kind.toNat (by omega)
    show (Ln.spaced (parts e)).length ≤ 40
    unfold parts nums
    have a := showS_len e.session
    have b := showS_len e.key
    have c := showS_len e.value
    split
    · simp [Ln.spaced]
      omega
    · simp [Ln.spaced]
      omega
  · simp
end Ev
end Go.Proofs.Ytahacjfeopjbaaa
/-
  Words for events in memory and for the kinds' words; what event.hasKey, numbersOf, isNumber, Right and kindOf answer, for every input: Ev.hasKey, Ev.many, Nm.isNum, Ev.right, Ev.kindI; what was in memory stays as it was.
  Conditions: kindOf: the variable that lists the kinds' words holds them.
  (This program has not all of these functions: KW, KW.below, hasKey_at, numbersOf_at, isNumber_at, evRight_at are left out here.)
-/
set_option maxRecDepth 4000
namespace Go.Proofs.Ytahacjfeopjbaaa
open Go.RowKit

end Go.Proofs.Ytahacjfeopjbaaa
/-
  What event.kindOf and event.Show answer, for every input: Ev.kindI and Ev.showR; what was in memory stays as it was.
  Conditions: the variable that lists the kinds' words holds them.
  (This program has not all of these functions: index_words, kindOf_at, evShow_at are left out here.)
-/
set_option maxRecDepth 4000
namespace Go.Proofs.Ytahacjfeopjbaaa
open Go.RowKit

/-- The cells of a new block. -/
theorem new_cell (w : World) (cs : Array Value) (t : TypeId) (k : Nat) (v : Value) (h : cs[k]? = some v) : (w.alloc (.cells cs t)).cell? ⟨w.heap.size, k, none⟩ = some v := by
  rw [cell_of_row _ _ _ cs t (0, 0) (heap_alloc_new w _)]
  exact h
theorem alloc_below (w : World) (o : Obj) : Below w.heap.size w (w.alloc o) := (Below.refl _ w).alloc (Nat.le_refl _) o
theorem below_new {w w1 : World} {o : Obj} (h : Below (w.alloc o).heap.size (w.alloc o) w1) : Below w.heap.size w w1 := below_all ((Below.refl _ w).alloc (Nat.le_refl _) o) h
theorem size_new (w : World) (o : Obj) : (w.alloc o).heap.size = w.heap.size + 1 := by simp

end Go.Proofs.Ytahacjfeopjbaaa
/-
  Words for event.Parse: its result variable, and what it hands back out of it.
  Conditions: none beyond those that each theorem states.
  (This program has not all of these functions: results_ev, end_ev are left out here.)
-/
set_option maxRecDepth 4000
namespace Go.Proofs.Ytahacjfeopjbaaa
open Go.RowKit

theorem zeros_frozen {w w1 : World} {cs : Array Value} {t : TypeId} (hb : Below (w.alloc (.cells cs t)).heap.size (w.alloc (.cells cs t)) w1) (k : Nat) : w1.frozen? ⟨w.heap.size, k, none⟩ = false := by
  have h : w1.heap[w.heap.size]? = some (.cells cs t (0, 0)) := (hb.block w.heap.size (by simp)).trans (heap_alloc_new w _)
  simp [World.frozen?, h]

/-- What the call's own result variable, block b, is known to be: four numbers that may be written. -/
structure Mine (w : World) (b : Nat) : Prop where
  c0 : w.cell? ⟨b, 0, none⟩ = some (.int .i64 0)
  c1 : w.cell? ⟨b, 1, none⟩ = some (.int .i64 0)
  c2 : w.cell? ⟨b, 2, none⟩ = some (.int .i64 0)
  c3 : w.cell? ⟨b, 3, none⟩ = some (.int .i64 0)
  f : ∀ k, w.frozen? ⟨b, k, none⟩ = false
theorem Mine.alloc {w : World} {b : Nat} (h : Mine w b) (o : Obj) : Mine (w.alloc o) b := by
  have hlt : b < w.heap.size := World.block_lt_of_cell? w ⟨b, 0, none⟩ h.c0
  have hb := (Below.refl w.heap.size w).alloc (Nat.le_refl _) o
  have hh : (w.alloc o).heap[b]? = w.heap[b]? := hb.block b hlt
  refine ⟨(hb.cell hlt).trans h.c0, (hb.cell hlt).trans h.c1, (hb.cell hlt).trans h.c2, (hb.cell hlt).trans h.c3, fun k => ?_⟩
  have := h.f k
  simp only [World.frozen?, hh] at this ⊢
  exact this
end Go.Proofs.Ytahacjfeopjbaaa
/-
  What event.Parse answers, for every text that a string may hold: Ev.parseR; what was in memory stays as it was.
  Conditions: the variable that lists the kinds' words holds them; a string's length is at most the model's greatest.
  (This program has not all of these functions: evParse_at is left out here.)
-/
set_option maxRecDepth 4000
namespace Go.Proofs.Ytahacjfeopjbaaa
open Go.RowKit

end Go.Proofs.Ytahacjfeopjbaaa
/-
  From a row's list of package-level variables to what the walks ask: the variable that lists the kinds' words holds them; and an event among the arguments.
  Conditions: none beyond those that each theorem states.
  (This program has not all of these functions: kindWords_named, kindWords_type, kw_laid, arg_ev, laidWorld are left out here.)
-/
set_option maxRecDepth 4000
namespace Go.Proofs.Ytahacjfeopjbaaa
open Go.ChangeShapes Go.WideShapes Go.ChangeAt Go.RowKit Go.Joins

section
variable {H : Type} {enc : TypeId × Value → H} {w : World} {base : Nat} {r : Reach} {b0 : Nat}
end

end Go.Proofs.Ytahacjfeopjbaaa
/-
  What the reference's word, digits, Right and Show of layer 3 answer: Ev.word, Nm.showS, Ev.right, Ev.showR; what was in memory stays as it was.
  Conditions: word: a kind from 0 to 4.
  (This program has not all of these functions: rWord_at, rDigs_at, rEvRight_at, rEvShow_at are left out here.)
-/
set_option maxRecDepth 4000
namespace Go.Proofs.Ytahacjfeopjbaaa
open Go.RowKit

theorem hid_below {w w1 w2 : World} (h : Hid (Below w.heap.size w w1)) (hb : Below w1.heap.size w1 w2) : Hid (Below w.heap.size w w2) := below_all h.out hb
theorem hid_drew (w : World) : Hid (Below w.heap.size w w.drew) := (Below.refl _ _).drew

end Go.Proofs.Ytahacjfeopjbaaa
/-
  What the reference's Parse of layer 3 answers: Ev.parseR; what was in memory stays as it was.
  Conditions: a line has at most 2^32 bytes.
  (This program has not all of these functions: results_rev, end_rev, end_rev_drew, rEvParse_at are left out here.)
-/
set_option maxRecDepth 4000
namespace Go.Proofs.Ytahacjfeopjbaaa
open Go.RowKit

end Go.Proofs.Ytahacjfeopjbaaa
