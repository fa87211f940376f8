/-
  What event.kindOf and event.Show answer, for every input: Ev.kindI and Ev.showR; what was in memory stays as it was.
  Conditions: the variable that lists the kinds' words holds them.
  (This program has not all of these functions: index_words, kindOf_at, evShow_at are left out here.)
-/
import Derived.Test.YtkeaibngofbkhaaEvWalkA
namespace Go.Proofs.Ytkeaibngofbkhaa
open Go.RowKit

/-- The array of the kinds' words, as a value. -/
def wordsV : Value := .agg #[.string (Ln.bs (Ev.word 0)), .string (Ln.bs (Ev.word 1)), .string (Ln.bs (Ev.word 2)), .string (Ln.bs (Ev.word 3)), .string (Ln.bs (Ev.word 4))]
/-- The cells of a new block. -/
theorem new_cell (w : World) (cs : Array Value) (t : TypeId) (k : Nat) (v : Value) (h : cs[k]? = some v) : (w.alloc (.cells cs t)).cell? ⟨w.heap.size, k, none⟩ = some v := by
  rw [cell_of_row _ _ _ cs t (0, 0) (heap_alloc_new w _)]
  exact h
theorem alloc_below (w : World) (o : Obj) : Below w.heap.size w (w.alloc o) := (Below.refl _ w).alloc (Nat.le_refl _) o
theorem below_new {w w1 : World} {o : Obj} (h : Below (w.alloc o).heap.size (w.alloc o) w1) : Below w.heap.size w w1 := below_all ((Below.refl _ w).alloc (Nat.le_refl _) o) h
theorem size_new (w : World) (o : Obj) : (w.alloc o).heap.size = w.heap.size + 1 := by simp

end Go.Proofs.Ytkeaibngofbkhaa
