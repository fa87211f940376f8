/-
  Words for event.Parse: its result variable, and what it hands back out of it.
  Conditions: none beyond those that each theorem states.
  (This program has not all of these functions: results_ev, end_ev are left out here.)
-/
import Derived.Test.YtkeaibngofbkhaaEvWalkB
import Derived.Laws.ResultCell
namespace Go.Proofs.Ytkeaibngofbkhaa
open Go.RowKit

theorem zeros_frozen {w w1 : World} {cs : Array Value} {t : TypeId} (hb : Below (w.alloc (.cells cs t)).heap.size (w.alloc (.cells cs t)) w1) (k : Nat) : w1.frozen? ⟨w.heap.size, k, none⟩ = false := by
  have h : w1.heap[w.heap.size]? = some (.cells cs t (0, 0)) := (hb.block w.heap.size (by simp)).trans (heap_alloc_new w _)
  simp [World.frozen?, h]

theorem put_getD (l : List Int) (v : Int) (j k : Nat) (hl : l.length = k) : (l ++ [v]).getD j 0 = if j = k then v else l.getD j 0 := by
  rw [List.getD_eq_getElem?_getD, List.getD_eq_getElem?_getD, List.getElem?_append]
  split
  · rw [if_neg (by omega)]
  · split
    · subst hl
      rename_i h
      subst h
      simp
    · rw [List.getElem?_eq_none (by simp; omega), List.getElem?_eq_none (by omega)]
/-- One number more is there. -/
theorem three_put {l m : List Int} {k : Nat} {a b d v : Int} (h : a = l.getD 0 0 ∧ b = l.getD 1 0 ∧ d = l.getD 2 0) (hm : m = l ++ [v]) (hl : l.length = k) :
    (if 0 = k then v else a) = m.getD 0 0 ∧ (if 1 = k then v else b) = m.getD 1 0 ∧ (if 2 = k then v else d) = m.getD 2 0 := by
  rw [hm, put_getD l v 0 k hl, put_getD l v 1 k hl, put_getD l v 2 k hl, h.1, h.2.1, h.2.2]
  exact ⟨rfl, rfl, rfl⟩

/-- What the call's own result variable, block b, is known to be: four numbers that may be written. -/
structure Mine (w : World) (b : Nat) : Prop where
  c0 : w.cell? ⟨b, 0, none⟩ = some (.int .i64 0)
  c1 : w.cell? ⟨b, 1, none⟩ = some (.int .i64 0)
  c2 : w.cell? ⟨b, 2, none⟩ = some (.int .i64 0)
  c3 : w.cell? ⟨b, 3, none⟩ = some (.int .i64 0)
  f : ∀ k, w.frozen? ⟨b, k, none⟩ = false
theorem Mine.alloc {w : World} {b : Nat} (h : Mine w b) (o : Obj) : Mine (w.alloc o) b := by
  have hlt : b < w.heap.size := World.block_lt_of_cell? w ⟨b, 0, none⟩ h.c0
  have hb := (Below.refl w.heap.size w).alloc (Nat.le_refl _) o
  have hh : (w.alloc o).heap[b]? = w.heap[b]? := hb.block b hlt
  refine ⟨(hb.cell hlt).trans h.c0, (hb.cell hlt).trans h.c1, (hb.cell hlt).trans h.c2, (hb.cell hlt).trans h.c3, fun k => ?_⟩
  have := h.f k
  simp only [World.frozen?, hh] at this ⊢
  exact this
/-- Four numbers stored into it. -/
def put4 (W : World) (b : Nat) (a0 a1 a2 a3 : Int) : World := (((W.setCell ⟨b, 0, none⟩ (.int .i64 a0)).setCell ⟨b, 1, none⟩ (.int .i64 a1)).setCell ⟨b, 2, none⟩ (.int .i64 a2)).setCell ⟨b, 3, none⟩ (.int .i64 a3)
theorem put4_cells {W : World} {b : Nat} (h : Mine W b) (a0 a1 a2 a3 : Int) :
    (put4 W b a0 a1 a2 a3).cell? ⟨b, 0, none⟩ = some (.int .i64 a0) ∧ (put4 W b a0 a1 a2 a3).cell? ⟨b, 1, none⟩ = some (.int .i64 a1) ∧ (put4 W b a0 a1 a2 a3).cell? ⟨b, 2, none⟩ = some (.int .i64 a2) ∧ (put4 W b a0 a1 a2 a3).cell? ⟨b, 3, none⟩ = some (.int .i64 a3) := by
  unfold put4
  refine ⟨?_, ?_, ?_, ?_⟩
  all_goals simp [go_sem, h.c0, h.c1, h.c2, h.c3]
theorem put4_below {w W : World} {b : Nat} (hb : Below w.heap.size w W) (h : w.heap.size ≤ b) (a0 a1 a2 a3 : Int) : Below w.heap.size w (put4 W b a0 a1 a2 a3) :=
  (((hb.setCell h _).setCell h _).setCell h _).setCell h _
end Go.Proofs.Ytkeaibngofbkhaa
