/-
  Words for event.Parse: its result variable, and what it hands back out of it.
  Conditions: none beyond those that each theorem states.
-/
import Derived.Test.YtpicoccpgpmfhaaDoorEvWalkB
import Derived.Laws.ResultCell
namespace Go.Proofs.YtpicoccpgpmfhaaDoor
open Go.RowKit

theorem zeros_frozen {w w1 : World} {cs : Array Value} {t : TypeId} (hb : Below (w.alloc (.cells cs t)).heap.size (w.alloc (.cells cs t)) w1) (k : Nat) : w1.frozen? ⟨w.heap.size, k, none⟩ = false := by
  have h : w1.heap[w.heap.size]? = some (.cells cs t (0, 0)) := (hb.block w.heap.size (by simp)).trans (heap_alloc_new w _)
  simp [World.frozen?, h]

theorem put_getD (l : List Int) (v : Int) (j k : Nat) (hl : l.length = k) : (l ++ [v]).getD j 0 = if j = k then v else l.getD j 0 := by
  rw [List.getD_eq_getElem?_getD, List.getD_eq_getElem?_getD, List.getElem?_append]
  split
  · rw [if_neg (by omega)]
  · split
    · subst hl
      rename_i h
      subst h
      simp
    · rw [List.getElem?_eq_none (by simp; omega), List.getElem?_eq_none (by omega)]
/-- One number more is there. -/
theorem three_put {l m : List Int} {k : Nat} {a b d v : Int} (h : a = l.getD 0 0 ∧ b = l.getD 1 0 ∧ d = l.getD 2 0) (hm : m = l ++ [v]) (hl : l.length = k) :
    (if 0 = k then v else a) = m.getD 0 0 ∧ (if 1 = k then v else b) = m.getD 1 0 ∧ (if 2 = k then v else d) = m.getD 2 0 := by
  rw [hm, put_getD l v 0 k hl, put_getD l v 1 k hl, put_getD l v 2 k hl, h.1, h.2.1, h.2.2]
  exact ⟨rfl, rfl, rfl⟩

/-- What the call's own result variable, block b, is known to be: four numbers that may be written. -/
structure Mine (w : World) (b : Nat) : Prop where
  c0 : w.cell? ⟨b, 0, none⟩ = some (.int .i64 0)
  c1 : w.cell? ⟨b, 1, none⟩ = some (.int .i64 0)
  c2 : w.cell? ⟨b, 2, none⟩ = some (.int .i64 0)
  c3 : w.cell? ⟨b, 3, none⟩ = some (.int .i64 0)
  f : ∀ k, w.frozen? ⟨b, k, none⟩ = false
theorem Mine.alloc {w : World} {b : Nat} (h : Mine w b) (o : Obj) : Mine (w.alloc o) b := by
  have hlt : b < w.heap.size := World.block_lt_of_cell? w ⟨b, 0, none⟩ h.c0
  have hb := (Below.refl w.heap.size w).alloc (Nat.le_refl _) o
  have hh : (w.alloc o).heap[b]? = w.heap[b]? := hb.block b hlt
  refine ⟨(hb.cell hlt).trans h.c0, (hb.cell hlt).trans h.c1, (hb.cell hlt).trans h.c2, (hb.cell hlt).trans h.c3, fun k => ?_⟩
  have := h.f k
  simp only [World.frozen?, hh] at this ⊢
  exact this
theorem results_ev (X : World) (b : Nat) (tmps : Array Value) (q a0 a1 a2 a3 : Int) (hp : tmps.getD 2 undef = .pointer (some ⟨b, 0, none⟩)) (hq : tmps.getD 3 undef = .int .i64 q)
    (h0 : X.cell? ⟨b, 0, none⟩ = some (.int .i64 a0)) (h1 : X.cell? ⟨b, 1, none⟩ = some (.int .i64 a1)) (h2 : X.cell? ⟨b, 2, none⟩ = some (.int .i64 a2)) (h3 : X.cell? ⟨b, 3, none⟩ = some (.int .i64 a3)) :
    (results Tryd.f14 tmps).run Tryd.prog X = .ok (.tuple #[evV ⟨a0, a1, a2, a3⟩, .int .i64 q]) X := by
  rw [results_cell_tmp (p := 2) (u := 3) (ty := 35) rfl, hp, hq]
  simp [asAddr, go_sem, h0, h1, h2, h3, evV]

/-- Four numbers stored into it. -/
def put4 (W : World) (b : Nat) (a0 a1 a2 a3 : Int) : World := (((W.setCell ⟨b, 0, none⟩ (.int .i64 a0)).setCell ⟨b, 1, none⟩ (.int .i64 a1)).setCell ⟨b, 2, none⟩ (.int .i64 a2)).setCell ⟨b, 3, none⟩ (.int .i64 a3)
theorem put4_cells {W : World} {b : Nat} (h : Mine W b) (a0 a1 a2 a3 : Int) :
    (put4 W b a0 a1 a2 a3).cell? ⟨b, 0, none⟩ = some (.int .i64 a0) ∧ (put4 W b a0 a1 a2 a3).cell? ⟨b, 1, none⟩ = some (.int .i64 a1) ∧ (put4 W b a0 a1 a2 a3).cell? ⟨b, 2, none⟩ = some (.int .i64 a2) ∧ (put4 W b a0 a1 a2 a3).cell? ⟨b, 3, none⟩ = some (.int .i64 a3) := by
  unfold put4
  refine ⟨?_, ?_, ?_, ?_⟩
  all_goals simp [go_sem, h.c0, h.c1, h.c2, h.c3]
theorem put4_below {w W : World} {b : Nat} (hb : Below w.heap.size w W) (h : w.heap.size ≤ b) (a0 a1 a2 a3 : Int) : Below w.heap.size w (put4 W b a0 a1 a2 a3) :=
  (((hb.setCell h _).setCell h _).setCell h _).setCell h _
/-- The call's end: four numbers are stored into the result variable, and handed back. -/
theorem end_ev {w W : World} {b : Nat} {r : Ev.Event × Int} (tmps : Array Value) (ds : List Deferred) (h : Mine W b) (hb : Below w.heap.size w W) (hw : w.heap.size ≤ b) (a0 a1 a2 a3 q : Int) (hr : r = (⟨a0, a1, a2, a3⟩, q))
    (hp : tmps.getD 2 undef = .pointer (some ⟨b, 0, none⟩)) (hq : tmps.getD 3 undef = .int .i64 q) (hd : ds = []) :
    bodyPost Tryd.prog Tryd.f14 (RetEv w r) Exit.ret { tmps := tmps, defers := ds } (put4 W b a0 a1 a2 a3) := by
  subst hd
  obtain ⟨c0, c1, c2, c3⟩ := put4_cells h a0 a1 a2 a3
  refine bodyPost_ret (results_ev _ b _ q a0 a1 a2 a3 hp hq c0 c1 c2 c3) rfl ?_
  exact ⟨by rw [hr], put4_below hb hw _ _ _ _⟩
end Go.Proofs.YtpicoccpgpmfhaaDoor
