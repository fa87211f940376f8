/-
  Words for inner.Look's memory as a whole, and its steps: while the sixteen memories are made, and behind each op.
  Conditions: none beyond those that each theorem states.
-/
import Derived.Test.YtlbpdnaaailpeaaInWalkA
import Derived.Test.YtlbpdnaaailpeaaInStep
namespace Go.Proofs.Ytlbpdnaaailpeaa
open Go.RowKit

/-- While the memories are made: n of them are there. -/
structure MakeAt (w wr : World) (s d f u : Value) (n : Nat) : Prop where
  below : Below w.heap.size w wr
  size : wr.heap.size = w.heap.size + 3 + 6 * n
  box : wr.heap[w.heap.size]? = some (.cells #[s, d, f, u] 24 (0, 0))
  res : wr.heap[w.heap.size + 1]? = some (.cells #[.slice none 0 0, .slice none 0 0] 28 (0, 0))
  row : RowAt wr (w.heap.size + 2) (w.heap.size + 3) n
  mem : ∀ k : Nat, k < n → MemAt wr (w.heap.size + 3 + 6 * k) k none none
/-- Behind the ops p. -/
structure LookAt (w wr : World) (s d f u : Value) (p : List Ev.Event) : Prop where
  below : Below w.heap.size w wr
  box : wr.heap[w.heap.size]? = some (.cells #[s, d, f, u] 24 (0, 0))
  res : wr.heap[w.heap.size + 1]? = some (.cells #[.slice none 0 0, .slice none 0 0] 28 (0, 0))
  row : RowAt wr (w.heap.size + 2) (w.heap.size + 3) 16
  mem : ∀ k : Nat, k < 16 → MemAt wr (w.heap.size + 3 + 6 * k) k (In.fr p k) (In.lastOf 2 k p)

section
variable {w wr w1 : World} {s d f u : Value} {p : List Ev.Event} {n : Nat}
theorem MakeAt.done (h : MakeAt w wr s d f u 16) : LookAt w wr s d f u [] := ⟨h.below, h.box, h.res, h.row, fun k hk => h.mem k hk⟩
theorem row_set {w : World} {b : Nat} {cs : List Value} {t : TypeId} (h : w.heap[b]? = some (.cells cs.toArray t (0, 0))) (j : Nat) (x : Value) : (w.setCell ⟨b, j, none⟩ x).heap[b]? = some (.cells (cs.set j x).toArray t (0, 0)) := by
  simp [World.setCell, Array.getElem?_modify, h]
theorem make_start (w : World) (s d f u : Value) (cs : Array Value) (hc : cs = (rowC (w.heap.size + 3) 0).toArray) : MakeAt w (((w.alloc (.cells #[s, d, f, u] 24)).alloc (.cells #[.slice none 0 0, .slice none 0 0] 28)).alloc (.cells cs 54)) s d f u 0 := by
  have e : (((w.alloc (.cells #[s, d, f, u] 24)).alloc (.cells #[.slice none 0 0, .slice none 0 0] 28)).alloc (.cells cs 54)).heap = ((w.heap.push (.cells #[s, d, f, u] 24)).push (.cells #[.slice none 0 0, .slice none 0 0] 28)).push (.cells cs 54) := rfl
  refine ⟨below_new (below_new (alloc_below _ _)), ?_, ?_, ?_, ?_, fun k hk => absurd hk (by omega)⟩
  · rw [e]; simp
  · rw [e]
    simp only [Array.getElem?_push, Array.size_push]
    repeat (first | rw [if_neg (by omega)] | rw [if_pos trivial] | rw [if_pos (by omega)])
  · rw [e]
    simp only [Array.getElem?_push, Array.size_push]
    repeat (first | rw [if_neg (by omega)] | rw [if_pos trivial] | rw [if_pos (by omega)])
  · rw [RowAt, e, hc]
    simp only [Array.getElem?_push, Array.size_push]
    repeat (first | rw [if_neg (by omega)] | rw [if_pos trivial] | rw [if_pos (by omega)])
/-- The next memory's place in the row is free. -/
theorem MakeAt.room (h : MakeAt w wr s d f u n) (hn : n < 16) (hb : Below wr.heap.size wr w1) : (w1.cell? ⟨w.heap.size + 1 + 1, n * 3, none⟩ = some .nilFunc ∧ w1.cell? ⟨w.heap.size + 1 + 1, n * 3 + 1, none⟩ = some .nilFunc ∧ w1.cell? ⟨w.heap.size + 1 + 1, n * 3 + 2, none⟩ = some .nilFunc) ∧
    (w1.frozen? ⟨w.heap.size + 1 + 1, n * 3, none⟩ = false ∧ w1.frozen? ⟨w.heap.size + 1 + 1, n * 3 + 1, none⟩ = false ∧ w1.frozen? ⟨w.heap.size + 1 + 1, n * 3 + 2, none⟩ = false) := by
  have hr : RowAt w1 (w.heap.size + 2) (w.heap.size + 3) n := (hb.block _ h.row.lt).trans h.row
  exact ⟨⟨(hr.cell _).trans (rowC_free _ _ _ (by omega) (by omega) (by omega)), (hr.cell _).trans (rowC_free _ _ _ (by omega) (by omega) (by omega)), (hr.cell _).trans (rowC_free _ _ _ (by omega) (by omega) (by omega))⟩, hr.free _, hr.free _, hr.free _⟩
/-- One memory more. -/
theorem MakeAt.more (h : MakeAt w wr s d f u n) (hn : n < 16) (hm : MemAt w1 wr.heap.size n none none) (hs : w1.heap.size = wr.heap.size + 6) (hb : Below wr.heap.size wr w1) :
    MakeAt w (((w1.setCell ⟨w.heap.size + 2, n * 3, none⟩ (readF wr.heap.size)).setCell ⟨w.heap.size + 2, n * 3 + 1, none⟩ (writeF wr.heap.size)).setCell ⟨w.heap.size + 2, n * 3 + 2, none⟩ (tellF wr.heap.size)) s d f u (n + 1) := by
  have hsz := h.size
  have far : ∀ j, j ≠ w.heap.size + 2 → (((w1.setCell ⟨w.heap.size + 2, n * 3, none⟩ (readF wr.heap.size)).setCell ⟨w.heap.size + 2, n * 3 + 1, none⟩ (writeF wr.heap.size)).setCell ⟨w.heap.size + 2, n * 3 + 2, none⟩ (tellF wr.heap.size)).heap[j]? = w1.heap[j]? := fun j hj =>
    (Below.heap_setCell _ _ _ _ hj).trans ((Below.heap_setCell _ _ _ _ hj).trans (Below.heap_setCell _ _ _ _ hj))
  have hr : w1.heap[w.heap.size + 2]? = some (.cells (rowC (w.heap.size + 3) n).toArray 54 (0, 0)) := (hb.block _ (by omega)).trans h.row
  refine ⟨?_, ?_, ?_, ?_, ?_, fun k hk => ?_⟩
  · exact (((h.below.trans (hb.mono (by omega))).setCell (by show w.heap.size ≤ w.heap.size + 2; omega) _).setCell (by show w.heap.size ≤ w.heap.size + 2; omega) _).setCell (by show w.heap.size ≤ w.heap.size + 2; omega) _
  · simp only [World.setCell, Array.size_modify]
    omega
  · exact (far _ (by omega)).trans ((hb.block _ (by omega)).trans h.box)
  · exact (far _ (by omega)).trans ((hb.block _ (by omega)).trans h.res)
  · rw [RowAt, ← rowC_succ _ _ hn, ← hsz]
    exact row_set (row_set (row_set hr _ _) _ _) _ _
  · by_cases e : k = n
    · subst e
      rw [← hsz]
      exact hm.keep fun j hj => far _ (by omega)
    · exact (h.mem k (by omega)).keep fun j hj => (far _ (by omega)).trans (hb.block _ (by omega))
theorem LookAt.lt (h : LookAt w wr s d f u p) : w.heap.size + 98 < wr.heap.size := by
  have := (h.mem 15 (by omega)).lt
  omega
theorem LookAt.later (h : LookAt w wr s d f u p) (hb : Below wr.heap.size wr w1) : LookAt w w1 s d f u p := by
  have hl := h.lt
  refine ⟨below_all h.below hb, (hb.block _ (by omega)).trans h.box, (hb.block _ (by omega)).trans h.res, (hb.block _ (by omega)).trans h.row, fun k hk => (h.mem k hk).below hb ?_⟩
  have := (h.mem k hk).lt
  omega
/-- Behind an op of key k. -/
theorem LookAt.op (h : LookAt w wr s d f u p) (x : Ev.Event) (k : Nat) (hk : k < 16) (hx : x.key = (k : Int)) {r v : Option Int} (hs : Save (w.heap.size + 3 + 6 * k) (w.heap.size + 3 + 6 * k + 6) wr w1) (hm : MemAt w1 (w.heap.size + 3 + 6 * k) k r v)
    (hr : In.fr (p ++ [x]) k = r) (hv : In.lastOf 2 k (p ++ [x]) = v) : LookAt w w1 s d f u (p ++ [x]) := by
  have hl := h.lt
  refine ⟨h.below.trans (hs.below (by omega) (by omega)), (hs.block _ (by omega) (by omega)).trans h.box, (hs.block _ (by omega) (by omega)).trans h.res, (hs.block _ (by omega) (by omega)).trans h.row, fun j hj => ?_⟩
  by_cases e : j = k
  · subst e
    rw [hr, hv]
    exact hm
  · rw [In.fr_snoc_other p x j (.inl (by omega)), In.last_snoc_other p x j (by omega)]
    exact (h.mem j hj).save hs (by omega)
/-- The closures of key k, in the row. -/
theorem LookAt.closures (h : LookAt w wr s d f u p) (k : Nat) (hk : k < 16) : wr.cell? ⟨w.heap.size + 2, k * 3, none⟩ = some (readF (w.heap.size + 3 + 6 * k)) ∧ wr.cell? ⟨w.heap.size + 2, k * 3 + 1, none⟩ = some (writeF (w.heap.size + 3 + 6 * k)) :=
  ⟨h.row.mem k hk 0 (by omega), h.row.mem k hk 1 (by omega)⟩
end
theorem face_start (tf te : TypeId) (w : World) : FaceAt tf te (w.alloc (.cells #[.slice none 0 0, .slice none 0 0] tf)) w.heap.size [] [] (.slice none 0 0) (.slice none 0 0) :=
  ⟨heap_alloc_new w _, World.ownsRow_nil _ _ _ _, World.ownsRow_nil _ _ _ _, fun g hg => by cases hg⟩
/-- The whole row, and its elements. -/
theorem row_size (B : Nat) : (Try.prog.info? 54).map (·.size) = some (rowC B 16).toArray.size := by
  rw [List.size_toArray, rowC_len B 16 (Nat.le_refl _)]
  kernel_rfl
theorem index_row (B k : Nat) (hk : k < 16) (w : World) : (Instr.index 54 (.agg (rowC B 16).toArray) (.int .i64 (k : Int))).run Try.prog w = .ok (.agg #[readF (B + 6 * k), writeF (B + 6 * k), tellF (B + 6 * k)]) w := by
  have h1 : (underlying 54).run Try.prog w = .ok (.array 16 53) w := by kernel_rfl
  have h2 : (isAgg 53).run Try.prog w = .ok true w := by kernel_rfl
  have h3 : (sizeOf 53).run Try.prog w = .ok 3 w := by kernel_rfl
  have h4 : (rowC B 16).toArray.extract (k * 3) (k * 3 + 3) = #[readF (B + 6 * k), writeF (B + 6 * k), tellF (B + 6 * k)] := by
    apply Array.ext_getElem?
    intro j
    have hsz : (rowC B 16).toArray.size = 48 := by rw [List.size_toArray, rowC_len B 16 (Nat.le_refl _)]
    rw [Array.getElem?_extract, hsz]
    by_cases hj : j < 3
    · rw [if_pos (by omega), List.getElem?_toArray, rowC_at B 16 k j hk hj]
      show (memC (B + 6 * k))[j]? = (memC (B + 6 * k)).toArray[j]?
      rw [List.getElem?_toArray]
    · rw [if_neg (by omega), Array.getElem?_eq_none (by simp; omega)]
  have h5 : ((k : Int)).toNat = k := by omega
  have h6 : (0 : Int) ≤ (k : Int) ∧ (k : Int) < ((16 : Nat) : Int) := by omega
  simp only [Instr.index, asIntOf, Sem.run_bind, Sem.run_pure, Result.andThen_ok, h1, if_pos h6, h3, h5, part, h2, if_true, h4]
/-- What is behind the first m of a row of events. -/
theorem Evs.drop {w : World} {A : Option Addr} {n c : Nat} {l : List Ev.Event} (h : Evs w (.slice A n c) l) (m : Nat) (hm : m ≤ l.length) : Evs w (.slice (if c = m then A else A.map (·.add (m * 4))) (n - m) (c - m)) (l.drop m) := by
  obtain ⟨h1, A1, c1, hv, hc, hz, hh⟩ := h
  cases hv
  have hlen : (l.drop m).length = l.length - m := List.length_drop
  refine ⟨by rw [evCells_len], _, _, by rw [hlen], by rw [hlen]; omega, fun hn => ?_, fun h0 => ?_⟩
  · by_cases e : c = m
    · omega
    · rw [if_neg e] at hn
      have : A = none := by cases A with
        | none => rfl
        | some a => cases hn
      have := hz this
      omega
  · rw [hlen] at h0
    obtain ⟨ad, rfl, hb, hcell⟩ := hh (by omega)
    rw [if_neg (by omega)]
    refine ⟨ad.add (m * 4), rfl, by rw [add_block]; exact hb, fun j u hu => ?_⟩
    rw [Go.Deep.add_add]
    refine hcell _ _ ?_
    have hj := (List.getElem?_eq_some_iff.1 hu).1
    rw [evCells_len, hlen] at hj
    have e2 : l.flatMap evCells = (l.take m).flatMap evCells ++ (l.drop m).flatMap evCells := by rw [← List.flatMap_append, List.take_append_drop]
    have e3 : ((l.take m).flatMap evCells).length = m * 4 := by rw [evCells_len, List.length_take]; omega
    rw [e2, List.getElem?_append_right (by omega), e3, Nat.add_sub_cancel_left]
    exact hu
theorem slice_tail (l : List Ev.Event) (A : Option Addr) (c k : Nat) (hk : k < l.length) : ∃ (A' : Option Addr) (c' : Nat), (∀ W : World, (Instr.sliceAt 22 (.slice A l.length c) (some (.int .i64 ((k : Int) + 1))) none none).run Try.prog W = .ok (.slice A' (l.length - (k + 1)) c') W) ∧
    ∀ W : World, Evs W (.slice A l.length c) l → Evs W (.slice A' (l.length - (k + 1)) c') (l.drop (k + 1)) := by
  refine ⟨_, _, fun W => ?_, fun W h => h.drop (k + 1) hk⟩
  have hel : Try.prog.elem 22 = 41 := by kernel_rfl
  have hsz : (sizeOf 41).run Try.prog W = .ok 4 W := by kernel_rfl
  have hun : Try.prog.underlying 22 = some (.slice (Try.prog.elem 22)) := by rw [hel]; exact Try.underlying22
  have e : ((k : Int) + 1).toNat = k + 1 := by omega
  rw [run_sliceAt_slice W _ _ _ _ _ hun, run_slice_l W _ _ _ _ hun .i64 ((k : Int) + 1) (by omega) (by omega), hel, hsz, e]
  rfl
end Go.Proofs.Ytlbpdnaaailpeaa
