/-
  Several texts in one, each with its own first words: StMem, StWalkA, StWalkB, StRefA.
  Conditions: as each says.
-/
import Derived.Test.YtadgfplaabgkfaaDoorSoAll
import Derived.Laws.OwnMore
import Derived.RangeFuncBox
import Derived.Lib.SliceRun
import Derived.Laws.ResultCell
import Derived.Deep.AppendLies
import Derived.Deep.RegionLaw
import Derived.Deep.Onto
/-
  Words for stacks in memory: a block that holds for how many there is room, and a row of the call's own; what is left of it by whatever a call does; rows of three integers each.
  Conditions: none beyond those that each theorem states.
-/
set_option maxRecDepth 4000
namespace Go.Proofs.YtadgfplaabgkfaaDoor
open Go.RowKit

/-! Rows of three integers each. -/
def triC (x : Int × Int × Int) : List Value := [.int .i64 x.1, .int .i64 x.2.1, .int .i64 x.2.2]
theorem triC_len (x : Int × Int × Int) : (triC x).length = 3 := rfl
def Tris (w : World) (v : Value) (l : List (Int × Int × Int)) : Prop := Rows' 3 triC w v l
theorem Tris.below {w w' : World} {v : Value} {l : List (Int × Int × Int)} (h : Tris w v l) (hb : Below w.heap.size w w') : Tris w' v l := Rows'.below h hb
theorem Tris.nil (w : World) (A : Option Addr) : Tris w (.slice A 0 0) [] := Rows'.nil w A
/-- Element k, as the walk spells its cells' places. -/
structure TriIn (w : World) (ad : Addr) (k : Nat) (x : Int × Int × Int) : Prop where
  c0 : w.cell? (ad.add (k * 3)) = some (.int .i64 x.1)
  c1 : w.cell? ⟨(ad.add (k * 3)).block, (ad.add (k * 3)).off + 1, none⟩ = some (.int .i64 x.2.1)
  c2 : w.cell? ⟨(ad.add (k * 3)).block, (ad.add (k * 3)).off + 2, none⟩ = some (.int .i64 x.2.2)
theorem TriIn.below {w w' : World} {ad : Addr} {k : Nat} {x : Int × Int × Int} (h : TriIn w ad k x) (hlt : ad.block < w.heap.size) (hb : Below w.heap.size w w') : TriIn w' ad k x := by
  have e : ad.block = (ad.add (k * 3)).block := (add_block ad _).symm
  refine ⟨(hb.cell ?_).trans h.c0, (hb.cell ?_).trans h.c1, (hb.cell ?_).trans h.c2⟩
  all_goals exact e ▸ hlt
theorem Tris.spelled {w : World} {v : Value} {l : List (Int × Int × Int)} (h : Tris w v l) : ∃ A c, v = .slice A l.length c ∧ ∀ (k : Nat) (hk : k < l.length), ∃ ad : Addr, A = some ad ∧ ad.block < w.heap.size ∧ TriIn w ad k l[k] := by
  obtain ⟨A, c, hv, hh⟩ := Rows'.form triC_len h
  refine ⟨A, c, hv, fun k hk => ?_⟩
  obtain ⟨ad, e, hb, hc⟩ := hh k hk
  refine ⟨ad, e, hb, hc 0 _ rfl, ?_, ?_⟩
  · rw [add_more ad _ 1 (by omega)]; exact hc 1 _ rfl
  · rw [add_more ad _ 2 (by omega)]; exact hc 2 _ rfl

/-! Rows of calls: a kind and a number each. -/
def opC (x : Int × Int) : List Value := [.int .u8 x.1, .int .i64 x.2]
theorem opC_len (x : Int × Int) : (opC x).length = 2 := rfl
def Ops (w : World) (v : Value) (l : List (Int × Int)) : Prop := Rows' 2 opC w v l
/-- Element k, as the walk spells its cells' places. -/
structure OpIn (w : World) (ad : Addr) (k : Nat) (x : Int × Int) : Prop where
  c0 : w.cell? (ad.add (k * 2)) = some (.int .u8 x.1)
  c1 : w.cell? ⟨(ad.add (k * 2)).block, (ad.add (k * 2)).off + 1, none⟩ = some (.int .i64 x.2)
theorem OpIn.below {w w' : World} {ad : Addr} {k : Nat} {x : Int × Int} (h : OpIn w ad k x) (hlt : ad.block < w.heap.size) (hb : Below w.heap.size w w') : OpIn w' ad k x := by
  have e : ad.block = (ad.add (k * 2)).block := (add_block ad _).symm
  refine ⟨(hb.cell ?_).trans h.c0, (hb.cell ?_).trans h.c1⟩
  all_goals exact e ▸ hlt
theorem Ops.spelled {w : World} {v : Value} {l : List (Int × Int)} (h : Ops w v l) : ∃ A c, v = .slice A l.length c ∧ ∀ (k : Nat) (hk : k < l.length), ∃ ad : Addr, A = some ad ∧ ad.block < w.heap.size ∧ OpIn w ad k l[k] := by
  obtain ⟨A, c, hv, hh⟩ := Rows'.form opC_len h
  refine ⟨A, c, hv, fun k hk => ?_⟩
  obtain ⟨ad, e, hb, hc⟩ := hh k hk
  refine ⟨ad, e, hb, hc 0 _ rfl, ?_⟩
  rw [add_more ad _ 1 (by omega)]
  exact hc 1 _ rfl

/-- A cell, behind whatever leaves what was there. -/
theorem st_stays {W W' : World} (hb : Below W.heap.size W W') {p : Addr} {v : Value} (h : W.cell? p = some v) : W'.cell? p = some v := (hb.cell (World.block_lt_of_cell? W p h)).trans h

/-- What a call on a stack leaves: all that is neither its block B nor its row's block. -/
structure Touch (B : Nat) (r : Option Nat) (w w' : World) : Prop where
  os : w'.os = w.os
  tape : w'.tape = w.tape
  output : w'.output = w.output
  size : w.heap.size ≤ w'.heap.size
  block : ∀ k, k < w.heap.size → k ≠ B → some k ≠ r → w'.heap[k]? = w.heap[k]?
/-- The row lies where it lay, or in memory that was made meanwhile. -/
def Moved (w : World) (r r' : Option Nat) : Prop := r' = r ∨ ∃ k, r' = some k ∧ w.heap.size ≤ k
theorem Moved.refl (w : World) (r : Option Nat) : Moved w r r := .inl rfl
theorem Moved.mono {w w1 : World} {r r' : Option Nat} (h : Moved w1 r r') (hs : w.heap.size ≤ w1.heap.size) : Moved w r r' := h.imp id fun ⟨k, h1, h2⟩ => ⟨k, h1, by omega⟩
theorem Moved.trans {w w1 : World} {r r1 r2 : Option Nat} (h : Moved w r r1) (hs : w.heap.size ≤ w1.heap.size) (h' : Moved w1 r1 r2) : Moved w r r2 := by
  rcases h'.mono hs with e | e
  · rw [e]; exact h
  · exact .inr e
theorem Touch.refl (B : Nat) (r : Option Nat) (w : World) : Touch B r w w := ⟨rfl, rfl, rfl, Nat.le_refl _, fun _ _ _ _ => rfl⟩
theorem Touch.trans {B : Nat} {r r1 : Option Nat} {w w1 w2 : World} (h : Touch B r w w1) (hm : Moved w r r1) (h' : Touch B r1 w1 w2) : Touch B r w w2 := by
  refine ⟨h'.os.trans h.os, h'.tape.trans h.tape, h'.output.trans h.output, Nat.le_trans h.size h'.size, fun k hk hB hr => ?_⟩
  refine (h'.block k (Nat.lt_of_lt_of_le hk h.size) hB ?_).trans (h.block k hk hB hr)
  rcases hm with e | ⟨j, e, hj⟩
  · rw [e]; exact hr
  · rw [e]; intro q; cases q; omega
theorem Touch.below {B base : Nat} {r : Option Nat} {a w w' : World} (h : Touch B r w w') (hb : Below base a w) (h1 : base ≤ B) (h2 : ∀ k, r = some k → base ≤ k) (h3 : base ≤ w.heap.size) : Below base a w' :=
  hb.trans ⟨h.os, h.tape, h.output, h.size, fun k hk => h.block k (by omega) (by omega) fun e => by have := h2 k e.symm; omega⟩
/-- A row of the call's own that is not the stack's stays. -/
theorem Touch.own {B : Nat} {r : Option Nat} {w w' : World} (h : Touch B r w w') {base size n : Nat} {e : TypeId} {v : Value} {xs : List Value} (ho : w.ownsRow base e size v n xs) (h1 : v.ownBlock ≠ some B) (h2 : ∀ k, v.ownBlock = some k → some k ≠ r) : w'.ownsRow base e size v n xs := by
  refine ⟨ho.1, ?_⟩
  rcases ho.2 with hn | ⟨g, cap, cur, rfl, hb, hg, rest⟩
  · exact .inl hn
  · refine .inr ⟨g, cap, cur, rfl, hb, ?_, rest⟩
    exact (h.block g (Array.getElem?_eq_some_iff.1 hg).1 (fun q => h1 (by rw [← q]; rfl)) (h2 g rfl)).trans hg

section
variable {α : Type} {t e : TypeId} {n : Nat} {f : α → List Value} {B : Nat} {most : Int} {r : Option Nat} {l : List α} {W : World}
/-- A stack: block B holds the room and the slice of a row (of type e, each element told by f), whose block is r. -/
structure Stk (t e : TypeId) (n : Nat) (f : α → List Value) (B : Nat) (most : Int) (r : Option Nat) (l : List α) (W : World) : Prop where
  ex : ∃ v : Value, v.ownBlock = r ∧ W.heap[B]? = some (.cells #[.int .i64 most, v] t (0, 0)) ∧ W.ownsRow (B + 1) e n v l.length (l.flatMap f)
theorem Stk.lt (h : Stk t e n f B most r l W) : B < W.heap.size := by
  obtain ⟨_, _, hb, _⟩ := h.ex
  exact (Array.getElem?_eq_some_iff.1 hb).1
theorem Stk.row_lt (h : Stk t e n f B most r l W) : ∀ k, r = some k → B < k ∧ k < W.heap.size := by
  obtain ⟨v, rfl, hb, ho⟩ := h.ex
  intro k hk
  have := ho.lt k hk
  omega
/-- What the walk reads. -/
theorem Stk.reads (h : Stk t e n f B most r l W) : ∃ A c, (Value.slice A l.length c).ownBlock = r ∧ W.cell? ⟨B, 0, none⟩ = some (.int .i64 most) ∧ W.cell? ⟨B, 1, none⟩ = some (.slice A l.length c) ∧ W.frozen? ⟨B, 1, none⟩ = false ∧ W.ownsRow (B + 1) e n (.slice A l.length c) l.length (l.flatMap f) := by
  obtain ⟨v, hr, hb, ho⟩ := h.ex
  obtain ⟨A, c, rfl⟩ := own_form ho
  exact ⟨A, c, hr, by simp [World.cell?, hb], by simp [World.cell?, hb], by simp [World.frozen?, hb], ho⟩
theorem Stk.new (t e : TypeId) (n : Nat) (f : α → List Value) (W : World) (most : Int) : Stk t e n f W.heap.size most none [] (W.alloc (.cells #[.int .i64 most, .slice none 0 0] t)) :=
  ⟨.slice none 0 0, rfl, World.alloc_heap_new W _, World.ownsRow_nil _ _ _ _⟩
theorem Stk.kept {W' : World} {row : Option Nat} (h : Stk t e n f B most r l W) (hg : W.grownBy W' row) (h1 : some B ≠ row) (h2 : r = none ∨ r ≠ row) : Stk t e n f B most r l W' := by
  obtain ⟨v, rfl, hb, ho⟩ := h.ex
  exact ⟨v, rfl, (hg.block B (Array.getElem?_eq_some_iff.1 hb).1 h1).trans hb, ho.kept hg h2⟩
theorem Stk.later {W' : World} (h : Stk t e n f B most r l W) (hb : Below W.heap.size W W') : Stk t e n f B most r l W' :=
  h.kept (row := none) ⟨hb.os, hb.tape, hb.output, hb.size, fun k hk _ => hb.block k hk⟩ (by simp) (by cases r <;> simp)
theorem Stk.alloc (h : Stk t e n f B most r l W) (o : Obj) : Stk t e n f B most r l (W.alloc o) := h.kept (World.grownBy_alloc W o none) (by simp) (by cases r <;> simp)
theorem Stk.drewN (h : Stk t e n f B most r l W) (k : Nat) : Stk t e n f B most r l (W.drewN k) := ⟨h.ex⟩
variable {P : Program}
end

section
variable {α : Type} {t e t' : TypeId} {n b : Nat} {f : α → List Value} {B : Nat} {most : Int} {r : Option Nat} {l : List α} {w W : World} {u0 u1 u2 : Value}
theorem Touch.put (h : Touch B r w W) (hb : w.heap.size ≤ b) (o : Nat) (u : Value) : Touch B r w (W.setCell ⟨b, o, none⟩ u) :=
  ⟨h.os, h.tape, h.output, Nat.le_trans h.size (by simp), fun k hk h1 h2 => (heap_setCell_other W ⟨b, o, none⟩ k u (by show k ≠ b; omega)).trans (h.block k hk h1 h2)⟩
theorem Stk.put (h : Stk t e n f B most r l W) (h1 : b ≠ B) (h2 : some b ≠ r) (o : Nat) (u : Value) : Stk t e n f B most r l (W.setCell ⟨b, o, none⟩ u) :=
  h.kept (row := some b) ⟨rfl, rfl, rfl, by simp, fun k _ hk => heap_setCell_other W ⟨b, o, none⟩ k u (fun q => hk (by rw [q]))⟩ (by simpa using fun q : B = b => h1 q.symm) (.inr fun q => h2 q.symm)
/-- A block of three values, and three values stored into it. -/
def Three (W : World) (b : Nat) (t : TypeId) (u0 u1 u2 : Value) : Prop := W.heap[b]? = some (.cells #[u0, u1, u2] t (0, 0))
def put3 (W : World) (b : Nat) (x y z : Value) : World := ((W.setCell ⟨b, 0, none⟩ x).setCell ⟨b, 1, none⟩ y).setCell ⟨b, 2, none⟩ z
theorem Three.put {x y z : Value} (h : Three W b t' u0 u1 u2) : Three (put3 W b x y z) b t' x y z := heap_setCell_same _ b 2 _ t' z (heap_setCell_same _ b 1 _ t' y (heap_setCell_same W b 0 _ t' x h))
theorem Three.cells (h : Three W b t' u0 u1 u2) : W.cell? ⟨b, 0, none⟩ = some u0 ∧ W.cell? ⟨b, 1, none⟩ = some u1 ∧ W.cell? ⟨b, 2, none⟩ = some u2 :=
  ⟨by rw [cell_of_row W b 0 _ t' (0, 0) h]; rfl, by rw [cell_of_row W b 1 _ t' (0, 0) h]; rfl, by rw [cell_of_row W b 2 _ t' (0, 0) h]; rfl⟩
theorem Three.frozen (h : Three W b t' u0 u1 u2) (k : Nat) : W.frozen? ⟨b, k, none⟩ = false := frozen_of_row W b k _ t' h
theorem Three.new (W : World) (t' : TypeId) (u0 u1 u2 : Value) : Three (W.alloc (.cells #[u0, u1, u2] t')) W.heap.size t' u0 u1 u2 := World.alloc_heap_new W _
theorem Three.lt (h : Three W b t' u0 u1 u2) : b < W.heap.size := (Array.getElem?_eq_some_iff.1 h).1
theorem Three.later {W' : World} (h : Three W b t' u0 u1 u2) (hb : Below W.heap.size W W') : Three W' b t' u0 u1 u2 := (hb.block b h.lt).trans h
end

/-- A call that makes memory, and leaves what was there. -/
def RetMade (w : World) (v : Value) (e : Ending) (w' : World) : Prop := e = .returned v ∧ Below w.heap.size w w'
end Go.Proofs.YtadgfplaabgkfaaDoor
/-
  What the calls of a stack of numbers answer: New, Ints, Len, Top, Push, Pop, All; and slices.Clone at a row of numbers.
  Conditions: the stack is one that stands in memory as New made it and its calls left it; its row has at most 2^32 numbers.
  (This program has not all of these functions: stNew_at, stInts_at, stLen_at, stTop_none, stTop_some, stPush_yes, stPush_no, stPop_none, stPop_some, stClone_at, stAll_at are left out here.)
-/
set_option maxRecDepth 4000
namespace Go.Proofs.YtadgfplaabgkfaaDoor
open Go.RowKit

section
variable {B : Nat} {most : Int} {r : Option Nat} {l : List Int}
end
end Go.Proofs.YtadgfplaabgkfaaDoor
/-
  What the calls of a stack of choices answer: New, Len, Top, Push, Pop, All; and slices.Clone at a row of choices.
  Conditions: the stack is one that stands in memory as New made it and its calls left it; its row has at most 2^32 choices.
  (This program has not all of these functions: tri_info, tri_zero, tri_cell, tri_elem, tri_desc, RetTris, stcNew_at, stcLen_at, results_top, results_pop, stcTop_none, stcTop_some, stcPush_yes, stcPush_no, stcPop_none, stcPop_some, stc_isNil, stcClone_at, stcAll_at are left out here.)
-/
set_option maxRecDepth 4000
namespace Go.Proofs.YtadgfplaabgkfaaDoor
open Go.RowKit

section
variable {B : Nat} {most : Int} {r : Option Nat} {l : List (Int × Int × Int)}
end
end Go.Proofs.YtadgfplaabgkfaaDoor
/-
  What the reference's New, Push, Top and Pop of layer 11 answer: a stack there is a value, a number and a row of numbers.
  Conditions: the row has at most 2^32 numbers.
  (This program has not all of these functions: results_new, results_push, results_third, rNew11_at, rTop11_none, rTop11_some, rPush11_no, rPush11_yes, rPop11_none, rPop11_some are left out here.)
-/
set_option maxRecDepth 4000
namespace Go.Proofs.YtadgfplaabgkfaaDoor
open Go.RowKit

/-- A block of two values. -/
def Two (W : World) (b : Nat) (t : TypeId) (u0 u1 : Value) : Prop := W.heap[b]? = some (.cells #[u0, u1] t (0, 0))
section
variable {W : World} {b : Nat} {t : TypeId} {u0 u1 x y : Value}
theorem Two.put (h : Two W b t u0 u1) : Two ((W.setCell ⟨b, 0, none⟩ x).setCell ⟨b, 1, none⟩ y) b t x y := heap_setCell_same _ b 1 _ t y (heap_setCell_same W b 0 _ t x h)
theorem Two.cells (h : Two W b t u0 u1) : W.cell? ⟨b, 0, none⟩ = some u0 ∧ W.cell? ⟨b, 1, none⟩ = some u1 := ⟨by rw [cell_of_row W b 0 _ t (0, 0) h]; rfl, by rw [cell_of_row W b 1 _ t (0, 0) h]; rfl⟩
theorem Two.frozen (h : Two W b t u0 u1) (k : Nat) : W.frozen? ⟨b, k, none⟩ = false := frozen_of_row W b k _ t h
theorem Two.new (W : World) (t : TypeId) (u0 u1 : Value) : Two (W.alloc (.cells #[u0, u1] t)) W.heap.size t u0 u1 := World.alloc_heap_new W _
theorem Two.lt (h : Two W b t u0 u1) : b < W.heap.size := (Array.getElem?_eq_some_iff.1 h).1
theorem Two.later {W' : World} (h : Two W b t u0 u1) (hb : Below W.heap.size W W') : Two W' b t u0 u1 := (hb.block b h.lt).trans h
end

theorem Ns.take {w : World} {A : Option Addr} {n c : Nat} {l : List Int} (h : Ns w (.slice A n c) l) (m : Nat) (hm : m ≤ l.length) : Ns w (.slice A m c) (l.take m) := by
  obtain ⟨_, A1, c1, hv, hc, hz, hh⟩ := h
  cases hv
  have hlen : (l.take m).length = m := by rw [List.length_take]; omega
  refine ⟨by rw [flat_len nC_len], A, c, by rw [hlen], by rw [hlen]; omega, hz, fun h0 => ?_⟩
  rw [hlen] at h0
  obtain ⟨ad, e, hb, hcell⟩ := hh (by omega)
  refine ⟨ad, e, hb, fun j u hu => hcell j u ?_⟩
  have e2 : l.flatMap nC = (l.take m).flatMap nC ++ (l.drop m).flatMap nC := by rw [← List.flatMap_append, List.take_append_drop]
  rw [e2, List.getElem?_append_left (List.getElem?_eq_some_iff.1 hu).1]
  exact hu
end Go.Proofs.YtadgfplaabgkfaaDoor
