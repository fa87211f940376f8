/-
  Several texts in one, each with its own first words: StMem, StWalkA, StWalkB, StRefA.
  Conditions: as each says.
-/
import Derived.Test.YtahacjfeopjbaaaSoAll
import Derived.Laws.OwnMore
import Derived.RangeFuncBox
import Derived.Lib.SliceRun
import Derived.Laws.ResultCell
import Derived.Deep.AppendLies
import Derived.Deep.RegionLaw
import Derived.Deep.Onto
/-
  Words for stacks in memory: a block that holds for how many there is room, and a row of the call's own; what is left of it by whatever a call does; rows of three integers each.
  Conditions: none beyond those that each theorem states.
-/
set_option maxRecDepth 4000
namespace Go.Proofs.Ytahacjfeopjbaaa
open Go.RowKit

/-! Rows of three integers each. -/
def triC (x : Int × Int × Int) : List Value := [.int .i64 x.1, .int .i64 x.2.1, .int .i64 x.2.2]
theorem triC_len (x : Int × Int × Int) : (triC x).length = 3 := rfl
theorem one_triC (x : Int × Int × Int) : ∀ u ∈ triC x, u.oneCell' = true := by
  intro u hu
  simp only [triC, List.mem_cons, List.not_mem_nil, or_false] at hu
  rcases hu with rfl | rfl | rfl
  all_goals rfl
def Tris (w : World) (v : Value) (l : List (Int × Int × Int)) : Prop := Rows' 3 triC w v l
theorem Tris.below {w w' : World} {v : Value} {l : List (Int × Int × Int)} (h : Tris w v l) (hb : Below w.heap.size w w') : Tris w' v l := Rows'.below h hb
theorem Tris.nil (w : World) (A : Option Addr) : Tris w (.slice A 0 0) [] := Rows'.nil w A
/-- Element k, as the walk spells its cells' places. -/
structure TriIn (w : World) (ad : Addr) (k : Nat) (x : Int × Int × Int) : Prop where
  c0 : w.cell? (ad.add (k * 3)) = some (.int .i64 x.1)
  c1 : w.cell? ⟨(ad.add (k * 3)).block, (ad.add (k * 3)).off + 1, none⟩ = some (.int .i64 x.2.1)
  c2 : w.cell? ⟨(ad.add (k * 3)).block, (ad.add (k * 3)).off + 2, none⟩ = some (.int .i64 x.2.2)
theorem TriIn.below {w w' : World} {ad : Addr} {k : Nat} {x : Int × Int × Int} (h : TriIn w ad k x) (hlt : ad.block < w.heap.size) (hb : Below w.heap.size w w') : TriIn w' ad k x := by
  have e : ad.block = (ad.add (k * 3)).block := (add_block ad _).symm
  refine ⟨(hb.cell ?_).trans h.c0, (hb.cell ?_).trans h.c1, (hb.cell ?_).trans h.c2⟩
  all_goals exact e ▸ hlt
theorem Tris.spelled {w : World} {v : Value} {l : List (Int × Int × Int)} (h : Tris w v l) : ∃ A c, v = .slice A l.length c ∧ ∀ (k : Nat) (hk : k < l.length), ∃ ad : Addr, A = some ad ∧ ad.block < w.heap.size ∧ TriIn w ad k l[k] := by
  obtain ⟨A, c, hv, hh⟩ := Rows'.form triC_len h
  refine ⟨A, c, hv, fun k hk => ?_⟩
  obtain ⟨ad, e, hb, hc⟩ := hh k hk
  refine ⟨ad, e, hb, hc 0 _ rfl, ?_, ?_⟩
  · rw [add_more ad _ 1 (by omega)]; exact hc 1 _ rfl
  · rw [add_more ad _ 2 (by omega)]; exact hc 2 _ rfl

/-! Rows of calls: a kind and a number each. -/
def opC (x : Int × Int) : List Value := [.int .u8 x.1, .int .i64 x.2]
theorem opC_len (x : Int × Int) : (opC x).length = 2 := rfl
def Ops (w : World) (v : Value) (l : List (Int × Int)) : Prop := Rows' 2 opC w v l
/-- Element k, as the walk spells its cells' places. -/
structure OpIn (w : World) (ad : Addr) (k : Nat) (x : Int × Int) : Prop where
  c0 : w.cell? (ad.add (k * 2)) = some (.int .u8 x.1)
  c1 : w.cell? ⟨(ad.add (k * 2)).block, (ad.add (k * 2)).off + 1, none⟩ = some (.int .i64 x.2)
theorem OpIn.below {w w' : World} {ad : Addr} {k : Nat} {x : Int × Int} (h : OpIn w ad k x) (hlt : ad.block < w.heap.size) (hb : Below w.heap.size w w') : OpIn w' ad k x := by
  have e : ad.block = (ad.add (k * 2)).block := (add_block ad _).symm
  refine ⟨(hb.cell ?_).trans h.c0, (hb.cell ?_).trans h.c1⟩
  all_goals exact e ▸ hlt
theorem Ops.spelled {w : World} {v : Value} {l : List (Int × Int)} (h : Ops w v l) : ∃ A c, v = .slice A l.length c ∧ ∀ (k : Nat) (hk : k < l.length), ∃ ad : Addr, A = some ad ∧ ad.block < w.heap.size ∧ OpIn w ad k l[k] := by
  obtain ⟨A, c, hv, hh⟩ := Rows'.form opC_len h
  refine ⟨A, c, hv, fun k hk => ?_⟩
  obtain ⟨ad, e, hb, hc⟩ := hh k hk
  refine ⟨ad, e, hb, hc 0 _ rfl, ?_⟩
  rw [add_more ad _ 1 (by omega)]
  exact hc 1 _ rfl

/-- A cell, behind whatever leaves what was there. -/
theorem st_stays {W W' : World} (hb : Below W.heap.size W W') {p : Addr} {v : Value} (h : W.cell? p = some v) : W'.cell? p = some v := (hb.cell (World.block_lt_of_cell? W p h)).trans h

/-- What a call on a stack leaves: all that is neither its block B nor its row's block. -/
structure Touch (B : Nat) (r : Option Nat) (w w' : World) : Prop where
  os : w'.os = w.os
  tape : w'.tape = w.tape
  output : w'.output = w.output
  size : w.heap.size ≤ w'.heap.size
  block : ∀ k, k < w.heap.size → k ≠ B → some k ≠ r → w'.heap[k]? = w.heap[k]?
/-- The row lies where it lay, or in memory that was made meanwhile. -/
def Moved (w : World) (r r' : Option Nat) : Prop := r' = r ∨ ∃ k, r' = some k ∧ w.heap.size ≤ k
theorem Moved.refl (w : World) (r : Option Nat) : Moved w r r := .inl rfl
theorem Moved.mono {w w1 : World} {r r' : Option Nat} (h : Moved w1 r r') (hs : w.heap.size ≤ w1.heap.size) : Moved w r r' := h.imp id fun ⟨k, h1, h2⟩ => ⟨k, h1, by omega⟩
theorem Moved.trans {w w1 : World} {r r1 r2 : Option Nat} (h : Moved w r r1) (hs : w.heap.size ≤ w1.heap.size) (h' : Moved w1 r1 r2) : Moved w r r2 := by
  rcases h'.mono hs with e | e
  · rw [e]; exact h
  · exact .inr e
theorem Touch.refl (B : Nat) (r : Option Nat) (w : World) : Touch B r w w := ⟨rfl, rfl, rfl, Nat.le_refl _, fun _ _ _ _ => rfl⟩
theorem Touch.of_below {B : Nat} {r : Option Nat} {w w' : World} (h : Below w.heap.size w w') : Touch B r w w' := ⟨h.os, h.tape, h.output, h.size, fun k hk _ _ => h.block k hk⟩
theorem Touch.trans {B : Nat} {r r1 : Option Nat} {w w1 w2 : World} (h : Touch B r w w1) (hm : Moved w r r1) (h' : Touch B r1 w1 w2) : Touch B r w w2 := by
  refine ⟨h'.os.trans h.os, h'.tape.trans h.tape, h'.output.trans h.output, Nat.le_trans h.size h'.size, fun k hk hB hr => ?_⟩
  refine (h'.block k (Nat.lt_of_lt_of_le hk h.size) hB ?_).trans (h.block k hk hB hr)
  rcases hm with e | ⟨j, e, hj⟩
  · rw [e]; exact hr
  · rw [e]; intro q; cases q; omega
theorem Touch.below {B base : Nat} {r : Option Nat} {a w w' : World} (h : Touch B r w w') (hb : Below base a w) (h1 : base ≤ B) (h2 : ∀ k, r = some k → base ≤ k) (h3 : base ≤ w.heap.size) : Below base a w' :=
  hb.trans ⟨h.os, h.tape, h.output, h.size, fun k hk => h.block k (by omega) (by omega) fun e => by have := h2 k e.symm; omega⟩
/-- A row of the call's own that is not the stack's stays. -/
theorem Touch.own {B : Nat} {r : Option Nat} {w w' : World} (h : Touch B r w w') {base size n : Nat} {e : TypeId} {v : Value} {xs : List Value} (ho : w.ownsRow base e size v n xs) (h1 : v.ownBlock ≠ some B) (h2 : ∀ k, v.ownBlock = some k → some k ≠ r) : w'.ownsRow base e size v n xs := by
  refine ⟨ho.1, ?_⟩
  rcases ho.2 with hn | ⟨g, cap, cur, rfl, hb, hg, rest⟩
  · exact .inl hn
  · refine .inr ⟨g, cap, cur, rfl, hb, ?_, rest⟩
    exact (h.block g (Array.getElem?_eq_some_iff.1 hg).1 (fun q => h1 (by rw [← q]; rfl)) (h2 g rfl)).trans hg

section
variable {α : Type} {t e : TypeId} {n : Nat} {f : α → List Value} {B : Nat} {most : Int} {r : Option Nat} {l : List α} {W : World}
/-- A stack: block B holds the room and the slice of a row (of type e, each element told by f), whose block is r. -/
structure Stk (t e : TypeId) (n : Nat) (f : α → List Value) (B : Nat) (most : Int) (r : Option Nat) (l : List α) (W : World) : Prop where
  ex : ∃ v : Value, v.ownBlock = r ∧ W.heap[B]? = some (.cells #[.int .i64 most, v] t (0, 0)) ∧ W.ownsRow (B + 1) e n v l.length (l.flatMap f)
theorem Stk.lt (h : Stk t e n f B most r l W) : B < W.heap.size := by
  obtain ⟨_, _, hb, _⟩ := h.ex
  exact (Array.getElem?_eq_some_iff.1 hb).1
theorem Stk.row_lt (h : Stk t e n f B most r l W) : ∀ k, r = some k → B < k ∧ k < W.heap.size := by
  obtain ⟨v, rfl, hb, ho⟩ := h.ex
  intro k hk
  have := ho.lt k hk
  omega
/-- What the walk reads. -/
theorem Stk.reads (h : Stk t e n f B most r l W) : ∃ A c, (Value.slice A l.length c).ownBlock = r ∧ W.cell? ⟨B, 0, none⟩ = some (.int .i64 most) ∧ W.cell? ⟨B, 1, none⟩ = some (.slice A l.length c) ∧ W.frozen? ⟨B, 1, none⟩ = false ∧ W.ownsRow (B + 1) e n (.slice A l.length c) l.length (l.flatMap f) := by
  obtain ⟨v, hr, hb, ho⟩ := h.ex
  obtain ⟨A, c, rfl⟩ := own_form ho
  exact ⟨A, c, hr, by simp [World.cell?, hb], by simp [World.cell?, hb], by simp [World.frozen?, hb], ho⟩
theorem Stk.new (t e : TypeId) (n : Nat) (f : α → List Value) (W : World) (most : Int) : Stk t e n f W.heap.size most none [] (W.alloc (.cells #[.int .i64 most, .slice none 0 0] t)) :=
  ⟨.slice none 0 0, rfl, World.alloc_heap_new W _, World.ownsRow_nil _ _ _ _⟩
theorem Stk.kept {W' : World} {row : Option Nat} (h : Stk t e n f B most r l W) (hg : W.grownBy W' row) (h1 : some B ≠ row) (h2 : r = none ∨ r ≠ row) : Stk t e n f B most r l W' := by
  obtain ⟨v, rfl, hb, ho⟩ := h.ex
  exact ⟨v, rfl, (hg.block B (Array.getElem?_eq_some_iff.1 hb).1 h1).trans hb, ho.kept hg h2⟩
theorem Stk.later {W' : World} (h : Stk t e n f B most r l W) (hb : Below W.heap.size W W') : Stk t e n f B most r l W' :=
  h.kept (row := none) ⟨hb.os, hb.tape, hb.output, hb.size, fun k hk _ => hb.block k hk⟩ (by simp) (by cases r <;> simp)
theorem Stk.alloc (h : Stk t e n f B most r l W) (o : Obj) : Stk t e n f B most r l (W.alloc o) := h.kept (World.grownBy_alloc W o none) (by simp) (by cases r <;> simp)
theorem Stk.drewN (h : Stk t e n f B most r l W) (k : Nat) : Stk t e n f B most r l (W.drewN k) := ⟨h.ex⟩
/-- A new slice is laid into it. -/
theorem put_slice {v v' : Value} (h : W.heap[B]? = some (.cells #[.int .i64 most, v] t (0, 0))) : (W.setCell ⟨B, 1, none⟩ v').heap[B]? = some (.cells #[.int .i64 most, v'] t (0, 0)) := heap_setCell_same W B 1 _ t v' h
theorem touch_setCell (W : World) (B o : Nat) (r : Option Nat) (u : Value) : Touch B r W (W.setCell ⟨B, o, none⟩ u) :=
  ⟨rfl, rfl, rfl, by simp, fun k _ h1 _ => heap_setCell_other W ⟨B, o, none⟩ k u h1⟩
theorem touch_grown {w w' : World} {row : Option Nat} (h : w.grownBy w' row) (B : Nat) : Touch B row w w' := ⟨h.os, h.tape, h.output, h.size, fun k hk _ hr => h.block k hk hr⟩

/-- Behind an append onto the row, in whatever world V it was done (memory was made meanwhile): the slice can be stored, and then the stack has that row. -/
theorem Stk.grow {V w1 : World} {v' : Value} {l' : List α} (h : Stk t e n f B most r l W) (hV : Below W.heap.size W V) (ho : w1.ownsRow (B + 1) e n v' l'.length (l'.flatMap f)) (hg : V.grownBy w1 r) (hat : v'.ownBlock = r ∨ v'.ownBlock = some V.heap.size) :
    (∃ v, w1.cell? ⟨B, 1, none⟩ = some v) ∧ w1.frozen? ⟨B, 1, none⟩ = false ∧ ∃ r', Stk t e n f B most r' l' (w1.setCell ⟨B, 1, none⟩ v') ∧ Moved W r r' ∧ Touch B r W (w1.setCell ⟨B, 1, none⟩ v') := by
  have hlt := h.lt
  have hrl := h.row_lt
  obtain ⟨v, hv, hb, _⟩ := h.ex
  have hne : some B ≠ r := fun q => by have := (hrl B q.symm).1; omega
  have hB1 : w1.heap[B]? = some (.cells #[.int .i64 most, v] t (0, 0)) := (hg.block B (by have := hV.size; omega) hne).trans ((hV.block B hlt).trans hb)
  refine ⟨⟨v, by simp [World.cell?, hB1]⟩, by simp [World.frozen?, hB1], v'.ownBlock, ⟨v', rfl, put_slice hB1, own_setCell ho (by omega)⟩, ?_, ?_⟩
  · rcases hat with e | e
    · exact .inl e
    · exact .inr ⟨_, e, hV.size⟩
  · exact ((Touch.of_below hV).trans (.inl rfl) (touch_grown hg B)).trans (.inl rfl) (touch_setCell w1 B 1 r v')

/-- The same where the append stands in a region that draws, behind the block of its one element. -/
theorem Stk.lies {x : α} {o : Obj} (h : Stk t e n f B most r l W) : ∀ g cap w3, w3.ownsRow (B + 1) e n (.slice (some ⟨g, 0, none⟩) (l.length + 1) cap) (l.length + 1) (l.flatMap f ++ f x) → ((W.alloc o).drewN 1).grownBy w3 r → (r = some g ∨ g = W.heap.size + 1) →
    (∃ v, w3.cell? ⟨B, 1, none⟩ = some v) ∧ w3.frozen? ⟨B, 1, none⟩ = false ∧ ∃ r', Stk t e n f B most r' (l ++ [x]) (w3.setCell ⟨B, 1, none⟩ (.slice (some ⟨g, 0, none⟩) (l.length + 1) cap)) ∧ Moved W r r' ∧ Touch B r W (w3.setCell ⟨B, 1, none⟩ (.slice (some ⟨g, 0, none⟩) (l.length + 1) cap)) := by
  intro g cap w3 ho hg hat
  refine h.grow (V := (W.alloc o).drewN 1) (below_drewN (alloc_below W o) 1) (by rw [List.length_append, flat_snoc]; exact ho) hg ?_
  rcases hat with q | q
  · exact .inl q.symm
  · exact .inr (by rw [q]; simp [Value.ownBlock, World.drewN])

variable {P : Program}
/-- The last one is taken: the slices that Pop makes, the cell that is cleared, and what is there then. -/
theorem Stk.cut {T : TypeId} {z : Value} {m : Nat} (h : Stk t e n f B most r l W) (hl : l.length = m + 1) (hf : ∀ x, (f x).length = n) (hT : P.underlying T = some (.slice (P.elem T))) (hel : P.elem T = e) (hsz : ∀ w, (sizeOf e).run P w = .ok n w) (hz : ∀ w, (zeroValue e).run P w = .ok z w)
    (hzn : z.cells.size = n) (hz1 : ∀ u ∈ z.cells.toList, u.oneCell' = true) :
    ∃ A c A' c' W1, W.cell? ⟨B, 1, none⟩ = some (.slice A (m + 1) c) ∧ (∀ V, (Instr.sliceAt T (.slice A (m + 1) c) (some (.int .i64 (m : Int))) none none).run P V = .ok (.slice A' 1 c') V) ∧
      (∀ V, (Instr.sliceAt T (.slice A (m + 1) c) none (some (.int .i64 (m : Int))) none).run P V = .ok (.slice A m c) V) ∧
      (∀ ty, (Builtin.clear_ #[T] ty #[.slice A' 1 c']).run P W = .ok (.tuple #[]) W1) ∧
      W1.cell? ⟨B, 1, none⟩ = some (.slice A (m + 1) c) ∧ W1.frozen? ⟨B, 1, none⟩ = false ∧ Stk t e n f B most r (l.take m) (W1.setCell ⟨B, 1, none⟩ (.slice A m c)) ∧ Touch B r W (W1.setCell ⟨B, 1, none⟩ (.slice A m c)) := by
  subst hel
  obtain ⟨v, hv, hb, ho⟩ := h.ex
  rw [hl] at ho
  rcases ho.2 with ⟨_, h0⟩ | ⟨g, cap, cur, rfl, hbg, hg, hnc, hcm, hcs, htake⟩
  · omega
  obtain rfl : some g = r := hv
  have hmc : (m : Int) ≤ ((m + 1 : Nat) : Int) := by omega
  have hfit : m * n + n ≤ cur.size := by rw [hcs, ← Nat.succ_mul]; exact Nat.mul_le_mul_right _ hnc
  have hlen0 : (cur.toList.take (m * n)).length = m * n := by
    rw [List.length_take, Array.length_toList]
    exact Nat.min_eq_left (Nat.le_trans (Nat.le_add_right _ n) hfit)
  have hrow : (W.setRow g (cur.toList.take (m * n) ++ z.cells.toList ++ cur.toList.drop (m * n + n)).toArray).heap[g]? = some (.cells (cur.toList.take (m * n) ++ z.cells.toList ++ cur.toList.drop (m * n + n)).toArray (P.elem T) (0, 0)) := setRow_heap W g cur _ _ _ hg
  have hB1 : (W.setRow g (cur.toList.take (m * n) ++ z.cells.toList ++ cur.toList.drop (m * n + n)).toArray).heap[B]? = some (.cells #[.int .i64 most, .slice (some ⟨g, 0, none⟩) (m + 1) cap] t (0, 0)) := (setRow_other W g B _ (by omega)).trans hb
  have hc0 : (⟨g, 0, none⟩ : Addr).add (m * n) = ⟨g, m * n, none⟩ := by unfold Addr.add; split <;> simp_all
  have hst := run_storeCells_at P g (m * n) (P.elem T) z.cells.toList 0 cur W hg (by simpa [hzn] using hfit) hz1
  have hsize : (W.setRow g (cur.toList.take (m * n) ++ z.cells.toList ++ cur.toList.drop (m * n + n)).toArray).heap.size = W.heap.size := by simp [World.setRow]
  refine ⟨some ⟨g, 0, none⟩, cap, some ⟨g, m * n, none⟩, cap - m, W.setRow g (cur.toList.take (m * n) ++ z.cells.toList ++ cur.toList.drop (m * n + n)).toArray, by simp [World.cell?, hb], fun V => ?_, fun V => ?_, fun ty => ?_, by rw [cell_of_row _ B 1 _ t (0, 0) hB1]; rfl, frozen_of_row _ B 1 _ t hB1, ?_, ?_⟩
  · rw [run_sliceAt_slice V _ _ _ _ _ hT, run_slice_l V _ _ _ _ hT .i64 (m : Int) (by omega) hmc, hsz]
    simp only [Result.andThen, sliced, Int.toNat_natCast, Option.map_some, hc0]
    rw [if_neg (by omega), Nat.add_sub_cancel_left]
  · rw [run_sliceAt_slice V _ _ _ _ _ hT, run_slice_h V _ _ _ _ hT .i64 (m : Int) (by omega) (by omega), hsz]
    simp only [Result.andThen, sliced, Int.toNat_natCast, Option.map_some, Nat.zero_mul, add_zero', ite_self, Nat.sub_zero]
  · have hzc : (Builtin.zeroCells z.cells 1).toList = z.cells.toList := by
      apply List.ext_getElem
      · simp [Builtin.zeroCells]
      · intro i h1 h2
        simp only [Array.length_toList] at h2
        simp [Builtin.zeroCells, Nat.mod_eq_of_lt h2, h2]
    simp only [Nat.add_zero, Array.length_toList, hzn] at hst
    simp [Builtin.clear_, run_underlying hT, hz, hzc, hst]
  · refine ⟨.slice (some ⟨g, 0, none⟩) m cap, rfl, put_slice hB1, own_setCell ⟨?_, .inr ⟨g, cap, _, ?_, hbg, hrow, by rw [List.length_take]; omega, hcm, ?_, ?_⟩⟩ (by omega)⟩
    · rw [flat_len hf, List.length_take]
    · rw [List.length_take, Nat.min_eq_left (by omega)]
    · simp only [List.size_toArray, List.length_append, List.length_take, List.length_drop, Array.length_toList, hzn]
      omega
    · rw [List.length_take, Nat.min_eq_left (by omega), List.append_assoc, List.take_left' hlen0]
      have e2 : l.flatMap f = (l.take m).flatMap f ++ (l.drop m).flatMap f := by rw [← List.flatMap_append, List.take_append_drop]
      have e3 : ((l.take m).flatMap f).length = m * n := by rw [flat_len hf, List.length_take]; rw [Nat.min_eq_left (by omega)]
      have e4 : (l.flatMap f).take (m * n) = (l.take m).flatMap f := by rw [e2, List.take_left' e3]
      rw [← e4, ← htake, List.take_take, Nat.min_eq_left (Nat.mul_le_mul_right _ (by omega))]
  · have hT1 : Touch B (some g) W (W.setRow g (cur.toList.take (m * n) ++ z.cells.toList ++ cur.toList.drop (m * n + n)).toArray) := ⟨rfl, rfl, rfl, Nat.le_of_eq hsize.symm, fun k _ _ h2 => setRow_other W g k _ (fun q => h2 (by rw [q]))⟩
    exact hT1.trans (.inl rfl) (touch_setCell _ B 1 _ _)
end

section
variable {α : Type} {t e t' : TypeId} {n b : Nat} {f : α → List Value} {B : Nat} {most : Int} {r : Option Nat} {l : List α} {w W : World} {u0 u1 u2 : Value}
theorem Touch.keeps {w' : World} {o : Obj} (h : Touch B r w w') (hb : w.heap[b]? = some o) (h1 : b ≠ B) (h2 : some b ≠ r) : w'.heap[b]? = some o := (h.block b (Array.getElem?_eq_some_iff.1 hb).1 h1 h2).trans hb
theorem Touch.put (h : Touch B r w W) (hb : w.heap.size ≤ b) (o : Nat) (u : Value) : Touch B r w (W.setCell ⟨b, o, none⟩ u) :=
  ⟨h.os, h.tape, h.output, Nat.le_trans h.size (by simp), fun k hk h1 h2 => (heap_setCell_other W ⟨b, o, none⟩ k u (by show k ≠ b; omega)).trans (h.block k hk h1 h2)⟩
theorem Stk.put (h : Stk t e n f B most r l W) (h1 : b ≠ B) (h2 : some b ≠ r) (o : Nat) (u : Value) : Stk t e n f B most r l (W.setCell ⟨b, o, none⟩ u) :=
  h.kept (row := some b) ⟨rfl, rfl, rfl, by simp, fun k _ hk => heap_setCell_other W ⟨b, o, none⟩ k u (fun q => hk (by rw [q]))⟩ (by simpa using fun q : B = b => h1 q.symm) (.inr fun q => h2 q.symm)
/-- A block of three values, and three values stored into it. -/
def Three (W : World) (b : Nat) (t : TypeId) (u0 u1 u2 : Value) : Prop := W.heap[b]? = some (.cells #[u0, u1, u2] t (0, 0))
def put3 (W : World) (b : Nat) (x y z : Value) : World := ((W.setCell ⟨b, 0, none⟩ x).setCell ⟨b, 1, none⟩ y).setCell ⟨b, 2, none⟩ z
theorem Three.put {x y z : Value} (h : Three W b t' u0 u1 u2) : Three (put3 W b x y z) b t' x y z := heap_setCell_same _ b 2 _ t' z (heap_setCell_same _ b 1 _ t' y (heap_setCell_same W b 0 _ t' x h))
theorem Three.cells (h : Three W b t' u0 u1 u2) : W.cell? ⟨b, 0, none⟩ = some u0 ∧ W.cell? ⟨b, 1, none⟩ = some u1 ∧ W.cell? ⟨b, 2, none⟩ = some u2 :=
  ⟨by rw [cell_of_row W b 0 _ t' (0, 0) h]; rfl, by rw [cell_of_row W b 1 _ t' (0, 0) h]; rfl, by rw [cell_of_row W b 2 _ t' (0, 0) h]; rfl⟩
theorem Three.frozen (h : Three W b t' u0 u1 u2) (k : Nat) : W.frozen? ⟨b, k, none⟩ = false := frozen_of_row W b k _ t' h
theorem Three.new (W : World) (t' : TypeId) (u0 u1 u2 : Value) : Three (W.alloc (.cells #[u0, u1, u2] t')) W.heap.size t' u0 u1 u2 := World.alloc_heap_new W _
theorem Three.lt (h : Three W b t' u0 u1 u2) : b < W.heap.size := (Array.getElem?_eq_some_iff.1 h).1
theorem Three.later {W' : World} (h : Three W b t' u0 u1 u2) (hb : Below W.heap.size W W') : Three W' b t' u0 u1 u2 := (hb.block b h.lt).trans h
end

/-- All that was there ahead of the stack is as it was. -/
theorem Stk.still {α : Type} {t e : TypeId} {n : Nat} {f : α → List Value} {B base : Nat} {most : Int} {r : Option Nat} {l : List α} {a W W' : World} (h : Stk t e n f B most r l W) (hb : Below base a W) (hB : base ≤ B) (ht : Touch B r W W') : Below base a W' :=
  ht.below hb hB (fun k hk => by have := h.row_lt k hk; omega) (by have := h.lt; omega)
/-- A call that makes memory, and leaves what was there. -/
def RetMade (w : World) (v : Value) (e : Ending) (w' : World) : Prop := e = .returned v ∧ Below w.heap.size w w'
/-- A call on a stack hands a value back; the stack holds l', its row lies where it lay or in new memory, all else is as it was. -/
def RetStk {α : Type} (t e : TypeId) (n : Nat) (f : α → List Value) (B : Nat) (most : Int) (r : Option Nat) (W : World) (v : Value) (l' : List α) (x : Ending) (W' : World) : Prop := x = .returned v ∧ ∃ r', Stk t e n f B most r' l' W' ∧ Moved W r r' ∧ Touch B r W W'
/-- The same where its row stays where it lay. -/
def RetStay {α : Type} (t e : TypeId) (n : Nat) (f : α → List Value) (B : Nat) (most : Int) (r : Option Nat) (W : World) (v : Value) (l' : List α) (x : Ending) (W' : World) : Prop := x = .returned v ∧ Stk t e n f B most r l' W' ∧ Touch B r W W'
end Go.Proofs.Ytahacjfeopjbaaa
/-
  What the calls of a stack of numbers answer: New, Ints, Len, Top, Push, Pop, All; and slices.Clone at a row of numbers.
  Conditions: the stack is one that stands in memory as New made it and its calls left it; its row has at most 2^32 numbers.
  (This program has not all of these functions: stNew_at, stInts_at, stLen_at, stTop_none, stTop_some, stPush_yes, stPush_no, stPop_none, stPop_some, stClone_at, stAll_at are left out here.)
-/
set_option maxRecDepth 4000
namespace Go.Proofs.Ytahacjfeopjbaaa
open Go.RowKit

theorem st_zero (w : World) : (zeroValue 3).run Try.prog w = .ok (.int .i64 0) w := by kernel_rfl
theorem st_cell (w : World) : (sizeOf 3).run Try.prog w = .ok 1 w := by kernel_rfl
theorem st_elem : Try.prog.elem 46 = 3 := by kernel_rfl
theorem st_desc : Try.prog.underlying 46 = some (.slice (Try.prog.elem 46)) := by rw [st_elem]; exact Try.underlying46

/-- What New hands back: a pointer to an empty stack in memory of the call's own. -/
def RetNew (t e : TypeId) (n : Nat) {α : Type} (f : α → List Value) (most : Int) (w : World) (x : Ending) (w' : World) : Prop := x = .returned (.pointer (some ⟨w.heap.size, 0, none⟩)) ∧ Stk t e n f w.heap.size most none [] w' ∧ Below w.heap.size w w'

section
variable {B : Nat} {most : Int} {r : Option Nat} {l : List Int}
end
end Go.Proofs.Ytahacjfeopjbaaa
/-
  What the calls of a stack of choices answer: New, Len, Top, Push, Pop, All; and slices.Clone at a row of choices.
  Conditions: the stack is one that stands in memory as New made it and its calls left it; its row has at most 2^32 choices.
  (This program has not all of these functions: stcNew_at, stcLen_at, results_top, results_pop, stcTop_none, stcTop_some, stcPush_yes, stcPush_no, stcPop_none, stcPop_some, stcClone_at, stcAll_at are left out here.)
-/
set_option maxRecDepth 4000
namespace Go.Proofs.Ytahacjfeopjbaaa
open Go.RowKit

theorem tri_info : (Try.prog.info? 38).map (fun i => (i.zero, i.size, i.bytes)) = some (some (.agg #[.int .i64 0, .int .i64 0, .int .i64 0]), 3, 24) := by kernel_rfl
theorem tri_zero (w : World) : (zeroValue 38).run Try.prog w = .ok (.agg #[.int .i64 0, .int .i64 0, .int .i64 0]) w := by kernel_rfl
theorem tri_cell (w : World) : (sizeOf 38).run Try.prog w = .ok 3 w := by kernel_rfl
theorem tri_elem : Try.prog.elem 25 = 38 := by kernel_rfl
theorem tri_desc : Try.prog.underlying 25 = some (.slice (Try.prog.elem 25)) := by rw [tri_elem]; exact Try.underlying25
theorem new_tri (w : World) (x : Int × Int × Int) (e : TypeId) : ∀ j u, (triC x)[j]? = some u → (w.alloc (.cells #[.int .i64 x.1, .int .i64 x.2.1, .int .i64 x.2.2] e)).cell? ((⟨w.heap.size, 0, none⟩ : Addr).add j) = some u := new_row w (triC x) e
/-- A row of choices of the call's own. -/
def RetTris (w : World) (l : List (Int × Int × Int)) (e : Ending) (w' : World) : Prop := ∃ v, e = .returned v ∧ w'.ownsRow w.heap.size 38 3 v l.length (l.flatMap triC) ∧ Below w.heap.size w w'
/-- A choice, as a value. -/
def triV (x : Int × Int × Int) : Value := .agg #[.int .i64 x.1, .int .i64 x.2.1, .int .i64 x.2.2]

section
variable {B : Nat} {most : Int} {r : Option Nat} {l : List (Int × Int × Int)}
/-- A row held against nil. -/
theorem stc_isNil (A : Option Addr) (n c : Nat) (W : World) : (binOp .eql 25 (.slice A n c) (.slice none 0 0)).run Try.prog W = .ok (.bool A.isNone) W := Lib.run_eql_slice_nil W _ _ A n c 0 0 Try.underlying25
end
end Go.Proofs.Ytahacjfeopjbaaa
/-
  What the reference's New, Push, Top and Pop of layer 11 answer: a stack there is a value, a number and a row of numbers.
  Conditions: the row has at most 2^32 numbers.
  (This program has not all of these functions: results_new, results_push, results_third, rNew11_at, rTop11_none, rTop11_some, rPush11_no, rPush11_yes, rPop11_none, rPop11_some are left out here.)
-/
set_option maxRecDepth 4000
namespace Go.Proofs.Ytahacjfeopjbaaa
open Go.RowKit

/-- A block of two values. -/
def Two (W : World) (b : Nat) (t : TypeId) (u0 u1 : Value) : Prop := W.heap[b]? = some (.cells #[u0, u1] t (0, 0))
section
variable {W : World} {b : Nat} {t : TypeId} {u0 u1 x y : Value}
theorem Two.put (h : Two W b t u0 u1) : Two ((W.setCell ⟨b, 0, none⟩ x).setCell ⟨b, 1, none⟩ y) b t x y := heap_setCell_same _ b 1 _ t y (heap_setCell_same W b 0 _ t x h)
theorem Two.cells (h : Two W b t u0 u1) : W.cell? ⟨b, 0, none⟩ = some u0 ∧ W.cell? ⟨b, 1, none⟩ = some u1 := ⟨by rw [cell_of_row W b 0 _ t (0, 0) h]; rfl, by rw [cell_of_row W b 1 _ t (0, 0) h]; rfl⟩
theorem Two.frozen (h : Two W b t u0 u1) (k : Nat) : W.frozen? ⟨b, k, none⟩ = false := frozen_of_row W b k _ t h
theorem Two.new (W : World) (t : TypeId) (u0 u1 : Value) : Two (W.alloc (.cells #[u0, u1] t)) W.heap.size t u0 u1 := World.alloc_heap_new W _
theorem Two.lt (h : Two W b t u0 u1) : b < W.heap.size := (Array.getElem?_eq_some_iff.1 h).1
theorem Two.later {W' : World} (h : Two W b t u0 u1) (hb : Below W.heap.size W W') : Two W' b t u0 u1 := (hb.block b h.lt).trans h
end

theorem Ns.take {w : World} {A : Option Addr} {n c : Nat} {l : List Int} (h : Ns w (.slice A n c) l) (m : Nat) (hm : m ≤ l.length) : Ns w (.slice A m c) (l.take m) := by
  obtain ⟨_, A1, c1, hv, hc, hz, hh⟩ := h
  cases hv
  have hlen : (l.take m).length = m := by rw [List.length_take]; omega
  refine ⟨by rw [flat_len nC_len], A, c, by rw [hlen], by rw [hlen]; omega, hz, fun h0 => ?_⟩
  rw [hlen] at h0
  obtain ⟨ad, e, hb, hcell⟩ := hh (by omega)
  refine ⟨ad, e, hb, fun j u hu => hcell j u ?_⟩
  have e2 : l.flatMap nC = (l.take m).flatMap nC ++ (l.drop m).flatMap nC := by rw [← List.flatMap_append, List.take_append_drop]
  rw [e2, List.getElem?_append_left (List.getElem?_eq_some_iff.1 hu).1]
  exact hu
end Go.Proofs.Ytahacjfeopjbaaa
