/-
  Words for the search for components in memory: a block of the search's fields, two rows of numbers, two stacks, rows of edges, rows of components; which blocks belong to which of these, and what a step that turns some of them leaves.
  Conditions: none beyond those that each theorem states.
-/
import Derived.Test.YtgapcjgmmlffmaaDoorScTarj
import Derived.Test.YtgapcjgmmlffmaaDoorRrMem
import Derived.Test.YtgapcjgmmlffmaaDoorStAll
import Derived.Test.YtgapcjgmmlffmaaDoorInAll
import Derived.Test.YtgapcjgmmlffmaaDoorGfAll
set_option maxRecDepth 4000
namespace Go.Proofs.YtgapcjgmmlffmaaDoor
open Go.RowKit

/-! What a step leaves: all blocks that are not of S. -/
structure Turn (S : Nat → Prop) (w w' : World) : Prop where
  os : w'.os = w.os
  tape : w'.tape = w.tape
  output : w'.output = w.output
  size : w.heap.size ≤ w'.heap.size
  block : ∀ k, k < w.heap.size → ¬ S k → w'.heap[k]? = w.heap[k]?
section
variable {S T : Nat → Prop} {w w' w'' : World}
theorem Turn.refl (S : Nat → Prop) (w : World) : Turn S w w := ⟨rfl, rfl, rfl, Nat.le_refl _, fun _ _ _ => rfl⟩
theorem Turn.mono (h : Turn S w w') (hs : ∀ k, k < w.heap.size → S k → T k) : Turn T w w' := ⟨h.os, h.tape, h.output, h.size, fun k hk hn => h.block k hk fun q => hn (hs k hk q)⟩
theorem Turn.trans (h : Turn S w w') (h' : Turn S w' w'') : Turn S w w'' :=
  ⟨h'.os.trans h.os, h'.tape.trans h.tape, h'.output.trans h.output, Nat.le_trans h.size h'.size, fun k hk hn => (h'.block k (Nat.lt_of_lt_of_le hk h.size) hn).trans (h.block k hk hn)⟩
theorem Turn.of_below (S : Nat → Prop) (h : Below w.heap.size w w') : Turn S w w' := ⟨h.os, h.tape, h.output, h.size, fun k hk _ => h.block k hk⟩
theorem Turn.of_touch {B : Nat} {r : Option Nat} (h : Touch B r w w') : Turn (fun k => k = B ∨ r = some k) w w' :=
  ⟨h.os, h.tape, h.output, h.size, fun k hk hn => h.block k hk (fun q => hn (.inl q)) fun q => hn (.inr q.symm)⟩
theorem Turn.of_grown {r : Option Nat} (h : w.grownBy w' r) : Turn (fun k => r = some k) w w' := ⟨h.os, h.tape, h.output, h.size, fun k hk hn => h.block k hk fun q => hn q.symm⟩
theorem Turn.of_set (w : World) (b o : Nat) (u : Value) : Turn (fun k => k = b) w (w.setCell ⟨b, o, none⟩ u) :=
  ⟨rfl, rfl, rfl, by simp, fun k _ hn => heap_setCell_other w ⟨b, o, none⟩ k u hn⟩
theorem Turn.below {base : Nat} {a : World} (h : Turn S w w') (hb : Below base a w) (hS : ∀ k, S k → base ≤ k) (hs : base ≤ w.heap.size) : Below base a w' :=
  hb.trans ⟨h.os, h.tape, h.output, h.size, fun k hk => h.block k (Nat.lt_of_lt_of_le hk hs) fun q => by have := hS k q; omega⟩
theorem Turn.heap {o : Obj} {b : Nat} (h : Turn S w w') (hb : w.heap[b]? = some o) (hn : ¬ S b) : w'.heap[b]? = some o := (h.block b (Array.getElem?_eq_some_iff.1 hb).1 hn).trans hb
theorem Turn.own {base size n : Nat} {e : TypeId} {v : Value} {xs : List Value} (h : Turn S w w') (ho : w.ownsRow base e size v n xs) (hn : ∀ k, v.ownBlock = some k → ¬ S k) : w'.ownsRow base e size v n xs := by
  refine ⟨ho.1, ?_⟩
  rcases ho.2 with h0 | ⟨g, cap, cur, rfl, hb, hg, rest⟩
  · exact .inl h0
  · exact .inr ⟨g, cap, cur, rfl, hb, h.heap hg (hn g rfl), rest⟩
theorem Turn.stk {α : Type} {t e : TypeId} {n : Nat} {f : α → List Value} {B : Nat} {most : Int} {r : Option Nat} {l : List α} (h : Turn S w w') (hs : Stk t e n f B most r l w) (hB : ¬ S B) (hr : ∀ k, r = some k → ¬ S k) : Stk t e n f B most r l w' := by
  obtain ⟨v, rfl, hb, ho⟩ := hs.ex
  exact ⟨v, rfl, h.heap hb hB, h.own ho hr⟩
theorem Turn.ownRR {base : Nat} {v : Value} {p : List (List Nat × Value)} (h : Turn S w w') (ho : OwnRR w base v p) (hv : ∀ k, v.ownBlock = some k → ¬ S k) (hp : ∀ x ∈ p, ∀ k, x.2.ownBlock = some k → ¬ S k) : OwnRR w' base v p :=
  ⟨h.own ho.row hv, fun x hx => h.own (ho.ins x hx) (hp x hx), ho.each⟩
end

/-! A row of n numbers that fills block g. -/
def FunRow (W : World) (g n : Nat) (f : Nat → Nat) : Prop := W.heap[g]? = some (.cells ((List.range n).map fun x => Value.int .i64 (f x : Nat)).toArray 3 (0, 0))
section
variable {W W' : World} {g n x : Nat} {f : Nat → Nat}
theorem FunRow.lt (h : FunRow W g n f) : g < W.heap.size := (Array.getElem?_eq_some_iff.1 h).1
theorem FunRow.cell (h : FunRow W g n f) (hx : x < n) : W.cell? ⟨g, x, none⟩ = some (.int .i64 (f x : Nat)) := by
  rw [cell_of_row W g x _ _ (0, 0) h]
  simp [hx]
theorem FunRow.frozen (h : FunRow W g n f) (k : Nat) : W.frozen? ⟨g, k, none⟩ = false := frozen_of_row W g k _ _ h
theorem FunRow.put (h : FunRow W g n f) (x v : Nat) : FunRow (W.setCell ⟨g, x, none⟩ (.int .i64 (v : Nat))) g n (Sc.upd f x v) := by
  have h1 := heap_setCell_same W g x _ _ (.int .i64 (v : Nat)) h
  unfold FunRow
  rw [h1]
  congr 2
  apply Array.ext'
  simp only [Array.toList_setIfInBounds]
  apply List.ext_getElem
  · simp
  · intro i hi1 hi2
    simp only [List.getElem_set, List.getElem_map, List.getElem_range, Sc.upd]
    by_cases e : x = i
    · subst e; simp
    · have : ¬ i = x := fun q => e q.symm
      simp [e, this]
theorem FunRow.made (W : World) (n : Nat) : FunRow (W.alloc (.cells (madeCells #[.int .i64 0] n) 3)) W.heap.size n fun _ => 0 := by
  have h1 := World.alloc_heap_new W (.cells (madeCells #[.int .i64 0] n) 3)
  unfold FunRow
  rw [h1]
  congr 2
  apply Array.ext'
  apply List.ext_getElem
  · simp [madeCells]
  · intro i hi1 hi2
    simp [madeCells, Nat.mod_one]
end

/-- Where a search lies: its block, the rows of ranks and of low ranks, the two stacks and their rows' blocks, the rows of edges and of components. -/
structure Pl where
  b : Nat
  rk : Nat
  lw : Nat
  B1 : Nat
  B2 : Nat
  r1 : Option Nat
  r2 : Option Nat
  ve : Value
  vc : Value
  pe : List (List Nat × Value)
  pc : List (List Nat × Value)
/-- Which blocks are which part's. -/
def Pl.fp (P : Pl) : Nat → Nat → Prop
  | 0, k => k = P.b
  | 1, k => k = P.rk
  | 2, k => k = P.lw
  | 3, k => k = P.B1 ∨ P.r1 = some k
  | 4, k => k = P.B2 ∨ P.r2 = some k
  | 5, k => P.ve.ownBlock = some k ∨ ∃ x ∈ P.pe, x.2.ownBlock = some k
  | 6, k => P.vc.ownBlock = some k ∨ ∃ x ∈ P.pc, x.2.ownBlock = some k
  | _, _ => False
def Pl.all (P : Pl) (k : Nat) : Prop := ∃ i, P.fp i k
/-- A search in memory: its plain state s, and the nodes Q that wait, the lowest first. -/
structure Wlk (base : Nat) (W : World) (P : Pl) (n : Nat) (ends : Nat → List Nat) (s : Sc.Wk) (Q : List (Nat × Nat)) : Prop where
  blk : W.heap[P.b]? = some (.cells #[P.ve, .slice (some ⟨P.rk, 0, none⟩) n n, .slice (some ⟨P.lw, 0, none⟩) n n, .pointer (some ⟨P.B1, 0, none⟩), .pointer (some ⟨P.B2, 0, none⟩), .int .i64 (s.met : Nat), P.vc] 57 (0, 0))
  rank : FunRow W P.rk n s.rank
  low : FunRow W P.lw n s.low
  wait : Stk 91 67 2 itC P.B1 (n : Nat) P.r1 (Gf.eI Q) W
  loose : Stk 106 3 1 nC P.B2 (n : Nat) P.r2 (Bi.nums s.loose) W
  rows : OwnRR W base P.ve P.pe
  rowsAre : P.pe.map (·.1) = (List.range n).map ends
  comps : OwnRR W base P.vc P.pc
  compsAre : P.pc.map (·.1) = s.comps
  apart : ∀ i j k, P.fp i k → P.fp j k → i = j
  inside : ∀ i k, P.fp i k → base ≤ k ∧ k < W.heap.size
/-- What a call on a search leaves. -/
structure Went (P P' : Pl) (W W' : World) : Prop where
  turn : Turn P.all W W'
  b : P'.b = P.b
  new : ∀ k, P'.all k → P.all k ∨ W.heap.size ≤ k
section
variable {base n : Nat} {W W' W'' : World} {P P' P'' : Pl} {ends : Nat → List Nat} {s : Sc.Wk} {Q : List (Nat × Nat)} {I : Nat → Prop}
theorem Went.refl (P : Pl) (W : World) : Went P P W W := ⟨Turn.refl _ _, rfl, fun _ h => .inl h⟩
theorem Went.trans (h : Went P P' W W') (h' : Went P' P'' W' W'') : Went P P'' W W'' := by
  refine ⟨⟨h'.turn.os.trans h.turn.os, h'.turn.tape.trans h.turn.tape, h'.turn.output.trans h.turn.output, Nat.le_trans h.turn.size h'.turn.size, fun k hk hn => ?_⟩, h'.b.trans h.b, fun k q => ?_⟩
  · refine (h'.turn.block k (Nat.lt_of_lt_of_le hk h.turn.size) fun q => ?_).trans (h.turn.block k hk hn)
    rcases h.new k q with a | a
    · exact hn a
    · omega
  · rcases h'.new k q with a | a
    · exact h.new k a
    · exact .inr (Nat.le_trans h.turn.size a)
theorem Went.below {a : World} (h : Went P P' W W') (hw : Wlk base W P n ends s Q) (hb : Below base a W) : Below base a W' :=
  h.turn.below hb (fun k ⟨i, q⟩ => (hw.inside i k q).1) (by have := hw.inside 0 _ rfl; omega)
theorem Went.of_below (P : Pl) (hb : Below W.heap.size W W') : Went P P W W' := ⟨Turn.of_below _ hb, rfl, fun _ h => .inl h⟩
/-- A block that is not the search's is as it was, and is not the search's. -/
theorem Went.far {o : Obj} {g : Nat} (h : Went P P' W W') (hg : W.heap[g]? = some o) (hn : ¬ P.all g) : W'.heap[g]? = some o ∧ ¬ P'.all g :=
  ⟨h.turn.heap hg hn, fun q => (h.new g q).elim hn fun a => by have := (Array.getElem?_eq_some_iff.1 hg).1; omega⟩
theorem Went.own {b0 size m : Nat} {e : TypeId} {v : Value} {xs : List Value} (h : Went P P' W W') (ho : W.ownsRow b0 e size v m xs) (hn : ∀ k, v.ownBlock = some k → ¬ P.all k) : W'.ownsRow b0 e size v m xs ∧ ∀ k, v.ownBlock = some k → ¬ P'.all k :=
  ⟨h.turn.own ho hn, fun k hk q => (h.new k q).elim (hn k hk) fun a => by have := (ho.lt k hk).2; omega⟩

/-- Parts stay apart where one of them is given memory that was made meanwhile. -/
theorem apart_move {m : Nat} (i : Nat) (ha : ∀ i j k, P.fp i k → P.fp j k → i = j) (hin : ∀ i k, P.fp i k → k < m) (hnew : ∀ k, P'.fp i k → P.fp i k ∨ m ≤ k) (hsame : ∀ j, j ≠ i → ∀ k, P'.fp j k → P.fp j k) : ∀ i j k, P'.fp i k → P'.fp j k → i = j := by
  intro a b k h1 h2
  by_cases ea : a = i
  · by_cases eb : b = i
    · rw [ea, eb]
    · rw [ea] at h1
      have h2' := hsame b eb k h2
      rcases hnew k h1 with q | q
      · rw [ea]; exact ha _ _ k q h2'
      · have := hin b k h2'; omega
  · have h1' := hsame a ea k h1
    by_cases eb : b = i
    · rw [eb] at h2
      rcases hnew k h2 with q | q
      · rw [eb]; exact ha _ _ k h1' q
      · have := hin a k h1'; omega
    · exact ha _ _ k h1' (hsame b eb k h2)
theorem Wlk.went (_h : Wlk base W P n ends s Q) (ht : Turn (fun k => ∃ j, I j ∧ P.fp j k) W W') : Went P P W W' := ⟨ht.mono fun _ _ ⟨j, _, q⟩ => ⟨j, q⟩, rfl, fun _ q => .inl q⟩
section
variable (h : Wlk base W P n ends s Q)
include h
theorem Wlk.off {i k : Nat} (hi : ¬ I i) (hk : P.fp i k) : ¬ ∃ j, I j ∧ P.fp j k := fun ⟨j, hj, q⟩ => hi (by rw [← h.apart j i k q hk]; exact hj)
variable (ht : Turn (fun k => ∃ j, I j ∧ P.fp j k) W W')
include ht
theorem Wlk.kBlk (hi : ¬ I 0) : W'.heap[P.b]? = some (.cells #[P.ve, .slice (some ⟨P.rk, 0, none⟩) n n, .slice (some ⟨P.lw, 0, none⟩) n n, .pointer (some ⟨P.B1, 0, none⟩), .pointer (some ⟨P.B2, 0, none⟩), .int .i64 (s.met : Nat), P.vc] 57 (0, 0)) := ht.heap h.blk (h.off hi rfl)
theorem Wlk.kRank (hi : ¬ I 1) : FunRow W' P.rk n s.rank := ht.heap h.rank (h.off hi rfl)
theorem Wlk.kLow (hi : ¬ I 2) : FunRow W' P.lw n s.low := ht.heap h.low (h.off hi rfl)
theorem Wlk.kWait (hi : ¬ I 3) : Stk 91 67 2 itC P.B1 (n : Nat) P.r1 (Gf.eI Q) W' := ht.stk h.wait (h.off hi (.inl rfl)) fun _ q => h.off hi (.inr q)
theorem Wlk.kLoose (hi : ¬ I 4) : Stk 106 3 1 nC P.B2 (n : Nat) P.r2 (Bi.nums s.loose) W' := ht.stk h.loose (h.off hi (.inl rfl)) fun _ q => h.off hi (.inr q)
theorem Wlk.kRows (hi : ¬ I 5) : OwnRR W' base P.ve P.pe := ht.ownRR h.rows (fun _ q => h.off hi (.inl q)) fun x hx _ q => h.off hi (.inr ⟨x, hx, q⟩)
theorem Wlk.kComps (hi : ¬ I 6) : OwnRR W' base P.vc P.pc := ht.ownRR h.comps (fun _ q => h.off hi (.inl q)) fun x hx _ q => h.off hi (.inr ⟨x, hx, q⟩)
theorem Wlk.kIn : ∀ i k, P.fp i k → base ≤ k ∧ k < W'.heap.size := fun i k q => ⟨(h.inside i k q).1, Nat.lt_of_lt_of_le (h.inside i k q).2 ht.size⟩
end
theorem Wlk.later (h : Wlk base W P n ends s Q) (hb : Below W.heap.size W W') : Wlk base W' P n ends s Q := by
  have ht : Turn (fun k => ∃ j, False ∧ P.fp j k) W W' := Turn.of_below _ hb
  exact ⟨h.kBlk (I := fun _ => False) ht id, h.kRank (I := fun _ => False) ht id, h.kLow (I := fun _ => False) ht id, h.kWait (I := fun _ => False) ht id, h.kLoose (I := fun _ => False) ht id, h.kRows (I := fun _ => False) ht id, h.rowsAre, h.kComps (I := fun _ => False) ht id, h.compsAre, h.apart, h.kIn (I := fun _ => False) ht⟩
/-- What is read of the search's block. -/
theorem Wlk.cells (h : Wlk base W P n ends s Q) : W.cell? ⟨P.b, 0, none⟩ = some P.ve ∧ W.cell? ⟨P.b, 1, none⟩ = some (.slice (some ⟨P.rk, 0, none⟩) n n) ∧ W.cell? ⟨P.b, 2, none⟩ = some (.slice (some ⟨P.lw, 0, none⟩) n n) ∧ W.cell? ⟨P.b, 3, none⟩ = some (.pointer (some ⟨P.B1, 0, none⟩)) ∧
    W.cell? ⟨P.b, 4, none⟩ = some (.pointer (some ⟨P.B2, 0, none⟩)) ∧ W.cell? ⟨P.b, 5, none⟩ = some (.int .i64 (s.met : Nat)) ∧ W.cell? ⟨P.b, 6, none⟩ = some P.vc := by
  refine ⟨?_, ?_, ?_, ?_, ?_, ?_, ?_⟩
  all_goals rw [cell_of_row W P.b _ _ _ (0, 0) h.blk]; rfl
theorem Wlk.frozen (h : Wlk base W P n ends s Q) (k : Nat) : W.frozen? ⟨P.b, k, none⟩ = false := frozen_of_row W P.b k _ _ h.blk
theorem turn_one {i : Nat} {S : Nat → Prop} (ht : Turn S W W') (hs : ∀ k, S k → P.fp i k) : Turn (fun k => ∃ j, j = i ∧ P.fp j k) W W' := ht.mono fun k _ q => ⟨i, rfl, hs k q⟩
theorem Wlk.setMet (h : Wlk base W P n ends s Q) (v : Nat) : Wlk base (W.setCell ⟨P.b, 5, none⟩ (.int .i64 (v : Nat))) P n ends ⟨s.rank, s.low, v, s.loose, s.comps⟩ Q ∧ Went P P W (W.setCell ⟨P.b, 5, none⟩ (.int .i64 (v : Nat))) := by
  have ht := turn_one (P := P) (i := 0) (Turn.of_set W P.b 5 (.int .i64 (v : Nat))) fun k q => q
  exact ⟨⟨heap_setCell_same W P.b 5 _ _ _ h.blk, h.kRank ht (by decide), h.kLow ht (by decide), h.kWait ht (by decide), h.kLoose ht (by decide), h.kRows ht (by decide), h.rowsAre, h.kComps ht (by decide), h.compsAre, h.apart, h.kIn ht⟩, h.went ht⟩
theorem Wlk.setRank (h : Wlk base W P n ends s Q) (x v : Nat) : Wlk base (W.setCell ⟨P.rk, x, none⟩ (.int .i64 (v : Nat))) P n ends ⟨Sc.upd s.rank x v, s.low, s.met, s.loose, s.comps⟩ Q ∧ Went P P W (W.setCell ⟨P.rk, x, none⟩ (.int .i64 (v : Nat))) := by
  have ht := turn_one (P := P) (i := 1) (Turn.of_set W P.rk x (.int .i64 (v : Nat))) fun k q => q
  exact ⟨⟨h.kBlk ht (by decide), h.rank.put x v, h.kLow ht (by decide), h.kWait ht (by decide), h.kLoose ht (by decide), h.kRows ht (by decide), h.rowsAre, h.kComps ht (by decide), h.compsAre, h.apart, h.kIn ht⟩, h.went ht⟩
theorem Wlk.setLow (h : Wlk base W P n ends s Q) (x v : Nat) : Wlk base (W.setCell ⟨P.lw, x, none⟩ (.int .i64 (v : Nat))) P n ends ⟨s.rank, Sc.upd s.low x v, s.met, s.loose, s.comps⟩ Q ∧ Went P P W (W.setCell ⟨P.lw, x, none⟩ (.int .i64 (v : Nat))) := by
  have ht := turn_one (P := P) (i := 2) (Turn.of_set W P.lw x (.int .i64 (v : Nat))) fun k q => q
  exact ⟨⟨h.kBlk ht (by decide), h.kRank ht (by decide), h.low.put x v, h.kWait ht (by decide), h.kLoose ht (by decide), h.kRows ht (by decide), h.rowsAre, h.kComps ht (by decide), h.compsAre, h.apart, h.kIn ht⟩, h.went ht⟩
/-- Behind a call on the stack of those that wait for a component. -/
theorem Wlk.setLoose (h : Wlk base W P n ends s Q) {r : Option Nat} {L : List Nat} (hs : Stk 106 3 1 nC P.B2 (n : Nat) r (Bi.nums L) W') (hm : Moved W P.r2 r) (hT : Touch P.B2 P.r2 W W') :
    Wlk base W' ⟨P.b, P.rk, P.lw, P.B1, P.B2, P.r1, r, P.ve, P.vc, P.pe, P.pc⟩ n ends ⟨s.rank, s.low, s.met, L, s.comps⟩ Q ∧ Went P ⟨P.b, P.rk, P.lw, P.B1, P.B2, P.r1, r, P.ve, P.vc, P.pe, P.pc⟩ W W' := by
  have ht := turn_one (P := P) (i := 4) (Turn.of_touch hT) fun k q => q
  have hnew : ∀ k, (⟨P.b, P.rk, P.lw, P.B1, P.B2, P.r1, r, P.ve, P.vc, P.pe, P.pc⟩ : Pl).fp 4 k → P.fp 4 k ∨ W.heap.size ≤ k := by
    rintro k (rfl | q)
    · exact .inl (.inl rfl)
    · rcases hm with e | ⟨j, e, hj⟩
      · exact .inl (.inr (by rw [← e]; exact q))
      · dsimp only at q
        rw [e] at q
        cases q
        exact .inr hj
  have hsame : ∀ j, j ≠ 4 → ∀ k, (⟨P.b, P.rk, P.lw, P.B1, P.B2, P.r1, r, P.ve, P.vc, P.pe, P.pc⟩ : Pl).fp j k → P.fp j k := by
    intro j hj k q
    rcases j with _ | _ | _ | _ | _ | _ | _ | j
    all_goals first | exact q | exact absurd rfl hj
  refine ⟨⟨h.kBlk ht (by decide), h.kRank ht (by decide), h.kLow ht (by decide), h.kWait ht (by decide), hs, h.kRows ht (by decide), h.rowsAre, h.kComps ht (by decide), h.compsAre, apart_move 4 h.apart (fun i k q => (h.inside i k q).2) hnew hsame, fun j k q => ?_⟩, (h.went ht).turn, rfl, ?_⟩
  · by_cases e : j = 4
    · subst e
      have hb := (h.inside 4 _ (.inl rfl)).1
      rcases q with rfl | q
      · exact ⟨hb, hs.lt⟩
      · have := hs.row_lt k q
        omega
    · exact h.kIn ht j k (hsame j e k q)
  · rintro k ⟨j, q⟩
    by_cases e : j = 4
    · subst e
      rcases hnew k q with a | a
      · exact .inl ⟨4, a⟩
      · exact .inr a
    · exact .inl ⟨j, hsame j e k q⟩
/-- Behind a call on the stack of positions. -/
theorem Wlk.setWait (h : Wlk base W P n ends s Q) {r : Option Nat} {L : List (Nat × Nat)} (hs : Stk 91 67 2 itC P.B1 (n : Nat) r (Gf.eI L) W') (hm : Moved W P.r1 r) (hT : Touch P.B1 P.r1 W W') :
    Wlk base W' ⟨P.b, P.rk, P.lw, P.B1, P.B2, r, P.r2, P.ve, P.vc, P.pe, P.pc⟩ n ends s L ∧ Went P ⟨P.b, P.rk, P.lw, P.B1, P.B2, r, P.r2, P.ve, P.vc, P.pe, P.pc⟩ W W' := by
  have ht := turn_one (P := P) (i := 3) (Turn.of_touch hT) fun k q => q
  have hnew : ∀ k, (⟨P.b, P.rk, P.lw, P.B1, P.B2, r, P.r2, P.ve, P.vc, P.pe, P.pc⟩ : Pl).fp 3 k → P.fp 3 k ∨ W.heap.size ≤ k := by
    rintro k (rfl | q)
    · exact .inl (.inl rfl)
    · rcases hm with e | ⟨j, e, hj⟩
      · exact .inl (.inr (by rw [← e]; exact q))
      · dsimp only at q
        rw [e] at q
        cases q
        exact .inr hj
  have hsame : ∀ j, j ≠ 3 → ∀ k, (⟨P.b, P.rk, P.lw, P.B1, P.B2, r, P.r2, P.ve, P.vc, P.pe, P.pc⟩ : Pl).fp j k → P.fp j k := by
    intro j hj k q
    rcases j with _ | _ | _ | _ | _ | _ | _ | j
    all_goals first | exact q | exact absurd rfl hj
  refine ⟨⟨h.kBlk ht (by decide), h.kRank ht (by decide), h.kLow ht (by decide), hs, h.kLoose ht (by decide), h.kRows ht (by decide), h.rowsAre, h.kComps ht (by decide), h.compsAre, apart_move 3 h.apart (fun i k q => (h.inside i k q).2) hnew hsame, fun j k q => ?_⟩, (h.went ht).turn, rfl, ?_⟩
  · by_cases e : j = 3
    · subst e
      have hb := (h.inside 3 _ (.inl rfl)).1
      rcases q with rfl | q
      · exact ⟨hb, hs.lt⟩
      · have := hs.row_lt k q
        omega
    · exact h.kIn ht j k (hsame j e k q)
  · rintro k ⟨j, q⟩
    by_cases e : j = 3
    · subst e
      rcases hnew k q with a | a
      · exact .inl ⟨3, a⟩
      · exact .inr a
    · exact .inl ⟨j, hsame j e k q⟩
/-- A component is laid behind the others: its row is one of its own, the row of components has grown, and is stored. -/
theorem Wlk.addComp (h : Wlk base W P n ends s Q) {V W1 : World} {u v' : Value} {x : List Nat} (hu : W.ownsRow base 3 1 u x.length ((Bi.nums x).flatMap nC)) (hfar : ∀ k, u.ownBlock = some k → ¬ P.all k) (hV : Below W.heap.size W V)
    (hrow : W1.ownsRow base 26 1 v' (P.pc.length + 1) (P.pc.flatMap rrC ++ rrC (x, u))) (hg : V.grownBy W1 P.vc.ownBlock) (hat : v'.ownBlock = P.vc.ownBlock ∨ v'.ownBlock = some V.heap.size) :
    (∃ z, W1.cell? ⟨P.b, 6, none⟩ = some z) ∧ W1.frozen? ⟨P.b, 6, none⟩ = false ∧
    Wlk base (W1.setCell ⟨P.b, 6, none⟩ v') ⟨P.b, P.rk, P.lw, P.B1, P.B2, P.r1, P.r2, P.ve, v', P.pe, P.pc ++ [(x, u)]⟩ n ends ⟨s.rank, s.low, s.met, s.loose, s.comps ++ [x]⟩ Q ∧ Turn P.all W (W1.setCell ⟨P.b, 6, none⟩ v') ∧ ∀ k, (⟨P.b, P.rk, P.lw, P.B1, P.B2, P.r1, P.r2, P.ve, v', P.pe, P.pc ++ [(x, u)]⟩ : Pl).all k → P.all k ∨ (u.ownBlock = some k ∨ W.heap.size ≤ k) := by
  have ht1 : Turn (fun k => ∃ j, j = 6 ∧ P.fp j k) W W1 := turn_one (P := P) (i := 6) ((Turn.of_below _ hV).trans (Turn.of_grown hg)) fun k q => .inl q
  have hB := h.kBlk ht1 (by decide)
  have ht : Turn (fun k => ∃ j, (j = 0 ∨ j = 6) ∧ P.fp j k) W (W1.setCell ⟨P.b, 6, none⟩ v') :=
    (ht1.mono (T := fun k => ∃ j, (j = 0 ∨ j = 6) ∧ P.fp j k) fun k _ ⟨j, e, q⟩ => ⟨j, .inr e, q⟩).trans ((Turn.of_set W1 P.b 6 v').mono fun k _ q => ⟨0, .inl rfl, q⟩)
  have hbne : ∀ k, v'.ownBlock = some k → k ≠ P.b := fun k q e => by
    rcases hat with a | a
    · exact absurd (h.apart 6 0 k (.inl (by rw [← a]; exact q)) e) (by decide)
    · rw [a] at q
      cases q
      have := (h.inside 0 _ rfl).2
      have := hV.size
      omega
  have hu1 : W1.ownsRow base 3 1 u x.length ((Bi.nums x).flatMap nC) := (own_below hu hV).kept hg (by
    cases e : u.ownBlock with
    | none => exact .inl rfl
    | some k => exact .inr fun q => hfar k e ⟨6, .inl q.symm⟩)
  have hcomps : OwnRR W1 base v' (P.pc ++ [(x, u)]) := by
    refine ⟨?_, fun y hy => ?_, ?_⟩
    · rw [List.length_append, List.flatMap_append]
      simpa using hrow
    · rcases List.mem_append.1 hy with hy | hy
      · exact (own_below (h.comps.ins y hy) hV).kept hg (h.comps.apart hy)
      · rw [List.mem_singleton.1 hy]
        exact hu1
    · rw [List.pairwise_append]
      refine ⟨h.comps.each, List.pairwise_singleton _ _, fun y hy z hz => ?_⟩
      rw [List.mem_singleton.1 hz]
      cases hy' : y.2.ownBlock with
      | none => exact .inl rfl
      | some k => exact .inr fun q => hfar k q.symm ⟨6, .inr ⟨y, hy, hy'⟩⟩
  have hnew : ∀ k, (⟨P.b, P.rk, P.lw, P.B1, P.B2, P.r1, P.r2, P.ve, v', P.pe, P.pc ++ [(x, u)]⟩ : Pl).fp 6 k → P.fp 6 k ∨ (u.ownBlock = some k ∨ W.heap.size ≤ k) := by
    rintro k (q | ⟨y, hy, q⟩)
    · rcases hat with a | a
      · exact .inl (.inl (by rw [← a]; exact q))
      · dsimp only at q
        rw [a] at q
        cases q
        exact .inr (.inr hV.size)
    · rcases List.mem_append.1 hy with hy | hy
      · exact .inl (.inr ⟨y, hy, q⟩)
      · rw [List.mem_singleton.1 hy] at q
        exact .inr (.inl q)
  have hsame : ∀ j, j ≠ 6 → ∀ k, (⟨P.b, P.rk, P.lw, P.B1, P.B2, P.r1, P.r2, P.ve, v', P.pe, P.pc ++ [(x, u)]⟩ : Pl).fp j k → P.fp j k := by
    intro j hj k q
    rcases j with _ | _ | _ | _ | _ | _ | _ | j
    all_goals first | exact q | exact absurd rfl hj
  have hapart : ∀ i j k, (⟨P.b, P.rk, P.lw, P.B1, P.B2, P.r1, P.r2, P.ve, v', P.pe, P.pc ++ [(x, u)]⟩ : Pl).fp i k → (⟨P.b, P.rk, P.lw, P.B1, P.B2, P.r1, P.r2, P.ve, v', P.pe, P.pc ++ [(x, u)]⟩ : Pl).fp j k → i = j := by
    have key : ∀ j k, j ≠ 6 → (⟨P.b, P.rk, P.lw, P.B1, P.B2, P.r1, P.r2, P.ve, v', P.pe, P.pc ++ [(x, u)]⟩ : Pl).fp j k → ¬ (⟨P.b, P.rk, P.lw, P.B1, P.B2, P.r1, P.r2, P.ve, v', P.pe, P.pc ++ [(x, u)]⟩ : Pl).fp 6 k := fun j k hj a b => by
      have a' := hsame j hj k a
      rcases hnew k b with q | q | q
      · exact hj (h.apart _ _ k a' q)
      · exact hfar k q ⟨j, a'⟩
      · have := (h.inside j k a').2; omega
    intro i j k a b
    by_cases ei : i = 6
    · by_cases ej : j = 6
      · rw [ei, ej]
      · rw [ei] at a; exact absurd a (key j k ej b)
    · by_cases ej : j = 6
      · rw [ej] at b; exact absurd b (key i k ei a)
      · exact h.apart i j k (hsame i ei k a) (hsame j ej k b)
  have hcset : OwnRR (W1.setCell ⟨P.b, 6, none⟩ v') base v' (P.pc ++ [(x, u)]) := (Turn.of_set W1 P.b 6 v').ownRR hcomps hbne fun y hy k q e => by
    rcases List.mem_append.1 hy with hy | hy
    · exact absurd (h.apart 6 0 k (.inr ⟨y, hy, q⟩) e) (by decide)
    · rw [List.mem_singleton.1 hy] at q
      exact hfar k q ⟨0, e⟩
  refine ⟨⟨_, by rw [cell_of_row W1 P.b 6 _ _ (0, 0) hB]; rfl⟩, frozen_of_row W1 P.b 6 _ _ hB, ⟨heap_setCell_same W1 P.b 6 _ _ _ hB, h.kRank ht (by decide), h.kLow ht (by decide), h.kWait ht (by decide), h.kLoose ht (by decide), h.kRows ht (by decide), h.rowsAre, hcset, ?_, hapart, fun j k q => ?_⟩, (h.went ht).turn, ?_⟩
  · show (P.pc ++ [(x, u)]).map (·.1) = s.comps ++ [x]
    rw [List.map_append, h.compsAre]
    rfl
  · by_cases e : j = 6
    · subst e
      rcases q with q | ⟨y, hy, q⟩
      · have := hcset.row.lt k q
        exact this
      · exact (hcset.ins y hy).lt k q
    · exact h.kIn ht j k (hsame j e k q)
  · rintro k ⟨j, q⟩
    by_cases e : j = 6
    · subst e
      rcases hnew k q with a | a | a
      · exact .inl ⟨6, a⟩
      · exact .inr (.inl a)
      · exact .inr (.inr a)
    · exact .inl ⟨j, hsame j e k q⟩
end
end Go.Proofs.YtgapcjgmmlffmaaDoor
