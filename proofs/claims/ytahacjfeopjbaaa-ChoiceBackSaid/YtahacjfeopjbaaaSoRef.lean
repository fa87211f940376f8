/-
  Several texts in one, each with its own first words: SoRefA, SoRefB, SoRefT, SoRefC, SoRefD, SoRefE, SoRefG.
  Conditions: as each says.
-/
import Derived.Test.YtahacjfeopjbaaaSoAll
import Derived.Test.YtahacjfeopjbaaaInRef
import Derived.Test.YtahacjfeopjbaaaGrAll
/-
  What the reference's small functions of layer 7 answer: may, writes, Number; and Ints, takes and Same of what is one; what was in memory stays as it was.
  Conditions: a row has at most 2^32 elements.
  (This program has not all of these functions: rMay_at, rWrites_at, rNumber_at, rInts_at, rTakes_at are left out here.)
-/
set_option maxRecDepth 4000
namespace Go.Proofs.Ytahacjfeopjbaaa
open Go.RowKit

/-- A variable that holds a transaction as the reference has it. -/
theorem TxVar.at {w w' : World} {b : Nat} {t : Gr.Tx} {u : Value} (h : TxVar w b t u) (hb : Below w.heap.size w w') : TxVar w' b t u := h.below hb
theorem right_parts (x : Ev.Event) : Hid (Ev.right x = false ∧ isOpB x = false) ∨ Hid (Ev.right x = true) ∧ ((x.kind != 1) = false ∧ Hid (isOpB x = true) ∨ (x.kind != 1) = true ∧ ((x.kind != 2) = false ∧ Hid (isOpB x = true) ∨ (x.kind != 2) = true ∧ Hid (isOpB x = false))) := by
  unfold Hid isOpB
  cases hr : Ev.right x with
  | false => exact .inl ⟨rfl, rfl⟩
  | true =>
    refine .inr ⟨rfl, ?_⟩
    rw [Bool.true_and]
    by_cases h1 : x.kind = 1
    · exact .inl ⟨by rw [h1]; rfl, (Ev.hasKey_iff _).2 (.inl h1)⟩
    · by_cases h2 : x.kind = 2
      · exact .inr ⟨by rw [bne_iff_ne]; exact h1, .inl ⟨by rw [h2]; rfl, (Ev.hasKey_iff _).2 (.inr h2)⟩⟩
      · refine .inr ⟨by rw [bne_iff_ne]; exact h1, .inr ⟨by rw [bne_iff_ne]; exact h2, ?_⟩⟩
        cases hk : Ev.hasKey x.kind with
        | false => rfl
        | true => rcases (Ev.hasKey_iff _).1 hk with h | h
                  · exact absurd h h1
                  · exact absurd h h2
theorem isW_parts (key value : Int) (x : Ev.Event) : ((x.kind == 2) = false ∧ Hid (So.isW key value x = false)) ∨ (x.kind == 2) = true ∧ (((x.key == key) = false ∧ Hid (So.isW key value x = false)) ∨ (x.key == key) = true ∧ (((x.value == value) = false ∧ Hid (So.isW key value x = false)) ∨ (x.value == value) = true ∧ Hid (So.isW key value x = true))) := by
  unfold Hid
  by_cases h1 : x.kind = 2
  · refine .inr ⟨beq_iff_eq.2 h1, ?_⟩
    by_cases h2 : x.key = key
    · refine .inr ⟨beq_iff_eq.2 h2, ?_⟩
      by_cases h3 : x.value = value
      · exact .inr ⟨beq_iff_eq.2 h3, (So.isW_iff _ _ _).2 ⟨h1, h2, h3⟩⟩
      · exact .inl ⟨beq_eq_false_iff_ne.2 h3, isW_no (fun q => h3 q.2.2)⟩
    · exact .inl ⟨beq_eq_false_iff_ne.2 h2, isW_no (fun q => h2 q.2.1)⟩
  · exact .inl ⟨beq_eq_false_iff_ne.2 h1, isW_no (fun q => h1 q.1)⟩
end Go.Proofs.Ytahacjfeopjbaaa
/-
  What the reference's Same of layer 7 answers of two histories that are one, and the laws' small functions few, op and plain of layer 7; what was in memory stays as it was.
  Conditions: a row has at most 2^32 elements.
  (This program has not all of these functions: rSame7_at, few_at, op_at, plain7_at are left out here.)
-/
set_option maxRecDepth 4000
namespace Go.Proofs.Ytahacjfeopjbaaa
open Go.RowKit

/-- A variable that holds a transaction of a history. -/
structure TxnVar (w : World) (b : Nat) (t : So.Txn) (u v : Value) : Prop where
  c0 : w.cell? ⟨b, 0, none⟩ = some (.int .i64 t.session)
  c1 : w.cell? ⟨b, 1, none⟩ = some u
  c2 : w.cell? ⟨b, 2, none⟩ = some v
theorem TxnVar.new (w : World) (t : So.Txn) (u v : Value) (ty : TypeId) : TxnVar (w.alloc (.cells #[.int .i64 t.session, u, v] ty)) w.heap.size t u v :=
  ⟨new_cell w _ _ 0 _ rfl, new_cell w _ _ 1 _ rfl, new_cell w _ _ 2 _ rfl⟩
theorem TxnVar.below {w w' : World} {b : Nat} {t : So.Txn} {u v : Value} (h : TxnVar w b t u v) (hb : Below w.heap.size w w') : TxnVar w' b t u v := by
  have hlt := World.block_lt_of_cell? w _ h.c0
  exact ⟨(hb.cell (p := ⟨b, 0, none⟩) hlt).trans h.c0, (hb.cell (p := ⟨b, 1, none⟩) hlt).trans h.c1, (hb.cell (p := ⟨b, 2, none⟩) hlt).trans h.c2⟩
/-- Two variables of one cell each. -/
def Boxes (w : World) (b : Nat) (u v : Value) : Prop := w.cell? ⟨b, 0, none⟩ = some u ∧ w.cell? ⟨b + 1, 0, none⟩ = some v
theorem Boxes.below {w w' : World} {b : Nat} {u v : Value} (h : Boxes w b u v) (hb : Below w.heap.size w w') : Boxes w' b u v :=
  ⟨(hb.cell (World.block_lt_of_cell? w _ h.1)).trans h.1, (hb.cell (World.block_lt_of_cell? w _ h.2)).trans h.2⟩
theorem boxes_new (w : World) (u v : Value) (t t' : TypeId) : Boxes ((w.alloc (.cells #[u] t)).alloc (.cells #[v] t')) w.heap.size u v := by
  refine ⟨cell_new (new_cell w _ _ 0 _ rfl) _, ?_⟩
  have := new_cell (w.alloc (.cells #[u] t)) #[v] t' 0 _ rfl
  rwa [size_new] at this
/-- Few, and short. -/
def fewB (l : List Gr.Tx) : Bool := decide (l.length ≤ 40) && l.all (fun t => decide (t.ops.length ≤ 40))
theorem fewB_iff (l : List Gr.Tx) : fewB l = true ↔ l.length ≤ 40 ∧ ∀ t ∈ l, t.ops.length ≤ 40 := by
  rw [fewB, Bool.and_eq_true, decide_eq_true_eq, List.all_eq_true]
  simp
end Go.Proofs.Ytahacjfeopjbaaa
/-
  Words for a variable of two cells: how it lasts.
  Conditions: none beyond those that each theorem states.
-/
set_option maxRecDepth 4000
namespace Go.Proofs.Ytahacjfeopjbaaa
open Go.RowKit

/-- A variable of two cells. -/
def TwoV (w : World) (b : Nat) (x y : Value) : Prop := w.cell? ⟨b, 0, none⟩ = some x ∧ w.cell? ⟨b, 1, none⟩ = some y
theorem TwoV.below {w w' : World} {b : Nat} {x y : Value} (h : TwoV w b x y) (hb : Below w.heap.size w w') : TwoV w' b x y :=
  ⟨(hb.cell (World.block_lt_of_cell? w _ h.1)).trans h.1, (hb.cell (World.block_lt_of_cell? w _ h.2)).trans h.2⟩
end Go.Proofs.Ytahacjfeopjbaaa
/-
  What the reference's unlike and from of layer 7 answer: what is wrong with a transaction's writes (So.phase 1), and whose a value is (So.fromR); what was in memory stays as it was.
  Conditions: at most 32 transactions, a row of ops has at most 2^32 elements; from: keys are 0 to 15, and what was committed may be looked at.
  (This program has not all of these functions: rUnlike_at is left out here.)
-/
set_option maxRecDepth 4000
namespace Go.Proofs.Ytahacjfeopjbaaa
open Go.RowKit

end Go.Proofs.Ytahacjfeopjbaaa
/-
  What the reference's from of layer 7 answers: whose a value is (So.fromR); what was in memory stays as it was.
  Conditions: at most 32 transactions, a row of ops has at most 2^32 elements; the key is 0 to 15, and what was committed may be looked at.
  (This program has not all of these functions: rFrom_at is left out here.)
-/
set_option maxRecDepth 4000
namespace Go.Proofs.Ytahacjfeopjbaaa
open Go.RowKit

theorem from_at (l : List Gr.Tx) (y : Int × Int) (h0 : y.2 ≠ 0) (m : Nat) (hm : m < l.length) (hno : ∀ a (ha : a < l.length), a < m → So.wrote y.1 y.2 l[a].ops = false) (hw : So.wrote y.1 y.2 l[m].ops = true) :
    So.fromR l y = if l[m].done = false then (0, 13) else if In.lastOf 2 y.1 l[m].ops ≠ some y.2 then (0, 14) else ((((l.take m).filter (·.done)).length : Int), 0) := by
  rw [So.fromR, if_neg h0, So.from_number y.1 y.2 l m (by omega) hno, So.from_hit _ _ _ _ _ hm hw]
theorem from_none (l : List Gr.Tx) (y : Int × Int) (h0 : y.2 ≠ 0) (hno : ∀ a (ha : a < l.length), a < l.length → So.wrote y.1 y.2 l[a].ops = false) : So.fromR l y = (0, 12) := by
  rw [So.fromR, if_neg h0, So.from_number y.1 y.2 l l.length (Nat.le_refl _) hno, So.from_end _ _ _ _ _ (Nat.le_refl _)]
end Go.Proofs.Ytahacjfeopjbaaa
/-
  What the reference's one of layer 7 answers: a committed transaction, as a history has it (So.txnOf), or the first error of its reads; what was in memory stays as it was.
  Conditions: at most 32 transactions, a row of ops has at most 2^32 elements; the ops may be, and what was committed may be looked at.
  (This program has not all of these functions: results_one, end_one, rOne7_at are left out here.)
-/
set_option maxRecDepth 4000
namespace Go.Proofs.Ytahacjfeopjbaaa
open Go.RowKit

theorem three_get {w : World} {b : Nat} {x0 x1 x2 : Value} {t : TypeId} (h : w.heap[b]? = some (.cells #[x0, x1, x2] t (0, 0))) : (w.cell? ⟨b, 0, none⟩ = some x0 ∧ w.cell? ⟨b, 1, none⟩ = some x1 ∧ w.cell? ⟨b, 2, none⟩ = some x2) ∧ ∀ k, w.frozen? ⟨b, k, none⟩ = false := by
  refine ⟨⟨?_, ?_, ?_⟩, fun k => ?_⟩
  · simp [World.cell?, h]
  · simp [World.cell?, h]
  · simp [World.cell?, h]
  · simp [World.frozen?, h]
theorem three_one {w : World} {b : Nat} {x0 x1 x2 : Value} {t : TypeId} (h : w.heap[b]? = some (.cells #[x0, x1, x2] t (0, 0))) (y : Value) : (w.setCell ⟨b, 1, none⟩ y).heap[b]? = some (.cells #[x0, y, x2] t (0, 0)) ∧ (w.setCell ⟨b, 2, none⟩ y).heap[b]? = some (.cells #[x0, x1, y] t (0, 0)) := by
  simp [World.setCell, Array.getElem?_modify, h]
/-- While one fills its variable, which lies at W's end. -/
structure OneMid (W wx : World) (s : Int) (ks : List Int) (ys : List (Int × Int)) (kv rv : Value) : Prop where
  cell : wx.heap[W.heap.size]? = some (.cells #[.int .i64 s, kv, rv] 65 (0, 0))
  writes : wx.ownsRow (W.heap.size + 1) 3 1 kv ks.length (ks.flatMap nC)
  reads : wx.ownsRow (W.heap.size + 1) 62 2 rv ys.length (ys.flatMap itC)
  below : Below W.heap.size W wx
section
variable {W wx w3 : World} {s : Int} {ks : List Int} {ys : List (Int × Int)} {kv rv v' : Value}
theorem OneMid.later (h : OneMid W wx s ks ys kv rv) (hb : Below wx.heap.size wx w3) : OneMid W w3 s ks ys kv rv :=
  ⟨(hb.block _ (lt_of_block h.cell)).trans h.cell, own_below h.writes hb, own_below h.reads hb, below_all h.below hb⟩
theorem OneMid.ready (h : OneMid W wx s ks ys kv rv) (o : Obj) : OneMid W ((wx.alloc o).drewN 1) s ks ys kv rv ∧
    (∀ w2, ((wx.alloc o).drewN 1).grownBy w2 kv.ownBlock → w2.cell? ⟨W.heap.size, 1, none⟩ = some kv ∧ w2.frozen? ⟨W.heap.size, 1, none⟩ = false) ∧ (∀ w2, ((wx.alloc o).drewN 1).grownBy w2 rv.ownBlock → w2.cell? ⟨W.heap.size, 2, none⟩ = some rv ∧ w2.frozen? ⟨W.heap.size, 2, none⟩ = false) := by
  have h2 : OneMid W ((wx.alloc o).drewN 1) s ks ys kv rv := (h.later (alloc_below wx o)).later (drewN_below _ 1)
  refine ⟨h2, fun w2 hg => ?_, fun w2 hg => ?_⟩
  · have := three_get ((hg.block _ (lt_of_block h2.cell) (fun e => own_above h2.writes e.symm)).trans h2.cell)
    exact ⟨this.1.2.1, this.2 1⟩
  · have := three_get ((hg.block _ (lt_of_block h2.cell) (fun e => own_above h2.reads e.symm)).trans h2.cell)
    exact ⟨this.1.2.2, this.2 2⟩
theorem OneMid.addWrite (h : OneMid W wx s ks ys kv rv) (n : Int) (hrow : w3.ownsRow (W.heap.size + 1) 3 1 v' (ks.length + 1) (ks.flatMap nC ++ nC n)) (hg : wx.grownBy w3 kv.ownBlock) : OneMid W (w3.setCell ⟨W.heap.size, 1, none⟩ v') s (ks ++ [n]) ys v' rv := by
  have hc := (hg.block _ (lt_of_block h.cell) (fun e => own_above h.writes e.symm)).trans h.cell
  refine ⟨(three_one hc v').1, ownsRow_setCell_below (Rows'.own_snoc hrow) (by show W.heap.size < W.heap.size + 1; omega) _, ownsRow_setCell_below (h.reads.kept hg (own_types h.reads h.writes (by decide))) (by show W.heap.size < W.heap.size + 1; omega) _, ?_⟩
  exact (h.below.grown hg h.below.size (fun j hj => by have := (h.writes.lt j hj).1; omega)).setCell (Nat.le_refl _) _
theorem OneMid.addRead (h : OneMid W wx s ks ys kv rv) (y : Int × Int) (hrow : w3.ownsRow (W.heap.size + 1) 62 2 v' (ys.length + 1) (ys.flatMap itC ++ itC y)) (hg : wx.grownBy w3 rv.ownBlock) : OneMid W (w3.setCell ⟨W.heap.size, 2, none⟩ v') s ks (ys ++ [y]) kv v' := by
  have hc := (hg.block _ (lt_of_block h.cell) (fun e => own_above h.reads e.symm)).trans h.cell
  refine ⟨(three_one hc v').2, ownsRow_setCell_below (h.writes.kept hg (own_types h.writes h.reads (by decide))) (by show W.heap.size < W.heap.size + 1; omega) _, ownsRow_setCell_below (Rows'.own_snoc hrow) (by show W.heap.size < W.heap.size + 1; omega) _, ?_⟩
  exact (h.below.grown hg h.below.size (fun j hj => by have := (h.reads.lt j hj).1; omega)).setCell (Nat.le_refl _) _
end
end Go.Proofs.Ytahacjfeopjbaaa
/-
  What the reference's Hist of layer 7 answers: So.histR; what was in memory stays as it was.
  Conditions: a row of ops has at most 2^32 elements.
  (This program has not all of these functions: rresults_hist, rend_hist, rhist_no, rHist7_at are left out here.)
-/
set_option maxRecDepth 4000
namespace Go.Proofs.Ytahacjfeopjbaaa
open Go.RowKit

/-- While the history is filled: its variable lies at W's end. -/
structure RHistMid (W wx : World) (l : List Gr.Tx) (k : Nat) (V : Value) (p : List (So.Txn × Value × Value)) : Prop where
  cell : wx.heap[W.heap.size]? = some (.cells #[V] 24 (0, 0))
  own : OwnTxns 65 3 62 wx (W.heap.size + 1) V p
  same : p.map (·.1) = ((l.take k).filter (·.done)).map (So.txnOf l)
  below : Below W.heap.size W wx
section
variable {W wx w3 : World} {l : List Gr.Tx} {k : Nat} {V v' kv rv : Value} {p : List (So.Txn × Value × Value)}
theorem RHistMid.later (h : RHistMid W wx l k V p) (hb : Below wx.heap.size wx w3) : RHistMid W w3 l k V p := ⟨(hb.block _ (lt_of_block h.cell)).trans h.cell, h.own.below hb, h.same, below_all h.below hb⟩
theorem RHistMid.free (h : RHistMid W wx l k V p) (hg : wx.grownBy w3 V.ownBlock) : w3.cell? ⟨W.heap.size, 0, none⟩ = some V ∧ w3.frozen? ⟨W.heap.size, 0, none⟩ = false :=
  one_cell ((hg.block _ (lt_of_block h.cell) (fun e => own_above h.own.row e.symm)).trans h.cell)
theorem RHistMid.more (h : RHistMid W wx l k V p) (hk : k < l.length) (hd : l[k].done = true)
    (hkv : wx.ownsRow (W.heap.size + 1) 3 1 kv (So.txnOf l l[k]).writes.length ((So.txnOf l l[k]).writes.flatMap nC)) (hrv : wx.ownsRow (W.heap.size + 1) 62 2 rv (So.txnOf l l[k]).reads.length ((So.txnOf l l[k]).reads.flatMap itC))
    (hrow : w3.ownsRow (W.heap.size + 1) 65 3 v' (p.length + 1) (p.flatMap txnC ++ txnC (So.txnOf l l[k], kv, rv))) (hg : wx.grownBy w3 V.ownBlock) :
    RHistMid W (w3.setCell ⟨W.heap.size, 0, none⟩ v') l (k + 1) v' (p ++ [(So.txnOf l l[k], kv, rv)]) := by
  have hc := (hg.block _ (lt_of_block h.cell) (fun e => own_above h.own.row e.symm)).trans h.cell
  refine ⟨one_set hc v', (h.own.snoc (by decide) (by decide) hkv hrv hrow hg).set (by show W.heap.size < W.heap.size + 1; omega) _, ?_, ?_⟩
  · rw [So.txns_step l k hk, hd, List.map_append, h.same]
    simp
  · exact (h.below.grown hg h.below.size (fun j hj => by have := (h.own.row.lt j hj).1; omega)).setCell (Nat.le_refl _) _
end
end Go.Proofs.Ytahacjfeopjbaaa
