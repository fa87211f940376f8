/-
  Rows of choices that are copied and get one more; what one choice more may be, and that a choice is an edge.
  Conditions: none beyond those that each theorem states.
-/
import Derived.Test.YtahacjfeopjbaaaChAns
import Derived.Test.YtahacjfeopjbaaaStAll
import Derived.Test.YtahacjfeopjbaaaGfAll
set_option maxRecDepth 4000
namespace Go.Proofs.Ytahacjfeopjbaaa
open Go.RowKit

theorem tri_ones (l : List (Int × Int × Int)) : ∀ u ∈ l.flatMap triC, u.oneCell' = true := by
  intro u hu
  obtain ⟨x, _, hx⟩ := List.mem_flatMap.1 hu
  exact one_triC x u hx
theorem tri_more {W : World} {base : Nat} {v : Value} {l : List (Int × Int × Int)} {x : Int × Int × Int} (h : W.ownsRow base 38 3 v (l.length + 1) (l.flatMap triC ++ triC x)) : Tris W v (l ++ [x]) := by
  refine Rows'.own (base := base) (e := 38) ?_
  rw [List.length_append, List.flatMap_append]
  simpa using h
/-- A variable of any number of cells. -/
def Cs (W : World) (b : Nat) (t : TypeId) (l : List Value) : Prop := W.heap[b]? = some (.cells l.toArray t (0, 0))
theorem Cs.new (W : World) (t : TypeId) (l : List Value) : Cs (W.alloc (.cells l.toArray t)) W.heap.size t l := World.alloc_heap_new W _
theorem Cs.lt {W : World} {b : Nat} {t : TypeId} {l : List Value} (h : Cs W b t l) : b < W.heap.size := (Array.getElem?_eq_some_iff.1 h).1
theorem Cs.later {W W' : World} {b : Nat} {t : TypeId} {l : List Value} (h : Cs W b t l) (hb : Below W.heap.size W W') : Cs W' b t l := (hb.block b h.lt).trans h
theorem Cs.cell {W : World} {b : Nat} {t : TypeId} {l : List Value} (h : Cs W b t l) (k : Nat) (v : Value) (hk : l[k]? = some v) : W.cell? ⟨b, k, none⟩ = some v := by
  rw [cell_of_row W b k _ t (0, 0) h, List.getElem?_toArray, hk]
theorem tri_first {W : World} {A : Option Addr} {n c : Nat} {l : List (Int × Int × Int)} (h : Tris W (.slice A n c) l) (h0 : 0 < l.length) : ∃ ad : Addr, A = some ad ∧ ad.block < W.heap.size ∧ W.cell? ad = some (.int .i64 l[0].1) ∧ W.cell? ⟨ad.block, ad.off + 1, none⟩ = some (.int .i64 l[0].2.1) ∧ W.cell? ⟨ad.block, ad.off + 2, none⟩ = some (.int .i64 l[0].2.2) := by
  obtain ⟨A', c', e, hf⟩ := h.spelled
  cases e
  obtain ⟨ad, e, hb, h1, h2, h3⟩ := hf 0 h0
  rw [Nat.zero_mul, add_zero'] at h1 h2 h3
  exact ⟨ad, e, hb, h1, h2, h3⟩
namespace Ch
open Gf So
theorem right_more {h : List Txn} {l : List (Int × Int × Int)} (hl : l.length < 20000) (x : Int × Int × Int) : rightC h (l ++ [x]) = (rightC h l && oneB h x) := by
  rw [rightC, rightC, List.length_append, List.length_singleton, decide_eq_true (show l.length + 1 ≤ 20000 by omega), decide_eq_true (show l.length ≤ 20000 by omega), List.all_append, Bool.true_and, Bool.true_and, Bool.and_assoc]
  simp
theorem right_nil {h : List Txn} (hr : Hi.Right h) : rightC h [] = true := rightC_iff.2 ⟨hr, Nat.zero_le _, fun _ q => by cases q⟩
theorem one_back {h : List Txn} {c : Int × Int × Int} (hc : oneB h c = true) : oneB h (back c) = true := by
  obtain ⟨a, b, e, hne, ha, hb⟩ := oneB_iff.1 hc
  refine oneB_iff.2 ⟨b, a, ?_, hne.symm, hb, ha⟩
  rw [e]
  rfl
/-- A choice is an edge. -/
theorem full_has (si : Bool) {h : List Txn} {l : List (Int × Int × Int)} (hrc : rightC h l = true) {k a b : Int} (hc : (k, a, b) ∈ l) : hasR (h.length : Int) (fullR si h l) a b = true := by
  obtain ⟨hr, _, ho⟩ := rightC_iff.1 hrc
  obtain ⟨x, y, e, hi⟩ := all_spelled ho hc
  obtain ⟨rfl, rfl⟩ : a = (x : Int) ∧ b = (y : Int) := by simpa using e
  obtain ⟨h1, h2, _⟩ := isC_choices ho _ _ _ hi
  rw [hasR_nat (full_ok si hr) (wr_lt h1) (wr_lt h2), full_bit si hr ho]
  exact .inl (.inr (.inr ⟨_, hi⟩))
end Ch


end Go.Proofs.Ytahacjfeopjbaaa
