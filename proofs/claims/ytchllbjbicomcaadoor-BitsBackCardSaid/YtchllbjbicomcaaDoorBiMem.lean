/-
  Words for what bits works with in memory: rows of numbers and rows of sets (uint64), how they last and grow, and the library's table for the lowest bit.
  Conditions: none beyond those that each theorem states.
-/
import Derived.Test.YtchllbjbicomcaaDoorBiBits
import Derived.Test.YtchllbjbicomcaaDoorBiCount
import Derived.Test.YtchllbjbicomcaaDoorSoAll
set_option maxRecDepth 4000
namespace Go.Proofs.YtchllbjbicomcaaDoor
open Go.RowKit

namespace Bi
/-- A row of natural numbers, as a row of integers. -/
def nums (l : List Nat) : List Int := l.map fun (k : Nat) => (k : Int)
theorem nums_len (l : List Nat) : (nums l).length = l.length := List.length_map _
theorem nums_at (l : List Nat) (k : Nat) (hk : k < l.length) : (nums l)[k]'(by rw [nums_len]; exact hk) = (l[k] : Int) := List.getElem_map _
theorem nums_snoc (l : List Nat) (n : Nat) : nums (l ++ [n]) = nums l ++ [(n : Int)] := by simp [nums]
end Bi

/-! Rows of sets. -/
def uC (n : Nat) : List Value := [.int .u64 (n : Int)]
theorem uC_len (n : Nat) : (uC n).length = 1 := rfl
theorem one_uC (n : Nat) : ∀ u ∈ uC n, u.oneCell' = true := by
  intro u hu
  rw [List.mem_singleton.1 hu]
  rfl
def Us (w : World) (v : Value) (l : List Nat) : Prop := Rows' 1 uC w v l
theorem Us.below {w w' : World} {v : Value} {l : List Nat} (h : Us w v l) (hb : Below w.heap.size w w') : Us w' v l := Rows'.below h hb
theorem Us.nil (w : World) (A : Option Addr) : Us w (.slice A 0 0) [] := Rows'.nil w A
theorem Us.spelled {w : World} {v : Value} {l : List Nat} (h : Us w v l) : ∃ A c, v = .slice A l.length c ∧ ∀ (k : Nat) (hk : k < l.length), ∃ ad : Addr, A = some ad ∧ ad.block < w.heap.size ∧ w.cell? (ad.add k) = some (.int .u64 (l[k] : Int)) := by
  obtain ⟨A, c, hv, hh⟩ := Rows'.form uC_len h
  refine ⟨A, c, hv, fun k hk => ?_⟩
  obtain ⟨ad, e, hb, hc⟩ := hh k hk
  refine ⟨ad, e, hb, ?_⟩
  have := hc 0 _ rfl
  rwa [Nat.mul_one, Nat.add_zero] at this
theorem nums_own {W : World} {base : Nat} {e : TypeId} {v : Value} {d : List Nat} (h : W.ownsRow base e 1 v d.length ((Bi.nums d).flatMap nC)) : Ns W v (Bi.nums d) := by
  refine Rows'.own (base := base) (e := e) ?_
  rw [Bi.nums_len]
  exact h
theorem nums_more {W : World} {base : Nat} {e : TypeId} {v : Value} {d : List Nat} {n : Nat} (h : W.ownsRow base e 1 v (d.length + 1) ((Bi.nums d).flatMap nC ++ nC (n : Int))) : W.ownsRow base e 1 v (d ++ [n]).length ((Bi.nums (d ++ [n])).flatMap nC) := by
  rw [Bi.nums_snoc, flat_snoc, List.length_append]
  exact h

/-! A row of numbers, as the walk spells it. -/
theorem Ns.nums {w : World} {v : Value} {l : List Nat} (h : Ns w v (Bi.nums l)) : ∃ A c, v = .slice A l.length c ∧ ∀ (k : Nat) (hk : k < l.length), ∃ ad : Addr, A = some ad ∧ ad.block < w.heap.size ∧ w.cell? (ad.add k) = some (.int .i64 (l[k] : Int)) := by
  obtain ⟨A, c, hv, hf⟩ := h.spelled
  rw [Bi.nums_len] at hv
  refine ⟨A, c, hv, fun k hk => ?_⟩
  have := hf k (by rw [Bi.nums_len]; exact hk)
  rw [Bi.nums_at l k hk] at this
  exact this

/-- The library's table for the lowest bit, in its variable. -/
def TZ (w : World) : Prop := ∀ k, k < 64 → w.cell? ⟨0, k, none⟩ = some (.int .u8 (Lib.deBruijn64tab.getD k 0 : Nat))
theorem TZ.below {w w' : World} (h : TZ w) (hb : Below w.heap.size w w') : TZ w' := fun k hk => (hb.cell (World.block_lt_of_cell? w _ (h k hk))).trans (h k hk)
/-- A row of numbers that a call hands back, of its own. -/
def RetElems (w : World) (l : List Nat) (e : Ending) (w' : World) : Prop := ∃ v, e = .returned v ∧ w'.ownsRow w.heap.size 3 1 v l.length ((Bi.nums l).flatMap nC) ∧ Below w.heap.size w w'
end Go.Proofs.YtchllbjbicomcaaDoor
