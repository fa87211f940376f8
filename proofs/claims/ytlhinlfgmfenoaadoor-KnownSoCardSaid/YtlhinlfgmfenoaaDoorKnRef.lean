/-
  What the reference's So, Wr, Init and Past of layer 17 answer.
  Conditions: a history that may be.
  (This program has not all of these functions: rSo17_at is left out here.)
-/
import Derived.Test.YtlhinlfgmfenoaaDoorKnPlain
import Derived.Test.YtlhinlfgmfenoaaDoorGfRef
import Derived.Test.YtlhinlfgmfenoaaDoorHiRef
import Derived.BigRegion
import Derived.Deep.RegionHeld3
set_option maxRecDepth 4000
namespace Go.Proofs.YtlhinlfgmfenoaaDoor
open Go.RowKit

namespace Kn
open Gf (bit Ok build)
open So (Txn)
/-- A graph that is filled, edge by edge. -/
theorem build_same {n : Nat} (hn : n ≤ 64) {f g : Nat → Nat → Bool} (h : ∀ x y, x < n → y < n → f x y = g x y) : build n f = build n g :=
  Gf.same (Gf.build_ok hn f) (Gf.build_ok hn g) fun x y hx hy => by rw [Gf.build_bit hn, Gf.build_bit hn, h x y hx hy]
theorem build_none {n : Nat} (hn : n ≤ 64) {f : Nat → Nat → Bool} (h : ∀ x y, x < n → y < n → f x y = false) : build n f = Gf.zeros n :=
  Gf.same (Gf.build_ok hn f) (Gf.zeros_ok hn) fun x y hx hy => by rw [Gf.build_bit hn, Gf.zeros_bit, h x y hx hy]; simp
theorem build_with {n : Nat} (hn : n ≤ 64) (f : Nat → Nat → Bool) {x y : Nat} (hx : x < n) (hy : y < n) (hl : x < (build n f).length) :
    (build n f).set x (Bi.withN (build n f)[x] (y : Int)) = build n fun a b => f a b || (decide (a = x) && decide (b = y)) := by
  have e : (build n f).set x (Bi.withN (build n f)[x] (y : Int)) = Gf.addR (build n f) x y := by
    unfold Gf.addR
    rw [List.getD_eq_getElem?_getD, List.getElem?_eq_getElem hl]
    rfl
  rw [e]
  refine Gf.same (Gf.add_ok (Gf.build_ok hn f) hx hy) (Gf.build_ok hn _) fun u v hu hv => ?_
  rw [Gf.add_bit (Gf.build_ok hn f) hx hy, Gf.build_bit hn, Gf.build_bit hn, decide_eq_true hu, decide_eq_true hv]
  simp
/-- The sessions' order, filled row by row. -/
def soTo (h : List Txn) (x y a b : Nat) : Bool := soB h a b && (decide (a < x) || (decide (a = x) && decide (b < y)))
theorem soTo_zero {h : List Txn} (hn : h.length ≤ 64) : build h.length (soTo h 0 0) = Gf.zeros h.length := build_none hn fun x y _ _ => by simp [soTo]
theorem soTo_all {h : List Txn} (hn : h.length ≤ 64) : build h.length (soTo h h.length 0) = soR h := build_same hn fun x y hx _ => by simp [soTo, hx]
theorem soTo_row {h : List Txn} (hn : h.length ≤ 64) (x : Nat) : build h.length (soTo h x 0) = build h.length (soTo h x (x + 1)) := build_same hn fun a b _ _ => by
  unfold soTo
  by_cases e : a = x
  · subst e
    by_cases q : b < a + 1
    · have : soB h a b = false := by
        unfold soB
        rw [decide_eq_false (by omega), Bool.false_and]
      rw [this, Bool.false_and, Bool.false_and]
    · simp [q]
  · simp [e]
theorem soTo_next {h : List Txn} (hn : h.length ≤ 64) (x : Nat) : build h.length (soTo h x h.length) = build h.length (soTo h (x + 1) 0) := build_same hn fun a b _ hb => by
  unfold soTo
  congr 1
  by_cases e : a = x
  · subst e
    simp [hb]
  · by_cases q : a < x
    · simp [q, Nat.lt_succ_of_lt q]
    · rw [decide_eq_false q, decide_eq_false e, decide_eq_false (by omega : ¬ a < x + 1)]
      simp
theorem soTo_yes {h : List Txn} {x y : Nat} (hs : soB h x y = true) (a b : Nat) : (soTo h x y a b || (decide (a = x) && decide (b = y))) = soTo h x (y + 1) a b := by
  unfold soTo
  by_cases e : a = x
  · subst e
    by_cases q : b = y
    · subst q
      simp [hs]
    · have h1 : decide (b < y + 1) = decide (b < y) := by
        by_cases r : b < y
        · rw [decide_eq_true r, decide_eq_true (by omega)]
        · rw [decide_eq_false r, decide_eq_false (by omega)]
      rw [h1]
      simp [q]
  · simp [e]
theorem soTo_no {h : List Txn} (hn : h.length ≤ 64) {x y : Nat} (hs : soB h x y = false) : build h.length (soTo h x y) = build h.length (soTo h x (y + 1)) := build_same hn fun a b _ _ => by
  unfold soTo
  by_cases e : a = x
  · subst e
    by_cases q : b = y
    · subst q
      rw [hs]
      rfl
    · have h1 : decide (b < y + 1) = decide (b < y) := by
        by_cases r : b < y
        · rw [decide_eq_true r, decide_eq_true (by omega)]
        · rw [decide_eq_false r, decide_eq_false (by omega)]
      rw [h1]
  · simp [e]
end Kn

theorem box_at {W W' : World} {b g : Nat} {t : TypeId} {v : Value} (h : Boxed W b t v) (hb : Below g W W') (hg : b < g) : Boxed W' b t v := (hb.block b hg).trans h
/-- The world at the first call: the history and the result lie in variables. -/
theorem kn_one (w : World) (u : Value) {W : World} (h : W = (w.alloc (.cells #[u] 24)).alloc (.cells #[.int .i64 0, .slice none 0 0] 36)) :
    Boxed W w.heap.size 24 u ∧ Two W (w.heap.size + 1) 36 (.int .i64 0) (.slice none 0 0) ∧ Below w.heap.size w W := by
  subst h
  have b1 := alloc_below w (.cells #[u] 24)
  have b2 := alloc_below (w.alloc (.cells #[u] 24)) (.cells #[.int .i64 0, .slice none 0 0] 36)
  have t1 := Two.new (w.alloc (.cells #[u] 24)) 36 (.int .i64 0) (.slice none 0 0)
  rw [World.size_alloc] at t1
  exact ⟨box_at (Boxed.new w 24 u) b2 (by rw [World.size_alloc]; exact Nat.lt_succ_self _), t1, below_all b1 b2⟩

end Go.Proofs.YtlhinlfgmfenoaaDoor
