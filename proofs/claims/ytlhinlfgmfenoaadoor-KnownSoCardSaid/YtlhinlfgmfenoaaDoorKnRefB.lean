/-
  What the reference's Wr of layer 17 answers.
  Conditions: a history that may be.
  (This program has not all of these functions: rWr17_at is left out here.)
-/
import Derived.Test.YtlhinlfgmfenoaaDoorKnRef
set_option maxRecDepth 4000
namespace Go.Proofs.YtlhinlfgmfenoaaDoor
open Go.RowKit

namespace Kn
open Gf (bit Ok build)
open So (Txn)
theorem readsAt_is {h : List Txn} {t : Nat} (ht : t < h.length) : readsAt h t = h[t].reads := by rw [readsAt, List.getElem?_eq_getElem ht]
/-- Who reads from whom, filled read by read. -/
def wrTo (h : List Txn) (t i a b : Nat) : Bool := (decide (b < t) && wrB h a b) || (decide (b = t) && ((readsAt h t).take i).any fun y => decide (y.2 = (a : Int)))
theorem wrTo_zero {h : List Txn} (hn : h.length ≤ 64) : build h.length (wrTo h 0 0) = Gf.zeros h.length := build_none hn fun x y _ _ => by simp [wrTo]
theorem wrTo_all {h : List Txn} (hn : h.length ≤ 64) : build h.length (wrTo h h.length 0) = wrR h := build_same hn fun x y _ hy => by simp [wrTo, hy]
theorem wrTo_next {h : List Txn} (hn : h.length ≤ 64) {t i : Nat} (hi : (readsAt h t).length ≤ i) : build h.length (wrTo h t i) = build h.length (wrTo h (t + 1) 0) := build_same hn fun a b _ _ => by
  unfold wrTo
  rw [List.take_of_length_le hi]
  by_cases e : b = t
  · subst e
    simp [wrB]
  · have h1 : decide (b < t + 1) = decide (b < t) := by
      by_cases r : b < t
      · rw [decide_eq_true r, decide_eq_true (by omega)]
      · rw [decide_eq_false r, decide_eq_false (by omega)]
    rw [h1]
    simp [e]
theorem any_next {α : Type} (l : List α) (p : α → Bool) (i : Nat) (hi : i < l.length) : (l.take (i + 1)).any p = ((l.take i).any p || p l[i]) := by
  rw [List.take_succ_eq_append_getElem hi, List.any_append]
  simp
theorem wrTo_yes {h : List Txn} {t i x : Nat} (hi : i < (readsAt h t).length) (hx : ((readsAt h t)[i]).2 = (x : Int)) (a b : Nat) : (wrTo h t i a b || (decide (a = x) && decide (b = t))) = wrTo h t (i + 1) a b := by
  unfold wrTo
  rw [any_next _ _ i hi, hx]
  have e : decide ((x : Int) = (a : Int)) = decide (a = x) := by
    by_cases q : a = x
    · rw [q]; simp
    · rw [decide_eq_false q, decide_eq_false (by omega)]
  rw [e]
  cases decide (b < t) && wrB h a b <;> cases decide (b = t) <;> cases decide (a = x) <;> simp
theorem wrTo_no {h : List Txn} (hn : h.length ≤ 64) {t i : Nat} (hi : i < (readsAt h t).length) (hx : ((readsAt h t)[i]).2 < 0) : build h.length (wrTo h t i) = build h.length (wrTo h t (i + 1)) := build_same hn fun a b _ _ => by
  unfold wrTo
  rw [any_next _ _ i hi, decide_eq_false (by omega : ¬ ((readsAt h t)[i]).2 = (a : Int)), Bool.or_false]
end Kn

end Go.Proofs.YtlhinlfgmfenoaaDoor
