/-
  What the reference's Init of layer 17 answers.
  Conditions: a history that may be.
  (This program has not all of these functions: rInit17_at is left out here.)
-/
import Derived.Test.YtlhinlfgmfenoaaDoorKnRefB
set_option maxRecDepth 4000
namespace Go.Proofs.YtlhinlfgmfenoaaDoor
open Go.RowKit

namespace Kn
open Gf (bit Ok build)
open So (Txn)
/-- Does a read make an edge? -/
def initP (h : List Txn) (t : Nat) (y : Int × Int) (b : Nat) : Bool := Ix.writes h y.1 b && (decide (y.2 = -1) && decide (b ≠ t))
theorem initB_any (h : List Txn) (a b : Nat) : initB h a b = (readsAt h a).any fun y => initP h a y b := by
  unfold initB initP
  by_cases e : a = b
  · subst e
    simp
  · have e2 : b ≠ a := fun q => e q.symm
    rw [decide_eq_true (show a ≠ b from e), Bool.true_and]
    congr 1
    funext y
    rw [decide_eq_true e2, Bool.and_true, Bool.and_comm]
/-- Who reads what was there at first, filled read by read, and transaction by transaction. -/
def initTo (h : List Txn) (t i w a b : Nat) : Bool := (decide (a < t) && initB h a b) || (decide (a = t) && (((readsAt h t).take i).any (fun y => initP h t y b) || (decide (b < w) && (((readsAt h t)[i]?).map fun y => initP h t y b).getD false)))
theorem initTo_zero {h : List Txn} (hn : h.length ≤ 64) : build h.length (initTo h 0 0 0) = Gf.zeros h.length := build_none hn fun x y _ _ => by simp [initTo]
theorem initTo_all {h : List Txn} (hn : h.length ≤ 64) : build h.length (initTo h h.length 0 0) = initR h := build_same hn fun x y hx _ => by
  unfold initTo
  rw [decide_eq_true hx, decide_eq_false (Nat.ne_of_lt hx)]
  simp
theorem initTo_row {h : List Txn} (hn : h.length ≤ 64) {t i : Nat} (hi : (readsAt h t).length ≤ i) : build h.length (initTo h t i 0) = build h.length (initTo h (t + 1) 0 0) := build_same hn fun a b _ _ => by
  unfold initTo
  rw [List.take_of_length_le hi]
  by_cases e : a = t
  · subst e
    rw [← initB_any]
    simp
  · have h1 : decide (a < t + 1) = decide (a < t) := by
      by_cases r : a < t
      · rw [decide_eq_true r, decide_eq_true (by omega)]
      · rw [decide_eq_false r, decide_eq_false (by omega)]
    rw [h1]
    simp [e]
theorem initTo_next {h : List Txn} (hn : h.length ≤ 64) {t i : Nat} (hi : i < (readsAt h t).length) : build h.length (initTo h t i h.length) = build h.length (initTo h t (i + 1) 0) := build_same hn fun a b _ hb => by
  unfold initTo
  rw [any_next _ _ i hi, List.getElem?_eq_getElem hi, decide_eq_true hb]
  simp
theorem initTo_yes {h : List Txn} {t i w : Nat} (hi : i < (readsAt h t).length) (hp : initP h t (readsAt h t)[i] w = true) (a b : Nat) : (initTo h t i w a b || (decide (a = t) && decide (b = w))) = initTo h t i (w + 1) a b := by
  unfold initTo
  rw [List.getElem?_eq_getElem hi]
  by_cases e : a = t
  · subst e
    by_cases q : b = w
    · subst q
      simp [hp]
    · have h1 : decide (b < w + 1) = decide (b < w) := by
        by_cases r : b < w
        · rw [decide_eq_true r, decide_eq_true (by omega)]
        · rw [decide_eq_false r, decide_eq_false (by omega)]
      rw [h1]
      simp [q]
  · simp [e]
theorem initTo_no {h : List Txn} (hn : h.length ≤ 64) {t i w : Nat} (hi : i < (readsAt h t).length) (hp : initP h t (readsAt h t)[i] w = false) : build h.length (initTo h t i w) = build h.length (initTo h t i (w + 1)) := build_same hn fun a b _ _ => by
  unfold initTo
  rw [List.getElem?_eq_getElem hi]
  by_cases e : a = t
  · subst e
    by_cases q : b = w
    · subst q
      simp [hp]
    · have h1 : decide (b < w + 1) = decide (b < w) := by
        by_cases r : b < w
        · rw [decide_eq_true r, decide_eq_true (by omega)]
        · rw [decide_eq_false r, decide_eq_false (by omega)]
      rw [h1]
  · simp [e]
theorem reads_len {h : List Txn} (hr : Hi.Right h) (t : Nat) (ht : t < h.length) : h[t].reads.length ≤ 16 := by
  have h1 := (hr.2 t ht).reads
  have h2 := Ch.sub_len (l := (h[t].reads.map (·.1)).map Int.toNat) (m := List.range 16) (by
    rw [List.Nodup, List.pairwise_map]
    refine h1.2.imp_of_mem fun {a b} ha hb q e => ?_
    have := h1.1 a ha
    have := h1.1 b hb
    omega) (fun x hx => by
    obtain ⟨k, hk, rfl⟩ := List.mem_map.1 hx
    have := h1.1 k hk
    exact List.mem_range.2 (by omega))
  simpa using h2
theorem writes_len {h : List Txn} (hr : Hi.Right h) (t : Nat) (ht : t < h.length) : h[t].writes.length ≤ 16 := by
  have h1 := (hr.2 t ht).writes
  have h2 := Ch.sub_len (l := h[t].writes.map Int.toNat) (m := List.range 16) (by
    rw [List.Nodup, List.pairwise_map]
    refine h1.2.imp_of_mem fun {a b} ha hb q e => ?_
    have := h1.1 a ha
    have := h1.1 b hb
    omega) (fun x hx => by
    obtain ⟨k, hk, rfl⟩ := List.mem_map.1 hx
    have := h1.1 k hk
    exact List.mem_range.2 (by omega))
  simpa using h2
theorem writes_is {h : List Txn} {k : Int} {t : Nat} (ht : t < h.length) : Ix.writes h k t = decide (k ∈ h[t].writes) := by
  rw [Bool.eq_iff_iff, Ix.writes_iff, decide_eq_true_eq]
  exact ⟨fun ⟨_, q⟩ => q, fun q => ⟨ht, q⟩⟩
end Kn

end Go.Proofs.YtlhinlfgmfenoaaDoor
