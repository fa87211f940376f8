/-
  What the reference's Is of layer 16 answers.
  Conditions: rows of at most 4294967296.
  (This program has not all of these functions: rInI16_at, rIs16_at are left out here.)
-/
import Derived.Test.YtpmimmaaeaifhaaDoorCyRefC
import Derived.Test.YtpmimmaaeaifhaaDoorToRefA
import Derived.BigRegion
import Derived.Lib.QuietBelow
set_option maxRecDepth 4000
namespace Go.Proofs.YtpmimmaaeaifhaaDoor
open Go.RowKit

theorem ns_front {w : World} {A : Option Addr} {n c : Nat} {l : List Int} (h : Ns w (.slice A n c) l) (m : Nat) (hm : m ≤ l.length) : Ns w (.slice A m c) (l.take m) := by
  obtain ⟨h1, A1, c1, hv, hc, hz, hh⟩ := h
  cases hv
  have hlen : (l.take m).length = m := by rw [List.length_take]; omega
  refine ⟨by rw [flat_len nC_len], _, _, by rw [hlen], by rw [hlen]; omega, hz, fun h0 => ?_⟩
  rw [hlen] at h0
  obtain ⟨ad, e, hb, hcell⟩ := hh (by omega)
  refine ⟨ad, e, hb, fun j u hu => hcell j u ?_⟩
  have hj := (List.getElem?_eq_some_iff.1 hu).1
  rw [flat_len nC_len, hlen] at hj
  have e2 : l.flatMap nC = (l.take m).flatMap nC ++ (l.drop m).flatMap nC := by rw [← List.flatMap_append, List.take_append_drop]
  rw [e2, List.getElem?_append_left (by rw [flat_len nC_len, hlen]; omega)]
  exact hu
theorem ns_cap {w : World} {A : Option Addr} {n c : Nat} {l : List Int} (h : Ns w (.slice A n c) l) : l.length ≤ c := by
  obtain ⟨h1, A1, c1, hv, hc, hz, hh⟩ := h
  cases hv
  exact hc

namespace To
open Gf Rc
/-- An order, place by place: i is a node, not one of those ahead, no edge to itself or to one ahead. -/
def Good (k : Nat) (g : List Nat) (l : List Int) (i : Nat) (hi : i < l.length) : Prop := ∃ x : Nat, l[i] = (x : Int) ∧ x < k ∧ (x : Int) ∉ l.take i ∧ bit g x x = false ∧ ∀ j (hj : j < l.length), j < i → ∀ y : Nat, l[j] = (y : Int) → bit g x y = false
def IsO (n : Int) (g : List Nat) (l : List Int) : Prop := ∃ k : Nat, n = (k : Int) ∧ Ok k g ∧ l.length = k ∧ ∀ i (hi : i < l.length), Good k g l i hi
end To

end Go.Proofs.YtpmimmaaeaifhaaDoor
