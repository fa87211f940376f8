/-
  What the reference's Find of layer 15 answers.
  Conditions: none beyond those that each theorem states.
  (This program has not all of these functions: rFind15_no, rFind15_at are left out here.)
-/
import Derived.Test.YtpmimmaaeaifhaaDoorCyRefA
set_option maxRecDepth 4000
namespace Go.Proofs.YtpmimmaaeaifhaaDoor
open Go.RowKit
namespace Cy
open Gf Rc To
theorem row_at {n : Nat} {g : List Nat} {v k j : Nat} (hj : j < (row n g v k).length) : (row n g v k)[j] = far n g v k j := by simp only [row, List.getElem_map, List.getElem_range]
/-- What is found of a test over numbers, from behind, down to m: the least, or -1. -/
def Nx (p : Nat → Bool) (n m : Nat) (nx : Int) : Prop := (nx = -1 ∧ ∀ y, m ≤ y → y < n → p y = false) ∨ ∃ z : Nat, nx = z ∧ m ≤ z ∧ z < n ∧ p z = true ∧ ∀ y, m ≤ y → y < z → p y = false
theorem nx_start {p : Nat → Bool} {n : Nat} : Nx p n n (-1) := .inl ⟨rfl, fun y h1 h2 => by omega⟩
theorem nx_yes {p : Nat → Bool} {n m : Nat} (hm : m < n) (hp : p m = true) : Nx p n m m := .inr ⟨m, rfl, Nat.le_refl _, hm, hp, fun y h1 h2 => by omega⟩
theorem nx_no {p : Nat → Bool} {n m : Nat} {nx : Int} (h : Nx p n (m + 1) nx) (hp : p m = false) : Nx p n m nx := by
  have hy : ∀ y, m ≤ y → y = m ∨ m + 1 ≤ y := fun y h => by omega
  rcases h with ⟨e, h⟩ | ⟨z, e, h1, h2, h3, h4⟩
  · refine .inl ⟨e, fun y a b => ?_⟩
    rcases hy y a with rfl | q
    · exact hp
    · exact h y q b
  · refine .inr ⟨z, e, by omega, h2, h3, fun y a b => ?_⟩
    rcases hy y a with rfl | q
    · exact hp
    · exact h4 y q b
theorem nx_end {p : Nat → Bool} {n z : Nat} {nx : Int} (h : Nx p n 0 nx) (hf : (List.range n).find? p = some z) : nx = z := by
  obtain ⟨h1, h2, h3⟩ := first_of hf
  rcases h with ⟨_, h⟩ | ⟨y, e, _, a, b, c⟩
  · rw [h z (Nat.zero_le _) h1] at h2; cases h2
  · rcases Nat.lt_trichotomy y z with q | q | q
    · rw [h3 y q] at b; cases b
    · rw [e, q]
    · rw [c z (Nat.zero_le _) q] at h2; cases h2
theorem findR_at {n : Nat} {g : List Nat} {v m : Nat} (hv : v < n) (h : far n g v n v = m + 1) (hu : ∀ u, u < v → far n g u n u = 0) : findR n g = v :: back n g v m v := by
  have : (List.range n).find? (fun v => decide (far n g v n v ≠ 0)) = some v := first_is hv (decide_eq_true (by omega)) fun u q => decide_eq_false (by rw [hu u q]; simp)
  rw [findR, this]
  show v :: back n g v (far n g v n v - 1) v = _
  rw [h]
  rfl
theorem findR_no {n : Nat} {g : List Nat} (hu : ∀ u, u < n → far n g u n u = 0) : findR n g = [] := by
  have : (List.range n).find? (fun v => decide (far n g v n v ≠ 0)) = none := List.find?_eq_none.2 fun u q => by rw [hu u (List.mem_range.1 q)]; simp
  rw [findR, this]
end Cy

end Go.Proofs.YtpmimmaaeaifhaaDoor
