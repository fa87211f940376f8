/-
  What the three functions of layer 14 answer, of any graph: components, of each node its component's number, and the nodes on cycles; and small facts on them.
  Conditions: none beyond those that each theorem states.
-/
import Derived.Test.YtgapcjgmmlffmaaDoorScPlain
import Derived.Test.YtgapcjgmmlffmaaDoorGfAll
set_option maxRecDepth 4000
namespace Go.Proofs.YtgapcjgmmlffmaaDoor
namespace Sc
open Gf Rc

def compsA (n : Int) (l : List Nat) : List (List Nat) := if okB n l = true then comps (tog n.toNat l) n.toNat else []
def whichA (n : Int) (l : List Nat) : List Nat := if okB n l = true then which (tog n.toNat l) n.toNat else []
def innerA (n : Int) (l : List Nat) : List Nat := if okB n l = true then innerR n.toNat l else []
theorem compsA_no {n : Int} {l : List Nat} (h : okB n l = false) : compsA n l = [] := by rw [compsA, h]; rfl
theorem whichA_no {n : Int} {l : List Nat} (h : okB n l = false) : whichA n l = [] := by rw [whichA, h]; rfl
theorem innerA_no {n : Int} {l : List Nat} (h : okB n l = false) : innerA n l = [] := by rw [innerA, h]; rfl
theorem compsA_yes {k : Nat} {l : List Nat} (h : Ok k l) : compsA (k : Int) l = comps (tog k l) k := by rw [compsA, (okB_nat k l).2 h, Int.toNat_natCast]; rfl
theorem whichA_yes {k : Nat} {l : List Nat} (h : Ok k l) : whichA (k : Int) l = which (tog k l) k := by rw [whichA, (okB_nat k l).2 h, Int.toNat_natCast]; rfl
theorem innerA_yes {k : Nat} {l : List Nat} (h : Ok k l) : innerA (k : Int) l = innerR k l := by rw [innerA, (okB_nat k l).2 h, Int.toNat_natCast]; rfl
theorem compsA_turn {k : Nat} {l : List Nat} (h : Ok k l) : compsA (k : Int) (turnR k l) = comps (tog k l) k := by rw [compsA_yes (show Ok k (turnR k l) from build_ok h.1 _), tog_turn h]
theorem innerA_turn {k : Nat} {l : List Nat} (h : Ok k l) : innerA (k : Int) (turnR k l) = innerR k l := by rw [innerA_yes (show Ok k (turnR k l) from build_ok h.1 _), inner_turn h]
theorem inner_len (k : Nat) (l : List Nat) : (innerR k l).length ≤ k := by
  unfold innerR
  have := List.length_filter_le (fun x => bit (closeR k l) x x) (List.range k)
  rw [List.length_range] at this
  exact this
theorem comps_len_le (t : Nat → Nat → Bool) (k : Nat) : (comps t k).length ≤ k := by rw [comps_len]; exact many_le k
theorem comps_each_le (t : Nat → Nat → Bool) (k : Nat) : ∀ x ∈ comps t k, x.length ≤ k := by
  intro x hx
  obtain ⟨v, _, rfl⟩ := List.mem_map.1 hx
  have := List.length_filter_le (t v) (List.range k)
  rw [List.length_range] at this
  exact this
end Sc
end Go.Proofs.YtgapcjgmmlffmaaDoor
