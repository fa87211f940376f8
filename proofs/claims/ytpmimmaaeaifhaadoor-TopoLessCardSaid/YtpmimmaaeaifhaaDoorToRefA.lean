/-
  What the reference's in, free and Order of layer 16 answer.
  Conditions: the graph is valid, or Order says no.
  (This program has not all of these functions: rIn16_at, rFree16_at, rOrder16_no, rOrder16_at are left out here.)
-/
import Derived.Test.YtpmimmaaeaifhaaDoorCyPlain
import Derived.Test.YtpmimmaaeaifhaaDoorGfRef
set_option maxRecDepth 4000
namespace Go.Proofs.YtpmimmaaeaifhaaDoor
open Go.RowKit
namespace To
open Gf Rc
/-- Does an edge lead to v from one of the first y nodes that is not there yet? -/
def ledTo (g d : List Nat) (v y : Nat) : Bool := (List.range y).any fun x => bit g x v && !d.contains x
theorem led_zero (g d : List Nat) (v : Nat) : ledTo g d v 0 = false := rfl
theorem led_next (g d : List Nat) (v y : Nat) : ledTo g d v (y + 1) = (ledTo g d v y || (bit g y v && !d.contains y)) := by
  simp [ledTo, List.range_succ]
theorem free_led (n : Nat) (g d : List Nat) (v : Nat) : freeB n g d v = (!(d.contains v) && !ledTo g d v n) := by
  rw [freeB]
  congr 1
  rw [ledTo, List.not_any_eq_all_not]
  congr 1
  funext x
  cases bit g x v <;> cases d.contains x <;> rfl
def freeI (n : Nat) (g d : List Nat) : Int := match free n g d with
  | none => -1
  | some v => v
theorem freeI_some {n : Nat} {g d : List Nat} {v : Nat} (hv : v < n) (hp : freeB n g d v = true) (hl : ∀ u, u < v → freeB n g d u = false) : freeI n g d = v := by
  rw [freeI, show free n g d = some v from Cy.first_is hv hp hl]
theorem freeI_none {n : Nat} {g d : List Nat} (hl : ∀ u, u < n → freeB n g d u = false) : freeI n g d = -1 := by
  rw [freeI, show free n g d = none from List.find?_eq_none.2 fun u hu => by rw [hl u (List.mem_range.1 hu)]; simp]
end To

/-- An order, or none. -/
def RetOrd (w : World) (o : Option (List Nat)) (e : Ending) (w' : World) : Prop := ∃ v, e = .returned (.tuple #[v, .bool o.isSome]) ∧ Ns w' v (Bi.nums (o.getD [])) ∧ Below w.heap.size w w'
end Go.Proofs.YtpmimmaaeaifhaaDoor
