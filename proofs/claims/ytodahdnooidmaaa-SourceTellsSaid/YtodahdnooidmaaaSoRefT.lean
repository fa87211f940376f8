/-
  Words for a variable of two cells: how it lasts.
  Conditions: none beyond those that each theorem states.
-/
import Derived.Test.YtodahdnooidmaaaSoRefB
set_option maxRecDepth 4000
namespace Go.Proofs.Ytodahdnooidmaaa
open Go.RowKit

/-- A variable of two cells. -/
def TwoV (w : World) (b : Nat) (x y : Value) : Prop := w.cell? ⟨b, 0, none⟩ = some x ∧ w.cell? ⟨b, 1, none⟩ = some y
theorem TwoV.below {w w' : World} {b : Nat} {x y : Value} (h : TwoV w b x y) (hb : Below w.heap.size w w') : TwoV w' b x y :=
  ⟨(hb.cell (World.block_lt_of_cell? w _ h.1)).trans h.1, (hb.cell (World.block_lt_of_cell? w _ h.2)).trans h.2⟩
theorem twoV_new (w : World) (x y : Value) (t : TypeId) : TwoV (w.alloc (.cells #[x, y] t)) w.heap.size x y := ⟨new_cell w _ _ 0 _ rfl, new_cell w _ _ 1 _ rfl⟩
end Go.Proofs.Ytodahdnooidmaaa
