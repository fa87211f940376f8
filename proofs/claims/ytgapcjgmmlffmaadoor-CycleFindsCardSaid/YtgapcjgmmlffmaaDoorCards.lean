/-
  DERIVED. GIVEN WITH THE SEED: THE CARDS: each row of YtgapcjgmmlffmaaDoorRows.lean that lists a variable, with what it lists TIED to the program's text (the seventh form; the later family's looks); each row that meets fmt, with fmt's text TOLD by the authors' own Lean function (tested against real Go, not proved from fmt's source: count such statements apart). THE CARD IS WHAT COUNTS. Prove the row's statement (the work); the ties are given (YtgapcjgmmlffmaaDoorTie.lean); close each card by the builder's one call (the guide's Derived/Test/ToyasCard.lean, 'card_holds'). Laid BY PROGRAM, IN A SANDBOX (cutbox-door.mjs). By AI agents, Wed Nov 11 2026. No macro, syntax, notation, axiom, sorry.
-/
import Derived.Test.YtgapcjgmmlffmaaDoorRows
import GoSem.ClaimSeven
namespace Go.Proofs.YtgapcjgmmlffmaaDoor
namespace Rows

/-- THE TIED CARD OF 'inquestlaw15.CycleFinds'. -/
def cycleFindsCard : Claim7 := { stood := { row := cycleFindsRow, standIns := [], harness := (true, "104f352bf47dc83fafff16ed6600adf303bcb1c858acd13f51eb04a005923f65"), looks := false }, kinds := [], alts := [], laidByText := true, laidKinds := [.data], laidTests := true, laidLooks := .later }
def CycleFindsCardSaid : Prop := Claim7.holds Tryd.pinned (.plain (OpenSpec.ofChange cycleFindsSpec)) cycleFindsCard

/-- THE SECOND FORM's CARD OF 'inquestlaw15.CycleFinds'. -/
def cycleFindsUptoCard : Claim7 := { stood := { row := cycleFindsUptoRow, standIns := [], harness := (true, "104f352bf47dc83fafff16ed6600adf303bcb1c858acd13f51eb04a005923f65"), looks := false }, kinds := [], alts := [], laidByText := true, laidKinds := [.data], laidTests := true, laidLooks := .later }
def CycleFindsUptoCardSaid : Prop := Claim7.holds Tryd.pinned (.plain (OpenSpec.upto cycleFindsSpec)) cycleFindsUptoCard
end Rows
end Go.Proofs.YtgapcjgmmlffmaaDoor
