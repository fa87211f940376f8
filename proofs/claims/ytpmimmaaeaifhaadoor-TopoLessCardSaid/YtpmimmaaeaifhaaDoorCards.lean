/-
  DERIVED. GIVEN WITH THE SEED: THE CARDS: each row of YtpmimmaaeaifhaaDoorRows.lean that lists a variable, with what it lists TIED to the program's text (the seventh form; the later family's looks); each row that meets fmt, with fmt's text TOLD by the authors' own Lean function (tested against real Go, not proved from fmt's source: count such statements apart). THE CARD IS WHAT COUNTS. Prove the row's statement (the work); the ties are given (YtpmimmaaeaifhaaDoorTie.lean); close each card by the builder's one call (the guide's Derived/Test/ToyasCard.lean, 'card_holds'). Laid BY PROGRAM, IN A SANDBOX (cutbox-door.mjs). By AI agents, Wed Nov 11 2026. No macro, syntax, notation, axiom, sorry.
-/
import Derived.Test.YtpmimmaaeaifhaaDoorRows
import GoSem.ClaimSeven
namespace Go.Proofs.YtpmimmaaeaifhaaDoor
namespace Rows

/-- THE TIED CARD OF 'inquestlaw16.TopoHas'. -/
def topoHasCard : Claim7 := { stood := { row := topoHasRow, standIns := [], harness := (true, "b157f8f1df5d9e1e9a42befb13e725b0bfabffd708180cc2be741a7c6106ec18"), looks := false }, kinds := [], alts := [], laidByText := true, laidKinds := [.data], laidTests := true, laidLooks := .later }
def TopoHasCardSaid : Prop := Claim7.holds Tryd.pinned (.plain (OpenSpec.ofChange topoHasSpec)) topoHasCard

/-- THE TIED CARD OF 'inquestlaw16.TopoLess'. -/
def topoLessCard : Claim7 := { stood := { row := topoLessRow, standIns := [], harness := (true, "b157f8f1df5d9e1e9a42befb13e725b0bfabffd708180cc2be741a7c6106ec18"), looks := false }, kinds := [], alts := [], laidByText := true, laidKinds := [.data], laidTests := true, laidLooks := .later }
def TopoLessCardSaid : Prop := Claim7.holds Tryd.pinned (.plain (OpenSpec.ofChange topoLessSpec)) topoLessCard

/-- THE SECOND FORM's CARD OF 'inquestlaw16.TopoHas'. -/
def topoHasUptoCard : Claim7 := { stood := { row := topoHasUptoRow, standIns := [], harness := (true, "b157f8f1df5d9e1e9a42befb13e725b0bfabffd708180cc2be741a7c6106ec18"), looks := false }, kinds := [], alts := [], laidByText := true, laidKinds := [.data], laidTests := true, laidLooks := .later }
def TopoHasUptoCardSaid : Prop := Claim7.holds Tryd.pinned (.plain (OpenSpec.upto topoHasSpec)) topoHasUptoCard

/-- THE SECOND FORM's CARD OF 'inquestlaw16.TopoLess'. -/
def topoLessUptoCard : Claim7 := { stood := { row := topoLessUptoRow, standIns := [], harness := (true, "b157f8f1df5d9e1e9a42befb13e725b0bfabffd708180cc2be741a7c6106ec18"), looks := false }, kinds := [], alts := [], laidByText := true, laidKinds := [.data], laidTests := true, laidLooks := .later }
def TopoLessUptoCardSaid : Prop := Claim7.holds Tryd.pinned (.plain (OpenSpec.upto topoLessSpec)) topoLessUptoCard
end Rows
end Go.Proofs.YtpmimmaaeaifhaaDoor
