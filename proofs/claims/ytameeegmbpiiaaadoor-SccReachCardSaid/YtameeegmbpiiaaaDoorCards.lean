/-
  DERIVED. GIVEN WITH THE SEED: THE CARDS: each row of YtameeegmbpiiaaaDoorRows.lean that lists a variable, with what it lists TIED to the program's text (the seventh form; the later family's looks); each row that meets fmt, with fmt's text TOLD by the authors' own Lean function (tested against real Go, not proved from fmt's source: count such statements apart). THE CARD IS WHAT COUNTS. Prove the row's statement (the work); the ties are given (YtameeegmbpiiaaaDoorTie.lean); close each card by the builder's one call (the guide's Derived/Test/ToyasCard.lean, 'card_holds'). Laid BY PROGRAM, IN A SANDBOX (cutbox-door.mjs). By AI agents, Wed Nov 11 2026. No macro, syntax, notation, axiom, sorry.
-/
import Derived.Test.YtameeegmbpiiaaaDoorRows
import GoSem.ClaimSeven
namespace Go.Proofs.YtameeegmbpiiaaaDoor
namespace Rows

/-- THE TIED CARD OF 'inquestlaw14.SccReach'. -/
def sccReachCard : Claim7 := { stood := { row := sccReachRow, standIns := [], harness := (true, "2a58bc8f51921e04df8ee2bc06f45a183214f3a043349ee58dfe5ce128852b2d"), looks := false }, kinds := [], alts := [], laidByText := true, laidKinds := [.data], laidTests := true, laidLooks := .later }
def SccReachCardSaid : Prop := Claim7.holds Tryd.pinned (.plain (OpenSpec.ofChange sccReachSpec)) sccReachCard

/-- THE TIED CARD OF 'inquestlaw14.SccTurned'. -/
def sccTurnedCard : Claim7 := { stood := { row := sccTurnedRow, standIns := [], harness := (true, "2a58bc8f51921e04df8ee2bc06f45a183214f3a043349ee58dfe5ce128852b2d"), looks := false }, kinds := [], alts := [], laidByText := true, laidKinds := [.data], laidTests := true, laidLooks := .later }
def SccTurnedCardSaid : Prop := Claim7.holds Tryd.pinned (.plain (OpenSpec.ofChange sccTurnedSpec)) sccTurnedCard

/-- THE SECOND FORM's CARD OF 'inquestlaw14.SccReach'. -/
def sccReachUptoCard : Claim7 := { stood := { row := sccReachUptoRow, standIns := [], harness := (true, "2a58bc8f51921e04df8ee2bc06f45a183214f3a043349ee58dfe5ce128852b2d"), looks := false }, kinds := [], alts := [], laidByText := true, laidKinds := [.data], laidTests := true, laidLooks := .later }
def SccReachUptoCardSaid : Prop := Claim7.holds Tryd.pinned (.plain (OpenSpec.upto sccReachSpec)) sccReachUptoCard

/-- THE SECOND FORM's CARD OF 'inquestlaw14.SccTurned'. -/
def sccTurnedUptoCard : Claim7 := { stood := { row := sccTurnedUptoRow, standIns := [], harness := (true, "2a58bc8f51921e04df8ee2bc06f45a183214f3a043349ee58dfe5ce128852b2d"), looks := false }, kinds := [], alts := [], laidByText := true, laidKinds := [.data], laidTests := true, laidLooks := .later }
def SccTurnedUptoCardSaid : Prop := Claim7.holds Tryd.pinned (.plain (OpenSpec.upto sccTurnedSpec)) sccTurnedUptoCard
end Rows
end Go.Proofs.YtameeegmbpiiaaaDoor
