/-
  DERIVED. GIVEN WITH THE SEED: THE CARDS: each row of YtlhinlfgmfenoaaDoorRows.lean that lists a variable, with what it lists TIED to the program's text (the seventh form; the later family's looks); each row that meets fmt, with fmt's text TOLD by the authors' own Lean function (tested against real Go, not proved from fmt's source: count such statements apart). THE CARD IS WHAT COUNTS. Prove the row's statement (the work); the ties are given (YtlhinlfgmfenoaaDoorTie.lean); close each card by the builder's one call (the guide's Derived/Test/ToyasCard.lean, 'card_holds'). Laid BY PROGRAM, IN A SANDBOX (cutbox-door.mjs). By AI agents, Wed Nov 11 2026. No macro, syntax, notation, axiom, sorry.
-/
import Derived.Test.YtlhinlfgmfenoaaDoorRows
import GoSem.ClaimSeven
namespace Go.Proofs.YtlhinlfgmfenoaaDoor
namespace Rows

/-- THE TIED CARD OF 'inquestlaw17.KnownSo'. -/
def knownSoCard : Claim7 := { stood := { row := knownSoRow, standIns := [], harness := (true, "7bbfd36294fcd6ee8bacf7df38ba75b326f884cd32ea0aa15f41423769492b9a"), looks := false }, kinds := [], alts := [], laidByText := true, laidKinds := [.data], laidTests := true, laidLooks := .later }
def KnownSoCardSaid : Prop := Claim7.holds Tryd.pinned (.plain (OpenSpec.ofChange knownSoSpec)) knownSoCard

/-- THE SECOND FORM's CARD OF 'inquestlaw17.KnownSo'. -/
def knownSoUptoCard : Claim7 := { stood := { row := knownSoUptoRow, standIns := [], harness := (true, "7bbfd36294fcd6ee8bacf7df38ba75b326f884cd32ea0aa15f41423769492b9a"), looks := false }, kinds := [], alts := [], laidByText := true, laidKinds := [.data], laidTests := true, laidLooks := .later }
def KnownSoUptoCardSaid : Prop := Claim7.holds Tryd.pinned (.plain (OpenSpec.upto knownSoSpec)) knownSoUptoCard
end Rows
end Go.Proofs.YtlhinlfgmfenoaaDoor
