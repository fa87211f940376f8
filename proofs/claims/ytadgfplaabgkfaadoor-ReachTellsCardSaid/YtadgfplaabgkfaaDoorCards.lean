/-
  DERIVED. GIVEN WITH THE SEED: THE CARDS: each row of YtadgfplaabgkfaaDoorRows.lean that lists a variable, with what it lists TIED to the program's text (the seventh form; the later family's looks); each row that meets fmt, with fmt's text TOLD by the authors' own Lean function (tested against real Go, not proved from fmt's source: count such statements apart). THE CARD IS WHAT COUNTS. Prove the row's statement (the work); the ties are given (YtadgfplaabgkfaaDoorTie.lean); close each card by the builder's one call (the guide's Derived/Test/ToyasCard.lean, 'card_holds'). Laid BY PROGRAM, IN A SANDBOX (cutbox-door.mjs). By AI agents, Wed Nov 11 2026. No macro, syntax, notation, axiom, sorry.
-/
import Derived.Test.YtadgfplaabgkfaaDoorRows
import GoSem.ClaimSeven
namespace Go.Proofs.YtadgfplaabgkfaaDoor
namespace Rows

/-- THE TIED CARD OF 'inquestlaw13.ReachTells'. -/
def reachTellsCard : Claim7 := { stood := { row := reachTellsRow, standIns := [], harness := (true, "a931ca0fd4810bbd47bcfbcb73a44e35ffe80c07859b9d77e7b5a57491318e1c"), looks := false }, kinds := [], alts := [], laidByText := true, laidKinds := [.data], laidTests := true, laidLooks := .later }
def ReachTellsCardSaid : Prop := Claim7.holds Tryd.pinned (.plain (OpenSpec.ofChange reachTellsSpec)) reachTellsCard

/-- THE TIED CARD OF 'inquestlaw13.ReachMore'. -/
def reachMoreCard : Claim7 := { stood := { row := reachMoreRow, standIns := [], harness := (true, "a931ca0fd4810bbd47bcfbcb73a44e35ffe80c07859b9d77e7b5a57491318e1c"), looks := false }, kinds := [], alts := [], laidByText := true, laidKinds := [.data], laidTests := true, laidLooks := .later }
def ReachMoreCardSaid : Prop := Claim7.holds Tryd.pinned (.plain (OpenSpec.ofChange reachMoreSpec)) reachMoreCard

/-- THE TIED CARD OF 'inquestlaw13.ReachWays'. -/
def reachWaysCard : Claim7 := { stood := { row := reachWaysRow, standIns := [], harness := (true, "a931ca0fd4810bbd47bcfbcb73a44e35ffe80c07859b9d77e7b5a57491318e1c"), looks := false }, kinds := [], alts := [], laidByText := true, laidKinds := [.data], laidTests := true, laidLooks := .later }
def ReachWaysCardSaid : Prop := Claim7.holds Tryd.pinned (.plain (OpenSpec.ofChange reachWaysSpec)) reachWaysCard

/-- THE TIED CARD OF 'inquestlaw13.ReachBack'. -/
def reachBackCard : Claim7 := { stood := { row := reachBackRow, standIns := [], harness := (true, "a931ca0fd4810bbd47bcfbcb73a44e35ffe80c07859b9d77e7b5a57491318e1c"), looks := false }, kinds := [], alts := [], laidByText := true, laidKinds := [.data], laidTests := true, laidLooks := .later }
def ReachBackCardSaid : Prop := Claim7.holds Tryd.pinned (.plain (OpenSpec.ofChange reachBackSpec)) reachBackCard

/-- THE SECOND FORM's CARD OF 'inquestlaw13.ReachTells'. -/
def reachTellsUptoCard : Claim7 := { stood := { row := reachTellsUptoRow, standIns := [], harness := (true, "a931ca0fd4810bbd47bcfbcb73a44e35ffe80c07859b9d77e7b5a57491318e1c"), looks := false }, kinds := [], alts := [], laidByText := true, laidKinds := [.data], laidTests := true, laidLooks := .later }
def ReachTellsUptoCardSaid : Prop := Claim7.holds Tryd.pinned (.plain (OpenSpec.upto reachTellsSpec)) reachTellsUptoCard

/-- THE SECOND FORM's CARD OF 'inquestlaw13.ReachMore'. -/
def reachMoreUptoCard : Claim7 := { stood := { row := reachMoreUptoRow, standIns := [], harness := (true, "a931ca0fd4810bbd47bcfbcb73a44e35ffe80c07859b9d77e7b5a57491318e1c"), looks := false }, kinds := [], alts := [], laidByText := true, laidKinds := [.data], laidTests := true, laidLooks := .later }
def ReachMoreUptoCardSaid : Prop := Claim7.holds Tryd.pinned (.plain (OpenSpec.upto reachMoreSpec)) reachMoreUptoCard

/-- THE SECOND FORM's CARD OF 'inquestlaw13.ReachWays'. -/
def reachWaysUptoCard : Claim7 := { stood := { row := reachWaysUptoRow, standIns := [], harness := (true, "a931ca0fd4810bbd47bcfbcb73a44e35ffe80c07859b9d77e7b5a57491318e1c"), looks := false }, kinds := [], alts := [], laidByText := true, laidKinds := [.data], laidTests := true, laidLooks := .later }
def ReachWaysUptoCardSaid : Prop := Claim7.holds Tryd.pinned (.plain (OpenSpec.upto reachWaysSpec)) reachWaysUptoCard

/-- THE SECOND FORM's CARD OF 'inquestlaw13.ReachBack'. -/
def reachBackUptoCard : Claim7 := { stood := { row := reachBackUptoRow, standIns := [], harness := (true, "a931ca0fd4810bbd47bcfbcb73a44e35ffe80c07859b9d77e7b5a57491318e1c"), looks := false }, kinds := [], alts := [], laidByText := true, laidKinds := [.data], laidTests := true, laidLooks := .later }
def ReachBackUptoCardSaid : Prop := Claim7.holds Tryd.pinned (.plain (OpenSpec.upto reachBackSpec)) reachBackUptoCard
end Rows
end Go.Proofs.YtadgfplaabgkfaaDoor
