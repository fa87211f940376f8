/-
  DERIVED. GIVEN WITH THE SEED: THE CARDS: each row of YtpicoccpgpmfhaaDoorRows.lean that lists a variable, with what it lists TIED to the program's text (the seventh form; the later family's looks); each row that meets fmt, with fmt's text TOLD by the authors' own Lean function (tested against real Go, not proved from fmt's source: count such statements apart). THE CARD IS WHAT COUNTS. Prove the row's statement (the work); the ties are given (YtpicoccpgpmfhaaDoorTie.lean); close each card by the builder's one call (the guide's Derived/Test/ToyasCard.lean, 'card_holds'). Laid BY PROGRAM, IN A SANDBOX (cutbox-door.mjs). By AI agents, Wed Nov 11 2026. No macro, syntax, notation, axiom, sorry.
-/
import Derived.Test.YtpicoccpgpmfhaaDoorRows
import GoSem.ClaimSeven
namespace Go.Proofs.YtpicoccpgpmfhaaDoor
namespace Rows

/-- THE TIED CARD OF 'inquestlaw04.DiaryTells'. -/
def diaryTellsCard : Claim7 := { stood := { row := diaryTellsRow, standIns := [], harness := (true, "739810c0b568917113b4c6c3d547607832247c169d89b0c86dd894dab637b189"), looks := true }, kinds := [], alts := [], laidByText := true, laidKinds := [.data], laidTests := true, laidLooks := .later }
def DiaryTellsCardSaid : Prop := Claim7.holds Tryd.pinned (.plain (OpenSpec.ofChange diaryTellsSpec)) diaryTellsCard

/-- THE TIED CARD OF 'inquestlaw04.DiaryBack'. -/
def diaryBackCard : Claim7 := { stood := { row := diaryBackRow, standIns := [], harness := (true, "739810c0b568917113b4c6c3d547607832247c169d89b0c86dd894dab637b189"), looks := true }, kinds := [], alts := [], laidByText := true, laidKinds := [.data], laidTests := true, laidLooks := .later }
def DiaryBackCardSaid : Prop := Claim7.holds Tryd.pinned (.plain (OpenSpec.ofChange diaryBackSpec)) diaryBackCard

/-- THE TIED CARD OF 'inquestlaw04.DiaryFirst'. -/
def diaryFirstCard : Claim7 := { stood := { row := diaryFirstRow, standIns := [], harness := (true, "739810c0b568917113b4c6c3d547607832247c169d89b0c86dd894dab637b189"), looks := true }, kinds := [], alts := [], laidByText := true, laidKinds := [.data], laidTests := true, laidLooks := .later }
def DiaryFirstCardSaid : Prop := Claim7.holds Tryd.pinned (.plain (OpenSpec.ofChange diaryFirstSpec)) diaryFirstCard

/-- THE TIED CARD OF 'inquestlaw04.DiaryBoth'. -/
def diaryBothCard : Claim7 := { stood := { row := diaryBothRow, standIns := [], harness := (true, "739810c0b568917113b4c6c3d547607832247c169d89b0c86dd894dab637b189"), looks := true }, kinds := [], alts := [], laidByText := true, laidKinds := [.data], laidTests := true, laidLooks := .later }
def DiaryBothCardSaid : Prop := Claim7.holds Tryd.pinned (.plain (OpenSpec.ofChange diaryBothSpec)) diaryBothCard

/-- THE SECOND FORM's CARD OF 'inquestlaw04.DiaryTells'. -/
def diaryTellsUptoCard : Claim7 := { stood := { row := diaryTellsUptoRow, standIns := [], harness := (true, "739810c0b568917113b4c6c3d547607832247c169d89b0c86dd894dab637b189"), looks := true }, kinds := [], alts := [], laidByText := true, laidKinds := [.data], laidTests := true, laidLooks := .later }
def DiaryTellsUptoCardSaid : Prop := Claim7.holds Tryd.pinned (.plain (OpenSpec.upto diaryTellsSpec)) diaryTellsUptoCard

/-- THE SECOND FORM's CARD OF 'inquestlaw04.DiaryBack'. -/
def diaryBackUptoCard : Claim7 := { stood := { row := diaryBackUptoRow, standIns := [], harness := (true, "739810c0b568917113b4c6c3d547607832247c169d89b0c86dd894dab637b189"), looks := true }, kinds := [], alts := [], laidByText := true, laidKinds := [.data], laidTests := true, laidLooks := .later }
def DiaryBackUptoCardSaid : Prop := Claim7.holds Tryd.pinned (.plain (OpenSpec.upto diaryBackSpec)) diaryBackUptoCard

/-- THE SECOND FORM's CARD OF 'inquestlaw04.DiaryFirst'. -/
def diaryFirstUptoCard : Claim7 := { stood := { row := diaryFirstUptoRow, standIns := [], harness := (true, "739810c0b568917113b4c6c3d547607832247c169d89b0c86dd894dab637b189"), looks := true }, kinds := [], alts := [], laidByText := true, laidKinds := [.data], laidTests := true, laidLooks := .later }
def DiaryFirstUptoCardSaid : Prop := Claim7.holds Tryd.pinned (.plain (OpenSpec.upto diaryFirstSpec)) diaryFirstUptoCard

/-- THE SECOND FORM's CARD OF 'inquestlaw04.DiaryBoth'. -/
def diaryBothUptoCard : Claim7 := { stood := { row := diaryBothUptoRow, standIns := [], harness := (true, "739810c0b568917113b4c6c3d547607832247c169d89b0c86dd894dab637b189"), looks := true }, kinds := [], alts := [], laidByText := true, laidKinds := [.data], laidTests := true, laidLooks := .later }
def DiaryBothUptoCardSaid : Prop := Claim7.holds Tryd.pinned (.plain (OpenSpec.upto diaryBothSpec)) diaryBothUptoCard
end Rows
end Go.Proofs.YtpicoccpgpmfhaaDoor
