/-
  NARROWER THAN 'FOR EVERY INPUT', by the rows' own cells (each row's printed sentence says how): DiaryTells: laid · DiaryBack: laid · DiaryFirst: laid · DiaryBoth: laid.
  DERIVED. THE GIVEN ROWS OF THIS SEAT. 4 by the template 'for every input the law returns true; each argument reads behind the call as it read before'; 0 by the template 'total and deterministic' (their statements: YtpicoccpgpmfhaaDoorTotals.lean).
  GIVEN WITH THE SEED: the statements are not yours to turn. If you find one false, say at which input.
  Laid BY PROGRAM, IN A SANDBOX (cutbox-rows.mjs): the forced cells as the released guide's own fill.sh prints them over the translation 2716fd04a2d0414b… (all of the seat's roots in one cut). By AI agents, Wed Nov 11 2026. No macro, syntax, notation, axiom, sorry.
-/
import Derived.Test.YtpicoccpgpmfhaaDoorChecked
import GoSem.Claim
import GoSem.ClaimJoined
import GoSem.ClaimMapViews
import Derived.JoinedTies
import Derived.KernelRfl
namespace Go.Proofs.YtpicoccpgpmfhaaDoor
/- THE CELL 'sum', in the pinned program and in every row, IS THE sha256 OF THE DUMP (.gsa) THAT YtpicoccpgpmfhaaDoorProg.lean LOADS. Nothing in Lean hashes anything: it is a label: what it is worth is what the hold of that sum in a sandbox is worth. -/
noncomputable def Tryd.pinned : Pinned := { name := "ytpicoccpgpmfhaadoor", sum := "2716fd04a2d0414b7f08aae3ca3b8f493ac7f061873dbf7a297d6fe5844cedbe", checked := Tryd.checked }
namespace Rows
def none {H : Type} : Left H := { results := [], args := [] }

/- WHAT THE LISTED PACKAGE-LEVEL VARIABLES READ AS WHEN THE CALL BEGINS. Each datum BY PROGRAM (the guide's laid-datum.mjs) off the statement by which the dump's own 'gosem.cut.vars' lays the variable. In a bare row this is a premise. The card (YtpicoccpgpmfhaaDoorCards.lean) ties it to the program's text. -/
def laid_inquest_event_kindWords {H : Type} : DataW H := .agg [.lit (.string [98, 101, 103, 105, 110]), .lit (.string [114, 101, 97, 100]), .lit (.string [119, 114, 105, 116, 101]), .lit (.string [99, 111, 109, 109, 105, 116]), .lit (.string [97, 98, 111, 114, 116])]

/-- 'inquestlaw04.DiaryTells': WHATEVER THE INPUT: true; the input reads as it did. -/
def diaryTellsSpec : ChangeSpec := { name := "diaryTells", fn := fun _ => fun
  | [d1, d2] => { results := [.lit (.bool true)], args := [d1, d2] }
  | _ => none }
def diaryTellsRow : OpenClaim := { program := "ytpicoccpgpmfhaadoor", sum := "2716fd04a2d0414b7f08aae3ca3b8f493ac7f061873dbf7a297d6fe5844cedbe", func := "inquest/inquestlaw04.DiaryTells", spec := "diaryTells", inPlace := ["internal/bytealg.CountString", "internal/bytealg.IndexByteString", "internal/bytealg.IndexString"], unfollowed := true, recurses := true, named := ["internal/bytealg.MaxLen", "inquest/event.kindWords"], apart := false, laid := [("inquest/event.kindWords", laid_inquest_event_kindWords)] }
def DiaryTellsSaid : Prop := diaryTellsRow.holds Tryd.pinned (OpenSpec.ofChange diaryTellsSpec)

/-- ITS FALSE NEIGHBOUR: 'it returns false'. Refute it at one input. -/
def diaryTellsWrong : ChangeSpec := { name := "diaryTells", fn := fun _ => fun
  | [d1, d2] => { results := [.lit (.bool false)], args := [d1, d2] }
  | _ => none }
def DiaryTellsWrongFalsely : Prop := diaryTellsRow.holds Tryd.pinned (OpenSpec.ofChange diaryTellsWrong)

/-- 'inquestlaw04.DiaryBack': WHATEVER THE INPUT: true; the input reads as it did. -/
def diaryBackSpec : ChangeSpec := { name := "diaryBack", fn := fun _ => fun
  | [d1, d2] => { results := [.lit (.bool true)], args := [d1, d2] }
  | _ => none }
def diaryBackRow : OpenClaim := { program := "ytpicoccpgpmfhaadoor", sum := "2716fd04a2d0414b7f08aae3ca3b8f493ac7f061873dbf7a297d6fe5844cedbe", func := "inquest/inquestlaw04.DiaryBack", spec := "diaryBack", inPlace := ["internal/bytealg.CountString", "internal/bytealg.IndexByteString", "internal/bytealg.IndexString"], unfollowed := true, recurses := true, named := ["internal/bytealg.MaxLen", "inquest/event.kindWords"], apart := false, laid := [("inquest/event.kindWords", laid_inquest_event_kindWords)] }
def DiaryBackSaid : Prop := diaryBackRow.holds Tryd.pinned (OpenSpec.ofChange diaryBackSpec)

/-- ITS FALSE NEIGHBOUR: 'it returns false'. Refute it at one input. -/
def diaryBackWrong : ChangeSpec := { name := "diaryBack", fn := fun _ => fun
  | [d1, d2] => { results := [.lit (.bool false)], args := [d1, d2] }
  | _ => none }
def DiaryBackWrongFalsely : Prop := diaryBackRow.holds Tryd.pinned (OpenSpec.ofChange diaryBackWrong)

/-- 'inquestlaw04.DiaryFirst': WHATEVER THE INPUT: true; the input reads as it did. -/
def diaryFirstSpec : ChangeSpec := { name := "diaryFirst", fn := fun _ => fun
  | [d1, d2] => { results := [.lit (.bool true)], args := [d1, d2] }
  | _ => none }
def diaryFirstRow : OpenClaim := { program := "ytpicoccpgpmfhaadoor", sum := "2716fd04a2d0414b7f08aae3ca3b8f493ac7f061873dbf7a297d6fe5844cedbe", func := "inquest/inquestlaw04.DiaryFirst", spec := "diaryFirst", inPlace := ["internal/bytealg.CountString", "internal/bytealg.IndexByteString", "internal/bytealg.IndexString"], unfollowed := true, recurses := true, named := ["internal/bytealg.MaxLen", "inquest/event.kindWords"], apart := false, laid := [("inquest/event.kindWords", laid_inquest_event_kindWords)] }
def DiaryFirstSaid : Prop := diaryFirstRow.holds Tryd.pinned (OpenSpec.ofChange diaryFirstSpec)

/-- ITS FALSE NEIGHBOUR: 'it returns false'. Refute it at one input. -/
def diaryFirstWrong : ChangeSpec := { name := "diaryFirst", fn := fun _ => fun
  | [d1, d2] => { results := [.lit (.bool false)], args := [d1, d2] }
  | _ => none }
def DiaryFirstWrongFalsely : Prop := diaryFirstRow.holds Tryd.pinned (OpenSpec.ofChange diaryFirstWrong)

/-- 'inquestlaw04.DiaryBoth': WHATEVER THE INPUT: true; the input reads as it did. -/
def diaryBothSpec : ChangeSpec := { name := "diaryBoth", fn := fun _ => fun
  | [d1, d2] => { results := [.lit (.bool true)], args := [d1, d2] }
  | _ => none }
def diaryBothRow : OpenClaim := { program := "ytpicoccpgpmfhaadoor", sum := "2716fd04a2d0414b7f08aae3ca3b8f493ac7f061873dbf7a297d6fe5844cedbe", func := "inquest/inquestlaw04.DiaryBoth", spec := "diaryBoth", inPlace := ["internal/bytealg.CountString", "internal/bytealg.IndexByteString", "internal/bytealg.IndexString"], unfollowed := true, recurses := true, named := ["internal/bytealg.MaxLen", "inquest/event.kindWords"], apart := false, laid := [("inquest/event.kindWords", laid_inquest_event_kindWords)] }
def DiaryBothSaid : Prop := diaryBothRow.holds Tryd.pinned (OpenSpec.ofChange diaryBothSpec)

/-- ITS FALSE NEIGHBOUR: 'it returns false'. Refute it at one input. -/
def diaryBothWrong : ChangeSpec := { name := "diaryBoth", fn := fun _ => fun
  | [d1, d2] => { results := [.lit (.bool false)], args := [d1, d2] }
  | _ => none }
def DiaryBothWrongFalsely : Prop := diaryBothRow.holds Tryd.pinned (OpenSpec.ofChange diaryBothWrong)

/- THE SECOND FORM. 'bulk': how many values and letters a reading holds, each counted each time it is reached (what is shared counts as often as it is met; a slice's spare places count too). A statement '..UptoSaid' is the law's where the arguments, and the package variables that the reading takes, are together of bulk at most 1048576: NARROWER than '..Said'. Prove '..Said' where nothing that the law and all that it calls make is longer than what came in: it says more and counts as full. Else prove '..UptoSaid'. A law counts once. -/
mutual
def uptoBulk {H : Type} : DataW H → Nat
  | .lit (.string bytes) => bytes.length + 1
  | .lit _ => 1
  | .nil => 1
  | .ptr d => uptoBulk d + 1
  | .slice elems spare => uptoBulkAll elems + uptoBulkAll spare + 1
  | .agg parts => uptoBulkAll parts + 1
  | .iface _ d => uptoBulk d + 1
  | .map entries => uptoBulkEntries entries + 1
  | .held _ => 1
def uptoBulkAll {H : Type} : List (DataW H) → Nat
  | [] => 0
  | d :: r => uptoBulk d + uptoBulkAll r
def uptoBulkEntries {H : Type} : List (Lit × DataW H) → Nat
  | [] => 0
  | x :: r => uptoBulkEntry x + uptoBulkEntries r
def uptoBulkEntry {H : Type} : Lit × DataW H → Nat
  | (.string bytes, d) => bytes.length + uptoBulk d + 1
  | (_, d) => uptoBulk d + 1
 end
def uptoSmall : (H : Type) → List (DataW H) → Bool := fun _ ds => decide (uptoBulkAll ds ≤ 1048576)
def OpenSpec.upto (s : _root_.Go.ChangeSpec) : _root_.Go.OpenSpec := { _root_.Go.OpenSpec.ofChange s with cond := some uptoSmall }

/-- 'inquestlaw04.DiaryTells', WHERE WHAT IT READS IS OF BULK AT MOST 1048576: true; the input reads as it did. -/
def diaryTellsUptoRow : OpenClaim := { program := "ytpicoccpgpmfhaadoor", sum := "2716fd04a2d0414b7f08aae3ca3b8f493ac7f061873dbf7a297d6fe5844cedbe", func := "inquest/inquestlaw04.DiaryTells", spec := "diaryTells", inPlace := ["internal/bytealg.CountString", "internal/bytealg.IndexByteString", "internal/bytealg.IndexString"], unfollowed := true, recurses := true, named := ["internal/bytealg.MaxLen", "inquest/event.kindWords"], apart := false, laid := [("inquest/event.kindWords", laid_inquest_event_kindWords)], narrowed := true }
def DiaryTellsUptoSaid : Prop := diaryTellsUptoRow.holds Tryd.pinned (OpenSpec.upto diaryTellsSpec)

/-- 'inquestlaw04.DiaryBack', WHERE WHAT IT READS IS OF BULK AT MOST 1048576: true; the input reads as it did. -/
def diaryBackUptoRow : OpenClaim := { program := "ytpicoccpgpmfhaadoor", sum := "2716fd04a2d0414b7f08aae3ca3b8f493ac7f061873dbf7a297d6fe5844cedbe", func := "inquest/inquestlaw04.DiaryBack", spec := "diaryBack", inPlace := ["internal/bytealg.CountString", "internal/bytealg.IndexByteString", "internal/bytealg.IndexString"], unfollowed := true, recurses := true, named := ["internal/bytealg.MaxLen", "inquest/event.kindWords"], apart := false, laid := [("inquest/event.kindWords", laid_inquest_event_kindWords)], narrowed := true }
def DiaryBackUptoSaid : Prop := diaryBackUptoRow.holds Tryd.pinned (OpenSpec.upto diaryBackSpec)

/-- 'inquestlaw04.DiaryFirst', WHERE WHAT IT READS IS OF BULK AT MOST 1048576: true; the input reads as it did. -/
def diaryFirstUptoRow : OpenClaim := { program := "ytpicoccpgpmfhaadoor", sum := "2716fd04a2d0414b7f08aae3ca3b8f493ac7f061873dbf7a297d6fe5844cedbe", func := "inquest/inquestlaw04.DiaryFirst", spec := "diaryFirst", inPlace := ["internal/bytealg.CountString", "internal/bytealg.IndexByteString", "internal/bytealg.IndexString"], unfollowed := true, recurses := true, named := ["internal/bytealg.MaxLen", "inquest/event.kindWords"], apart := false, laid := [("inquest/event.kindWords", laid_inquest_event_kindWords)], narrowed := true }
def DiaryFirstUptoSaid : Prop := diaryFirstUptoRow.holds Tryd.pinned (OpenSpec.upto diaryFirstSpec)

/-- 'inquestlaw04.DiaryBoth', WHERE WHAT IT READS IS OF BULK AT MOST 1048576: true; the input reads as it did. -/
def diaryBothUptoRow : OpenClaim := { program := "ytpicoccpgpmfhaadoor", sum := "2716fd04a2d0414b7f08aae3ca3b8f493ac7f061873dbf7a297d6fe5844cedbe", func := "inquest/inquestlaw04.DiaryBoth", spec := "diaryBoth", inPlace := ["internal/bytealg.CountString", "internal/bytealg.IndexByteString", "internal/bytealg.IndexString"], unfollowed := true, recurses := true, named := ["internal/bytealg.MaxLen", "inquest/event.kindWords"], apart := false, laid := [("inquest/event.kindWords", laid_inquest_event_kindWords)], narrowed := true }
def DiaryBothUptoSaid : Prop := diaryBothUptoRow.holds Tryd.pinned (OpenSpec.upto diaryBothSpec)

end Rows
end Go.Proofs.YtpicoccpgpmfhaaDoor
