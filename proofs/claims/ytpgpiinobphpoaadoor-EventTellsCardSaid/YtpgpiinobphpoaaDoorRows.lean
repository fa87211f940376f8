/-
  NARROWER THAN 'FOR EVERY INPUT', by the rows' own cells (each row's printed sentence says how): EventTells: laid · EventBack: laid · EventOwn: laid · EventWords: laid.
  DERIVED. THE GIVEN ROWS OF THIS SEAT. 4 by the template 'for every input the law returns true; each argument reads behind the call as it read before'; 0 by the template 'total and deterministic' (their statements: YtpgpiinobphpoaaDoorTotals.lean).
  GIVEN WITH THE SEED: the statements are not yours to turn. If you find one false, say at which input.
  Laid BY PROGRAM, IN A SANDBOX (cutbox-rows.mjs): the forced cells as the released guide's own fill.sh prints them over the translation 620b20b868bbfae8… (all of the seat's roots in one cut). By AI agents, Wed Nov 11 2026. No macro, syntax, notation, axiom, sorry.
-/
import Derived.Test.YtpgpiinobphpoaaDoorChecked
import GoSem.Claim
import GoSem.ClaimJoined
import GoSem.ClaimMapViews
import Derived.JoinedTies
import Derived.KernelRfl
namespace Go.Proofs.YtpgpiinobphpoaaDoor
/- THE CELL 'sum', in the pinned program and in every row, IS THE sha256 OF THE DUMP (.gsa) THAT YtpgpiinobphpoaaDoorProg.lean LOADS. Nothing in Lean hashes anything: it is a label: what it is worth is what the hold of that sum in a sandbox is worth. -/
noncomputable def Tryd.pinned : Pinned := { name := "ytpgpiinobphpoaadoor", sum := "620b20b868bbfae8cc70ab288ada96d1c54d41f046c6821c88ff3509a6e8606b", checked := Tryd.checked }
namespace Rows
def none {H : Type} : Left H := { results := [], args := [] }

/- WHAT THE LISTED PACKAGE-LEVEL VARIABLES READ AS WHEN THE CALL BEGINS. Each datum BY PROGRAM (the guide's laid-datum.mjs) off the statement by which the dump's own 'gosem.cut.vars' lays the variable. In a bare row this is a premise. The card (YtpgpiinobphpoaaDoorCards.lean) ties it to the program's text. -/
def laid_inquest_event_kindWords {H : Type} : DataW H := .agg [.lit (.string [98, 101, 103, 105, 110]), .lit (.string [114, 101, 97, 100]), .lit (.string [119, 114, 105, 116, 101]), .lit (.string [99, 111, 109, 109, 105, 116]), .lit (.string [97, 98, 111, 114, 116])]

/-- 'inquestlaw03.EventTells': WHATEVER THE INPUT: true; the input reads as it did. -/
def eventTellsSpec : ChangeSpec := { name := "eventTells", fn := fun _ => fun
  | [d1, d2] => { results := [.lit (.bool true)], args := [d1, d2] }
  | _ => none }
def eventTellsRow : OpenClaim := { program := "ytpgpiinobphpoaadoor", sum := "620b20b868bbfae8cc70ab288ada96d1c54d41f046c6821c88ff3509a6e8606b", func := "inquest/inquestlaw03.EventTells", spec := "eventTells", recurses := true, named := ["inquest/event.kindWords"], apart := false, laid := [("inquest/event.kindWords", laid_inquest_event_kindWords)] }
def EventTellsSaid : Prop := eventTellsRow.holds Tryd.pinned (OpenSpec.ofChange eventTellsSpec)

/-- ITS FALSE NEIGHBOUR: 'it returns false'. Refute it at one input. -/
def eventTellsWrong : ChangeSpec := { name := "eventTells", fn := fun _ => fun
  | [d1, d2] => { results := [.lit (.bool false)], args := [d1, d2] }
  | _ => none }
def EventTellsWrongFalsely : Prop := eventTellsRow.holds Tryd.pinned (OpenSpec.ofChange eventTellsWrong)

/-- 'inquestlaw03.EventBack': WHATEVER THE INPUT: true; the input reads as it did. -/
def eventBackSpec : ChangeSpec := { name := "eventBack", fn := fun _ => fun
  | [d] => { results := [.lit (.bool true)], args := [d] }
  | _ => none }
def eventBackRow : OpenClaim := { program := "ytpgpiinobphpoaadoor", sum := "620b20b868bbfae8cc70ab288ada96d1c54d41f046c6821c88ff3509a6e8606b", func := "inquest/inquestlaw03.EventBack", spec := "eventBack", named := ["inquest/event.kindWords"], apart := false, laid := [("inquest/event.kindWords", laid_inquest_event_kindWords)] }
def EventBackSaid : Prop := eventBackRow.holds Tryd.pinned (OpenSpec.ofChange eventBackSpec)

/-- ITS FALSE NEIGHBOUR: 'it returns false'. Refute it at one input. -/
def eventBackWrong : ChangeSpec := { name := "eventBack", fn := fun _ => fun
  | [d] => { results := [.lit (.bool false)], args := [d] }
  | _ => none }
def EventBackWrongFalsely : Prop := eventBackRow.holds Tryd.pinned (OpenSpec.ofChange eventBackWrong)

/-- 'inquestlaw03.EventOwn': WHATEVER THE INPUT: true; the input reads as it did. -/
def eventOwnSpec : ChangeSpec := { name := "eventOwn", fn := fun _ => fun
  | [d] => { results := [.lit (.bool true)], args := [d] }
  | _ => none }
def eventOwnRow : OpenClaim := { program := "ytpgpiinobphpoaadoor", sum := "620b20b868bbfae8cc70ab288ada96d1c54d41f046c6821c88ff3509a6e8606b", func := "inquest/inquestlaw03.EventOwn", spec := "eventOwn", named := ["inquest/event.kindWords"], apart := false, laid := [("inquest/event.kindWords", laid_inquest_event_kindWords)] }
def EventOwnSaid : Prop := eventOwnRow.holds Tryd.pinned (OpenSpec.ofChange eventOwnSpec)

/-- ITS FALSE NEIGHBOUR: 'it returns false'. Refute it at one input. -/
def eventOwnWrong : ChangeSpec := { name := "eventOwn", fn := fun _ => fun
  | [d] => { results := [.lit (.bool false)], args := [d] }
  | _ => none }
def EventOwnWrongFalsely : Prop := eventOwnRow.holds Tryd.pinned (OpenSpec.ofChange eventOwnWrong)

/-- 'inquestlaw03.EventWords': WHATEVER THE INPUT: true; the input reads as it did. -/
def eventWordsSpec : ChangeSpec := { name := "eventWords", fn := fun _ => fun
  | [d1, d2, d3] => { results := [.lit (.bool true)], args := [d1, d2, d3] }
  | _ => none }
def eventWordsRow : OpenClaim := { program := "ytpgpiinobphpoaadoor", sum := "620b20b868bbfae8cc70ab288ada96d1c54d41f046c6821c88ff3509a6e8606b", func := "inquest/inquestlaw03.EventWords", spec := "eventWords", named := ["inquest/event.kindWords"], apart := false, laid := [("inquest/event.kindWords", laid_inquest_event_kindWords)] }
def EventWordsSaid : Prop := eventWordsRow.holds Tryd.pinned (OpenSpec.ofChange eventWordsSpec)

/-- ITS FALSE NEIGHBOUR: 'it returns false'. Refute it at one input. -/
def eventWordsWrong : ChangeSpec := { name := "eventWords", fn := fun _ => fun
  | [d1, d2, d3] => { results := [.lit (.bool false)], args := [d1, d2, d3] }
  | _ => none }
def EventWordsWrongFalsely : Prop := eventWordsRow.holds Tryd.pinned (OpenSpec.ofChange eventWordsWrong)

/- THE SECOND FORM. 'bulk': how many values and letters a reading holds, each counted each time it is reached (what is shared counts as often as it is met; a slice's spare places count too). A statement '..UptoSaid' is the law's where the arguments, and the package variables that the reading takes, are together of bulk at most 1048576: NARROWER than '..Said'. Prove '..Said' where nothing that the law and all that it calls make is longer than what came in: it says more and counts as full. Else prove '..UptoSaid'. A law counts once. -/
mutual
def uptoBulk {H : Type} : DataW H → Nat
  | .lit (.string bytes) => bytes.length + 1
  | .lit _ => 1
  | .nil => 1
  | .ptr d => uptoBulk d + 1
  | .slice elems spare => uptoBulkAll elems + uptoBulkAll spare + 1
  | .agg parts => uptoBulkAll parts + 1
  | .iface _ d => uptoBulk d + 1
  | .map entries => uptoBulkEntries entries + 1
  | .held _ => 1
def uptoBulkAll {H : Type} : List (DataW H) → Nat
  | [] => 0
  | d :: r => uptoBulk d + uptoBulkAll r
def uptoBulkEntries {H : Type} : List (Lit × DataW H) → Nat
  | [] => 0
  | x :: r => uptoBulkEntry x + uptoBulkEntries r
def uptoBulkEntry {H : Type} : Lit × DataW H → Nat
  | (.string bytes, d) => bytes.length + uptoBulk d + 1
  | (_, d) => uptoBulk d + 1
 end
def uptoSmall : (H : Type) → List (DataW H) → Bool := fun _ ds => decide (uptoBulkAll ds ≤ 1048576)
def OpenSpec.upto (s : _root_.Go.ChangeSpec) : _root_.Go.OpenSpec := { _root_.Go.OpenSpec.ofChange s with cond := some uptoSmall }

/-- 'inquestlaw03.EventTells', WHERE WHAT IT READS IS OF BULK AT MOST 1048576: true; the input reads as it did. -/
def eventTellsUptoRow : OpenClaim := { program := "ytpgpiinobphpoaadoor", sum := "620b20b868bbfae8cc70ab288ada96d1c54d41f046c6821c88ff3509a6e8606b", func := "inquest/inquestlaw03.EventTells", spec := "eventTells", recurses := true, named := ["inquest/event.kindWords"], apart := false, laid := [("inquest/event.kindWords", laid_inquest_event_kindWords)], narrowed := true }
def EventTellsUptoSaid : Prop := eventTellsUptoRow.holds Tryd.pinned (OpenSpec.upto eventTellsSpec)

/-- 'inquestlaw03.EventBack', WHERE WHAT IT READS IS OF BULK AT MOST 1048576: true; the input reads as it did. -/
def eventBackUptoRow : OpenClaim := { program := "ytpgpiinobphpoaadoor", sum := "620b20b868bbfae8cc70ab288ada96d1c54d41f046c6821c88ff3509a6e8606b", func := "inquest/inquestlaw03.EventBack", spec := "eventBack", named := ["inquest/event.kindWords"], apart := false, laid := [("inquest/event.kindWords", laid_inquest_event_kindWords)], narrowed := true }
def EventBackUptoSaid : Prop := eventBackUptoRow.holds Tryd.pinned (OpenSpec.upto eventBackSpec)

/-- 'inquestlaw03.EventOwn', WHERE WHAT IT READS IS OF BULK AT MOST 1048576: true; the input reads as it did. -/
def eventOwnUptoRow : OpenClaim := { program := "ytpgpiinobphpoaadoor", sum := "620b20b868bbfae8cc70ab288ada96d1c54d41f046c6821c88ff3509a6e8606b", func := "inquest/inquestlaw03.EventOwn", spec := "eventOwn", named := ["inquest/event.kindWords"], apart := false, laid := [("inquest/event.kindWords", laid_inquest_event_kindWords)], narrowed := true }
def EventOwnUptoSaid : Prop := eventOwnUptoRow.holds Tryd.pinned (OpenSpec.upto eventOwnSpec)

/-- 'inquestlaw03.EventWords', WHERE WHAT IT READS IS OF BULK AT MOST 1048576: true; the input reads as it did. -/
def eventWordsUptoRow : OpenClaim := { program := "ytpgpiinobphpoaadoor", sum := "620b20b868bbfae8cc70ab288ada96d1c54d41f046c6821c88ff3509a6e8606b", func := "inquest/inquestlaw03.EventWords", spec := "eventWords", named := ["inquest/event.kindWords"], apart := false, laid := [("inquest/event.kindWords", laid_inquest_event_kindWords)], narrowed := true }
def EventWordsUptoSaid : Prop := eventWordsUptoRow.holds Tryd.pinned (OpenSpec.upto eventWordsSpec)

end Rows
end Go.Proofs.YtpgpiinobphpoaaDoor
