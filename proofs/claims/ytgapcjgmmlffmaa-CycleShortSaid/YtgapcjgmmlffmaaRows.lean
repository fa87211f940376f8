/-
  No cell of these rows narrows 'for every input' (looked for: loops, veiled, ifaces, maps, wideKeys, modest, calm, conditions, laid).
  DERIVED. THE GIVEN ROWS OF THIS SEAT. 3 by the template 'for every input the law returns true; each argument reads behind the call as it read before'; 0 by the template 'total and deterministic' (their statements: YtgapcjgmmlffmaaTotals.lean).
  GIVEN WITH THE SEED: the statements are not yours to turn. If you find one false, say at which input.
  Laid BY PROGRAM, IN A SANDBOX (cutbox-rows.mjs): the forced cells as the released guide's own fill.sh prints them over the translation 250172a7a9fb59e2… (all of the seat's roots in one cut). By AI agents, Wed Nov 11 2026. No macro, syntax, notation, axiom, sorry.
-/
import Derived.Test.YtgapcjgmmlffmaaChecked
import GoSem.Claim
import GoSem.ClaimJoined
import GoSem.ClaimMapViews
import Derived.JoinedTies
import Derived.KernelRfl
namespace Go.Proofs.Ytgapcjgmmlffmaa
/- THE CELL 'sum', in the pinned program and in every row, IS THE sha256 OF THE DUMP (.gsa) THAT YtgapcjgmmlffmaaProg.lean LOADS. Nothing in Lean hashes anything: it is a label: what it is worth is what the hold of that sum in a sandbox is worth. -/
noncomputable def Try.pinned : Pinned := { name := "ytgapcjgmmlffmaa", sum := "250172a7a9fb59e21db870486a79cde5cc17a47e87a16f46b4950d513bddd362", checked := Try.checked }
namespace Rows
def none {H : Type} : Left H := { results := [], args := [] }

/-- 'inquestlaw15.CycleTells': WHATEVER THE INPUT: true; the input reads as it did. -/
def cycleTellsSpec : ChangeSpec := { name := "cycleTells", fn := fun _ => fun
  | [d1, d2] => { results := [.lit (.bool true)], args := [d1, d2] }
  | _ => none }
def cycleTellsRow : OpenClaim := { program := "ytgapcjgmmlffmaa", sum := "250172a7a9fb59e21db870486a79cde5cc17a47e87a16f46b4950d513bddd362", func := "inquest/inquestlaw15.CycleTells", spec := "cycleTells", apart := false }
def CycleTellsSaid : Prop := cycleTellsRow.holds Try.pinned (OpenSpec.ofChange cycleTellsSpec)

/-- ITS FALSE NEIGHBOUR: 'it returns false'. Refute it at one input. -/
def cycleTellsWrong : ChangeSpec := { name := "cycleTells", fn := fun _ => fun
  | [d1, d2] => { results := [.lit (.bool false)], args := [d1, d2] }
  | _ => none }
def CycleTellsWrongFalsely : Prop := cycleTellsRow.holds Try.pinned (OpenSpec.ofChange cycleTellsWrong)

/-- 'inquestlaw15.CycleShort': WHATEVER THE INPUT: true; the input reads as it did. -/
def cycleShortSpec : ChangeSpec := { name := "cycleShort", fn := fun _ => fun
  | [d] => { results := [.lit (.bool true)], args := [d] }
  | _ => none }
def cycleShortRow : OpenClaim := { program := "ytgapcjgmmlffmaa", sum := "250172a7a9fb59e21db870486a79cde5cc17a47e87a16f46b4950d513bddd362", func := "inquest/inquestlaw15.CycleShort", spec := "cycleShort", apart := false }
def CycleShortSaid : Prop := cycleShortRow.holds Try.pinned (OpenSpec.ofChange cycleShortSpec)

/-- ITS FALSE NEIGHBOUR: 'it returns false'. Refute it at one input. -/
def cycleShortWrong : ChangeSpec := { name := "cycleShort", fn := fun _ => fun
  | [d] => { results := [.lit (.bool false)], args := [d] }
  | _ => none }
def CycleShortWrongFalsely : Prop := cycleShortRow.holds Try.pinned (OpenSpec.ofChange cycleShortWrong)

/-- 'inquestlaw15.CycleTurns': WHATEVER THE INPUT: true; the input reads as it did. -/
def cycleTurnsSpec : ChangeSpec := { name := "cycleTurns", fn := fun _ => fun
  | [d1, d2, d3] => { results := [.lit (.bool true)], args := [d1, d2, d3] }
  | _ => none }
def cycleTurnsRow : OpenClaim := { program := "ytgapcjgmmlffmaa", sum := "250172a7a9fb59e21db870486a79cde5cc17a47e87a16f46b4950d513bddd362", func := "inquest/inquestlaw15.CycleTurns", spec := "cycleTurns", apart := false }
def CycleTurnsSaid : Prop := cycleTurnsRow.holds Try.pinned (OpenSpec.ofChange cycleTurnsSpec)

/-- ITS FALSE NEIGHBOUR: 'it returns false'. Refute it at one input. -/
def cycleTurnsWrong : ChangeSpec := { name := "cycleTurns", fn := fun _ => fun
  | [d1, d2, d3] => { results := [.lit (.bool false)], args := [d1, d2, d3] }
  | _ => none }
def CycleTurnsWrongFalsely : Prop := cycleTurnsRow.holds Try.pinned (OpenSpec.ofChange cycleTurnsWrong)

/- THE SECOND FORM. 'bulk': how many values and letters a reading holds, each counted each time it is reached (what is shared counts as often as it is met; a slice's spare places count too). A statement '..UptoSaid' is the law's where the arguments, and the package variables that the reading takes, are together of bulk at most 1048576: NARROWER than '..Said'. Prove '..Said' where nothing that the law and all that it calls make is longer than what came in: it says more and counts as full. Else prove '..UptoSaid'. A law counts once. -/
mutual
def uptoBulk {H : Type} : DataW H → Nat
  | .lit (.string bytes) => bytes.length + 1
  | .lit _ => 1
  | .nil => 1
  | .ptr d => uptoBulk d + 1
  | .slice elems spare => uptoBulkAll elems + uptoBulkAll spare + 1
  | .agg parts => uptoBulkAll parts + 1
  | .iface _ d => uptoBulk d + 1
  | .map entries => uptoBulkEntries entries + 1
  | .held _ => 1
def uptoBulkAll {H : Type} : List (DataW H) → Nat
  | [] => 0
  | d :: r => uptoBulk d + uptoBulkAll r
def uptoBulkEntries {H : Type} : List (Lit × DataW H) → Nat
  | [] => 0
  | x :: r => uptoBulkEntry x + uptoBulkEntries r
def uptoBulkEntry {H : Type} : Lit × DataW H → Nat
  | (.string bytes, d) => bytes.length + uptoBulk d + 1
  | (_, d) => uptoBulk d + 1
 end
def uptoSmall : (H : Type) → List (DataW H) → Bool := fun _ ds => decide (uptoBulkAll ds ≤ 1048576)
def OpenSpec.upto (s : _root_.Go.ChangeSpec) : _root_.Go.OpenSpec := { _root_.Go.OpenSpec.ofChange s with cond := some uptoSmall }

/-- 'inquestlaw15.CycleTells', WHERE WHAT IT READS IS OF BULK AT MOST 1048576: true; the input reads as it did. -/
def cycleTellsUptoRow : OpenClaim := { program := "ytgapcjgmmlffmaa", sum := "250172a7a9fb59e21db870486a79cde5cc17a47e87a16f46b4950d513bddd362", func := "inquest/inquestlaw15.CycleTells", spec := "cycleTells", apart := false, narrowed := true }
def CycleTellsUptoSaid : Prop := cycleTellsUptoRow.holds Try.pinned (OpenSpec.upto cycleTellsSpec)

/-- 'inquestlaw15.CycleShort', WHERE WHAT IT READS IS OF BULK AT MOST 1048576: true; the input reads as it did. -/
def cycleShortUptoRow : OpenClaim := { program := "ytgapcjgmmlffmaa", sum := "250172a7a9fb59e21db870486a79cde5cc17a47e87a16f46b4950d513bddd362", func := "inquest/inquestlaw15.CycleShort", spec := "cycleShort", apart := false, narrowed := true }
def CycleShortUptoSaid : Prop := cycleShortUptoRow.holds Try.pinned (OpenSpec.upto cycleShortSpec)

/-- 'inquestlaw15.CycleTurns', WHERE WHAT IT READS IS OF BULK AT MOST 1048576: true; the input reads as it did. -/
def cycleTurnsUptoRow : OpenClaim := { program := "ytgapcjgmmlffmaa", sum := "250172a7a9fb59e21db870486a79cde5cc17a47e87a16f46b4950d513bddd362", func := "inquest/inquestlaw15.CycleTurns", spec := "cycleTurns", apart := false, narrowed := true }
def CycleTurnsUptoSaid : Prop := cycleTurnsUptoRow.holds Try.pinned (OpenSpec.upto cycleTurnsSpec)

end Rows
end Go.Proofs.Ytgapcjgmmlffmaa
