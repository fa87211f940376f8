/-
  No cell of these rows narrows 'for every input' (looked for: loops, veiled, ifaces, maps, wideKeys, modest, calm, conditions, laid).
  DERIVED. THE GIVEN ROWS OF THIS SEAT. 3 by the template 'for every input the law returns true; each argument reads behind the call as it read before'; 0 by the template 'total and deterministic' (their statements: YtlhinlfgmfenoaaTotals.lean).
  GIVEN WITH THE SEED: the statements are not yours to turn. If you find one false, say at which input.
  Laid BY PROGRAM, IN A SANDBOX (cutbox-rows.mjs): the forced cells as the released guide's own fill.sh prints them over the translation 593c1b9be5e17391… (all of the seat's roots in one cut). By AI agents, Wed Nov 11 2026. No macro, syntax, notation, axiom, sorry.
-/
import Derived.Test.YtlhinlfgmfenoaaChecked
import GoSem.Claim
import GoSem.ClaimJoined
import GoSem.ClaimMapViews
import Derived.JoinedTies
import Derived.KernelRfl
namespace Go.Proofs.Ytlhinlfgmfenoaa
/- THE CELL 'sum', in the pinned program and in every row, IS THE sha256 OF THE DUMP (.gsa) THAT YtlhinlfgmfenoaaProg.lean LOADS. Nothing in Lean hashes anything: it is a label: what it is worth is what the hold of that sum in a sandbox is worth. -/
noncomputable def Try.pinned : Pinned := { name := "ytlhinlfgmfenoaa", sum := "593c1b9be5e17391b44ee8e599db53ab4111d13cd0d30585c710bd12fdeccd51", checked := Try.checked }
namespace Rows
def none {H : Type} : Left H := { results := [], args := [] }

/-- 'inquestlaw17.KnownTells': WHATEVER THE INPUT: true; the input reads as it did. -/
def knownTellsSpec : ChangeSpec := { name := "knownTells", fn := fun _ => fun
  | [d] => { results := [.lit (.bool true)], args := [d] }
  | _ => none }
def knownTellsRow : OpenClaim := { program := "ytlhinlfgmfenoaa", sum := "593c1b9be5e17391b44ee8e599db53ab4111d13cd0d30585c710bd12fdeccd51", func := "inquest/inquestlaw17.KnownTells", spec := "knownTells", unfollowed := true, recurses := true, apart := false }
def KnownTellsSaid : Prop := knownTellsRow.holds Try.pinned (OpenSpec.ofChange knownTellsSpec)

/-- ITS FALSE NEIGHBOUR: 'it returns false'. Refute it at one input. -/
def knownTellsWrong : ChangeSpec := { name := "knownTells", fn := fun _ => fun
  | [d] => { results := [.lit (.bool false)], args := [d] }
  | _ => none }
def KnownTellsWrongFalsely : Prop := knownTellsRow.holds Try.pinned (OpenSpec.ofChange knownTellsWrong)

/-- 'inquestlaw17.KnownReads': WHATEVER THE INPUT: true; the input reads as it did. -/
def knownReadsSpec : ChangeSpec := { name := "knownReads", fn := fun _ => fun
  | [d1, d2, d3] => { results := [.lit (.bool true)], args := [d1, d2, d3] }
  | _ => none }
def knownReadsRow : OpenClaim := { program := "ytlhinlfgmfenoaa", sum := "593c1b9be5e17391b44ee8e599db53ab4111d13cd0d30585c710bd12fdeccd51", func := "inquest/inquestlaw17.KnownReads", spec := "knownReads", unfollowed := true, recurses := true, apart := false }
def KnownReadsSaid : Prop := knownReadsRow.holds Try.pinned (OpenSpec.ofChange knownReadsSpec)

/-- ITS FALSE NEIGHBOUR: 'it returns false'. Refute it at one input. -/
def knownReadsWrong : ChangeSpec := { name := "knownReads", fn := fun _ => fun
  | [d1, d2, d3] => { results := [.lit (.bool false)], args := [d1, d2, d3] }
  | _ => none }
def KnownReadsWrongFalsely : Prop := knownReadsRow.holds Try.pinned (OpenSpec.ofChange knownReadsWrong)

/-- 'inquestlaw17.KnownSelf': WHATEVER THE INPUT: true; the input reads as it did. -/
def knownSelfSpec : ChangeSpec := { name := "knownSelf", fn := fun _ => fun
  | [d] => { results := [.lit (.bool true)], args := [d] }
  | _ => none }
def knownSelfRow : OpenClaim := { program := "ytlhinlfgmfenoaa", sum := "593c1b9be5e17391b44ee8e599db53ab4111d13cd0d30585c710bd12fdeccd51", func := "inquest/inquestlaw17.KnownSelf", spec := "knownSelf", unfollowed := true, recurses := true, apart := false }
def KnownSelfSaid : Prop := knownSelfRow.holds Try.pinned (OpenSpec.ofChange knownSelfSpec)

/-- ITS FALSE NEIGHBOUR: 'it returns false'. Refute it at one input. -/
def knownSelfWrong : ChangeSpec := { name := "knownSelf", fn := fun _ => fun
  | [d] => { results := [.lit (.bool false)], args := [d] }
  | _ => none }
def KnownSelfWrongFalsely : Prop := knownSelfRow.holds Try.pinned (OpenSpec.ofChange knownSelfWrong)

/- THE SECOND FORM. 'bulk': how many values and letters a reading holds, each counted each time it is reached (what is shared counts as often as it is met; a slice's spare places count too). A statement '..UptoSaid' is the law's where the arguments, and the package variables that the reading takes, are together of bulk at most 1048576: NARROWER than '..Said'. Prove '..Said' where nothing that the law and all that it calls make is longer than what came in: it says more and counts as full. Else prove '..UptoSaid'. A law counts once. -/
mutual
def uptoBulk {H : Type} : DataW H → Nat
  | .lit (.string bytes) => bytes.length + 1
  | .lit _ => 1
  | .nil => 1
  | .ptr d => uptoBulk d + 1
  | .slice elems spare => uptoBulkAll elems + uptoBulkAll spare + 1
  | .agg parts => uptoBulkAll parts + 1
  | .iface _ d => uptoBulk d + 1
  | .map entries => uptoBulkEntries entries + 1
  | .held _ => 1
def uptoBulkAll {H : Type} : List (DataW H) → Nat
  | [] => 0
  | d :: r => uptoBulk d + uptoBulkAll r
def uptoBulkEntries {H : Type} : List (Lit × DataW H) → Nat
  | [] => 0
  | x :: r => uptoBulkEntry x + uptoBulkEntries r
def uptoBulkEntry {H : Type} : Lit × DataW H → Nat
  | (.string bytes, d) => bytes.length + uptoBulk d + 1
  | (_, d) => uptoBulk d + 1
 end
def uptoSmall : (H : Type) → List (DataW H) → Bool := fun _ ds => decide (uptoBulkAll ds ≤ 1048576)
def OpenSpec.upto (s : _root_.Go.ChangeSpec) : _root_.Go.OpenSpec := { _root_.Go.OpenSpec.ofChange s with cond := some uptoSmall }

/-- 'inquestlaw17.KnownTells', WHERE WHAT IT READS IS OF BULK AT MOST 1048576: true; the input reads as it did. -/
def knownTellsUptoRow : OpenClaim := { program := "ytlhinlfgmfenoaa", sum := "593c1b9be5e17391b44ee8e599db53ab4111d13cd0d30585c710bd12fdeccd51", func := "inquest/inquestlaw17.KnownTells", spec := "knownTells", unfollowed := true, recurses := true, apart := false, narrowed := true }
def KnownTellsUptoSaid : Prop := knownTellsUptoRow.holds Try.pinned (OpenSpec.upto knownTellsSpec)

/-- 'inquestlaw17.KnownReads', WHERE WHAT IT READS IS OF BULK AT MOST 1048576: true; the input reads as it did. -/
def knownReadsUptoRow : OpenClaim := { program := "ytlhinlfgmfenoaa", sum := "593c1b9be5e17391b44ee8e599db53ab4111d13cd0d30585c710bd12fdeccd51", func := "inquest/inquestlaw17.KnownReads", spec := "knownReads", unfollowed := true, recurses := true, apart := false, narrowed := true }
def KnownReadsUptoSaid : Prop := knownReadsUptoRow.holds Try.pinned (OpenSpec.upto knownReadsSpec)

/-- 'inquestlaw17.KnownSelf', WHERE WHAT IT READS IS OF BULK AT MOST 1048576: true; the input reads as it did. -/
def knownSelfUptoRow : OpenClaim := { program := "ytlhinlfgmfenoaa", sum := "593c1b9be5e17391b44ee8e599db53ab4111d13cd0d30585c710bd12fdeccd51", func := "inquest/inquestlaw17.KnownSelf", spec := "knownSelf", unfollowed := true, recurses := true, apart := false, narrowed := true }
def KnownSelfUptoSaid : Prop := knownSelfUptoRow.holds Try.pinned (OpenSpec.upto knownSelfSpec)

end Rows
end Go.Proofs.Ytlhinlfgmfenoaa
