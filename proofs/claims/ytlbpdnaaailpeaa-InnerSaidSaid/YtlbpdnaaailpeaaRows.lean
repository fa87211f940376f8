/-
  No cell of these rows narrows 'for every input' (looked for: loops, veiled, ifaces, maps, wideKeys, modest, calm, conditions, laid).
  DERIVED. THE GIVEN ROWS OF THIS SEAT. 4 by the template 'for every input the law returns true; each argument reads behind the call as it read before'; 0 by the template 'total and deterministic' (their statements: YtlbpdnaaailpeaaTotals.lean).
  GIVEN WITH THE SEED: the statements are not yours to turn. If you find one false, say at which input.
  Laid BY PROGRAM, IN A SANDBOX (cutbox-rows.mjs): the forced cells as the released guide's own fill.sh prints them over the translation 767b385724f1fb58… (all of the seat's roots in one cut). By AI agents, Wed Nov 11 2026. No macro, syntax, notation, axiom, sorry.
-/
import Derived.Test.YtlbpdnaaailpeaaChecked
import GoSem.Claim
import GoSem.ClaimJoined
import GoSem.ClaimMapViews
import Derived.JoinedTies
import Derived.KernelRfl
namespace Go.Proofs.Ytlbpdnaaailpeaa
/- THE CELL 'sum', in the pinned program and in every row, IS THE sha256 OF THE DUMP (.gsa) THAT YtlbpdnaaailpeaaProg.lean LOADS. Nothing in Lean hashes anything: it is a label: what it is worth is what the hold of that sum in a sandbox is worth. -/
noncomputable def Try.pinned : Pinned := { name := "ytlbpdnaaailpeaa", sum := "767b385724f1fb58c5333538dd559e3663d529240c0608f26fc4ced161ee2499", checked := Try.checked }
namespace Rows
def none {H : Type} : Left H := { results := [], args := [] }

/-- 'inquestlaw06.InnerTells': WHATEVER THE INPUT: true; the input reads as it did. -/
def innerTellsSpec : ChangeSpec := { name := "innerTells", fn := fun _ => fun
  | [d] => { results := [.lit (.bool true)], args := [d] }
  | _ => none }
def innerTellsRow : OpenClaim := { program := "ytlbpdnaaailpeaa", sum := "767b385724f1fb58c5333538dd559e3663d529240c0608f26fc4ced161ee2499", func := "inquest/inquestlaw06.InnerTells", spec := "innerTells", unfollowed := true, recurses := true, apart := false }
def InnerTellsSaid : Prop := innerTellsRow.holds Try.pinned (OpenSpec.ofChange innerTellsSpec)

/-- ITS FALSE NEIGHBOUR: 'it returns false'. Refute it at one input. -/
def innerTellsWrong : ChangeSpec := { name := "innerTells", fn := fun _ => fun
  | [d] => { results := [.lit (.bool false)], args := [d] }
  | _ => none }
def InnerTellsWrongFalsely : Prop := innerTellsRow.holds Try.pinned (OpenSpec.ofChange innerTellsWrong)

/-- 'inquestlaw06.InnerSaid': WHATEVER THE INPUT: true; the input reads as it did. -/
def innerSaidSpec : ChangeSpec := { name := "innerSaid", fn := fun _ => fun
  | [d] => { results := [.lit (.bool true)], args := [d] }
  | _ => none }
def innerSaidRow : OpenClaim := { program := "ytlbpdnaaailpeaa", sum := "767b385724f1fb58c5333538dd559e3663d529240c0608f26fc4ced161ee2499", func := "inquest/inquestlaw06.InnerSaid", spec := "innerSaid", unfollowed := true, recurses := true, apart := false }
def InnerSaidSaid : Prop := innerSaidRow.holds Try.pinned (OpenSpec.ofChange innerSaidSpec)

/-- ITS FALSE NEIGHBOUR: 'it returns false'. Refute it at one input. -/
def innerSaidWrong : ChangeSpec := { name := "innerSaid", fn := fun _ => fun
  | [d] => { results := [.lit (.bool false)], args := [d] }
  | _ => none }
def InnerSaidWrongFalsely : Prop := innerSaidRow.holds Try.pinned (OpenSpec.ofChange innerSaidWrong)

/-- 'inquestlaw06.InnerMore': WHATEVER THE INPUT: true; the input reads as it did. -/
def innerMoreSpec : ChangeSpec := { name := "innerMore", fn := fun _ => fun
  | [d1, d2, d3] => { results := [.lit (.bool true)], args := [d1, d2, d3] }
  | _ => none }
def innerMoreRow : OpenClaim := { program := "ytlbpdnaaailpeaa", sum := "767b385724f1fb58c5333538dd559e3663d529240c0608f26fc4ced161ee2499", func := "inquest/inquestlaw06.InnerMore", spec := "innerMore", unfollowed := true, recurses := true, apart := false }
def InnerMoreSaid : Prop := innerMoreRow.holds Try.pinned (OpenSpec.ofChange innerMoreSpec)

/-- ITS FALSE NEIGHBOUR: 'it returns false'. Refute it at one input. -/
def innerMoreWrong : ChangeSpec := { name := "innerMore", fn := fun _ => fun
  | [d1, d2, d3] => { results := [.lit (.bool false)], args := [d1, d2, d3] }
  | _ => none }
def InnerMoreWrongFalsely : Prop := innerMoreRow.holds Try.pinned (OpenSpec.ofChange innerMoreWrong)

/-- 'inquestlaw06.InnerFront': WHATEVER THE INPUT: true; the input reads as it did. -/
def innerFrontSpec : ChangeSpec := { name := "innerFront", fn := fun _ => fun
  | [d1, d2, d3] => { results := [.lit (.bool true)], args := [d1, d2, d3] }
  | _ => none }
def innerFrontRow : OpenClaim := { program := "ytlbpdnaaailpeaa", sum := "767b385724f1fb58c5333538dd559e3663d529240c0608f26fc4ced161ee2499", func := "inquest/inquestlaw06.InnerFront", spec := "innerFront", unfollowed := true, recurses := true, apart := false }
def InnerFrontSaid : Prop := innerFrontRow.holds Try.pinned (OpenSpec.ofChange innerFrontSpec)

/-- ITS FALSE NEIGHBOUR: 'it returns false'. Refute it at one input. -/
def innerFrontWrong : ChangeSpec := { name := "innerFront", fn := fun _ => fun
  | [d1, d2, d3] => { results := [.lit (.bool false)], args := [d1, d2, d3] }
  | _ => none }
def InnerFrontWrongFalsely : Prop := innerFrontRow.holds Try.pinned (OpenSpec.ofChange innerFrontWrong)

/- THE SECOND FORM. 'bulk': how many values and letters a reading holds, each counted each time it is reached (what is shared counts as often as it is met; a slice's spare places count too). A statement '..UptoSaid' is the law's where the arguments, and the package variables that the reading takes, are together of bulk at most 1048576: NARROWER than '..Said'. Prove '..Said' where nothing that the law and all that it calls make is longer than what came in: it says more and counts as full. Else prove '..UptoSaid'. A law counts once. -/
mutual
def uptoBulk {H : Type} : DataW H → Nat
  | .lit (.string bytes) => bytes.length + 1
  | .lit _ => 1
  | .nil => 1
  | .ptr d => uptoBulk d + 1
  | .slice elems spare => uptoBulkAll elems + uptoBulkAll spare + 1
  | .agg parts => uptoBulkAll parts + 1
  | .iface _ d => uptoBulk d + 1
  | .map entries => uptoBulkEntries entries + 1
  | .held _ => 1
def uptoBulkAll {H : Type} : List (DataW H) → Nat
  | [] => 0
  | d :: r => uptoBulk d + uptoBulkAll r
def uptoBulkEntries {H : Type} : List (Lit × DataW H) → Nat
  | [] => 0
  | x :: r => uptoBulkEntry x + uptoBulkEntries r
def uptoBulkEntry {H : Type} : Lit × DataW H → Nat
  | (.string bytes, d) => bytes.length + uptoBulk d + 1
  | (_, d) => uptoBulk d + 1
 end
def uptoSmall : (H : Type) → List (DataW H) → Bool := fun _ ds => decide (uptoBulkAll ds ≤ 1048576)
def OpenSpec.upto (s : _root_.Go.ChangeSpec) : _root_.Go.OpenSpec := { _root_.Go.OpenSpec.ofChange s with cond := some uptoSmall }

/-- 'inquestlaw06.InnerTells', WHERE WHAT IT READS IS OF BULK AT MOST 1048576: true; the input reads as it did. -/
def innerTellsUptoRow : OpenClaim := { program := "ytlbpdnaaailpeaa", sum := "767b385724f1fb58c5333538dd559e3663d529240c0608f26fc4ced161ee2499", func := "inquest/inquestlaw06.InnerTells", spec := "innerTells", unfollowed := true, recurses := true, apart := false, narrowed := true }
def InnerTellsUptoSaid : Prop := innerTellsUptoRow.holds Try.pinned (OpenSpec.upto innerTellsSpec)

/-- 'inquestlaw06.InnerSaid', WHERE WHAT IT READS IS OF BULK AT MOST 1048576: true; the input reads as it did. -/
def innerSaidUptoRow : OpenClaim := { program := "ytlbpdnaaailpeaa", sum := "767b385724f1fb58c5333538dd559e3663d529240c0608f26fc4ced161ee2499", func := "inquest/inquestlaw06.InnerSaid", spec := "innerSaid", unfollowed := true, recurses := true, apart := false, narrowed := true }
def InnerSaidUptoSaid : Prop := innerSaidUptoRow.holds Try.pinned (OpenSpec.upto innerSaidSpec)

/-- 'inquestlaw06.InnerMore', WHERE WHAT IT READS IS OF BULK AT MOST 1048576: true; the input reads as it did. -/
def innerMoreUptoRow : OpenClaim := { program := "ytlbpdnaaailpeaa", sum := "767b385724f1fb58c5333538dd559e3663d529240c0608f26fc4ced161ee2499", func := "inquest/inquestlaw06.InnerMore", spec := "innerMore", unfollowed := true, recurses := true, apart := false, narrowed := true }
def InnerMoreUptoSaid : Prop := innerMoreUptoRow.holds Try.pinned (OpenSpec.upto innerMoreSpec)

/-- 'inquestlaw06.InnerFront', WHERE WHAT IT READS IS OF BULK AT MOST 1048576: true; the input reads as it did. -/
def innerFrontUptoRow : OpenClaim := { program := "ytlbpdnaaailpeaa", sum := "767b385724f1fb58c5333538dd559e3663d529240c0608f26fc4ced161ee2499", func := "inquest/inquestlaw06.InnerFront", spec := "innerFront", unfollowed := true, recurses := true, apart := false, narrowed := true }
def InnerFrontUptoSaid : Prop := innerFrontUptoRow.holds Try.pinned (OpenSpec.upto innerFrontSpec)

end Rows
end Go.Proofs.Ytlbpdnaaailpeaa
