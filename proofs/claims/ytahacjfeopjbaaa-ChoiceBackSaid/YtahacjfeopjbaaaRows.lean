/-
  No cell of these rows narrows 'for every input' (looked for: loops, veiled, ifaces, maps, wideKeys, modest, calm, conditions, laid).
  DERIVED. THE GIVEN ROWS OF THIS SEAT. 4 by the template 'for every input the law returns true; each argument reads behind the call as it read before'; 0 by the template 'total and deterministic' (their statements: YtahacjfeopjbaaaTotals.lean).
  GIVEN WITH THE SEED: the statements are not yours to turn. If you find one false, say at which input.
  Laid BY PROGRAM, IN A SANDBOX (cutbox-rows.mjs): the forced cells as the released guide's own fill.sh prints them over the translation 7f09e990e61063f4… (all of the seat's roots in one cut). By AI agents, Wed Nov 11 2026. No macro, syntax, notation, axiom, sorry.
-/
import Derived.Test.YtahacjfeopjbaaaChecked
import GoSem.Claim
import GoSem.ClaimJoined
import GoSem.ClaimMapViews
import Derived.JoinedTies
import Derived.KernelRfl
namespace Go.Proofs.Ytahacjfeopjbaaa
/- THE CELL 'sum', in the pinned program and in every row, IS THE sha256 OF THE DUMP (.gsa) THAT YtahacjfeopjbaaaProg.lean LOADS. Nothing in Lean hashes anything: it is a label: what it is worth is what the hold of that sum in a sandbox is worth. -/
noncomputable def Try.pinned : Pinned := { name := "ytahacjfeopjbaaa", sum := "7f09e990e61063f4e47787a6bdd7404bae5db5649e569c2e738ef8da5b47af7e", checked := Try.checked }
namespace Rows
def none {H : Type} : Left H := { results := [], args := [] }

/-- 'inquestlaw18.ChoiceTells': WHATEVER THE INPUT: true; the input reads as it did. -/
def choiceTellsSpec : ChangeSpec := { name := "choiceTells", fn := fun _ => fun
  | [d1, d2, d3] => { results := [.lit (.bool true)], args := [d1, d2, d3] }
  | _ => none }
def choiceTellsRow : OpenClaim := { program := "ytahacjfeopjbaaa", sum := "7f09e990e61063f4e47787a6bdd7404bae5db5649e569c2e738ef8da5b47af7e", func := "inquest/inquestlaw18.ChoiceTells", spec := "choiceTells", unfollowed := true, recurses := true, plainKeys := false, apart := false }
def ChoiceTellsSaid : Prop := choiceTellsRow.holds Try.pinned (OpenSpec.ofChange choiceTellsSpec)

/-- ITS FALSE NEIGHBOUR: 'it returns false'. Refute it at one input. -/
def choiceTellsWrong : ChangeSpec := { name := "choiceTells", fn := fun _ => fun
  | [d1, d2, d3] => { results := [.lit (.bool false)], args := [d1, d2, d3] }
  | _ => none }
def ChoiceTellsWrongFalsely : Prop := choiceTellsRow.holds Try.pinned (OpenSpec.ofChange choiceTellsWrong)

/-- 'inquestlaw18.ChoiceOf': WHATEVER THE INPUT: true; the input reads as it did. -/
def choiceOfSpec : ChangeSpec := { name := "choiceOf", fn := fun _ => fun
  | [d1, d2] => { results := [.lit (.bool true)], args := [d1, d2] }
  | _ => none }
def choiceOfRow : OpenClaim := { program := "ytahacjfeopjbaaa", sum := "7f09e990e61063f4e47787a6bdd7404bae5db5649e569c2e738ef8da5b47af7e", func := "inquest/inquestlaw18.ChoiceOf", spec := "choiceOf", unfollowed := true, recurses := true, plainKeys := false, apart := false }
def ChoiceOfSaid : Prop := choiceOfRow.holds Try.pinned (OpenSpec.ofChange choiceOfSpec)

/-- ITS FALSE NEIGHBOUR: 'it returns false'. Refute it at one input. -/
def choiceOfWrong : ChangeSpec := { name := "choiceOf", fn := fun _ => fun
  | [d1, d2] => { results := [.lit (.bool false)], args := [d1, d2] }
  | _ => none }
def ChoiceOfWrongFalsely : Prop := choiceOfRow.holds Try.pinned (OpenSpec.ofChange choiceOfWrong)

/-- 'inquestlaw18.ChoiceMore': WHATEVER THE INPUT: true; the input reads as it did. -/
def choiceMoreSpec : ChangeSpec := { name := "choiceMore", fn := fun _ => fun
  | [d] => { results := [.lit (.bool true)], args := [d] }
  | _ => none }
def choiceMoreRow : OpenClaim := { program := "ytahacjfeopjbaaa", sum := "7f09e990e61063f4e47787a6bdd7404bae5db5649e569c2e738ef8da5b47af7e", func := "inquest/inquestlaw18.ChoiceMore", spec := "choiceMore", unfollowed := true, recurses := true, plainKeys := false, apart := false }
def ChoiceMoreSaid : Prop := choiceMoreRow.holds Try.pinned (OpenSpec.ofChange choiceMoreSpec)

/-- ITS FALSE NEIGHBOUR: 'it returns false'. Refute it at one input. -/
def choiceMoreWrong : ChangeSpec := { name := "choiceMore", fn := fun _ => fun
  | [d] => { results := [.lit (.bool false)], args := [d] }
  | _ => none }
def ChoiceMoreWrongFalsely : Prop := choiceMoreRow.holds Try.pinned (OpenSpec.ofChange choiceMoreWrong)

/-- 'inquestlaw18.ChoiceBack': WHATEVER THE INPUT: true; the input reads as it did. -/
def choiceBackSpec : ChangeSpec := { name := "choiceBack", fn := fun _ => fun
  | [d1, d2] => { results := [.lit (.bool true)], args := [d1, d2] }
  | _ => none }
def choiceBackRow : OpenClaim := { program := "ytahacjfeopjbaaa", sum := "7f09e990e61063f4e47787a6bdd7404bae5db5649e569c2e738ef8da5b47af7e", func := "inquest/inquestlaw18.ChoiceBack", spec := "choiceBack", unfollowed := true, recurses := true, plainKeys := false, apart := false }
def ChoiceBackSaid : Prop := choiceBackRow.holds Try.pinned (OpenSpec.ofChange choiceBackSpec)

/-- ITS FALSE NEIGHBOUR: 'it returns false'. Refute it at one input. -/
def choiceBackWrong : ChangeSpec := { name := "choiceBack", fn := fun _ => fun
  | [d1, d2] => { results := [.lit (.bool false)], args := [d1, d2] }
  | _ => none }
def ChoiceBackWrongFalsely : Prop := choiceBackRow.holds Try.pinned (OpenSpec.ofChange choiceBackWrong)

/- THE SECOND FORM. 'bulk': how many values and letters a reading holds, each counted each time it is reached (what is shared counts as often as it is met; a slice's spare places count too). A statement '..UptoSaid' is the law's where the arguments, and the package variables that the reading takes, are together of bulk at most 1048576: NARROWER than '..Said'. Prove '..Said' where nothing that the law and all that it calls make is longer than what came in: it says more and counts as full. Else prove '..UptoSaid'. A law counts once. -/
mutual
def uptoBulk {H : Type} : DataW H → Nat
  | .lit (.string bytes) => bytes.length + 1
  | .lit _ => 1
  | .nil => 1
  | .ptr d => uptoBulk d + 1
  | .slice elems spare => uptoBulkAll elems + uptoBulkAll spare + 1
  | .agg parts => uptoBulkAll parts + 1
  | .iface _ d => uptoBulk d + 1
  | .map entries => uptoBulkEntries entries + 1
  | .held _ => 1
def uptoBulkAll {H : Type} : List (DataW H) → Nat
  | [] => 0
  | d :: r => uptoBulk d + uptoBulkAll r
def uptoBulkEntries {H : Type} : List (Lit × DataW H) → Nat
  | [] => 0
  | x :: r => uptoBulkEntry x + uptoBulkEntries r
def uptoBulkEntry {H : Type} : Lit × DataW H → Nat
  | (.string bytes, d) => bytes.length + uptoBulk d + 1
  | (_, d) => uptoBulk d + 1
 end
def uptoSmall : (H : Type) → List (DataW H) → Bool := fun _ ds => decide (uptoBulkAll ds ≤ 1048576)
def OpenSpec.upto (s : _root_.Go.ChangeSpec) : _root_.Go.OpenSpec := { _root_.Go.OpenSpec.ofChange s with cond := some uptoSmall }

/-- 'inquestlaw18.ChoiceTells', WHERE WHAT IT READS IS OF BULK AT MOST 1048576: true; the input reads as it did. -/
def choiceTellsUptoRow : OpenClaim := { program := "ytahacjfeopjbaaa", sum := "7f09e990e61063f4e47787a6bdd7404bae5db5649e569c2e738ef8da5b47af7e", func := "inquest/inquestlaw18.ChoiceTells", spec := "choiceTells", unfollowed := true, recurses := true, plainKeys := false, apart := false, narrowed := true }
def ChoiceTellsUptoSaid : Prop := choiceTellsUptoRow.holds Try.pinned (OpenSpec.upto choiceTellsSpec)

/-- 'inquestlaw18.ChoiceOf', WHERE WHAT IT READS IS OF BULK AT MOST 1048576: true; the input reads as it did. -/
def choiceOfUptoRow : OpenClaim := { program := "ytahacjfeopjbaaa", sum := "7f09e990e61063f4e47787a6bdd7404bae5db5649e569c2e738ef8da5b47af7e", func := "inquest/inquestlaw18.ChoiceOf", spec := "choiceOf", unfollowed := true, recurses := true, plainKeys := false, apart := false, narrowed := true }
def ChoiceOfUptoSaid : Prop := choiceOfUptoRow.holds Try.pinned (OpenSpec.upto choiceOfSpec)

/-- 'inquestlaw18.ChoiceMore', WHERE WHAT IT READS IS OF BULK AT MOST 1048576: true; the input reads as it did. -/
def choiceMoreUptoRow : OpenClaim := { program := "ytahacjfeopjbaaa", sum := "7f09e990e61063f4e47787a6bdd7404bae5db5649e569c2e738ef8da5b47af7e", func := "inquest/inquestlaw18.ChoiceMore", spec := "choiceMore", unfollowed := true, recurses := true, plainKeys := false, apart := false, narrowed := true }
def ChoiceMoreUptoSaid : Prop := choiceMoreUptoRow.holds Try.pinned (OpenSpec.upto choiceMoreSpec)

/-- 'inquestlaw18.ChoiceBack', WHERE WHAT IT READS IS OF BULK AT MOST 1048576: true; the input reads as it did. -/
def choiceBackUptoRow : OpenClaim := { program := "ytahacjfeopjbaaa", sum := "7f09e990e61063f4e47787a6bdd7404bae5db5649e569c2e738ef8da5b47af7e", func := "inquest/inquestlaw18.ChoiceBack", spec := "choiceBack", unfollowed := true, recurses := true, plainKeys := false, apart := false, narrowed := true }
def ChoiceBackUptoSaid : Prop := choiceBackUptoRow.holds Try.pinned (OpenSpec.upto choiceBackSpec)

end Rows
end Go.Proofs.Ytahacjfeopjbaaa
