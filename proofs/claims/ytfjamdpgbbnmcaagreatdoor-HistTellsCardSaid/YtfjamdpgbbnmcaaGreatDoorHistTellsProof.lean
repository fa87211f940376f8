/-
  HistTells answers true for every string and every history, and leaves the history as it was, where event.kindWords holds its words (the card ties that to the program's text).
  The walk is lawHistTells of YtfjamdpgbbnmcaaGreatDoorHiTells; the rest is the row's own step, by law_post of YtfjamdpgbbnmcaaGreatDoorFrame, and the card's, by the given tie.
-/
import Derived.Test.YtfjamdpgbbnmcaaGreatDoorCards
import Derived.Test.YtfjamdpgbbnmcaaGreatDoorTie
import Derived.Test.YtfjamdpgbbnmcaaGreatDoorHiTells
import Derived.Test.YtfjamdpgbbnmcaaGreatDoorEvAll
import Derived.Deep.DeepHandedRow
namespace Go.Proofs.YtfjamdpgbbnmcaaGreatDoor.histTells
open Go.ChangeShapes Go.WideShapes Go.ChangeAt Go.RowKit
open Go.ChangeMaps (open_string shut_string)

theorem own : ownKnob Tryz.prog.godebug = none := by kernel_rfl
theorem laidOut : laidOutB Tryz.prog = true := by kernel_rfl
theorem readable : Tryz.f3.params.toList.all (fun t => Tryz.prog.readableRec t && decide (t < Tryz.prog.types.size)) = true := by kernel_rfl
theorem alone : Tryz.f3.params.toList.all (fun t => !Tryz.prog.wantsStandIn t) = true := by kernel_rfl

/-- One input that fits: its world, how it reads, and that the variables hold what the row lists. -/
noncomputable def start (os : Os) : World := (laidWorld os).forCall (fun _ _ => 0) ⟨#[], #[.string ByteArray.empty, .agg #[.slice none 0 0]], []⟩
theorem met (os : Os) : laidMet Tryz.prog Rows.histTellsRow.laid (start os).memory := laidMet_of_run' 8 (by kernel_rfl) (by kernel_rfl)
theorem read (os : Os) {H : Type} (enc : TypeId × Value → H) : ∃ ps, DataW.whole enc Tryz.prog (start os).memory Tryz.f3.params.toList Rows.histTellsSpec.vars false #[.string ByteArray.empty, .agg #[.slice none 0 0]].toList 8 = some ([.lit (.string []), .agg [.nil]], [], ps) :=
  ⟨[], by kernel_rfl⟩

set_option maxRecDepth 100000 in
theorem lifted (os : Os) (started : os.Started) (H : Type) (enc : TypeId × Value → H) (F : Stop.Interp) :
    ReturnsInHanded {} Tryz.checked os 3 .any ((OpenSpec.ofChange Rows.histTellsSpec).preRow enc Tryz.prog Tryz.f3 Rows.histTellsRow.domain false Rows.histTellsRow.laid) (((OpenSpec.ofChange Rows.histTellsSpec).at F).post enc Tryz.prog Tryz.f3 false true false false) := by
  obtain ⟨_, hread⟩ := read os enc
  have fits : (OpenSpec.ofChange Rows.histTellsSpec).preRow enc Tryz.prog Tryz.f3 Rows.histTellsRow.domain false Rows.histTellsRow.laid (start os).memory #[.string ByteArray.empty, .agg #[.slice none 0 0]] :=
    OpenSpec.preRow_of_cond 8 hread (by kernel_rfl) (fun _ h => by cases h) (by kernel_rfl) (met os)
  refine returnsInHanded_of_row (C := Tryz.checked) own started (by kernel_rfl) Tryz.func3 (witness_row_at (C := Tryz.checked) false (laidWorld os) #[.string ByteArray.empty, .agg #[.slice none 0 0]] rfl (by kernel_rfl) (by kernel_rfl) (by kernel_rfl) fits) ?_
  intro W base args ds gs before hval0 hW _ _ _ hL _ _
  have hval : ∀ (j : Nat) t v, Tryz.f3.params[j]? = some t → args[j]? = some v → Value.okWide Tryz.prog W .any base t v := hval0
  have hW' := hW
  obtain ⟨p, q, hA0, hV, rfl, _, _⟩ := hW
  have hA : DataW.TrodAll enc Tryz.prog W 0 (fun _ => true) true Tryz.f3.params.toList args.toList ds p := hA0
  rw [Tryz.params3] at hA hval
  obtain ⟨v0, vs0, d0, ds0, p0, q0, hargs, rfl, rfl, h0, r0⟩ := trodAll_cons hA
  obtain ⟨v1, vs1, d1, ds1, p1, q1, rfl, rfl, rfl, h1, r1⟩ := trodAll_cons r0
  obtain ⟨rfl, rfl, rfl⟩ := trodAll_nil r1
  obtain rfl : args = #[v0, v1] := by cases args; simp_all
  obtain ⟨rfl, rfl⟩ := trodVars_none hV
  obtain ⟨a0, rfl, rfl, rfl, w0⟩ := open_string Tryz.underlying9 (hval 0 9 v0 rfl rfl) h0
  rw [← Ln.bs_of a0]
  obtain ⟨u1, l1, rfl, w1⟩ := arg_hist (hval 1 24 v1 rfl rfl) h1
  clear hA0 hval0
  refine (lawHistTells a0.data.toList l1 u1 W (kw_laid hL) (by rw [Ln.data_len]; exact w0) w1).mono fun e W' ⟨he, hb⟩ => ?_
  subst he
  rw [Ln.bs_of a0]
  exact ⟨_, rfl, law_post (s := Rows.histTellsSpec) rfl hW' rfl rfl Tryz.underlying4 laidOut readable hb⟩

theorem said : Rows.HistTellsSaid :=
  OpenClaim.holds_of_cond 3 Tryz.f3 rfl rfl rfl rfl rfl rfl rfl ⟨rfl, rfl, rfl, rfl, rfl⟩ rfl rfl rfl rfl rfl (by kernel_rfl) Tryz.func3 (by kernel_rfl)
    (of_decide_eq_true (by kernel_rfl)) (by unfold Func.isWrapper; first | (rw [if_pos (by decide +kernel)]; kernel_rfl) | (rw [if_neg (by decide +kernel)]; exact ⟨rfl, rfl⟩))
    (fun os started H enc _ F => by rw [OpenClaim.pre_eq_preRow]; exact lifted os started H enc F)

/-- No parameter wants a stand-in. -/
theorem bare (f : FuncId) (fn : Func) (hf : Tryz.pinned.checked.prog.funcNamed "inquest/inquestlaw08.HistTells" = some f) (hfn : Tryz.pinned.checked.prog.funcs[f]? = some fn) :
    true = Tryz.pinned.checked.prog.looks [] ∧ ∀ (j : Nat) t, fn.params[j]? = some t → Tryz.pinned.checked.prog.wantsStandIn t = false := by
  cases (show Tryz.prog.funcNamed "inquest/inquestlaw08.HistTells" = some 3 by kernel_rfl).symm.trans hf
  cases Tryz.func3.symm.trans hfn
  refine ⟨by kernel_rfl, fun j t ht => ?_⟩
  have h := List.all_eq_true.1 alone t (Array.mem_def.1 (Array.mem_of_getElem? ht))
  exact (Bool.not_eq_true' _).mp h

/-- The statement. -/
theorem proved : Rows.HistTellsCardSaid :=
  Claim7.holds_tied_plain_at .later [] _ _ _ _ said (fun _ h => by cases h) (by kernel_rfl) (fun _ h => by cases h) histTells_row_tie rfl ⟨rfl, rfl⟩ (by kernel_rfl) rfl bare (by kernel_rfl)
#print axioms proved
end Go.Proofs.YtfjamdpgbbnmcaaGreatDoor.histTells
