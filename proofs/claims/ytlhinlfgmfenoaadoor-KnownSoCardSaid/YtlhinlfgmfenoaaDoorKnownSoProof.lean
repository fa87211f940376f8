/-
  The sessions' order is closed, and leads nowhere back.
  The walk is lawKnownSo of YtlhinlfgmfenoaaDoorKnSoLaw; the rest is the row's own step, by law_post of YtlhinlfgmfenoaaDoorFrame, and the card's, by the given tie.
-/
import Derived.Test.YtlhinlfgmfenoaaDoorCards
import Derived.Test.YtlhinlfgmfenoaaDoorTie
import Derived.Test.YtlhinlfgmfenoaaDoorKnSoLaw
import Derived.Test.YtlhinlfgmfenoaaDoorBiAll
import Derived.Deep.DeepHandedRow
namespace Go.Proofs.YtlhinlfgmfenoaaDoor.knownSo
open Go.ChangeShapes Go.WideShapes Go.ChangeAt Go.RowKit
open Go.ChangeMaps (open_string shut_string)

theorem own : ownKnob Tryd.prog.godebug = none := by kernel_rfl
theorem laidOut : laidOutB Tryd.prog = true := by kernel_rfl
theorem readable : Tryd.f3.params.toList.all (fun t => Tryd.prog.readableRec t && decide (t < Tryd.prog.types.size)) = true := by kernel_rfl
theorem alone : Tryd.f3.params.toList.all (fun t => !Tryd.prog.wantsStandIn t) = true := by kernel_rfl

/-- One input that fits: its world, how it reads, and that the variables hold what the row lists. -/
noncomputable def start (os : Os) : World := (laidBits os).forCall (fun _ _ => 0) ⟨#[], #[.agg #[.slice none 0 0], .int .i64 0, .int .i64 0], []⟩
theorem met (os : Os) : laidMet Tryd.prog Rows.knownSoRow.laid (start os).memory := laidMet_of_run' 8 (by kernel_rfl) (by kernel_rfl)
theorem read (os : Os) {H : Type} (enc : TypeId × Value → H) : ∃ ps, DataW.whole enc Tryd.prog (start os).memory Tryd.f3.params.toList Rows.knownSoSpec.vars false #[.agg #[.slice none 0 0], .int .i64 0, .int .i64 0].toList 8 = some ([.agg [.nil], .lit (.int .i64 0), .lit (.int .i64 0)], [], ps) :=
  ⟨[], by kernel_rfl⟩

set_option maxRecDepth 100000 in
theorem lifted (os : Os) (started : os.Started) (H : Type) (enc : TypeId × Value → H) (F : Stop.Interp) :
    ReturnsInHanded {} Tryd.checked os 3 .any ((OpenSpec.ofChange Rows.knownSoSpec).preRow enc Tryd.prog Tryd.f3 Rows.knownSoRow.domain false Rows.knownSoRow.laid) (((OpenSpec.ofChange Rows.knownSoSpec).at F).post enc Tryd.prog Tryd.f3 false true false false) := by
  obtain ⟨_, hread⟩ := read os enc
  have fits : (OpenSpec.ofChange Rows.knownSoSpec).preRow enc Tryd.prog Tryd.f3 Rows.knownSoRow.domain false Rows.knownSoRow.laid (start os).memory #[.agg #[.slice none 0 0], .int .i64 0, .int .i64 0] :=
    OpenSpec.preRow_of_cond 8 hread (by kernel_rfl) (fun _ h => by cases h) (by kernel_rfl) (met os)
  refine returnsInHanded_of_row (C := Tryd.checked) own started (by kernel_rfl) Tryd.func3 (witness_row_at (C := Tryd.checked) false (laidBits os) #[.agg #[.slice none 0 0], .int .i64 0, .int .i64 0] rfl (by kernel_rfl) (by kernel_rfl) (by kernel_rfl) fits) ?_
  intro W base args ds gs before hval0 hW _ _ _ hL _ _
  have hval : ∀ (j : Nat) t v, Tryd.f3.params[j]? = some t → args[j]? = some v → Value.okWide Tryd.prog W .any base t v := hval0
  have hW' := hW
  obtain ⟨p, q, hA0, hV, rfl, _, _⟩ := hW
  have hA : DataW.TrodAll enc Tryd.prog W 0 (fun _ => true) true Tryd.f3.params.toList args.toList ds p := hA0
  rw [Tryd.params3] at hA hval
  obtain ⟨v0, vs0, d0, ds0, p0, q0, hargs, rfl, rfl, h0, r0⟩ := trodAll_cons hA
  obtain ⟨v1, vs1, d1, ds1, p1, q1, rfl, rfl, rfl, h1, r1⟩ := trodAll_cons r0
  obtain ⟨v2, vs2, d2, ds2, p2, q2, rfl, rfl, rfl, h2, r2⟩ := trodAll_cons r1
  obtain ⟨rfl, rfl, rfl⟩ := trodAll_nil r2
  obtain rfl : args = #[v0, v1, v2] := by cases args; simp_all
  obtain ⟨rfl, rfl⟩ := trodVars_none hV
  obtain ⟨u0, l0, rfl, w0⟩ := arg_hist (hval 0 24 v0 rfl rfl) h0
  obtain ⟨a1, rfl, rfl, rfl, w1⟩ := open_int Tryd.underlying3 (hval 1 3 v1 rfl rfl) h1
  obtain ⟨a2, rfl, rfl, rfl, w2⟩ := open_int Tryd.underlying3 (hval 2 3 v2 rfl rfl) h2
  clear hA0 hval0
  refine (lawKnownSo l0 u0 a1 a2 W (tz_laid hL) w0).mono fun e W' ⟨he, hb⟩ => ?_
  subst he
  exact ⟨_, rfl, law_post (s := Rows.knownSoSpec) rfl hW' rfl rfl Tryd.underlying4 laidOut readable hb⟩

theorem said : Rows.KnownSoSaid :=
  OpenClaim.holds_of_cond 3 Tryd.f3 rfl rfl rfl rfl rfl rfl rfl ⟨rfl, rfl, rfl, rfl, rfl⟩ rfl rfl rfl rfl rfl (by kernel_rfl) Tryd.func3 (by kernel_rfl)
    (of_decide_eq_true (by kernel_rfl)) (by unfold Func.isWrapper; first | (rw [if_pos (by decide +kernel)]; kernel_rfl) | (rw [if_neg (by decide +kernel)]; exact ⟨rfl, rfl⟩))
    (fun os started H enc _ F => by rw [OpenClaim.pre_eq_preRow]; exact lifted os started H enc F)

/-- No parameter wants a stand-in. -/
theorem bare (f : FuncId) (fn : Func) (hf : Tryd.pinned.checked.prog.funcNamed "inquest/inquestlaw17.KnownSo" = some f) (hfn : Tryd.pinned.checked.prog.funcs[f]? = some fn) :
    false = Tryd.pinned.checked.prog.looks [] ∧ ∀ (j : Nat) t, fn.params[j]? = some t → Tryd.pinned.checked.prog.wantsStandIn t = false := by
  cases (show Tryd.prog.funcNamed "inquest/inquestlaw17.KnownSo" = some 3 by kernel_rfl).symm.trans hf
  cases Tryd.func3.symm.trans hfn
  refine ⟨by kernel_rfl, fun j t ht => ?_⟩
  have h := List.all_eq_true.1 alone t (Array.mem_def.1 (Array.mem_of_getElem? ht))
  exact (Bool.not_eq_true' _).mp h

/-- The statement. -/
theorem proved : Rows.KnownSoCardSaid :=
  Claim7.holds_tied_plain_at .later [] _ _ _ _ said (fun _ h => by cases h) (by kernel_rfl) (fun _ h => by cases h) knownSo_row_tie rfl ⟨rfl, rfl⟩ (by kernel_rfl) rfl bare (by kernel_rfl)
#print axioms proved
end Go.Proofs.YtlhinlfgmfenoaaDoor.knownSo
