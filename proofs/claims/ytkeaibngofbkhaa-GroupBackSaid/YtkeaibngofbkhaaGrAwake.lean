/-
  The laws' live example of layer 5 holds: awake answers true; what was in memory stays as it was.
  Conditions: none.
-/
import Derived.Test.YtkeaibngofbkhaaGrWalkC
namespace Go.Proofs.Ytkeaibngofbkhaa
open Go.RowKit

/-- The document's example: Begin 1, Begin 2, Commit 1; and Commit 1 behind another session's Begin. -/
def grA : List Ev.Event := [⟨0, 1, 0, 0⟩, ⟨0, 2, 0, 0⟩, ⟨3, 1, 0, 0⟩]
def grB : List Ev.Event := [⟨0, 3, 0, 0⟩, ⟨3, 1, 0, 0⟩]
def grT : List Gr.Tx := [⟨1, true, 0, []⟩, ⟨2, false, 1, []⟩]
theorem gr_ex : Gr.groupR grA = (grT, 0, 0) := by decide
theorem gr_ex2 : Gr.groupR grB = ([], 1, 6) := by decide
theorem gr_ex3 : (Gr.eventsR grT).length = 4 := by decide
theorem wf_small {l : List Ev.Event} (h : ∀ x ∈ l, 0 ≤ x.session ∧ x.session < 8) : ∀ x ∈ l, evWf x := fun x hx => WalkArith.wf_i64 (by have := h x hx; omega)

set_option maxHeartbeats 1000000 in
theorem grAwake_at (w : World) : Calls Try.prog 7 #[] w (RetBool w true) := by
  have L1 := Lib.hid (lit_evs w 44 grA (by decide))
  go_enter Try.func7, Try.ntmps7
  go_wp2_with fail
  refine (group_at grA _ _ L1.out (by decide) (wf_small (by decide))).mono ?_
  rintro e w1 ⟨v1, rfl, hs1, hb1⟩
  rw [gr_ex] at hs1 ⊢
  have B1 := Lib.hid (below_new hb1)
  have S1 := Lib.hid hs1
  have L2 := Lib.hid (lit_evs w1 44 grB (by decide))
  clear hb1 hs1
  dsimp only
  go_wp2_with fail
  refine (group_at grB _ _ L2.out (by decide) (wf_small (by decide))).mono ?_
  rintro e w2 ⟨v2, rfl, hs2, hb2⟩
  rw [gr_ex2] at hs2 ⊢
  have B2 := Lib.hid (below_all B1.out (below_new hb2))
  have S2 := Lib.hid (S1.out.below (below_new hb2))
  clear hb2 hs2
  obtain ⟨A, c, rfl, hf⟩ := S2.out.spelled
  obtain ⟨ad, u, rfl, _, h0, _⟩ := hf 0 (by decide)
  obtain ⟨ad', u', e', _, h1, _⟩ := hf 1 (by decide)
  cases e'
  clear hf
  have hl : grT.length = 2 := rfl
  have c0 := h0.c0
  have c1 := h0.c1
  have d1 := h1.c1
  have d2 := h1.c2
  rw [Nat.zero_mul, add_zero'] at c0 c1
  rw [Nat.one_mul] at d1 d2
  clear h0 h1
  dsimp only [grT, List.getElem_cons_zero, List.getElem_cons_succ] at c0 c1 d1 d2
  have k1 : w2.cell? ⟨ad.block, ad.off + 4 + 1, none⟩ = some (.bool false) := d1
  have k2 : w2.cell? ⟨ad.block, ad.off + 4 + 2, none⟩ = some (.int .i64 1) := d2
  clear d1 d2
  rw [hl] at S2 ⊢
  go_wp2_with fail
  refine (events_at grT _ _ S2.out (by decide)).mono ?_
  rintro e w3 ⟨v3, rfl, hs3, hb3⟩
  obtain ⟨A3, c3, rfl, _⟩ := hs3.form
  rw [gr_ex3]
  have B3 := Lib.hid (below_all B2.out hb3)
  clear hb3 hs3
  go_wp2_with fail
  go_ret
  exact ⟨rfl, B3.out⟩
end Go.Proofs.Ytkeaibngofbkhaa
