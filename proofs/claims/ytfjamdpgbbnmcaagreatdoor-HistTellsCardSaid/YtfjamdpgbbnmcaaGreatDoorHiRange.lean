/-
  A loop over a function whose rounds either leave all as it is and go on, or leave the loop by a return: its law, for an iterator that may do whatever it likes between the rounds.
  Conditions: none beyond those that the theorem states.
-/
import Derived.Test.YtfjamdpgbbnmcaaGreatDoorLow
import Derived.RangeFuncNested
import Derived.RangeFuncCalls
import Derived.RangeFuncLeaves
set_option maxRecDepth 4000
namespace Go.Proofs.YtfjamdpgbbnmcaaGreatDoor
open Go.RowKit

/-- The loop's two blocks, of which the first one lies at n. -/
def Booked (n : Nat) (r : Loop) (W : World) : Prop := W.heap[n]? = some (.deferred (some [])) ∧ W.heap[n + 1]? = some (.loop r)
theorem Booked.below {n : Nat} {r : Loop} {W W' : World} (h : Booked n r W) (hb : Below W.heap.size W W') : Booked n r W' :=
  ⟨(hb.block _ (Array.getElem?_eq_some_iff.1 h.1).1).trans h.1, (hb.block _ (Array.getElem?_eq_some_iff.1 h.2).1).trans h.2⟩
/-- How a round ends: it goes on and has left all as it was, or it leaves. -/
def stillPost {α : Type} (n : Nat) (Go : α → Prop) (Ix : α → World → Prop) (x : α) (W : World) : Exit → Act → World → Prop
  | .normal, _, W' => Go x ∧ W' = W
  | .ret, _, W' => KeepsFrom n W W' ∧ Ix x W'
  | _, _, _ => False
/-- What yield hands back. -/
def Round {α : Type} (n : Nat) (Go : α → Prop) (Ix : α → World → Prop) (out : Loop) (x : α) (W : World) (e : Ending) (W' : World) : Prop :=
  (e = .returned (.bool true) ∧ Go x ∧ W' = W) ∨ (e = .returned (.bool false) ∧ Ix x W' ∧ Booked n out W')
theorem put_put (W : World) (l : Nat) (o o' : Obj) : (W.putObj l o).putObj l o' = W.putObj l o' := by simp [World.putObj]
theorem put_same (W : World) (l : Nat) (o : Obj) (h : W.heap[l]? = some o) : W.putObj l o = W := by
  obtain ⟨hl, e⟩ := Array.getElem?_eq_some_iff.1 h
  subst e
  have e2 : W.heap.setIfInBounds l W.heap[l] = W.heap := by
    refine Array.ext (by simp) fun i h1 h2 => ?_
    rw [Array.getElem_setIfInBounds (by simpa using h2)]
    split
    · rename_i q; subst q; rfl
    · rfl
  unfold World.putObj
  rw [e2]

variable {F : Fence} {n : Nat} {P : Program}
theorem wp_range {α : Type} {g : Operand} {ps : Array Tmp} {assign body : Code} {Q : Exit → Act → World → Prop} {a : Act} {w : World}
    (hro : F.round = none) (h1 : 1 ≤ n) {gf : Nat} {lb : Array Value} (hg : a.eval g = .func (.func gf) #[] lb) (hFg : F.fn gf) (eg : ∀ args w, (callFunc gf args).run P w = .ok (.enter gf args) w)
    {encs : α → Array Value} (hps : ∀ x, (encs x).size = ps.size)
    (I : World → Prop) (Go : α → Prop) (Ix : α → World → Prop) (S : α → Prop) (E : World → Prop)
    (hI : OwnFrom w.heap.size (fun (_ : Unit) => I)) (hIx : OwnFrom w.heap.size Ix) (hE : OwnFrom w.heap.size (fun (_ : Unit) => E)) (h0 : I w) (a₁ : α → Act)
    (hassign : ∀ (l : Nat) (x : α) (W : World) (K : Act → World → Prop), K (a₁ x) W →
      assign.wpIn (F.inRound l) (n - 1 - 1) P (Exit.then K (fun _ _ _ => False)) { tmps := (ps.zip (encs x)).foldl (fun t (p, v) => t.setIfInBounds p v) a.tmps, defers := [] } W)
    (hbody : ∀ (l : Nat) (x : α) (W : World), I W → body.wpIn (F.inRound l) (n - 1 - 1) P (stillPost w.heap.size Go Ix x W) (a₁ x) W)
    (hiter : ∀ (ready out : Loop) (W : World), (∀ x W, I W → Booked w.heap.size ready W → YieldAt F (n - 1 - 1) P (w.heap.size + 1) (encs x) W (Round w.heap.size Go Ix out x W)) → I W → Booked w.heap.size ready W →
      CallsIn F (n - 1) P gf (#[.func (.yield (w.heap.size + 1)) #[] #[]] ++ lb) W fun e W' => (∃ v, e = .returned v) ∧ ((E W' ∧ Booked w.heap.size ready W') ∨ ∃ x, S x ∧ Ix x W' ∧ Booked w.heap.size out W'))
    (hdone : ∀ W, E W → W.heap[w.heap.size]? = some (.deferred (some [])) → Q .normal { a with defers := { target := .collected w.heap.size, args := #[] } :: a.defers } W)
    (hstop : ∀ x W, S x → Ix x W → W.heap[w.heap.size]? = some (.deferred (some [])) → Code.ret.wpIn F n P Q { a with defers := { target := .collected w.heap.size, args := #[] } :: a.defers } W) :
    (Code.rangeFunc g ps assign body).wpIn F n P Q a w := by
  refine wpIn_rangeFunc fun fn hfn => ?_
  rw [hro]
  let rec0 : Loop := { state := .ready, pending := none, fn, tmps := a.tmps, params := ps, assign, body, defers := w.heap.size }
  let out : Loop := { rec0 with state := .done, pending := some .ret }
  have hb2 : Booked w.heap.size rec0 ((w.alloc (.deferred (some []))).alloc (.loop rec0)) := by
    refine ⟨(Below.heap_alloc _ _ _ (by simp)).trans (World.alloc_heap_new w _), ?_⟩
    have := World.alloc_heap_new (w.alloc (.deferred (some []))) (.loop rec0)
    rwa [World.size_alloc] at this
  refine ⟨w.heap.size + 1, [{ target := .collected w.heap.size, args := #[] }], (w.alloc (.deferred (some []))).alloc (.loop rec0), { target := .fn (.func gf) lb, args := #[.func (.yield (w.heap.size + 1)) #[] #[]] },
    (w.alloc (.deferred (some []))).alloc (.loop rec0), gf, #[.func (.yield (w.heap.size + 1)) #[] #[]] ++ lb, (w.alloc (.deferred (some []))).alloc (.loop rec0), run_enterLoop_outer _ _ _ _ _, ?_, ?_, ?_, fun _ => h1, ?_⟩
  · simp only [resolve, hg]
    simp [go_sem]
  · intro f' hf'
    simp [Target.leads] at hf'
    subst hf'
    exact hFg
  · simp [invoke, go_sem, eg]
  refine (hiter rec0 out _ (fun x W hi hbk => ?_) (OwnFrom.alloc (I := fun (_ : Unit) => I) hI (s := ()) _ (OwnFrom.alloc (I := fun (_ : Unit) => I) hI (s := ()) _ h0)) hb2).mono ?_
  · have hlt : w.heap.size + 1 < W.heap.size := (Array.getElem?_eq_some_iff.1 hbk.2).1
    refine ⟨fn, _, assign, body, run_yield (P := P) (args := encs x) hbk.2 (hps x), roundIn_of_wpIn hfn (hassign _ x W _ ⟨_, run_beginRound hbk.2 rfl, ?_⟩)⟩
    have hl2 : (W.putObj (w.heap.size + 1) (.loop { rec0 with state := .busy })).heap[w.heap.size + 1]? = some (.loop { rec0 with state := .busy }) := World.putObj_heap_same hlt
    have hd2 : (W.putObj (w.heap.size + 1) (.loop { rec0 with state := .busy })).heap[w.heap.size]? = some (.deferred (some [])) := (World.putObj_heap_other (by omega)).trans hbk.1
    refine wpIn_mono (hbody _ x _ (OwnFrom.putObj (I := fun (_ : Unit) => I) hI (s := ()) _ hi (by omega) hbk.2 rfl)) fun e a3 W3 hp => ?_
    cases e with
    | normal =>
      obtain ⟨hgo, rfl⟩ := hp
      refine ⟨_, _, run_endRound (P := P) none hl2, .inl ⟨rfl, hgo, ?_⟩⟩
      rw [put_put]
      exact put_same W _ _ hbk.2
    | ret =>
      obtain ⟨hk3, hi3⟩ := hp
      have hl3 := hk3.same _ _ (by omega) hl2 rfl
      refine ⟨_, _, run_endRound (P := P) (some .ret) hl3, .inr ⟨rfl, OwnFrom.putObj hIx _ hi3 (by omega) hl3 rfl, (World.putObj_heap_other (by omega)).trans (hk3.same _ _ (Nat.le_refl _) hd2 rfl), World.putObj_heap_same (Array.getElem?_eq_some_iff.1 hl3).1⟩⟩
    | exit id => exact hp.elim
    | goto t => exact hp.elim
    | panic ch => exact hp.elim
    | outgrown => exact hp.elim
  · rintro e W2 ⟨⟨v, rfl⟩, (⟨hs, hbk⟩ | ⟨x, hx, hs, hbk⟩)⟩
    · exact ⟨none, _, run_endLoop (P := P) hbk.2 (by simp [rec0]), hdone _ (OwnFrom.putObj (I := fun (_ : Unit) => E) hE (s := ()) _ hs (by omega) hbk.2 rfl) ((World.putObj_heap_other (by omega)).trans hbk.1)⟩
    · exact ⟨some .ret, _, run_endLoop (P := P) hbk.2 (by simp [out]), hstop x _ hx (OwnFrom.putObj hIx _ hs (by omega) hbk.2 rfl) ((World.putObj_heap_other (by omega)).trans hbk.1)⟩
end Go.Proofs.YtfjamdpgbbnmcaaGreatDoor
