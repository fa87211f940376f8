/-
  A region that draws the order of its operations, by what holds whichever of them have come up.
  Conditions: none beyond those that each theorem states.
-/
import Derived.Test.YtahacjfeopjbaaaProg
import Derived.OrdersHeld
import Derived.Deep.RegionHeld3
set_option maxRecDepth 4000
namespace Go.Proofs.Ytahacjfeopjbaaa

/-- A region that draws, by what holds whichever of its operations have come up. -/
theorem anyOrder_held {P : Program} {md : Region.Mode} {ops : Array Oper} {Q : Exit → Act → World → Prop} {S : World → Prop} (J : Array Bool → Act → World → Prop)
    (hstep : ∀ listed a w i, J listed a w → i ∈ Region.ready md ops listed → wpOp P ops Q i (fun a' w' => S w' ∧ J (listed.setIfInBounds i true) a' w') a w)
    (hend : ∀ listed a w, J listed a w → Region.ready md ops listed = [] → Q .normal a w) :
    ∀ (fuel : Nat) (listed : Array Bool) (a : Act) (w : World), ((List.range ops.size).filter fun j => !listed.getD j true).length ≤ fuel → J listed a w → wpAnyH P md ops Q S fuel listed a w
  | 0, listed, a, w, hf, hj => by
    have h0 : Region.ready md ops listed = [] := by
      have h1 : (List.range ops.size).filter (fun j => !listed.getD j true) = [] := List.eq_nil_of_length_eq_zero (Nat.le_zero.1 hf)
      refine List.eq_nil_iff_forall_not_mem.2 fun i hi => ?_
      unfold Region.ready at hi
      rw [List.mem_filter] at hi
      have h2 : i ∈ (List.range ops.size).filter fun j => !listed.getD j true := List.mem_filter.2 ⟨hi.1, (Bool.and_eq_true _ _ |>.mp hi.2).1⟩
      rw [h1] at h2
      cases h2
    exact ⟨h0, hend _ _ _ hj h0⟩
  | fuel + 1, listed, a, w, hf, hj => by
    refine ⟨fun h0 => hend _ _ _ hj h0, fun i hi => ?_⟩
    refine wpOp_mono (fun a' w' h => ⟨h.1, anyOrder_held J hstep hend fuel _ a' w' ?_ h.2⟩) (hstep _ _ _ i hj hi)
    unfold Region.ready at hi
    rw [List.mem_filter] at hi
    have hu : (!listed.getD i true) = true := (Bool.and_eq_true _ _ |>.mp hi.2).1
    have e1 : (List.range ops.size).filter (fun j => !(listed.setIfInBounds i true).getD j true) = ((List.range ops.size).filter fun j => !listed.getD j true).filter fun j => !(listed.setIfInBounds i true).getD j true := by
      rw [List.filter_filter]
      refine List.filter_congr fun j _ => ?_
      by_cases e : i = j
      · subst e
        rw [hu, Bool.and_true]
      · rw [getD_set_ne true e]
        cases listed.getD j true <;> rfl
    rw [e1]
    have h3 : (((List.range ops.size).filter fun j => !listed.getD j true).filter fun j => !(listed.setIfInBounds i true).getD j true).length < ((List.range ops.size).filter fun j => !listed.getD j true).length := by
      refine List.length_filter_lt_length_iff_exists.2 ⟨i, List.mem_filter.2 ⟨hi.1, hu⟩, ?_⟩
      have hlt : i < listed.size := by
        rcases Nat.lt_or_ge i listed.size with h | h
        · exact h
        · rw [Array.getD_eq_getD_getElem?, Array.getElem?_eq_none h] at hu
          cases hu
      have e2 : (listed.setIfInBounds i true).getD i true = true := by
        rw [Array.getD_eq_getD_getElem?, Array.getElem?_setIfInBounds]
        simp [hlt]
      rw [e2]
      decide
    omega

/-- Where no operation waits for a later one, nothing is left only when all have come up. -/
theorem all_came {md : Region.Mode} {ops : Array Oper} {listed : Array Bool} (hs : listed.size = ops.size) (hac : ((List.range ops.size).all fun i => ((ops[i]?).map fun o => o.after.all fun e => decide (e.on < i)).getD true) = true)
    (h0 : Region.ready md ops listed = []) : ∀ i, i < ops.size → listed.getD i true = true := by
  intro i
  induction i using Nat.strongRecOn with
  | _ i ih =>
    intro hi
    cases hu : listed.getD i true with
    | true => rfl
    | false =>
      have hm : i ∈ Region.ready md ops listed := by
        refine mem_ready.2 ⟨hu, ops[i], Array.getElem?_eq_getElem hi, fun e he _ => ?_⟩
        have h1 := List.all_eq_true.1 hac i (List.mem_range.2 hi)
        rw [Array.getElem?_eq_getElem hi] at h1
        have h2 : e.on < i := of_decide_eq_true (Array.all_eq_true_iff_forall_mem.1 h1 e he)
        have h3 := ih e.on h2 (Nat.lt_trans h2 hi)
        have h4 : e.on < listed.size := by rw [hs]; exact Nat.lt_trans h2 hi
        rw [Array.getD_eq_getD_getElem?, Array.getElem?_eq_getElem h4] at h3 ⊢
        exact h3
      rw [h0] at hm
      cases hm

/-- The same, an operation at a time, as the walk wants it. -/
theorem anyOrder {P : Program} {md : Region.Mode} {ops : Array Oper} {Q : Exit → Act → World → Prop} {S : World → Prop} {listed : Array Bool} {a : Act} {w : World} {fuel : Nat} (J : Array Bool → Act → World → Prop)
    (hac : ((List.range ops.size).all fun i => ((ops[i]?).map fun o => o.after.all fun e => decide (e.on < i)).getD true) = true)
    (hsize : ∀ listed a w, J listed a w → listed.size = ops.size)
    (hfuel : ((List.range ops.size).filter fun j => !listed.getD j true).length ≤ fuel)
    (hstart : J listed a w)
    (hend : ∀ listed a w, J listed a w → (∀ i, i < ops.size → listed.getD i true = true) → Q .normal a w)
    (hstep : ∀ i o, ops[i]? = some o → ∀ listed a w, J listed a w → listed.getD i true = false → (∀ e ∈ o.after, Region.binds md e = true → listed.getD e.on false = true) →
      ∀ K : Act → World → Prop, Shut (∀ a w, S w ∧ J (listed.setIfInBounds i true) a w → K a w) → if Region.wanted o (yielded ops a.tmps) = true then Oper.wp P o a w K Q else K (a.put o.dst undef) w) :
    wpAnyH P md ops Q S fuel listed a w :=
  anyOrder_held J (fun listed a w i hj hi => by
      obtain ⟨h1, o, ho, h2⟩ := mem_ready.1 hi
      exact wpOp_step ho fun K hK => hstep i o ho listed a w hj h1 h2 K hK)
    (fun listed a w hj h0 => hend listed a w hj (all_came (hsize _ _ _ hj) hac h0)) fuel listed a w hfuel hstart
end Go.Proofs.Ytahacjfeopjbaaa
