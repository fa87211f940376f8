/-
  Plain facts on the nodes that lie on some cycle: those of the components of two nodes and more, and those with an edge to themselves.
  Conditions: none beyond those that each theorem states.
-/
import Derived.Test.YtgapcjgmmlffmaaDoorScAns
import Derived.Test.YtgapcjgmmlffmaaDoorScTarj
set_option maxRecDepth 4000
namespace Go.Proofs.YtgapcjgmmlffmaaDoor
namespace Sc
open Gf Rc

/-- A component whose nodes lie on a cycle. -/
def onCyc (l c : List Nat) : Bool := decide (1 < c.length) || bit l (c.headD 0) (c.headD 0)
def pick (l : List Nat) (cs : List (List Nat)) : List Nat := (cs.filter (onCyc l)).flatten
theorem pick_yes {l c : List Nat} {cs : List (List Nat)} (h : onCyc l c = true) : pick l (cs ++ [c]) = pick l cs ++ c := by
  rw [pick, List.filter_append, List.filter_cons_of_pos h, List.filter_nil, List.flatten_append, List.flatten_singleton]
  rfl
theorem pick_no {l c : List Nat} {cs : List (List Nat)} (h : onCyc l c = false) : pick l (cs ++ [c]) = pick l cs := by
  rw [pick, List.filter_append, List.filter_cons_of_neg (by rw [h]; decide), List.filter_nil, List.append_nil]
  rfl
theorem pick_len {l : List Nat} {k : Nat} : ∀ {cs : List (List Nat)}, (∀ c ∈ cs, c.length ≤ k) → (pick l cs).length ≤ cs.length * k := by
  intro cs
  induction cs with
  | nil => intro _; exact Nat.zero_le _
  | cons c cs ih =>
    intro h
    have h1 := ih fun d hd => h d (List.mem_cons_of_mem _ hd)
    have h2 := h c List.mem_cons_self
    unfold pick at h1 ⊢
    rw [List.length_cons, Nat.succ_mul]
    by_cases e : onCyc l c = true
    · rw [List.filter_cons_of_pos e, List.flatten_cons, List.length_append]
      omega
    · rw [List.filter_cons_of_neg e]
      omega
theorem first_edge {l : List Nat} {x z : Nat} (h : Leads l x z) : ∃ y, bit l x y = true ∧ (y = z ∨ Leads l y z) := by
  induction h with
  | single e => exact ⟨_, e, .inl rfl⟩
  | tail _ e ih =>
    obtain ⟨y, h1, h2⟩ := ih
    refine ⟨y, h1, .inr ?_⟩
    rcases h2 with rfl | h2
    · exact Leads.edge e
    · exact h2.behind e
section
variable {n : Nat} {l : List Nat}
theorem cls_mem {t : Nat → Nat → Bool} {x y : Nat} : y ∈ cls n t x ↔ y < n ∧ t x y = true := by rw [cls, List.mem_filter, List.mem_range]
theorem on_cycle (hg : Ok n l) {x : Nat} (hx : x < n) : onCyc l (cls n (tog n l) x) = true ↔ Leads l x x := by
  have hq := tog_eqv hg
  have hxm : x ∈ cls n (tog n l) x := cls_mem.2 ⟨hx, hq.refl x⟩
  have hback : ∀ y, y ∈ cls n (tog n l) x → y ≠ x → Leads l x x := fun y hy hne => by
    rcases (tog_iff hg).1 (cls_mem.1 hy).2 with e | ⟨a, b⟩
    · exact absurd e.symm hne
    · exact a.then b
  obtain ⟨v, r, e, hv⟩ := cls_first hq hx
  have hr := cls_rise n (tog n l) x
  unfold onCyc
  rw [Bool.or_eq_true, decide_eq_true_eq]
  constructor
  · rintro (h | h)
    · rw [e] at hback hr h
      cases r with
      | nil => exact absurd h (by simp)
      | cons v2 r' =>
        have hlt : v < v2 := (List.pairwise_cons.1 hr).1 v2 List.mem_cons_self
        by_cases q : v = x
        · exact hback v2 (List.mem_cons_of_mem _ List.mem_cons_self) (by omega)
        · exact hback v List.mem_cons_self q
    · rw [e] at h hback
      by_cases q : v = x
      · rw [← q]
        exact Leads.edge h
      · exact hback v List.mem_cons_self q
  · intro h
    obtain ⟨y, h1, h2⟩ := first_edge h
    by_cases q : y = x
    · rw [q] at h1
      cases r with
      | nil =>
        rw [e] at hxm ⊢
        have : x = v := List.mem_singleton.1 hxm
        exact .inr (by show bit l v v = true; rw [← this]; exact h1)
      | cons v2 r' =>
        rw [e]
        exact .inl (by simp)
    · have hy : y ∈ cls n (tog n l) x := cls_mem.2 ⟨(hg.node h1).2, (tog_iff hg).2 (.inr ⟨Leads.edge h1, h2.resolve_left q⟩)⟩
      refine .inl ?_
      rw [e] at hxm hy ⊢
      cases r with
      | nil =>
        have a := List.mem_singleton.1 hxm
        have b := List.mem_singleton.1 hy
        exact absurd (b.trans a.symm) q
      | cons v2 r' => simp
theorem pick_mem (hg : Ok n l) (x : Nat) : x ∈ pick l (comps (tog n l) n) ↔ x ∈ innerR n l := by
  have hq := tog_eqv hg
  rw [inner_mem hg, pick, List.mem_flatten]
  constructor
  · rintro ⟨c, hc, hx⟩
    obtain ⟨h1, h2⟩ := List.mem_filter.1 hc
    obtain ⟨v, hv, rfl⟩ := (comps_mem_iff hq).1 h1
    obtain ⟨h3, h4⟩ := cls_mem.1 hx
    rw [cls_same hq h4] at h2
    exact (on_cycle hg h3).1 h2
  · intro h
    have hx : x < n := by
      obtain ⟨y, h1, _⟩ := first_edge h
      exact (hg.node h1).1
    exact ⟨_, List.mem_filter.2 ⟨(comps_mem_iff hq).2 ⟨x, hx, rfl⟩, (on_cycle hg hx).2 h⟩, cls_mem.2 ⟨hx, hq.refl x⟩⟩
theorem pick_once (hg : Ok n l) : (pick l (comps (tog n l) n)).Nodup := by
  have hq := tog_eqv hg
  unfold pick List.Nodup
  rw [List.pairwise_flatten]
  constructor
  · intro c hc
    obtain ⟨v, hv, rfl⟩ := (comps_mem_iff hq).1 (List.mem_filter.1 hc).1
    exact (cls_rise n (tog n l) v).imp fun q e => by rw [e] at q; exact Nat.lt_irrefl _ q
  · refine List.Pairwise.filter _ ((comps_order hq).imp_of_mem fun {a b} ha hb hab x hx y hy e => ?_)
    obtain ⟨v, hv, rfl⟩ := (comps_mem_iff hq).1 ha
    obtain ⟨u, hu, rfl⟩ := (comps_mem_iff hq).1 hb
    subst e
    have e1 := cls_same (n := n) hq (cls_mem.1 hx).2
    have e2 := cls_same (n := n) hq (cls_mem.1 hy).2
    rw [e1, e2] at hab
    exact Nat.lt_irrefl _ hab
theorem inner_rise (n : Nat) (l : List Nat) : (innerR n l).Pairwise (· < ·) := List.pairwise_lt_range.filter _
end
end Sc
end Go.Proofs.YtgapcjgmmlffmaaDoor
