/-
  Plain facts on orders of graphs: what an order is, the order that is filled place by place with the least node that is free, when there is one, and that it is the least.
  Conditions: none beyond those that each theorem states.
-/
import Derived.Test.YtpmimmaaeaifhaaDoorRcAll
set_option maxRecDepth 4000
namespace Go.Proofs.YtpmimmaaeaifhaaDoor
namespace To
open Gf Rc

/-- An order: all nodes, each once, no edge from a node to one at its own place or ahead of it. -/
structure IsOrd (n : Nat) (g l : List Nat) : Prop where
  len : l.length = n
  node : ∀ x ∈ l, x < n
  once : l.Nodup
  edge : ∀ i k (hi : i < l.length) (hk : k < l.length), k ≤ i → bit g l[i] l[k] = false

/-! Counting: n different numbers below n are all of them. -/
theorem sub_len {l m : List Nat} (hl : l.Nodup) (h : ∀ x ∈ l, x ∈ m) : l.length ≤ m.length := by
  induction l generalizing m with
  | nil => exact Nat.zero_le _
  | cons a l ih =>
    have ha : a ∈ m := h a List.mem_cons_self
    have hm : (m.erase a).length = m.length - 1 := List.length_erase_of_mem ha
    have hpos : 0 < m.length := List.length_pos_of_mem ha
    have hn := List.nodup_cons.1 hl
    have := ih (m := m.erase a) hn.2 fun x hx => (List.mem_erase_of_ne (fun e => hn.1 (by rw [← e]; exact hx))).2 (h x (List.mem_cons_of_mem _ hx))
    simp only [List.length_cons]
    omega
theorem all_in {n : Nat} {l : List Nat} (hl : l.Nodup) (hn : ∀ x ∈ l, x < n) (hlen : l.length = n) {x : Nat} (hx : x < n) : x ∈ l := by
  rcases Classical.em (x ∈ l) with h | h
  · exact h
  · have h2 : (x :: l).Nodup := List.nodup_cons.2 ⟨h, hl⟩
    have := sub_len (m := List.range n) h2 fun y hy => by
      rcases List.mem_cons.1 hy with rfl | q
      · exact List.mem_range.2 hx
      · exact List.mem_range.2 (hn y q)
    rw [List.length_range, List.length_cons] at this
    omega
theorem IsOrd.all {n : Nat} {g l : List Nat} (h : IsOrd n g l) {x : Nat} (hx : x < n) : x ∈ l := all_in h.once h.node h.len hx

/-- Along an edge one comes to a later place, so along a way. -/
theorem IsOrd.way {n : Nat} {g l : List Nat} (h : IsOrd n g l) (hg : Ok n g) {x y : Nat} (hw : Leads g x y) : ∀ i k (hi : i < l.length) (hk : k < l.length), l[i] = x → l[k] = y → i < k := by
  have step : ∀ {u v}, bit g u v = true → ∀ i k (hi : i < l.length) (hk : k < l.length), l[i] = u → l[k] = v → i < k := fun {u v} hb i k hi hk e1 e2 => by
    rcases Nat.lt_or_ge i k with q | q
    · exact q
    · have := h.edge i k hi hk q
      rw [e1, e2, hb] at this
      cases this
  induction hw with
  | single q => exact step q
  | @tail b c _ q ih =>
    intro i k hi hk e1 e2
    obtain ⟨j, hj, e3⟩ := List.getElem_of_mem (h.all (hg.node q).1)
    exact Nat.lt_trans (ih i j hi hj e1 e3) (step q j k hj hk e3 e2)
theorem IsOrd.no_cycle {n : Nat} {g l : List Nat} (h : IsOrd n g l) (hg : Ok n g) (x : Nat) : ¬ Leads g x x := fun hw => by
  obtain ⟨j, hj, e⟩ := List.getElem_of_mem (h.all (way_node hg hw).1)
  exact Nat.lt_irrefl _ (h.way hg hw j j hj hj e e)
/-- An order is one of each graph whose edges are among its ways. -/
theorem IsOrd.less {n : Nat} {g m l : List Nat} (h : IsOrd n g l) (hg : Ok n g) (hs : ∀ x y, bit m x y = true → Leads g x y) : IsOrd n m l :=
  ⟨h.len, h.node, h.once, fun i k hi hk hki => by
    cases hb : bit m l[i] l[k] with
    | false => rfl
    | true => have := h.way hg (hs _ _ hb) i k hi hk rfl rfl; omega⟩
/-- Turned, and the other way round. -/
theorem IsOrd.turned {n : Nat} {g l : List Nat} (h : IsOrd n g l) (hg : Ok n g) : IsOrd n (turnR n g) l.reverse := by
  refine ⟨by rw [List.length_reverse]; exact h.len, fun x hx => h.node x (List.mem_reverse.1 hx), List.pairwise_reverse.2 (h.once.imp Ne.symm), fun i k hi hk hki => ?_⟩
  rw [List.length_reverse] at hi hk
  rw [turn_bit hg, List.getElem_reverse, List.getElem_reverse]
  exact h.edge _ _ (by omega) (by omega) (by omega)

/-- Is a node free: not there yet, and led to by such alone as are there? -/
def freeB (n : Nat) (g d : List Nat) (v : Nat) : Bool := !(d.contains v) && (List.range n).all fun x => !bit g x v || d.contains x
theorem freeB_iff {n : Nat} {g d : List Nat} {v : Nat} : freeB n g d v = true ↔ v ∉ d ∧ ∀ x, x < n → bit g x v = true → x ∈ d := by
  simp only [freeB, Bool.and_eq_true, Bool.not_eq_true', List.contains_eq_mem, decide_eq_false_iff_not, List.all_eq_true, List.mem_range, Bool.or_eq_true, decide_eq_true_iff]
  refine and_congr_right fun _ => forall_congr' fun x => forall_congr' fun _ => ?_
  constructor
  · rintro (q | q) hb
    · rw [q] at hb; cases hb
    · exact q
  · intro q
    cases hb : bit g x v with
    | false => exact .inl rfl
    | true => exact .inr (q hb)
/-- The least free node. -/
def free (n : Nat) (g d : List Nat) : Option Nat := (List.range n).find? (freeB n g d)
theorem free_some {n : Nat} {g d : List Nat} {v : Nat} (h : free n g d = some v) : v < n ∧ freeB n g d v = true ∧ ∀ u, u < v → freeB n g d u = false := by
  have h0 := List.find?_some h
  have hm := List.mem_of_find?_eq_some h
  refine ⟨List.mem_range.1 hm, h0, fun u hu => ?_⟩
  rw [free, List.find?_eq_some_iff_append] at h
  obtain ⟨_, ps, qs, e, hall⟩ := h
  have hu2 : u ∈ ps := by
    have hp : (List.range n).Pairwise (· < ·) := List.pairwise_lt_range
    have hun : u ∈ List.range n := List.mem_range.2 (Nat.lt_trans hu (List.mem_range.1 hm))
    rw [e] at hun hp
    rcases List.mem_append.1 hun with q | q
    · exact q
    · rcases List.mem_cons.1 q with rfl | q
      · exact absurd hu (Nat.lt_irrefl _)
      · have := (List.pairwise_cons.1 (List.pairwise_append.1 hp).2.1).1 u q
        omega
  simpa using hall u hu2
theorem free_none {n : Nat} {g d : List Nat} (h : free n g d = none) : ∀ v, v < n → freeB n g d v = false := fun v hv => by
  have := List.find?_eq_none.1 h v (List.mem_range.2 hv)
  simpa using this
/-- The places filled one by one. -/
def fill (n : Nat) (g : List Nat) : Nat → List Nat → Option (List Nat)
  | 0, d => some d
  | m + 1, d => match free n g d with
    | none => none
    | some v => fill n g m (d ++ [v])
def orderR (n : Nat) (g : List Nat) : Option (List Nat) := fill n g n []
theorem fill_some {n m : Nat} {g d : List Nat} {v : Nat} (h : free n g d = some v) : fill n g (m + 1) d = fill n g m (d ++ [v]) := by rw [fill, h]
theorem fill_none {n m : Nat} {g d : List Nat} (h : free n g d = none) : fill n g (m + 1) d = none := by rw [fill, h]

/-- The first places of an order. -/
structure Part (n : Nat) (g d : List Nat) : Prop where
  node : ∀ x ∈ d, x < n
  once : d.Nodup
  led : ∀ k (hk : k < d.length) x, x < n → bit g x d[k] = true → x ∈ d.take k
theorem Part.nil (n : Nat) (g : List Nat) : Part n g [] := ⟨by simp, List.nodup_nil, fun k hk => by simp at hk⟩
theorem Part.more {n : Nat} {g d : List Nat} (h : Part n g d) {v : Nat} (hv : v < n) (hf : freeB n g d v = true) : Part n g (d ++ [v]) := by
  obtain ⟨h1, h2⟩ := freeB_iff.1 hf
  refine ⟨fun x hx => ?_, ?_, fun k hk x hx hb => ?_⟩
  · rcases List.mem_append.1 hx with q | q
    · exact h.node x q
    · rw [List.mem_singleton.1 q]; exact hv
  · rw [List.nodup_append]
    refine ⟨h.once, by simp, fun a ha b hb e => ?_⟩
    rw [List.mem_singleton.1 hb] at e
    exact h1 (by rw [← e]; exact ha)
  · rw [List.length_append, List.length_singleton] at hk
    rcases Nat.lt_or_ge k d.length with q | q
    · rw [List.getElem_append_left q] at hb
      rw [List.take_append_of_le_length (Nat.le_of_lt q)]
      exact h.led k q x hx hb
    · obtain rfl : k = d.length := by omega
      rw [List.getElem_append_right (Nat.le_refl _)] at hb
      simp only [Nat.sub_self, List.getElem_cons_zero] at hb
      rw [List.take_left']
      · exact h2 x hx hb
      · rfl
theorem Part.ord {n : Nat} {g d : List Nat} (h : Part n g d) (hl : d.length = n) : IsOrd n g d := by
  refine ⟨hl, h.node, h.once, fun i k hi hk hki => ?_⟩
  cases hb : bit g d[i] d[k] with
  | false => rfl
  | true =>
    have hm := h.led k hk d[i] (h.node _ (List.getElem_mem hi)) hb
    obtain ⟨j, hj, e⟩ := List.getElem_of_mem hm
    rw [List.length_take] at hj
    rw [List.getElem_take] at e
    have := (List.getElem_inj h.once).1 e
    omega
theorem fill_ord {n : Nat} {g : List Nat} : ∀ (m : Nat) {d l : List Nat}, Part n g d → d.length + m = n → fill n g m d = some l → IsOrd n g l ∧ d = l.take d.length
  | 0, d, l, h, hl, e => by
    cases e
    exact ⟨h.ord (by omega), (List.take_length).symm⟩
  | m + 1, d, l, h, hl, e => by
    cases hf : free n g d with
    | none => rw [fill_none hf] at e; cases e
    | some v =>
      rw [fill_some hf] at e
      obtain ⟨h1, h2, _⟩ := free_some hf
      obtain ⟨r1, r2⟩ := fill_ord m (h.more h1 h2) (by rw [List.length_append]; simp; omega) e
      refine ⟨r1, ?_⟩
      have := congrArg (·.take d.length) r2
      simp only [List.take_left', List.length_append, List.length_singleton] at this
      rw [List.take_take, Nat.min_eq_left (Nat.le_succ _)] at this
      exact this

/-- Of finitely many, some one is such that none is ahead of it. -/
theorem least_one {R : Nat → Nat → Prop} (ht : ∀ a b c, R a b → R b c → R a c) (hi : ∀ a, ¬ R a a) : ∀ (s : List Nat), s ≠ [] → ∃ m ∈ s, ∀ x ∈ s, ¬ R x m
  | [], h => absurd rfl h
  | [a], _ => ⟨a, List.mem_cons_self, fun x hx => by rw [List.mem_singleton.1 hx]; exact hi a⟩
  | a :: b :: s, _ => by
    obtain ⟨m, hm, h⟩ := least_one ht hi (b :: s) (by simp)
    rcases Classical.em (R a m) with q | q
    · refine ⟨a, List.mem_cons_self, fun x hx => ?_⟩
      rcases List.mem_cons.1 hx with rfl | hx
      · exact hi _
      · exact fun e => h x hx (ht _ _ _ e q)
    · refine ⟨m, List.mem_cons_of_mem _ hm, fun x hx => ?_⟩
      rcases List.mem_cons.1 hx with rfl | hx
      · exact q
      · exact h x hx
/-- Where no way leads back, some node is free as long as one is left. -/
theorem free_is {n : Nat} {g d : List Nat} (hc : ∀ x, ¬ Leads g x x) (hd : ∃ x, x < n ∧ x ∉ d) : ∃ v, free n g d = some v := by
  cases hf : free n g d with
  | some v => exact ⟨v, rfl⟩
  | none =>
    exfalso
    obtain ⟨x, hx, hxd⟩ := hd
    have hne : (List.range n).filter (fun v => decide (v ∉ d)) ≠ [] := fun e => by
      have : x ∈ (List.range n).filter (fun v => decide (v ∉ d)) := List.mem_filter.2 ⟨List.mem_range.2 hx, by simpa using hxd⟩
      rw [e] at this
      cases this
    obtain ⟨m, hm, hmin⟩ := least_one (R := Leads g) (fun _ _ _ a b => a.then b) hc _ hne
    obtain ⟨h1, h2⟩ := List.mem_filter.1 hm
    have hno := free_none hf m (List.mem_range.1 h1)
    have hyes : freeB n g d m = true := freeB_iff.2 ⟨by simpa using h2, fun u hu hb => by
      rcases Classical.em (u ∈ d) with q | q
      · exact q
      · exact absurd (Leads.edge hb) (hmin u (List.mem_filter.2 ⟨List.mem_range.2 hu, by simpa using q⟩))⟩
    rw [hyes] at hno
    cases hno
theorem left_over {n : Nat} {d : List Nat} (hn : d.length < n) : ∃ x, x < n ∧ x ∉ d := by
  rcases Classical.em (∃ x, x < n ∧ x ∉ d) with h | h
  · exact h
  · have := sub_len (l := List.range n) (m := d) List.nodup_range fun x hx => by
      rcases Classical.em (x ∈ d) with q | q
      · exact q
      · exact absurd ⟨x, List.mem_range.1 hx, q⟩ h
    rw [List.length_range] at this
    omega
theorem fill_is {n : Nat} {g : List Nat} (hc : ∀ x, ¬ Leads g x x) : ∀ (m : Nat) (d : List Nat), d.length + m = n → ∃ l, fill n g m d = some l
  | 0, d, _ => ⟨d, rfl⟩
  | m + 1, d, h => by
    obtain ⟨v, hv⟩ := free_is (n := n) (d := d) hc (left_over (by omega))
    rw [fill_some hv]
    exact fill_is hc m (d ++ [v]) (by rw [List.length_append]; simp; omega)
/-- There is an order just if no way leads back; and then the one that is told is one. -/
theorem order_some {n : Nat} {g l : List Nat} (h : orderR n g = some l) : IsOrd n g l := (fill_ord n (Part.nil n g) (by simp) h).1
theorem order_iff {n : Nat} {g : List Nat} (hg : Ok n g) : (∃ l, orderR n g = some l) ↔ cyclicR n g = false := by
  constructor
  · rintro ⟨l, h⟩
    cases hc : cyclicR n g with
    | false => rfl
    | true =>
      obtain ⟨x, hx⟩ := (cyclic_iff hg).1 hc
      exact absurd hx ((order_some h).no_cycle hg x)
  · intro h
    refine fill_is (fun x hx => ?_) n [] (by simp)
    rw [(cyclic_iff hg).2 ⟨x, hx⟩] at h
    cases h
theorem order_none {n : Nat} {g : List Nat} (hg : Ok n g) (h : orderR n g = none) : cyclicR n g = true := by
  cases hc : cyclicR n g with
  | true => rfl
  | false =>
    obtain ⟨l, hl⟩ := (order_iff hg).2 hc
    rw [h] at hl
    cases hl

/-- What is at a place of the order that is told: the least node that is free there. -/
theorem fill_at {n : Nat} {g : List Nat} : ∀ (m : Nat) {d l : List Nat}, fill n g m d = some l → ∀ k (hk : k < l.length), d.length ≤ k → free n g (l.take k) = some l[k]
  | 0, d, l, e, k, hk, hd => by
    cases e
    omega
  | m + 1, d, l, e, k, hk, hd => by
    cases hf : free n g d with
    | none => rw [fill_none hf] at e; cases e
    | some v =>
      rw [fill_some hf] at e
      have hpre : ∀ (m : Nat) {d l : List Nat}, fill n g m d = some l → d = l.take d.length := fun m => by
        induction m with
        | zero =>
          intro d l e
          cases e
          exact (List.take_length).symm
        | succ m ih =>
          intro d l e
          cases hf : free n g d with
          | none => rw [fill_none hf] at e; cases e
          | some u =>
            rw [fill_some hf] at e
            have := congrArg (·.take d.length) (ih e)
            simp only [List.take_left', List.length_append, List.length_singleton] at this
            rw [List.take_take, Nat.min_eq_left (Nat.le_succ _)] at this
            exact this
      rcases Nat.lt_or_ge d.length k with q | q
      · exact fill_at m e k hk (by rw [List.length_append]; simp; omega)
      · obtain rfl : k = d.length := by omega
        have h1 := hpre m e
        rw [List.length_append, List.length_singleton, List.take_succ_eq_append_getElem hk] at h1
        have h2 := List.append_inj h1 (by rw [List.length_take]; omega)
        rw [← h2.1, hf]
        have h3 := h2.2
        simp only [List.cons.injEq, and_true] at h3
        rw [h3]
theorem order_at {n : Nat} {g l : List Nat} (h : orderR n g = some l) (k : Nat) (hk : k < l.length) : free n g (l.take k) = some l[k] := fill_at n h k hk (Nat.zero_le _)
/-- Of all orders the one that is told is the least. -/
theorem order_least {n : Nat} {g a l : List Nat} (hg : Ok n g) (ha : orderR n g = some a) (hl : IsOrd n g l) (k : Nat) (hka : k < a.length) (hkl : k < l.length) (hp : a.take k = l.take k) : a[k] ≤ l[k] := by
  obtain ⟨_, _, hmin⟩ := free_some (order_at ha k hka)
  rcases Nat.lt_or_ge l[k] a[k] with q | q
  · exfalso
    have := hmin l[k] q
    rw [hp] at this
    have hyes : freeB n g (l.take k) l[k] = true := by
      refine freeB_iff.2 ⟨fun hm => ?_, fun x hx hb => ?_⟩
      · obtain ⟨j, hj, e⟩ := List.getElem_of_mem hm
        rw [List.length_take] at hj
        rw [List.getElem_take] at e
        have := (List.getElem_inj hl.once).1 e
        omega
      · obtain ⟨j, hj, e⟩ := List.getElem_of_mem (hl.all hx)
        have hjk := hl.way hg (Leads.edge hb) j k hj hkl e rfl
        rw [List.mem_take_iff_getElem]
        exact ⟨j, by omega, e⟩
    rw [hyes] at this
    cases this
  · exact q
end To
end Go.Proofs.YtpmimmaaeaifhaaDoor
