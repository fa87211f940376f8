/-
  Plain facts on what belongs together: of an equivalence of numbers the least of each class, the classes in the order of these, and to which class a number belongs; strongly connected nodes.
  Conditions: none beyond those that each theorem states.
-/
import Derived.Test.YtgapcjgmmlffmaaDoorCyPlain
set_option maxRecDepth 4000
namespace Go.Proofs.YtgapcjgmmlffmaaDoor
namespace Sc
open Gf Rc To Cy

/-- An equivalence, as a test. -/
structure Eqv (t : Nat → Nat → Bool) : Prop where
  refl : ∀ x, t x x = true
  symm : ∀ x y, t x y = true → t y x = true
  trans : ∀ x y z, t x y = true → t y z = true → t x z = true
/-- The least that belongs to x. -/
def lead (t : Nat → Nat → Bool) (x : Nat) : Nat := ((List.range (x + 1)).find? (t x)).getD x
section
variable {t : Nat → Nat → Bool}
theorem lead_is (h : Eqv t) (x : Nat) : lead t x ≤ x ∧ t x (lead t x) = true ∧ ∀ y, y < lead t x → t x y = false := by
  unfold lead
  cases hf : (List.range (x + 1)).find? (t x) with
  | none =>
    have := first_none hf x (Nat.lt_succ_self x)
    rw [h.refl] at this
    cases this
  | some v =>
    obtain ⟨h1, h2, h3⟩ := first_of hf
    exact ⟨Nat.le_of_lt_succ h1, h2, h3⟩
theorem lead_same (h : Eqv t) {x y : Nat} (hxy : t x y = true) : lead t x = lead t y := by
  obtain ⟨_, a2, a3⟩ := lead_is h x
  obtain ⟨_, b2, b3⟩ := lead_is h y
  rcases Nat.lt_trichotomy (lead t x) (lead t y) with q | q | q
  · have := b3 _ q
    rw [h.trans _ _ _ (h.symm _ _ hxy) a2] at this
    cases this
  · exact q
  · have := a3 _ q
    rw [h.trans _ _ _ hxy b2] at this
    cases this
theorem lead_iff (h : Eqv t) {x y : Nat} : lead t x = lead t y ↔ t x y = true := by
  refine ⟨fun q => ?_, lead_same h⟩
  have a := (lead_is h x).2.1
  have b := (lead_is h y).2.1
  rw [q] at a
  exact h.trans _ _ _ a (h.symm _ _ b)
theorem lead_lead (h : Eqv t) (x : Nat) : lead t (lead t x) = lead t x := (lead_same h (lead_is h x).2.1).symm
/-- The least of its class. -/
def isL (t : Nat → Nat → Bool) (x : Nat) : Bool := decide (lead t x = x)
theorem isL_lead (h : Eqv t) (x : Nat) : isL t (lead t x) = true := decide_eq_true (lead_lead h x)
theorem isL_iff (h : Eqv t) {x : Nat} : isL t x = true ↔ ∀ y, y < x → t x y = false := by
  rw [isL, decide_eq_true_iff]
  obtain ⟨h1, h2, h3⟩ := lead_is h x
  constructor
  · intro e
    rw [e] at h3
    exact h3
  · intro q
    rcases Nat.lt_or_ge (lead t x) x with a | a
    · rw [q _ a] at h2
      cases h2
    · omega
/-- How many classes begin below k. -/
def many (t : Nat → Nat → Bool) (k : Nat) : Nat := ((List.range k).filter (isL t)).length
theorem many_zero : many t 0 = 0 := rfl
theorem many_yes {k : Nat} (h : isL t k = true) : many t (k + 1) = many t k + 1 := by
  rw [many, List.range_succ, List.filter_append, List.length_append, List.filter_cons_of_pos h]
  rfl
theorem many_no {k : Nat} (h : isL t k = false) : many t (k + 1) = many t k := by
  rw [many, List.range_succ, List.filter_append, List.length_append, List.filter_cons_of_neg (by rw [h]; simp)]
  rfl
theorem many_mono {a b : Nat} (h : a ≤ b) : many t a ≤ many t b := by
  induction h with
  | refl => exact Nat.le_refl _
  | step _ ih =>
    rename_i m _
    cases q : isL t m with
    | true => rw [many_yes q]; omega
    | false => rw [many_no q]; exact ih
theorem many_lt {a b : Nat} (h : a < b) (ha : isL t a = true) : many t a < many t b := by
  have := many_mono (t := t) (show a + 1 ≤ b from h)
  rw [many_yes ha] at this
  omega
theorem many_le (k : Nat) : many t k ≤ k := by
  have := List.length_filter_le (isL t) (List.range k)
  rw [List.length_range] at this
  exact this
/-- The number of x's class. -/
def wh (t : Nat → Nat → Bool) (x : Nat) : Nat := many t (lead t x)
theorem wh_same (h : Eqv t) {x y : Nat} : wh t x = wh t y ↔ t x y = true := by
  rw [← lead_iff h]
  constructor
  · intro e
    rcases Nat.lt_trichotomy (lead t x) (lead t y) with q | q | q
    · have := many_lt q (isL_lead h x)
      unfold wh at e
      omega
    · exact q
    · have := many_lt q (isL_lead h y)
      unfold wh at e
      omega
  · intro e
    rw [wh, e, ← wh]
theorem wh_lead (_h : Eqv t) {x : Nat} (hl : isL t x = true) : wh t x = many t x := by
  have := of_decide_eq_true hl
  rw [wh, this]
theorem wh_less (h : Eqv t) {x : Nat} (hl : isL t x = false) : wh t x < many t x := by
  have h1 := (lead_is h x).1
  have h2 : lead t x ≠ x := of_decide_eq_false hl
  exact many_lt (by omega) (isL_lead h x)
theorem wh_lt (h : Eqv t) {x n : Nat} (hx : x < n) : wh t x < many t n := by
  have h1 := (lead_is h x).1
  exact many_lt (by omega) (isL_lead h x)

/-- The least of all classes, and all classes, of the numbers below n. -/
def leads (t : Nat → Nat → Bool) (n : Nat) : List Nat := (List.range n).filter (isL t)
def comps (t : Nat → Nat → Bool) (n : Nat) : List (List Nat) := (leads t n).map fun v => (List.range n).filter (t v)
theorem leads_len (n : Nat) : (leads t n).length = many t n := rfl
theorem comps_len (n : Nat) : (comps t n).length = many t n := List.length_map _
theorem leads_yes {n : Nat} (h : isL t n = true) : leads t (n + 1) = leads t n ++ [n] := by
  rw [leads, List.range_succ, List.filter_append, List.filter_cons_of_pos h]
  rfl
theorem leads_no {n : Nat} (h : isL t n = false) : leads t (n + 1) = leads t n := by
  rw [leads, List.range_succ, List.filter_append, List.filter_cons_of_neg (by rw [h]; simp)]
  exact List.append_nil _
theorem leads_at {n i : Nat} (hi : i < (leads t n).length) : many t (leads t n)[i] = i ∧ isL t (leads t n)[i] = true ∧ (leads t n)[i] < n := by
  induction n with
  | zero => exact absurd hi (Nat.not_lt_zero i)
  | succ n ih =>
    cases h : isL t n with
    | true =>
      have e := leads_yes h
      simp only [e, List.length_append, List.length_singleton] at hi
      rcases Nat.lt_or_ge i (leads t n).length with q | q
      · have : (leads t (n + 1))[i]'(by rw [e, List.length_append, List.length_singleton]; exact hi) = (leads t n)[i] := by simp only [e]; exact List.getElem_append_left q
        rw [this]
        obtain ⟨a, b, c⟩ := ih q
        exact ⟨a, b, by omega⟩
      · obtain rfl : i = (leads t n).length := by omega
        have : (leads t (n + 1))[(leads t n).length]'(by rw [e, List.length_append, List.length_singleton]; exact hi) = n := by simp only [e]; rw [List.getElem_append_right (Nat.le_refl _)]; simp
        rw [this]
        exact ⟨rfl, h, Nat.lt_succ_self n⟩
    | false =>
      have e := leads_no h
      simp only [e] at hi ⊢
      obtain ⟨a, b, c⟩ := ih hi
      exact ⟨a, b, by omega⟩
theorem leads_rise (n : Nat) : (leads t n).Pairwise (· < ·) := List.pairwise_lt_range.filter _
/-- The class with number i: all below n of which that is the number, in order. -/
theorem comps_at (h : Eqv t) {n i : Nat} (hi : i < (comps t n).length) : (comps t n)[i] = (List.range n).filter fun x => decide (wh t x = i) := by
  have hl : i < (leads t n).length := by rw [comps_len] at hi; exact hi
  obtain ⟨h1, h2, _⟩ := leads_at hl
  have e : (comps t n)[i] = (List.range n).filter (t (leads t n)[i]) := List.getElem_map _
  rw [e]
  refine List.filter_congr fun x _ => ?_
  rw [Bool.eq_iff_iff, decide_eq_true_iff, ← wh_same h, wh_lead h h2, h1]
  exact eq_comm
theorem comps_mem (h : Eqv t) {n i x : Nat} (hi : i < (comps t n).length) : x ∈ (comps t n)[i] ↔ x < n ∧ wh t x = i := by
  rw [comps_at h hi, List.mem_filter, List.mem_range, decide_eq_true_iff]
theorem comps_rise (h : Eqv t) {n i : Nat} (hi : i < (comps t n).length) : (comps t n)[i].Pairwise (· < ·) := by
  rw [comps_at h hi]
  exact List.pairwise_lt_range.filter _
/-- The first of a class is its least. -/
theorem comps_head (h : Eqv t) {n i : Nat} (hi : i < (comps t n).length) : (comps t n)[i].head? = some ((leads t n)[i]'(by rw [comps_len] at hi; exact hi)) := by
  have hl : i < (leads t n).length := by rw [comps_len] at hi; exact hi
  obtain ⟨_, h2, h3⟩ := leads_at hl
  have e : (comps t n)[i] = (List.range n).filter (t (leads t n)[i]) := List.getElem_map _
  rw [e, List.head?_filter]
  exact first_is h3 (h.refl _) fun u hu => by
    cases q : t (leads t n)[i] u with
    | false => rfl
    | true => have := (isL_iff h).1 h2 u hu; rw [q] at this; cases this
/-- One number more: a class more, or one more in its class. -/
theorem comps_yes (h : Eqv t) {n : Nat} (hl : isL t n = true) : comps t (n + 1) = comps t n ++ [[n]] := by
  unfold comps
  rw [leads_yes hl, List.map_append, List.map_singleton]
  have hn := (isL_iff h).1 hl
  congr 1
  · refine List.map_congr_left fun v hv => ?_
    have hv2 : v < n := List.mem_range.1 (List.mem_filter.1 hv).1
    rw [List.range_succ, List.filter_append, List.filter_cons_of_neg, List.filter_nil, List.append_nil]
    intro q
    have := hn v hv2
    rw [h.symm _ _ q] at this
    cases this
  · rw [List.range_succ, List.filter_append, List.filter_cons_of_pos (h.refl n), List.filter_nil]
    have : (List.range n).filter (t n) = [] := List.filter_eq_nil_iff.2 fun u hu => by
      rw [hn u (List.mem_range.1 hu)]
      simp
    rw [this]
    rfl
theorem comps_no (h : Eqv t) {n : Nat} (hl : isL t n = false) (hw : wh t n < (comps t n).length) : comps t (n + 1) = (comps t n).set (wh t n) ((comps t n)[wh t n] ++ [n]) := by
  have hlen : (comps t (n + 1)).length = (comps t n).length := by rw [comps_len, comps_len, many_no hl]
  apply List.ext_getElem
  · rw [List.length_set, hlen]
  · intro i h1 h2
    have hi : i < (comps t n).length := by rw [← hlen]; exact h1
    rw [List.getElem_set, comps_at h h1, List.range_succ, List.filter_append]
    by_cases e : wh t n = i
    · subst e
      rw [if_pos rfl, comps_at h hi, List.filter_cons_of_pos (by simp), List.filter_nil]
    · rw [if_neg e, comps_at h hi, List.filter_cons_of_neg (by simpa using e), List.filter_nil, List.append_nil]
/-- The numbers of all classes, number by number. -/
def which (t : Nat → Nat → Bool) (n : Nat) : List Nat := (List.range n).map (wh t)
theorem which_len (n : Nat) : (which t n).length = n := by rw [which, List.length_map, List.length_range]
theorem which_at {n x : Nat} (hx : x < (which t n).length) : (which t n)[x] = wh t x := by simp [which]
theorem which_next (n : Nat) : which t (n + 1) = which t n ++ [wh t n] := by rw [which, List.range_succ, List.map_append]; rfl
/-- What a search ahead of n comes to: the number of the class of some one that belongs to it, or, if there is none, how many there are. -/
def seekTo (t : Nat → Nat → Bool) (n y : Nat) : Nat := (List.range y).foldl (fun a y => if t n y = true then wh t y else a) (many t n)
theorem seek_zero (n : Nat) : seekTo t n 0 = many t n := rfl
theorem seek_yes {n y : Nat} (h : t n y = true) : seekTo t n (y + 1) = wh t y := by
  rw [seekTo, List.range_succ, List.foldl_append]
  exact if_pos h
theorem seek_no {n y : Nat} (h : t n y = false) : seekTo t n (y + 1) = seekTo t n y := by
  rw [seekTo, List.range_succ, List.foldl_append]
  exact if_neg (by rw [h]; simp)
theorem seek_all (h : Eqv t) (n : Nat) : seekTo t n n = wh t n := by
  have key : ∀ y, y ≤ n → ((∀ u, u < y → t n u = false) ∧ seekTo t n y = many t n) ∨ seekTo t n y = wh t n := fun y => by
    induction y with
    | zero => exact fun _ => .inl ⟨fun u hu => absurd hu (Nat.not_lt_zero u), rfl⟩
    | succ y ih =>
      intro hy
      cases q : t n y with
      | true => rw [seek_yes q]; exact .inr ((wh_same h).2 (h.symm _ _ q))
      | false =>
        rw [seek_no q]
        rcases ih (by omega) with ⟨a, b⟩ | b
        · refine .inl ⟨fun u hu => ?_, b⟩
          rcases Nat.lt_or_ge u y with c | c
          · exact a u c
          · obtain rfl : u = y := by omega
            exact q
        · exact .inr b
  rcases key n (Nat.le_refl n) with ⟨a, b⟩ | b
  · rw [b, wh_lead h ((isL_iff h).2 a)]
  · exact b
theorem seek_lead (h : Eqv t) (n : Nat) : (wh t n = many t n) ↔ isL t n = true := by
  constructor
  · intro e
    cases q : isL t n with
    | true => rfl
    | false => have := wh_less h q; omega
  · exact wh_lead h
end

/-! Strongly connected nodes. -/
def tog (n : Nat) (g : List Nat) (x y : Nat) : Bool := decide (x = y) || (bit (closeR n g) x y && bit (closeR n g) y x)
theorem tog_iff {n : Nat} {g : List Nat} (hg : Ok n g) {x y : Nat} : tog n g x y = true ↔ x = y ∨ Leads g x y ∧ Leads g y x := by
  rw [tog, Bool.or_eq_true, Bool.and_eq_true, decide_eq_true_iff, close_iff hg, close_iff hg]
theorem tog_eqv {n : Nat} {g : List Nat} (hg : Ok n g) : Eqv (tog n g) := by
  refine ⟨fun x => (tog_iff hg).2 (.inl rfl), fun x y h => ?_, fun x y z h h' => ?_⟩
  · rcases (tog_iff hg).1 h with rfl | ⟨a, b⟩
    · exact h
    · exact (tog_iff hg).2 (.inr ⟨b, a⟩)
  · rcases (tog_iff hg).1 h with rfl | ⟨a, b⟩
    · exact h'
    · rcases (tog_iff hg).1 h' with rfl | ⟨c, d⟩
      · exact h
      · exact (tog_iff hg).2 (.inr ⟨a.then c, d.then b⟩)
/-- Turned, the same belong together. -/
theorem tog_turn {n : Nat} {g : List Nat} (hg : Ok n g) : tog n (turnR n g) = tog n g := by
  have ht : Ok n (turnR n g) := build_ok hg.1 _
  funext x y
  rw [Bool.eq_iff_iff, tog_iff hg, tog_iff ht, turn_way hg, turn_way hg]
  exact or_congr_right and_comm
def innerR (n : Nat) (g : List Nat) : List Nat := (List.range n).filter fun x => bit (closeR n g) x x
theorem inner_mem {n : Nat} {g : List Nat} (hg : Ok n g) {x : Nat} : x ∈ innerR n g ↔ Leads g x x := by
  rw [innerR, List.mem_filter, List.mem_range, close_iff hg]
  exact ⟨fun h => h.2, fun h => ⟨(way_node hg h).1, h⟩⟩
theorem inner_turn {n : Nat} {g : List Nat} (hg : Ok n g) : innerR n (turnR n g) = innerR n g := by
  have ht : Ok n (turnR n g) := build_ok hg.1 _
  refine List.filter_congr fun x _ => ?_
  rw [Bool.eq_iff_iff, close_iff hg, close_iff ht, turn_way hg]
theorem inner_cyclic {n : Nat} {g : List Nat} (hg : Ok n g) : cyclicR n g = decide (0 < (innerR n g).length) := by
  rw [Bool.eq_iff_iff, cyclic_iff hg, decide_eq_true_iff, List.length_pos_iff_exists_mem]
  exact ⟨fun ⟨x, h⟩ => ⟨x, (inner_mem hg).2 h⟩, fun ⟨x, h⟩ => ⟨x, (inner_mem hg).1 h⟩⟩
end Sc
end Go.Proofs.YtgapcjgmmlffmaaDoor
