/-
  Plain facts on ways in graphs: where ways lead, node by node in between; what is closed, with one edge more, turned.
  Conditions: none beyond those that each theorem states.
-/
import Derived.Test.YtadgfplaabgkfaaDoorGfAll
set_option maxRecDepth 4000
namespace Go.Proofs.YtadgfplaabgkfaaDoor
namespace Rc
open Gf

/-- A way: one or more edges, each where the one ahead of it ends. -/
def Leads (l : List Nat) (x y : Nat) : Prop := Relation.TransGen (fun u v => bit l u v = true) x y
theorem Leads.edge {l : List Nat} {x y : Nat} (h : bit l x y = true) : Leads l x y := .single h
theorem Leads.then {l : List Nat} {x y z : Nat} (h : Leads l x y) (h' : Leads l y z) : Leads l x z := Relation.TransGen.trans h h'
theorem Leads.behind {l : List Nat} {x y z : Nat} (h : Leads l x y) (h' : bit l y z = true) : Leads l x z := .tail h h'
theorem Leads.ahead {l : List Nat} {x y z : Nat} (h : bit l x y = true) (h' : Leads l y z) : Leads l x z := (Leads.edge h).then h'
/-- The first edge of a way, and the last one. -/
theorem way_first {l : List Nat} {x y : Nat} (h : Leads l x y) : bit l x y = true ∨ ∃ z, bit l x z = true ∧ Leads l z y := by
  induction h with
  | single h => exact .inl h
  | @tail b c _ h' ih =>
    rcases ih with q | ⟨z, h1, h2⟩
    · exact .inr ⟨b, q, .edge h'⟩
    · exact .inr ⟨z, h1, h2.behind h'⟩
theorem way_last {l : List Nat} {x y : Nat} (h : Leads l x y) : bit l x y = true ∨ ∃ z, Leads l x z ∧ bit l z y = true := by
  cases h with
  | single h => exact .inl h
  | tail h h' => exact .inr ⟨_, h, h'⟩
theorem Leads.more {l m : List Nat} (hs : ∀ u v, bit l u v = true → Leads m u v) {x y : Nat} (h : Leads l x y) : Leads m x y := by
  induction h with
  | single h => exact hs _ _ h
  | tail _ h' ih => exact ih.then (hs _ _ h')
theorem way_node {n : Nat} {l : List Nat} (h : Ok n l) {x y : Nat} (hw : Leads l x y) : x < n ∧ y < n := by
  refine ⟨?_, ?_⟩
  · rcases way_first hw with q | ⟨_, q, _⟩
    · exact (h.node q).1
    · exact (h.node q).1
  · rcases way_last hw with q | ⟨_, _, q⟩
    · exact (h.node q).2
    · exact (h.node q).2

/-- Is there a way from x to y with nodes below k alone in between? -/
def war (l : List Nat) : Nat → Nat → Nat → Bool
  | 0, x, y => bit l x y
  | k + 1, x, y => war l k x y || (war l k x k && war l k k y)
theorem war_zero (l : List Nat) (x y : Nat) : war l 0 x y = bit l x y := rfl
theorem war_next (l : List Nat) (k x y : Nat) : war l (k + 1) x y = (war l k x y || (war l k x k && war l k k y)) := rfl
theorem war_next_iff {l : List Nat} {k x y : Nat} : war l (k + 1) x y = true ↔ war l k x y = true ∨ war l k x k = true ∧ war l k k y = true := by rw [war_next, Bool.or_eq_true, Bool.and_eq_true]
theorem war_way {l : List Nat} {k x y : Nat} (h : war l k x y = true) : Leads l x y := by
  induction k generalizing x y with
  | zero => exact .edge h
  | succ k ih =>
    rcases war_next_iff.1 h with q | ⟨q1, q2⟩
    · exact ih q
    · exact (ih q1).then (ih q2)
theorem war_edge {l : List Nat} {k x y : Nat} (h : bit l x y = true) : war l k x y = true := by
  induction k with
  | zero => exact h
  | succ k ih => exact war_next_iff.2 (.inl ih)
theorem war_then {l : List Nat} {k j x y : Nat} (hj : j < k) (h : war l k x j = true) (h' : war l k j y = true) : war l k x y = true := by
  induction k generalizing j x y with
  | zero => omega
  | succ k ih =>
    rcases Nat.lt_or_ge j k with q | q
    · rcases war_next_iff.1 h with a | ⟨a1, a2⟩
      · rcases war_next_iff.1 h' with b | ⟨b1, b2⟩
        · exact war_next_iff.2 (.inl (ih q a b))
        · exact war_next_iff.2 (.inr ⟨ih q a b1, b2⟩)
      · rcases war_next_iff.1 h' with b | ⟨b1, b2⟩
        · exact war_next_iff.2 (.inr ⟨a1, ih q a2 b⟩)
        · exact war_next_iff.2 (.inr ⟨a1, b2⟩)
    · obtain rfl : j = k := by omega
      have a : war l j x j = true := by
        rcases war_next_iff.1 h with a | ⟨a, _⟩
        · exact a
        · exact a
      have b : war l j j y = true := by
        rcases war_next_iff.1 h' with b | ⟨_, b⟩
        · exact b
        · exact b
      exact war_next_iff.2 (.inr ⟨a, b⟩)
theorem war_all {n : Nat} {l : List Nat} (h : Ok n l) {x y : Nat} (hw : Leads l x y) : war l n x y = true := by
  induction hw with
  | single h' => exact war_edge h'
  | tail hw h' ih => exact war_then (h.node h').1 ih (war_edge h')
theorem way_iff {n : Nat} {l : List Nat} (h : Ok n l) {x y : Nat} : Leads l x y ↔ war l n x y = true := ⟨war_all h, war_way⟩

/-- The closure. -/
def closeR (n : Nat) (l : List Nat) : List Nat := build n (war l n)
theorem close_ok {n : Nat} {l : List Nat} (h : Ok n l) : Ok n (closeR n l) := build_ok h.1 _
theorem close_bit {n : Nat} {l : List Nat} (h : Ok n l) (x y : Nat) : bit (closeR n l) x y = war l n x y := by
  rw [closeR, build_bit h.1]
  cases hw : war l n x y with
  | false => simp
  | true =>
    obtain ⟨h1, h2⟩ := way_node h (war_way hw)
    rw [decide_eq_true h1, decide_eq_true h2]
    rfl
theorem close_iff {n : Nat} {l : List Nat} (h : Ok n l) {x y : Nat} : bit (closeR n l) x y = true ↔ Leads l x y := by rw [close_bit h, way_iff h]
/-- A graph whose edges are just the ways is the closure. -/
theorem close_is {n : Nat} {l m : List Nat} (h : Ok n l) (hm : Ok n m) (he : ∀ x y, bit m x y = true ↔ Leads l x y) : m = closeR n l :=
  same hm (close_ok h) fun x y _ _ => by rw [Bool.eq_iff_iff, he, close_iff h]
theorem close_close {n : Nat} {l : List Nat} (h : Ok n l) : closeR n (closeR n l) = closeR n l :=
  (close_is (close_ok h) (close_ok h) fun _ _ => ⟨fun q => .edge q, fun q => (close_iff h).2 (q.more fun _ _ b => (close_iff h).1 b)⟩).symm
/-- A way is an edge, or an edge and a way behind it. -/
theorem close_step {n : Nat} {l : List Nat} (h : Ok n l) : unionR n l (composeR n l (closeR n l)) = closeR n l := by
  have hc := close_ok h
  have hx : Ok n (composeR n l (closeR n l)) := build_ok h.1 _
  refine close_is h (build_ok h.1 _) fun x y => ?_
  show bit (unionR n l (composeR n l (closeR n l))) x y = true ↔ _
  rw [union_bit h hx, compose_bit h hc, Bool.or_eq_true, List.any_eq_true]
  constructor
  · rintro (q | ⟨z, _, q⟩)
    · exact .edge q
    · rw [Bool.and_eq_true] at q
      exact Leads.ahead q.1 ((close_iff h).1 q.2)
  · intro q
    rcases way_first q with q | ⟨z, q1, q2⟩
    · exact .inl q
    · exact .inr ⟨z, List.mem_range.2 (h.node q1).2, by rw [q1, (close_iff h).2 q2]; rfl⟩
/-- More edges, more ways. -/
theorem close_sub {n : Nat} {l m : List Nat} (h : Ok n l) (hm : Ok n m) (hs : ∀ x y, bit l x y = true → bit m x y = true) {x y : Nat} (hb : bit (closeR n l) x y = true) : bit (closeR n m) x y = true :=
  (close_iff hm).2 (((close_iff h).1 hb).more fun u v q => .edge (hs u v q))
/-- Turned, all ways lead back. -/
theorem turn_way {n : Nat} {l : List Nat} (h : Ok n l) {x y : Nat} : Leads (turnR n l) x y ↔ Leads l y x := by
  have key : ∀ {m : List Nat}, Ok n m → ∀ {x y}, Leads (turnR n m) x y → Leads m y x := fun {m} hm {x y} hw => by
    induction hw with
    | single q => exact .edge (by rw [← turn_bit hm]; exact q)
    | tail _ q ih => exact Leads.ahead (by rw [← turn_bit hm]; exact q) ih
  refine ⟨key h, fun hw => ?_⟩
  have ht : Ok n (turnR n l) := build_ok h.1 _
  refine key ht ?_
  rw [turn_turn h]
  exact hw

/-- With one edge more. -/
def moreF (c : List Nat) (a b x y : Nat) : Bool := bit c x y || ((decide (x = a) || bit c x a) && (decide (y = b) || bit c b y))
def moreR (n : Nat) (c : List Nat) (a b : Nat) : List Nat := build n (moreF c a b)
theorem more_bit {n : Nat} {c : List Nat} (h : Ok n c) {a b : Nat} (ha : a < n) (hb : b < n) (x y : Nat) : bit (moreR n c a b) x y = moreF c a b x y := by
  rw [moreR, build_bit h.1]
  cases hf : moreF c a b x y with
  | false => simp
  | true =>
    have hn : x < n ∧ y < n := by
      simp only [moreF, Bool.or_eq_true, Bool.and_eq_true, decide_eq_true_iff] at hf
      rcases hf with q | ⟨q1, q2⟩
      · exact h.node q
      · refine ⟨?_, ?_⟩
        · rcases q1 with rfl | q
          · exact ha
          · exact (h.node q).1
        · rcases q2 with rfl | q
          · exact hb
          · exact (h.node q).2
    rw [decide_eq_true hn.1, decide_eq_true hn.2]
    rfl
theorem add_way {n : Nat} {l : List Nat} (h : Ok n l) {a b : Nat} (ha : a < n) (hb : b < n) {x y : Nat} : Leads (addR l a b) x y ↔ Leads l x y ∨ (x = a ∨ Leads l x a) ∧ (y = b ∨ Leads l b y) := by
  have he : ∀ u v, bit (addR l a b) u v = true ↔ bit l u v = true ∨ u = a ∧ v = b := fun u v => by rw [add_bit h ha hb, Bool.or_eq_true, Bool.and_eq_true, decide_eq_true_iff, decide_eq_true_iff]
  constructor
  · intro hw
    induction hw with
    | single q0 =>
      rcases (he _ _).1 q0 with q | ⟨rfl, rfl⟩
      · exact .inl (.edge q)
      · exact .inr ⟨.inl rfl, .inl rfl⟩
    | tail _ q0 ih =>
      rcases (he _ _).1 q0 with q | ⟨rfl, rfl⟩
      · rcases ih with i | ⟨i1, i2⟩
        · exact .inl (i.behind q)
        · refine .inr ⟨i1, .inr ?_⟩
          rcases i2 with rfl | i2
          · exact .edge q
          · exact i2.behind q
      · rcases ih with i | ⟨i1, _⟩
        · exact .inr ⟨.inr i, .inl rfl⟩
        · exact .inr ⟨i1, .inl rfl⟩
  · have old : ∀ {u v}, Leads l u v → Leads (addR l a b) u v := fun q => q.more fun u v e => .edge ((he u v).2 (.inl e))
    have new : Leads (addR l a b) a b := .edge ((he a b).2 (.inr ⟨rfl, rfl⟩))
    rintro (q | ⟨q1, q2⟩)
    · exact old q
    · have h1 : Leads (addR l a b) x b := by
        rcases q1 with rfl | q1
        · exact new
        · exact (old q1).then new
      rcases q2 with rfl | q2
      · exact h1
      · exact h1.then (old q2)
/-- What is closed, and gets an edge, is what is closed with that edge. -/
theorem more_close {n : Nat} {l : List Nat} (h : Ok n l) {a b : Nat} (ha : a < n) (hb : b < n) : moreR n (closeR n l) a b = closeR n (addR l a b) :=
  close_is (add_ok h ha hb) (build_ok h.1 _) fun x y => by
    show bit (moreR n (closeR n l) a b) x y = true ↔ _
    rw [more_bit (close_ok h) ha hb, add_way h ha hb]
    simp only [moreF, Bool.or_eq_true, Bool.and_eq_true, decide_eq_true_iff, close_iff h]

/-- Does some way lead back? -/
def cyclicR (n : Nat) (l : List Nat) : Bool := (List.range n).any fun x => bit (closeR n l) x x
theorem cyclic_iff {n : Nat} {l : List Nat} (h : Ok n l) : cyclicR n l = true ↔ ∃ x, Leads l x x := by
  rw [cyclicR, List.any_eq_true]
  constructor
  · rintro ⟨x, _, q⟩
    exact ⟨x, (close_iff h).1 q⟩
  · rintro ⟨x, q⟩
    exact ⟨x, List.mem_range.2 (way_node h q).1, (close_iff h).2 q⟩
theorem cyclic_turn {n : Nat} {l : List Nat} (h : Ok n l) : cyclicR n (turnR n l) = cyclicR n l := by
  rw [Bool.eq_iff_iff, cyclic_iff h, cyclic_iff (show Ok n (turnR n l) from build_ok h.1 _)]
  exact ⟨fun ⟨x, q⟩ => ⟨x, (turn_way h).1 q⟩, fun ⟨x, q⟩ => ⟨x, (turn_way h).2 q⟩⟩
/-- All to which a way leads from a node: its row in the closure. -/
def fromR (n : Nat) (l : List Nat) (a : Nat) : Nat := setTo (war l n a) n
theorem from_row {n : Nat} {l : List Nat} {a : Nat} (ha : a < n) : (closeR n l).getD a 0 = fromR n l a := by
  have hl : a < (closeR n l).length := by rw [closeR, build_len]; exact ha
  rw [List.getD_eq_getElem?_getD, List.getElem?_eq_getElem hl]
  exact build_at _ hl
theorem from_bit {n : Nat} {l : List Nat} (h : Ok n l) (a y : Nat) : (fromR n l a).testBit y = true ↔ Leads l a y := by
  rw [fromR, setTo_bit _ _ _ h.1, Bool.and_eq_true, decide_eq_true_iff, way_iff h]
  exact ⟨fun q => q.2, fun q => ⟨(way_node h (war_way q)).2, q⟩⟩
/-- A set that holds all to which an edge leads from a, and all to which one leads from what it holds, and nothing to which no way leads, is that set. -/
theorem from_is {n : Nat} {l : List Nat} (h : Ok n l) {a s : Nat} (hs : s < 2 ^ 64) (h0 : ∀ y, bit l a y = true → s.testBit y = true) (h1 : ∀ y z, s.testBit y = true → bit l y z = true → s.testBit z = true) (h2 : ∀ y, s.testBit y = true → Leads l a y) : s = fromR n l a := by
  refine Bi.same hs (Nat.lt_of_lt_of_le (setTo_lt _ _ h.1) (Nat.pow_le_pow_right (by decide) h.1)) fun y hy => ?_
  clear hy
  rw [Bool.eq_iff_iff]
  refine ⟨fun q => (from_bit h a y).2 (h2 y q), fun q => ?_⟩
  have hw := (from_bit h a y).1 q
  clear q
  induction hw with
  | single q => exact h0 _ q
  | tail _ q ih => exact h1 _ _ ih q
end Rc
end Go.Proofs.YtadgfplaabgkfaaDoor
