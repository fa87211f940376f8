/-
  Several texts in one, each with its own first words: RcPlain, RcSteps, RcWalkA, RcWalkB, RcWalkC.
  Conditions: as each says.
-/
import Derived.Test.YtahacjfeopjbaaaGfAll
import Derived.Test.YtahacjfeopjbaaaBiAll
import Derived.ScopeJumps
import Derived.WalkMore
/-
  Plain facts on ways in graphs: where ways lead, node by node in between; what is closed, with one edge more, turned.
  Conditions: none beyond those that each theorem states.
-/
set_option maxRecDepth 4000
namespace Go.Proofs.Ytahacjfeopjbaaa
namespace Rc
open Gf

/-- A way: one or more edges, each where the one ahead of it ends. -/
def Leads (l : List Nat) (x y : Nat) : Prop := Relation.TransGen (fun u v => bit l u v = true) x y
theorem Leads.edge {l : List Nat} {x y : Nat} (h : bit l x y = true) : Leads l x y := .single h
theorem Leads.then {l : List Nat} {x y z : Nat} (h : Leads l x y) (h' : Leads l y z) : Leads l x z := Relation.TransGen.trans h h'
theorem Leads.behind {l : List Nat} {x y z : Nat} (h : Leads l x y) (h' : bit l y z = true) : Leads l x z := .tail h h'
theorem Leads.ahead {l : List Nat} {x y z : Nat} (h : bit l x y = true) (h' : Leads l y z) : Leads l x z := (Leads.edge h).then h'
/-- The first edge of a way, and the last one. -/
theorem way_first {l : List Nat} {x y : Nat} (h : Leads l x y) : bit l x y = true ∨ ∃ z, bit l x z = true ∧ Leads l z y := by
  induction h with
  | single h => exact .inl h
  | @tail b c _ h' ih =>
    rcases ih with q | ⟨z, h1, h2⟩
    · exact .inr ⟨b, q, .edge h'⟩
    · exact .inr ⟨z, h1, h2.behind h'⟩
theorem way_last {l : List Nat} {x y : Nat} (h : Leads l x y) : bit l x y = true ∨ ∃ z, Leads l x z ∧ bit l z y = true := by
  cases h with
  | single h => exact .inl h
  | tail h h' => exact .inr ⟨_, h, h'⟩
theorem Leads.more {l m : List Nat} (hs : ∀ u v, bit l u v = true → Leads m u v) {x y : Nat} (h : Leads l x y) : Leads m x y := by
  induction h with
  | single h => exact hs _ _ h
  | tail _ h' ih => exact ih.then (hs _ _ h')
theorem way_node {n : Nat} {l : List Nat} (h : Ok n l) {x y : Nat} (hw : Leads l x y) : x < n ∧ y < n := by
  refine ⟨?_, ?_⟩
  · rcases way_first hw with q | ⟨_, q, _⟩
    · exact (h.node q).1
    · exact (h.node q).1
  · rcases way_last hw with q | ⟨_, _, q⟩
    · exact (h.node q).2
    · exact (h.node q).2

/-- Is there a way from x to y with nodes below k alone in between? -/
def war (l : List Nat) : Nat → Nat → Nat → Bool
  | 0, x, y => bit l x y
  | k + 1, x, y => war l k x y || (war l k x k && war l k k y)
theorem war_zero (l : List Nat) (x y : Nat) : war l 0 x y = bit l x y := rfl
theorem war_next (l : List Nat) (k x y : Nat) : war l (k + 1) x y = (war l k x y || (war l k x k && war l k k y)) := rfl
theorem war_next_iff {l : List Nat} {k x y : Nat} : war l (k + 1) x y = true ↔ war l k x y = true ∨ war l k x k = true ∧ war l k k y = true := by rw [war_next, Bool.or_eq_true, Bool.and_eq_true]
theorem war_way {l : List Nat} {k x y : Nat} (h : war l k x y = true) : Leads l x y := by
  induction k generalizing x y with
  | zero => exact .edge h
  | succ k ih =>
    rcases war_next_iff.1 h with q | ⟨q1, q2⟩
    · exact ih q
    · exact (ih q1).then (ih q2)
theorem war_edge {l : List Nat} {k x y : Nat} (h : bit l x y = true) : war l k x y = true := by
  induction k with
  | zero => exact h
  | succ k ih => exact war_next_iff.2 (.inl ih)
theorem war_then {l : List Nat} {k j x y : Nat} (hj : j < k) (h : war l k x j = true) (h' : war l k j y = true) : war l k x y = true := by
  induction k generalizing j x y with
  | zero => omega
  | succ k ih =>
    rcases Nat.lt_or_ge j k with q | q
    · rcases war_next_iff.1 h with a | ⟨a1, a2⟩
      · rcases war_next_iff.1 h' with b | ⟨b1, b2⟩
        · exact war_next_iff.2 (.inl (ih q a b))
        · exact war_next_iff.2 (.inr ⟨ih q a b1, b2⟩)
      · rcases war_next_iff.1 h' with b | ⟨b1, b2⟩
        · exact war_next_iff.2 (.inr ⟨a1, ih q a2 b⟩)
        · exact war_next_iff.2 (.inr ⟨a1, b2⟩)
    · obtain rfl : j = k := by omega
      have a : war l j x j = true := by
        rcases war_next_iff.1 h with a | ⟨a, _⟩
        · exact a
        · exact a
      have b : war l j j y = true := by
        rcases war_next_iff.1 h' with b | ⟨_, b⟩
        · exact b
        · exact b
      exact war_next_iff.2 (.inr ⟨a, b⟩)
theorem war_all {n : Nat} {l : List Nat} (h : Ok n l) {x y : Nat} (hw : Leads l x y) : war l n x y = true := by
  induction hw with
  | single h' => exact war_edge h'
  | tail hw h' ih => exact war_then (h.node h').1 ih (war_edge h')
theorem way_iff {n : Nat} {l : List Nat} (h : Ok n l) {x y : Nat} : Leads l x y ↔ war l n x y = true := ⟨war_all h, war_way⟩

/-- The closure. -/
def closeR (n : Nat) (l : List Nat) : List Nat := build n (war l n)
theorem close_ok {n : Nat} {l : List Nat} (h : Ok n l) : Ok n (closeR n l) := build_ok h.1 _
theorem close_bit {n : Nat} {l : List Nat} (h : Ok n l) (x y : Nat) : bit (closeR n l) x y = war l n x y := by
  rw [closeR, build_bit h.1]
  cases hw : war l n x y with
  | false => simp
  | true =>
    obtain ⟨h1, h2⟩ := way_node h (war_way hw)
    rw [decide_eq_true h1, decide_eq_true h2]
    rfl
theorem close_iff {n : Nat} {l : List Nat} (h : Ok n l) {x y : Nat} : bit (closeR n l) x y = true ↔ Leads l x y := by rw [close_bit h, way_iff h]
/-- A graph whose edges are just the ways is the closure. -/
theorem close_is {n : Nat} {l m : List Nat} (h : Ok n l) (hm : Ok n m) (he : ∀ x y, bit m x y = true ↔ Leads l x y) : m = closeR n l :=
  same hm (close_ok h) fun x y _ _ => by rw [Bool.eq_iff_iff, he, close_iff h]
theorem close_close {n : Nat} {l : List Nat} (h : Ok n l) : closeR n (closeR n l) = closeR n l :=
  (close_is (close_ok h) (close_ok h) fun _ _ => ⟨fun q => .edge q, fun q => (close_iff h).2 (q.more fun _ _ b => (close_iff h).1 b)⟩).symm
/-- A way is an edge, or an edge and a way behind it. -/
theorem close_step {n : Nat} {l : List Nat} (h : Ok n l) : unionR n l (composeR n l (closeR n l)) = closeR n l := by
  have hc := close_ok h
  have hx : Ok n (composeR n l (closeR n l)) := build_ok h.1 _
  refine close_is h (build_ok h.1 _) fun x y => ?_
  show bit (unionR n l (composeR n l (closeR n l))) x y = true ↔ _
  rw [union_bit h hx, compose_bit h hc, Bool.or_eq_true, List.any_eq_true]
  constructor
  · rintro (q | ⟨z, _, q⟩)
    · exact .edge q
    · rw [Bool.and_eq_true] at q
      exact Leads.ahead q.1 ((close_iff h).1 q.2)
  · intro q
    rcases way_first q with q | ⟨z, q1, q2⟩
    · exact .inl q
    · exact .inr ⟨z, List.mem_range.2 (h.node q1).2, by rw [q1, (close_iff h).2 q2]; rfl⟩
/-- More edges, more ways. -/
theorem close_sub {n : Nat} {l m : List Nat} (h : Ok n l) (hm : Ok n m) (hs : ∀ x y, bit l x y = true → bit m x y = true) {x y : Nat} (hb : bit (closeR n l) x y = true) : bit (closeR n m) x y = true :=
  (close_iff hm).2 (((close_iff h).1 hb).more fun u v q => .edge (hs u v q))
/-- Turned, all ways lead back. -/
theorem turn_way {n : Nat} {l : List Nat} (h : Ok n l) {x y : Nat} : Leads (turnR n l) x y ↔ Leads l y x := by
  have key : ∀ {m : List Nat}, Ok n m → ∀ {x y}, Leads (turnR n m) x y → Leads m y x := fun {m} hm {x y} hw => by
    induction hw with
    | single q => exact .edge (by rw [← turn_bit hm]; exact q)
    | tail _ q ih => exact Leads.ahead (by rw [← turn_bit hm]; exact q) ih
  refine ⟨key h, fun hw => ?_⟩
  have ht : Ok n (turnR n l) := build_ok h.1 _
  refine key ht ?_
  rw [turn_turn h]
  exact hw

/-- With one edge more. -/
def moreF (c : List Nat) (a b x y : Nat) : Bool := bit c x y || ((decide (x = a) || bit c x a) && (decide (y = b) || bit c b y))
def moreR (n : Nat) (c : List Nat) (a b : Nat) : List Nat := build n (moreF c a b)
theorem more_bit {n : Nat} {c : List Nat} (h : Ok n c) {a b : Nat} (ha : a < n) (hb : b < n) (x y : Nat) : bit (moreR n c a b) x y = moreF c a b x y := by
  rw [moreR, build_bit h.1]
  cases hf : moreF c a b x y with
  | false => simp
  | true =>
    have hn : x < n ∧ y < n := by
      simp only [moreF, Bool.or_eq_true, Bool.and_eq_true, decide_eq_true_iff] at hf
      rcases hf with q | ⟨q1, q2⟩
      · exact h.node q
      · refine ⟨?_, ?_⟩
        · rcases q1 with rfl | q
          · exact ha
          · exact (h.node q).1
        · rcases q2 with rfl | q
          · exact hb
          · exact (h.node q).2
    rw [decide_eq_true hn.1, decide_eq_true hn.2]
    rfl
theorem add_way {n : Nat} {l : List Nat} (h : Ok n l) {a b : Nat} (ha : a < n) (hb : b < n) {x y : Nat} : Leads (addR l a b) x y ↔ Leads l x y ∨ (x = a ∨ Leads l x a) ∧ (y = b ∨ Leads l b y) := by
  have he : ∀ u v, bit (addR l a b) u v = true ↔ bit l u v = true ∨ u = a ∧ v = b := fun u v => by rw [add_bit h ha hb, Bool.or_eq_true, Bool.and_eq_true, decide_eq_true_iff, decide_eq_true_iff]
  constructor
  · intro hw
    induction hw with
    | single q0 =>
      rcases (he _ _).1 q0 with q | ⟨rfl, rfl⟩
      · exact .inl (.edge q)
      · exact .inr ⟨.inl rfl, .inl rfl⟩
    | tail _ q0 ih =>
      rcases (he _ _).1 q0 with q | ⟨rfl, rfl⟩
      · rcases ih with i | ⟨i1, i2⟩
        · exact .inl (i.behind q)
        · refine .inr ⟨i1, .inr ?_⟩
          rcases i2 with rfl | i2
          · exact .edge q
          · exact i2.behind q
      · rcases ih with i | ⟨i1, _⟩
        · exact .inr ⟨.inr i, .inl rfl⟩
        · exact .inr ⟨i1, .inl rfl⟩
  · have old : ∀ {u v}, Leads l u v → Leads (addR l a b) u v := fun q => q.more fun u v e => .edge ((he u v).2 (.inl e))
    have new : Leads (addR l a b) a b := .edge ((he a b).2 (.inr ⟨rfl, rfl⟩))
    rintro (q | ⟨q1, q2⟩)
    · exact old q
    · have h1 : Leads (addR l a b) x b := by
        rcases q1 with rfl | q1
        · exact new
        · exact (old q1).then new
      rcases q2 with rfl | q2
      · exact h1
      · exact h1.then (old q2)
/-- What is closed, and gets an edge, is what is closed with that edge. -/
theorem more_close {n : Nat} {l : List Nat} (h : Ok n l) {a b : Nat} (ha : a < n) (hb : b < n) : moreR n (closeR n l) a b = closeR n (addR l a b) :=
  close_is (add_ok h ha hb) (build_ok h.1 _) fun x y => by
    show bit (moreR n (closeR n l) a b) x y = true ↔ _
    rw [more_bit (close_ok h) ha hb, add_way h ha hb]
    simp only [moreF, Bool.or_eq_true, Bool.and_eq_true, decide_eq_true_iff, close_iff h]

/-- Does some way lead back? -/
def cyclicR (n : Nat) (l : List Nat) : Bool := (List.range n).any fun x => bit (closeR n l) x x
theorem cyclic_iff {n : Nat} {l : List Nat} (h : Ok n l) : cyclicR n l = true ↔ ∃ x, Leads l x x := by
  rw [cyclicR, List.any_eq_true]
  constructor
  · rintro ⟨x, _, q⟩
    exact ⟨x, (close_iff h).1 q⟩
  · rintro ⟨x, q⟩
    exact ⟨x, List.mem_range.2 (way_node h q).1, (close_iff h).2 q⟩
theorem cyclic_turn {n : Nat} {l : List Nat} (h : Ok n l) : cyclicR n (turnR n l) = cyclicR n l := by
  rw [Bool.eq_iff_iff, cyclic_iff h, cyclic_iff (show Ok n (turnR n l) from build_ok h.1 _)]
  exact ⟨fun ⟨x, q⟩ => ⟨x, (turn_way h).1 q⟩, fun ⟨x, q⟩ => ⟨x, (turn_way h).2 q⟩⟩
/-- All to which a way leads from a node: its row in the closure. -/
def fromR (n : Nat) (l : List Nat) (a : Nat) : Nat := setTo (war l n a) n
theorem from_row {n : Nat} {l : List Nat} {a : Nat} (ha : a < n) : (closeR n l).getD a 0 = fromR n l a := by
  have hl : a < (closeR n l).length := by rw [closeR, build_len]; exact ha
  rw [List.getD_eq_getElem?_getD, List.getElem?_eq_getElem hl]
  exact build_at _ hl
theorem from_bit {n : Nat} {l : List Nat} (h : Ok n l) (a y : Nat) : (fromR n l a).testBit y = true ↔ Leads l a y := by
  rw [fromR, setTo_bit _ _ _ h.1, Bool.and_eq_true, decide_eq_true_iff, way_iff h]
  exact ⟨fun q => q.2, fun q => ⟨(way_node h (war_way q)).2, q⟩⟩
/-- A set that holds all to which an edge leads from a, and all to which one leads from what it holds, and nothing to which no way leads, is that set. -/
theorem from_is {n : Nat} {l : List Nat} (h : Ok n l) {a s : Nat} (hs : s < 2 ^ 64) (h0 : ∀ y, bit l a y = true → s.testBit y = true) (h1 : ∀ y z, s.testBit y = true → bit l y z = true → s.testBit z = true) (h2 : ∀ y, s.testBit y = true → Leads l a y) : s = fromR n l a := by
  refine Bi.same hs (Nat.lt_of_lt_of_le (setTo_lt _ _ h.1) (Nat.pow_le_pow_right (by decide) h.1)) fun y hy => ?_
  clear hy
  rw [Bool.eq_iff_iff]
  refine ⟨fun q => (from_bit h a y).2 (h2 y q), fun q => ?_⟩
  have hw := (from_bit h a y).1 q
  clear q
  induction hw with
  | single q => exact h0 _ q
  | tail _ q ih => exact h1 _ _ ih q
end Rc
end Go.Proofs.Ytahacjfeopjbaaa
/-
  Plain facts on the search for all to which ways lead from a node: what is known behind some rounds, what of it is left, and what a round makes of both.
  Conditions: none beyond those that each theorem states.
-/
set_option maxRecDepth 4000
namespace Go.Proofs.Ytahacjfeopjbaaa
namespace Rc
open Gf

/-- Of two tests the one that says yes less often. -/
theorem filt_less {p q : Nat → Bool} {x : Nat} (hq : q x = false) (hp : p x = true) (hs : ∀ y, q y = true → p y = true) (l : List Nat) : (l.filter q).length ≤ (l.filter p).length ∧ (x ∈ l → (l.filter q).length < (l.filter p).length) := by
  induction l with
  | nil => exact ⟨Nat.le_refl _, fun h => by cases h⟩
  | cons y r ih =>
    obtain ⟨h1, h2⟩ := ih
    rw [List.filter_cons, List.filter_cons]
    cases hqy : q y with
    | true =>
      rw [hs y hqy]
      simp only [if_true, List.length_cons]
      refine ⟨by omega, fun h => ?_⟩
      rcases List.mem_cons.1 h with e | e
      · subst e
        rw [hq] at hqy
        cases hqy
      · have := h2 e
        omega
    | false =>
      cases hpy : p y with
      | true =>
        simp only [if_true, List.length_cons, Bool.false_eq_true, if_false]
        exact ⟨by omega, fun _ => by omega⟩
      | false =>
        simp only [Bool.false_eq_true, if_false]
        refine ⟨h1, fun h => ?_⟩
        rcases List.mem_cons.1 h with e | e
        · subst e
          rw [hp] at hpy
          cases hpy
        · exact h2 e

/-- What is new in a row. -/
def fresh (row all : Nat) : Nat := row &&& (18446744073709551615 - all)
theorem fresh_bit {row all : Nat} (hr : row < 18446744073709551616) (ha : all < 18446744073709551616) (j : Nat) : (fresh row all).testBit j = (row.testBit j && !all.testBit j) := by
  rw [fresh, Nat.testBit_and, Bi.not_bit ha]
  rcases Nat.lt_or_ge j 64 with h | h
  · rw [decide_eq_true h, Bool.true_and]
  · rw [Nat.testBit_lt_two_pow (Nat.lt_of_lt_of_le hr (Nat.pow_le_pow_right (n := 2) (by decide) h)), Bool.false_and, Bool.false_and]
theorem fresh_lt {row all : Nat} (hr : row < 18446744073709551616) : fresh row all < 18446744073709551616 := Nat.lt_of_le_of_lt Nat.and_le_left hr

/-- Behind some rounds: all that is known, and what of it is left to be looked at. -/
structure Mid (l : List Nat) (a all left : Nat) : Prop where
  small : all < 18446744073709551616
  less : left < 18446744073709551616
  first : ∀ y, bit l a y = true → all.testBit y = true
  way : ∀ y, all.testBit y = true → Leads l a y
  sub : ∀ y, left.testBit y = true → all.testBit y = true
  done : ∀ y z, all.testBit y = true → left.testBit y = false → bit l y z = true → all.testBit z = true
/-- How many nodes are not looked at yet. -/
def todo (all left : Nat) : Nat := ((List.range 64).filter fun y => !(all.testBit y && !left.testBit y)).length
section
variable {n : Nat} {l : List Nat} {a all left x : Nat}
theorem Mid.start (h : Ok n l) (ha : a < l.length) : Mid l a l[a] l[a] :=
  ⟨h.small (List.getElem_mem ha), h.small (List.getElem_mem ha), fun y hy => by rw [← bit_at ha]; exact hy, fun y hy => .edge (by rw [bit_at ha]; exact hy), fun _ h => h, fun y z h1 h2 _ => by rw [h1] at h2; cases h2⟩
theorem Mid.next (m : Mid l a all left) (h : Ok n l) (hx : x < l.length) (hb : left.testBit x = true) :
    Mid l a (Bi.join [all, fresh l[x] all]) (Bi.join [Bi.without left (x : Int), fresh l[x] all]) ∧ todo (Bi.join [all, fresh l[x] all]) (Bi.join [Bi.without left (x : Int), fresh l[x] all]) < todo all left := by
  have hr := h.small (List.getElem_mem hx)
  have x64 : x < 64 := Nat.lt_of_lt_of_le (by rw [← h.2.1]; exact hx) h.1
  have fb := fresh_bit hr m.small
  have ab : ∀ y, (Bi.join [all, fresh l[x] all]).testBit y = (all.testBit y || bit l x y) := fun y => by
    rw [Bi.join_two, Nat.testBit_or, fb, bit_at hx]
    cases all.testBit y <;> simp
  have lb : ∀ y, (Bi.join [Bi.without left (x : Int), fresh l[x] all]).testBit y = ((left.testBit y && !decide (x = y)) || (bit l x y && !all.testBit y)) := fun y => by
    rw [Bi.join_two, Nat.testBit_or, fb, Bi.without_bit, Bi.ok_of x x64, Int.toNat_natCast, Bool.true_and, bit_at hx]
  have hax := m.sub x hb
  refine ⟨⟨?_, ?_, fun y hy => ?_, fun y hy => ?_, fun y hy => ?_, fun y z h1 h2 h3 => ?_⟩, ?_⟩
  · rw [Bi.join_two]
    exact Nat.or_lt_two_pow (n := 64) m.small (fresh_lt hr)
  · rw [Bi.join_two]
    exact Nat.or_lt_two_pow (n := 64) (Nat.lt_of_le_of_lt (Bi.without_le _ _) m.less) (fresh_lt hr)
  · rw [ab, m.first y hy]
    rfl
  · rw [ab, Bool.or_eq_true] at hy
    rcases hy with q | q
    · exact m.way y q
    · exact (m.way x hax).behind q
  · rw [lb, Bool.or_eq_true, Bool.and_eq_true, Bool.and_eq_true] at hy
    rw [ab]
    rcases hy with q | q
    · rw [m.sub y q.1]
      rfl
    · rw [q.1, Bool.or_true]
  · rw [ab] at h1 ⊢
    rw [lb] at h2
    rw [Bool.or_eq_false_iff] at h2
    obtain ⟨h2, h4⟩ := h2
    cases hy : all.testBit y with
    | true =>
      cases hl : left.testBit y with
      | true =>
        rw [hl, Bool.true_and] at h2
        have e : x = y := by simpa using h2
        subst e
        rw [h3, Bool.or_true]
      | false => rw [m.done y z hy hl h3, Bool.true_or]
    | false =>
      rw [hy, Bool.false_or] at h1
      rw [hy, h1] at h4
      cases h4
  · refine (filt_less (x := x) ?_ ?_ (fun y hy => ?_) _).2 (List.mem_range.2 x64)
    · rw [ab, lb, hax, hb, decide_eq_true rfl]
      simp
    · rw [hax, hb]
      rfl
    · rw [ab, lb] at hy
      cases h1 : all.testBit y with
      | false => rfl
      | true =>
        cases h2 : left.testBit y with
        | true => rfl
        | false => rw [h1, h2] at hy; simp at hy
theorem Mid.whole (m : Mid l a all left) (h : Ok n l) (hl : Bi.list left = []) : all = fromR n l a := by
  have hz : ∀ y, left.testBit y = false := fun y => by
    cases hb : left.testBit y with
    | false => rfl
    | true =>
      have h64 : y < 64 := by
        rcases Nat.lt_or_ge y 64 with q | q
        · exact q
        · rw [Nat.testBit_lt_two_pow (Nat.lt_of_lt_of_le m.less (Nat.pow_le_pow_right (n := 2) (by decide) q))] at hb
          cases hb
      have := Bi.mem_list.2 ⟨h64, hb⟩
      rw [hl] at this
      cases this
  exact from_is h m.small m.first (fun y z h1 h2 => m.done y z h1 (hz y) h2) m.way
/-- What is left is nothing, or has a least one, a node. -/
theorem Mid.cases (m : Mid l a all left) (h : Ok n l) : (Bi.least left = -1 ∧ all = fromR n l a) ∨ ∃ x : Nat, Bi.least left = (x : Int) ∧ x < l.length ∧ left.testBit x = true := by
  cases e : Bi.list left with
  | nil => exact .inl ⟨Bi.least_nil e, m.whole h e⟩
  | cons x r =>
    have hm : x ∈ Bi.list left := by rw [e]; exact List.mem_cons_self
    have hb := (Bi.mem_list.1 hm).2
    exact .inr ⟨x, Bi.least_cons e, by rw [h.2.1]; exact (way_node h (m.way x (m.sub x hb))).2, hb⟩
end

section
variable {n : Nat} {l : List Nat} {a b k : Nat}
end

def cyclicA (n : Int) (l : List Nat) : Bool := okB n l && cyclicR n.toNat l
def fromA (n : Int) (l : List Nat) (a : Int) : Nat := if (okB n l && isN n a) = true then fromR n.toNat l a.toNat else 0
end Rc
end Go.Proofs.Ytahacjfeopjbaaa
/-
  What reach's search from one node answers: all nodes to which ways lead.
  Conditions: a graph, one of its nodes; the library's table for the lowest bit holds what its text says.
  (This program has not all of these functions: rcReached_at is left out here.)
-/
set_option maxRecDepth 4000
namespace Go.Proofs.Ytahacjfeopjbaaa
open Go.RowKit

def natOf : Value → Nat | .int _ q => q.toNat | _ => 0

end Go.Proofs.Ytahacjfeopjbaaa
/-
  What reach's Close, Cyclic and From answer.
  Conditions: rows hold sets below 2^64; the library's table for the lowest bit holds what its text says.
  (This program has not all of these functions: rcClose_no, rcClose_at, rcClose_any, rcCyclic_at, rcFrom_at are left out here.)
-/
set_option maxRecDepth 4000
namespace Go.Proofs.Ytahacjfeopjbaaa
open Go.RowKit

end Go.Proofs.Ytahacjfeopjbaaa
/-
  What reach's More answers.
  Conditions: rows hold sets below 2^64.
  (This program has not all of these functions: rcMore_no, rcMore_at, rcMore_any are left out here.)
-/
set_option maxRecDepth 4000
namespace Go.Proofs.Ytahacjfeopjbaaa
open Go.RowKit

theorem own_top {w : World} {base : Nat} {v : Value} {l : List Nat} (h : OwnU w base v l) (hl : 0 < l.length) : ∃ g c, v = .slice (some ⟨g, 0, none⟩) l.length c := by
  rcases h.2 with ⟨_, h0⟩ | ⟨g, cap, _, hv, _⟩
  · exact absurd h0 (Nat.ne_of_gt hl)
  · exact ⟨g, cap, hv⟩
/-- A graph in a variable that is being changed, beside the graph that came in and the result's variable. -/
structure Wide (w W : World) (o n : Nat) (u : Value) (A : Option Addr) (c : Nat) (r : List Nat) : Prop where
  one : Two W w.heap.size 32 (.int .i64 (n : Int)) u
  res : Two W (w.heap.size + 1) 32 (.int .i64 0) (.slice none 0 0)
  out : Two W o 32 (.int .i64 (n : Int)) (.slice A n c)
  row : W.ownsRow (w.heap.size + 2) 58 1 (.slice A n c) n (r.flatMap uC)
  apart : ∀ ad, A = some ad → ad.block ≠ o
  len : r.length = n
  far : w.heap.size + 1 < o
  below : Below w.heap.size w W
section
variable {w W W' : World} {o n c : Nat} {u : Value} {A : Option Addr} {r : List Nat}
theorem Wide.later (h : Wide w W o n u A c r) (hb : Below W.heap.size W W') : Wide w W' o n u A c r :=
  ⟨h.one.later hb, h.res.later hb, h.out.later hb, own_below h.row hb, h.apart, h.len, h.far, below_all h.below hb⟩
theorem Wide.drew (h : Wide w W o n u A c r) : Wide w W.drew o n u A c r := h.later (Below.refl _ W).drew
theorem Wide.own (h : Wide w W o n u A c r) : OwnU W (w.heap.size + 2) (.slice A n c) r := by
  unfold OwnU
  rw [h.len]
  exact h.row
/-- Behind the call that made it. -/
theorem Wide.start {W W1 : World} {v : Value} (h1 : Two W w.heap.size 32 (.int .i64 (n : Int)) u) (h2 : Two W (w.heap.size + 1) 32 (.int .i64 0) (.slice none 0 0)) (hB : Below w.heap.size w W) (hb : Below W.heap.size W W1) (ho : OwnU W1 W.heap.size v r) (hl : r.length = n) :
    ∃ A c, v = .slice A n c ∧ Wide w (W1.alloc (.cells #[.int .i64 (n : Int), .slice A n c] 32)) W1.heap.size n u A c r := by
  obtain ⟨A, c, e⟩ := ho.form
  rw [hl] at e
  subst e
  have b1 := alloc_below W1 (.cells #[.int .i64 (n : Int), .slice A n c] 32)
  unfold OwnU at ho
  rw [hl] at ho
  have hsz := hb.size
  have hlt := h2.lt
  refine ⟨A, c, rfl, (h1.later hb).later b1, (h2.later hb).later b1, Two.new _ _ _ _, (own_below ho b1).mono (by omega), fun ad e => ?_, hl, by omega, below_all (below_all hB hb) b1⟩
  subst e
  rcases ho.2 with ⟨h', _⟩ | ⟨g', cap', cur, h', _, hg, _⟩
  · cases h'
  · cases h'
    exact Nat.ne_of_lt (Array.getElem?_eq_some_iff.1 hg).1
/-- The end of a call that hands back what the variable holds. -/
theorem Wide.done {fn : Func} {p q : Tmp} (hf : fn.results = #[.cell p 32, .tmp q]) (h : Wide w W o n u A c r) (tmps : Array Value) (hp : tmps.getD p undef = .pointer (some ⟨w.heap.size + 1, 0, none⟩)) (hq : tmps.getD q undef = .int .i64 0) :
    bodyPost Try.prog fn (RetG w n r) Exit.ret { tmps := tmps, defers := [] } ((W.setCell ⟨w.heap.size + 1, 0, none⟩ (.int .i64 n)).setCell ⟨w.heap.size + 1, 1, none⟩ (.slice A n c)) := by
  obtain ⟨p0, p1⟩ := (h.res.put (x := .int .i64 n) (y := .slice A n c)).cells
  exact bodyPost_ret (res_g hf _ (w.heap.size + 1) _ n 0 _ _ _ hp hq p0 p1) rfl ⟨_, rfl, World.ownsRow.mono (own_setCell (own_setCell h.own (Nat.lt_succ_self _)) (Nat.lt_succ_self _)) (by omega), (h.below.setCell (p := ⟨w.heap.size + 1, 0, none⟩) (Nat.le_succ _) _).setCell (p := ⟨w.heap.size + 1, 1, none⟩) (Nat.le_succ _) _⟩
/-- Its row's place, read and written. -/
theorem Wide.put (h : Wide w W o n u A c r) (k : Nat) (hk : k < r.length) : ∃ g, A = some ⟨g, 0, none⟩ ∧ W.cell? ⟨g, k, none⟩ = some (.int .u64 (r[k] : Int)) ∧ W.frozen? ⟨g, k, none⟩ = false ∧ w.heap.size + 2 ≤ g ∧
    ∀ x : Nat, Wide w (W.setCell ⟨g, k, none⟩ (.int .u64 (x : Int))) o n u A c (r.set k x) := by
  obtain ⟨g, c', e⟩ := own_top h.own (by omega)
  rw [h.len] at e
  cases e
  have ho := h.own
  rw [← h.len] at ho
  have hne := h.apart _ rfl
  have hlt := OwnU.lt ho
  refine ⟨g, rfl, ho.cell k hk, ho.frozen k, hlt.1, fun x => ?_⟩
  have hp := ho.put k hk x
  have h4 := h.out
  have hfar := h.far
  unfold OwnU at hp
  rw [List.length_set, h.len] at hp
  exact ⟨two_far h.one _ (by show g ≠ _; omega) _, two_far h.res _ (by show g ≠ _; omega) _, two_far h4 ⟨g, k, none⟩ (show g ≠ o from hne) _, hp, h.apart, by rw [List.length_set]; exact h.len, hfar, h.below.setCell (p := ⟨g, k, none⟩) (by show w.heap.size ≤ g; omega) _⟩
end

end Go.Proofs.Ytahacjfeopjbaaa
