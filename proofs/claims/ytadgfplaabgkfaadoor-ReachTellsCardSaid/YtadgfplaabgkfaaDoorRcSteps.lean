/-
  Plain facts on the search for all to which ways lead from a node: what is known behind some rounds, what of it is left, and what a round makes of both.
  Conditions: none beyond those that each theorem states.
-/
import Derived.Test.YtadgfplaabgkfaaDoorRcPlain
import Derived.Test.YtadgfplaabgkfaaDoorBiAll
import Derived.Test.YtadgfplaabgkfaaDoorGfAll
set_option maxRecDepth 4000
namespace Go.Proofs.YtadgfplaabgkfaaDoor
namespace Rc
open Gf

/-- Of two tests the one that says yes less often. -/
theorem filt_less {p q : Nat → Bool} {x : Nat} (hq : q x = false) (hp : p x = true) (hs : ∀ y, q y = true → p y = true) (l : List Nat) : (l.filter q).length ≤ (l.filter p).length ∧ (x ∈ l → (l.filter q).length < (l.filter p).length) := by
  induction l with
  | nil => exact ⟨Nat.le_refl _, fun h => by cases h⟩
  | cons y r ih =>
    obtain ⟨h1, h2⟩ := ih
    rw [List.filter_cons, List.filter_cons]
    cases hqy : q y with
    | true =>
      rw [hs y hqy]
      simp only [if_true, List.length_cons]
      refine ⟨by omega, fun h => ?_⟩
      rcases List.mem_cons.1 h with e | e
      · subst e
        rw [hq] at hqy
        cases hqy
      · have := h2 e
        omega
    | false =>
      cases hpy : p y with
      | true =>
        simp only [if_true, List.length_cons, Bool.false_eq_true, if_false]
        exact ⟨by omega, fun _ => by omega⟩
      | false =>
        simp only [Bool.false_eq_true, if_false]
        refine ⟨h1, fun h => ?_⟩
        rcases List.mem_cons.1 h with e | e
        · subst e
          rw [hp] at hpy
          cases hpy
        · exact h2 e

/-- What is new in a row. -/
def fresh (row all : Nat) : Nat := row &&& (18446744073709551615 - all)
theorem fresh_bit {row all : Nat} (hr : row < 18446744073709551616) (ha : all < 18446744073709551616) (j : Nat) : (fresh row all).testBit j = (row.testBit j && !all.testBit j) := by
  rw [fresh, Nat.testBit_and, Bi.not_bit ha]
  rcases Nat.lt_or_ge j 64 with h | h
  · rw [decide_eq_true h, Bool.true_and]
  · rw [Nat.testBit_lt_two_pow (Nat.lt_of_lt_of_le hr (Nat.pow_le_pow_right (n := 2) (by decide) h)), Bool.false_and, Bool.false_and]
theorem fresh_lt {row all : Nat} (hr : row < 18446744073709551616) : fresh row all < 18446744073709551616 := Nat.lt_of_le_of_lt Nat.and_le_left hr

/-- Behind some rounds: all that is known, and what of it is left to be looked at. -/
structure Mid (l : List Nat) (a all left : Nat) : Prop where
  small : all < 18446744073709551616
  less : left < 18446744073709551616
  first : ∀ y, bit l a y = true → all.testBit y = true
  way : ∀ y, all.testBit y = true → Leads l a y
  sub : ∀ y, left.testBit y = true → all.testBit y = true
  done : ∀ y z, all.testBit y = true → left.testBit y = false → bit l y z = true → all.testBit z = true
/-- How many nodes are not looked at yet. -/
def todo (all left : Nat) : Nat := ((List.range 64).filter fun y => !(all.testBit y && !left.testBit y)).length
section
variable {n : Nat} {l : List Nat} {a all left x : Nat}
theorem Mid.start (h : Ok n l) (ha : a < l.length) : Mid l a l[a] l[a] :=
  ⟨h.small (List.getElem_mem ha), h.small (List.getElem_mem ha), fun y hy => by rw [← bit_at ha]; exact hy, fun y hy => .edge (by rw [bit_at ha]; exact hy), fun _ h => h, fun y z h1 h2 _ => by rw [h1] at h2; cases h2⟩
theorem Mid.next (m : Mid l a all left) (h : Ok n l) (hx : x < l.length) (hb : left.testBit x = true) :
    Mid l a (Bi.join [all, fresh l[x] all]) (Bi.join [Bi.without left (x : Int), fresh l[x] all]) ∧ todo (Bi.join [all, fresh l[x] all]) (Bi.join [Bi.without left (x : Int), fresh l[x] all]) < todo all left := by
  have hr := h.small (List.getElem_mem hx)
  have x64 : x < 64 := Nat.lt_of_lt_of_le (by rw [← h.2.1]; exact hx) h.1
  have fb := fresh_bit hr m.small
  have ab : ∀ y, (Bi.join [all, fresh l[x] all]).testBit y = (all.testBit y || bit l x y) := fun y => by
    rw [Bi.join_two, Nat.testBit_or, fb, bit_at hx]
    cases all.testBit y <;> simp
  have lb : ∀ y, (Bi.join [Bi.without left (x : Int), fresh l[x] all]).testBit y = ((left.testBit y && !decide (x = y)) || (bit l x y && !all.testBit y)) := fun y => by
    rw [Bi.join_two, Nat.testBit_or, fb, Bi.without_bit, Bi.ok_of x x64, Int.toNat_natCast, Bool.true_and, bit_at hx]
  have hax := m.sub x hb
  refine ⟨⟨?_, ?_, fun y hy => ?_, fun y hy => ?_, fun y hy => ?_, fun y z h1 h2 h3 => ?_⟩, ?_⟩
  · rw [Bi.join_two]
    exact Nat.or_lt_two_pow (n := 64) m.small (fresh_lt hr)
  · rw [Bi.join_two]
    exact Nat.or_lt_two_pow (n := 64) (Nat.lt_of_le_of_lt (Bi.without_le _ _) m.less) (fresh_lt hr)
  · rw [ab, m.first y hy]
    rfl
  · rw [ab, Bool.or_eq_true] at hy
    rcases hy with q | q
    · exact m.way y q
    · exact (m.way x hax).behind q
  · rw [lb, Bool.or_eq_true, Bool.and_eq_true, Bool.and_eq_true] at hy
    rw [ab]
    rcases hy with q | q
    · rw [m.sub y q.1]
      rfl
    · rw [q.1, Bool.or_true]
  · rw [ab] at h1 ⊢
    rw [lb] at h2
    rw [Bool.or_eq_false_iff] at h2
    obtain ⟨h2, h4⟩ := h2
    cases hy : all.testBit y with
    | true =>
      cases hl : left.testBit y with
      | true =>
        rw [hl, Bool.true_and] at h2
        have e : x = y := by simpa using h2
        subst e
        rw [h3, Bool.or_true]
      | false => rw [m.done y z hy hl h3, Bool.true_or]
    | false =>
      rw [hy, Bool.false_or] at h1
      rw [hy, h1] at h4
      cases h4
  · refine (filt_less (x := x) ?_ ?_ (fun y hy => ?_) _).2 (List.mem_range.2 x64)
    · rw [ab, lb, hax, hb, decide_eq_true rfl]
      simp
    · rw [hax, hb]
      rfl
    · rw [ab, lb] at hy
      cases h1 : all.testBit y with
      | false => rfl
      | true =>
        cases h2 : left.testBit y with
        | true => rfl
        | false => rw [h1, h2] at hy; simp at hy
theorem Mid.whole (m : Mid l a all left) (h : Ok n l) (hl : Bi.list left = []) : all = fromR n l a := by
  have hz : ∀ y, left.testBit y = false := fun y => by
    cases hb : left.testBit y with
    | false => rfl
    | true =>
      have h64 : y < 64 := by
        rcases Nat.lt_or_ge y 64 with q | q
        · exact q
        · rw [Nat.testBit_lt_two_pow (Nat.lt_of_lt_of_le m.less (Nat.pow_le_pow_right (n := 2) (by decide) q))] at hb
          cases hb
      have := Bi.mem_list.2 ⟨h64, hb⟩
      rw [hl] at this
      cases this
  exact from_is h m.small m.first (fun y z h1 h2 => m.done y z h1 (hz y) h2) m.way
/-- What is left is nothing, or has a least one, a node. -/
theorem Mid.cases (m : Mid l a all left) (h : Ok n l) : (Bi.least left = -1 ∧ all = fromR n l a) ∨ ∃ x : Nat, Bi.least left = (x : Int) ∧ x < l.length ∧ left.testBit x = true := by
  cases e : Bi.list left with
  | nil => exact .inl ⟨Bi.least_nil e, m.whole h e⟩
  | cons x r =>
    have hm : x ∈ Bi.list left := by rw [e]; exact List.mem_cons_self
    have hb := (Bi.mem_list.1 hm).2
    exact .inr ⟨x, Bi.least_cons e, by rw [h.2.1]; exact (way_node h (m.way x (m.sub x hb))).2, hb⟩
theorem from_lt (n : Nat) (l : List Nat) (a : Nat) : fromR n l a < 18446744073709551616 := Gf.setTo_lt64 _ _
end

/-! One edge more, row by row: the rows ahead of k are whole. -/
def moreTo (n : Nat) (l : List Nat) (a b k : Nat) : List Nat := (List.range n).map fun u => if u < k then setTo (moreF l a b u) n else (addR l a b).getD u 0
section
variable {n : Nat} {l : List Nat} {a b k : Nat}
theorem moreTo_len (n : Nat) (l : List Nat) (a b k : Nat) : (moreTo n l a b k).length = n := by rw [moreTo, List.length_map, List.length_range]
theorem moreTo_get {u : Nat} (hu : u < (moreTo n l a b k).length) : (moreTo n l a b k)[u] = if u < k then setTo (moreF l a b u) n else (addR l a b).getD u 0 := by simp [moreTo]
theorem moreTo_zero (h : Ok n l) : moreTo n l a b 0 = addR l a b := by
  apply List.ext_getElem
  · rw [moreTo_len, add_len, h.2.1]
  · intro u h1 h2
    rw [moreTo_get, if_neg (Nat.not_lt_zero u), List.getD_eq_getElem?_getD, List.getElem?_eq_getElem h2]
    rfl
theorem moreTo_all : moreTo n l a b n = moreR n l a b := by
  apply List.ext_getElem
  · rw [moreTo_len, moreR, build_len]
  · intro u h1 h2
    rw [moreTo_len] at h1
    rw [moreTo_get, if_pos h1]
    exact (build_at _ h2).symm
theorem more_row (h : Ok n l) (ha : a < n) (hb : b < n) (hk : k < n) (j : Nat) : (setTo (moreF l a b k) n).testBit j = moreF l a b k j := by
  have hl : k < (moreR n l a b).length := by rw [moreR, build_len]; exact hk
  rw [← more_bit h ha hb k j, bit_at hl]
  exact congrArg (fun s => Nat.testBit s j) (build_at _ hl).symm
theorem moreTo_old (h : Ok n l) (ha : a < n) (hb : b < n) (hk : k < n) (hn : k ≠ a) (hf : bit l k a = false) : moreTo n l a b k = moreTo n l a b (k + 1) := by
  apply List.ext_getElem
  · rw [moreTo_len, moreTo_len]
  · intro u h1 h2
    rw [moreTo_get, moreTo_get]
    by_cases e : u < k
    · rw [if_pos e, if_pos (by omega)]
    · by_cases q : u = k
      · subst q
        rw [if_neg e, if_pos (Nat.lt_succ_self _)]
        have hul : u < l.length := by rw [h.2.1]; exact hk
        have hua : u < (addR l a b).length := by rw [add_len]; exact hul
        have e2 : (addR l a b).getD u 0 < 2 ^ 64 := by
          rw [List.getD_eq_getElem?_getD, List.getElem?_eq_getElem hua]
          exact (add_ok h ha hb).small (List.getElem_mem hua)
        refine Bi.same e2 (setTo_lt64 _ _) fun j _ => ?_
        rw [more_row h ha hb hk]
        show bit (addR l a b) u j = _
        rw [add_bit h ha hb, moreF, hf, decide_eq_false hn, Bool.false_and, Bool.or_false, Bool.or_false, Bool.false_and, Bool.or_false]
      · rw [if_neg e, if_neg (by omega)]
theorem moreTo_new (h : Ok n l) (ha : a < n) (hb : b < n) (hk : k < l.length) (hbl : b < l.length) (hy : (decide (k = a) || bit l k a) = true) : (moreTo n l a b k).set k (Bi.join [l[k], Bi.withN l[b] (b : Int)]) = moreTo n l a b (k + 1) := by
  have hkn : k < n := by rw [← h.2.1]; exact hk
  apply List.ext_getElem
  · rw [List.length_set, moreTo_len, moreTo_len]
  · intro u h1 h2
    rw [List.getElem_set, moreTo_get, moreTo_get]
    by_cases e : k = u
    · subst e
      rw [if_pos rfl, if_pos (Nat.lt_succ_self _)]
      have e1 : Bi.join [l[k], Bi.withN l[b] (b : Int)] < 2 ^ 64 := by
        rw [Bi.join_two]
        exact Nat.or_lt_two_pow (h.small (List.getElem_mem hk)) (Bi.with_lt (h.small (List.getElem_mem hbl)) _)
      refine Bi.same e1 (setTo_lt64 _ _) fun j _ => ?_
      rw [more_row h ha hb hkn, Bi.join_two, Nat.testBit_or, Bi.with_bit, Bi.ok_of b (Nat.lt_of_lt_of_le hb h.1), Int.toNat_natCast, Bool.true_and, ← bit_at hk, ← bit_at hbl, moreF, hy, Bool.true_and]
      have : decide (b = j) = decide (j = b) := by rw [Bool.eq_iff_iff, decide_eq_true_iff, decide_eq_true_iff]; exact eq_comm
      rw [this, Bool.or_comm (bit l b j)]
    · rw [if_neg e]
      by_cases q : u < k
      · rw [if_pos q, if_pos (by omega)]
      · rw [if_neg q, if_neg (by omega)]
/-- The row that is not made yet is the old one, but for the edge. -/
theorem moreTo_lt (h : Ok n l) (ha : a < n) (hb : b < n) {u : Nat} (hu : u < (moreTo n l a b k).length) : (moreTo n l a b k)[u] < 18446744073709551616 := by
  rw [moreTo_get]
  split
  · exact setTo_lt64 _ _
  · rw [moreTo_len] at hu
    have hua : u < (addR l a b).length := by rw [add_len, h.2.1]; exact hu
    rw [List.getD_eq_getElem?_getD, List.getElem?_eq_getElem hua]
    exact (add_ok h ha hb).small (List.getElem_mem hua)
end

/-! Does some way lead back, and all to which ways lead, of anything. -/
theorem back_bit {n : Nat} {l : List Nat} {x : Nat} (hx : x < n) (y : Nat) : bit (closeR n l) x y = (fromR n l x).testBit y := by rw [bit, from_row hx]
theorem back_no {n : Nat} {l : List Nat} (h : ∀ x, x < n → (fromR n l x).testBit x = false) : cyclicR n l = false := by
  rw [cyclicR, ← Bool.not_eq_true, List.any_eq_true]
  rintro ⟨x, hx, hb⟩
  rw [back_bit (List.mem_range.1 hx), h x (List.mem_range.1 hx)] at hb
  cases hb
theorem back_yes {n : Nat} {l : List Nat} {x : Nat} (hx : x < n) (h : (fromR n l x).testBit x = true) : cyclicR n l = true := by
  rw [cyclicR, List.any_eq_true]
  exact ⟨x, List.mem_range.2 hx, by rw [back_bit hx]; exact h⟩
def cyclicA (n : Int) (l : List Nat) : Bool := okB n l && cyclicR n.toNat l
def fromA (n : Int) (l : List Nat) (a : Int) : Nat := if (okB n l && isN n a) = true then fromR n.toNat l a.toNat else 0
end Rc
end Go.Proofs.YtadgfplaabgkfaaDoor
