/-
  Plain facts on sets of numbers as bits (no Go in it): the set of one number; with it, without it, whether it is in there, and whether all of one set is in another one, as 'or' and 'and' of numbers below 2^64.
  Conditions: none beyond those that each theorem states.
-/
import Derived.Test.YtchllbjbicomcaaDoorBiPlain
set_option maxRecDepth 4000
namespace Go.Proofs.YtchllbjbicomcaaDoor.Bi

/-- The set of one number; the empty one where no set has it. -/
def one (i : Int) : Nat := if ok i = true then 2 ^ i.toNat else 0
theorem one_no {i : Int} (h : ok i = false) : one i = 0 := if_neg (by rw [h]; simp)
theorem one_nat {k : Nat} (h : k < 64) : one (k : Int) = 2 ^ k := by rw [one, if_pos (ok_of k h)]; simp
theorem one_lt (i : Int) : one i < 18446744073709551616 := by
  unfold one
  split
  · rename_i h
    obtain ⟨k, rfl, hk⟩ := ok_nat h
    exact pow_lt (by simpa using hk)
  · decide
theorem one_zero (i : Int) : (((one i : Nat) : Int) == 0) = !ok i := by
  cases h : ok i with
  | false => rw [one_no h]; rfl
  | true =>
    obtain ⟨k, rfl, hk⟩ := ok_nat h
    rw [one_nat hk]
    have := Nat.two_pow_pos k
    generalize 2 ^ k = p at *
    simp only [Bool.not_true, beq_eq_false_iff_ne]
    omega
theorem one_bit (i : Int) (j : Nat) : (one i).testBit j = (ok i && decide (i.toNat = j)) := by
  cases h : ok i with
  | false => rw [one_no h]; simp
  | true => rw [one, if_pos h, Nat.testBit_two_pow]; simp
theorem or_one (s : Nat) (i : Int) : s ||| one i = withN s i := by
  cases h : ok i with
  | false => rw [one_no h, with_no h, Nat.or_zero]
  | true => rw [one, withN, if_pos h, if_pos h]
/-- No bit below 64: nothing. -/
theorem none_zero {s : Nat} (hs : s < 2 ^ 64) (h : ∀ j, j < 64 → s.testBit j = false) : s = 0 :=
  same hs (by decide) fun j hj => by rw [h j hj, Nat.zero_testBit]
theorem and_one {s : Nat} (i : Int) : (((s &&& one i : Nat) : Int) != 0) = has s i := by
  cases h : has s i with
  | true =>
    rw [has, Bool.and_eq_true] at h
    have hb : (s &&& one i).testBit i.toNat = true := by rw [Nat.testBit_and, one_bit, h.1, h.2]; simp
    have : s &&& one i ≠ 0 := fun q => by rw [q, Nat.zero_testBit] at hb; cases hb
    simp
    omega
  | false =>
    have : s &&& one i = 0 := by
      refine Nat.eq_of_testBit_eq fun j => ?_
      rw [Nat.testBit_and, one_bit, Nat.zero_testBit]
      cases ho : ok i with
      | false => simp
      | true =>
        rw [has, ho, Bool.true_and] at h
        by_cases e : i.toNat = j
        · subst e; rw [h]; rfl
        · rw [decide_eq_false e]; simp
    rw [this]
    rfl
theorem not_bit {x : Nat} (hx : x < 18446744073709551616) (j : Nat) : (18446744073709551615 - x).testBit j = (decide (j < 64) && !x.testBit j) := by
  have h := Nat.testBit_two_pow_sub_succ (n := 64) hx j
  rwa [show 2 ^ 64 - (x + 1) = 18446744073709551615 - x by omega] at h
theorem clear_one {s : Nat} (hs : s < 18446744073709551616) (i : Int) : s &&& (18446744073709551615 - one i) = without s i := by
  refine same (Nat.lt_of_le_of_lt Nat.and_le_left hs) (Nat.lt_of_le_of_lt (without_le s i) hs) fun j hj => ?_
  rw [Nat.testBit_and, not_bit (one_lt i), one_bit, without_bit, decide_eq_true hj, Bool.true_and]
theorem clear_sub {a b : Nat} (ha : a < 18446744073709551616) (hb : b < 18446744073709551616) : (((a &&& (18446744073709551615 - b) : Nat) : Int) == 0) = sub a b := by
  cases h : sub a b with
  | true =>
    rw [sub_iff] at h
    have : a &&& (18446744073709551615 - b) = 0 := none_zero (Nat.lt_of_le_of_lt Nat.and_le_left ha) fun j hj => by
      rw [Nat.testBit_and, not_bit hb]
      cases hq : a.testBit j with
      | false => rfl
      | true => rw [h j hj hq]; simp
    rw [this]
    rfl
  | false =>
    have h2 : a &&& (18446744073709551615 - b) ≠ 0 := fun q => by
      have : sub a b = true := by
        rw [sub_iff]
        intro j hj hq
        have h3 : (a &&& (18446744073709551615 - b)).testBit j = false := by rw [q, Nat.zero_testBit]
        rw [Nat.testBit_and, not_bit hb, hq, decide_eq_true hj, Bool.true_and, Bool.true_and] at h3
        simpa using h3
      rw [this] at h
      cases h
    simp
    omega
theorem with_zero_lt {s : Nat} (hs : s < 18446744073709551616) (i : Int) : withN s i < 18446744073709551616 := with_lt hs i

/-! A row of numbers, put in one by one. -/
def allTo (l : List Int) (k : Nat) : Bool := (l.take k).all ok
def foldTo (l : List Int) (k : Nat) : Nat := (l.take k).foldl withN 0
theorem foldTo_zero (l : List Int) : foldTo l 0 = 0 := rfl
theorem foldTo_next {l : List Int} {k : Nat} (h : k < l.length) : foldTo l (k + 1) = withN (foldTo l k) l[k] := by
  unfold foldTo
  rw [List.take_succ_eq_append_getElem h, List.foldl_append]
  rfl
theorem foldTo_lt (l : List Int) (k : Nat) : foldTo l k < 18446744073709551616 := fold_lt _ (by decide)
theorem allTo_zero (l : List Int) : allTo l 0 = true := rfl
theorem allTo_next {l : List Int} {k : Nat} (h : k < l.length) : allTo l (k + 1) = (allTo l k && ok l[k]) := by
  unfold allTo
  rw [List.take_succ_eq_append_getElem h, List.all_append]
  simp
theorem of_all {l : List Int} (h : allTo l l.length = true) : ofR l = (foldTo l l.length, 0) := by
  rw [allTo, List.take_length] at h
  rw [ofR, if_pos h, foldTo, List.take_length]
theorem of_bad {l : List Int} {k : Nat} (h : k < l.length) (hb : ok l[k] = false) : ofR l = (0, 1) := by
  have : l.all ok = false := by
    cases hq : l.all ok with
    | false => rfl
    | true => rw [List.all_eq_true.1 hq _ (List.getElem_mem h)] at hb; cases hb
  rw [ofR, if_neg (by rw [this]; simp)]
def joinTo (l : List Nat) (k : Nat) : Nat := join (l.take k)
theorem joinTo_zero (l : List Nat) : joinTo l 0 = 0 := rfl
theorem joinTo_next {l : List Nat} {k : Nat} (h : k < l.length) : joinTo l (k + 1) = joinTo l k ||| l[k] := by
  unfold joinTo
  rw [List.take_succ_eq_append_getElem h, join_snoc]
theorem joinTo_all (l : List Nat) : joinTo l l.length = join l := by rw [joinTo, List.take_length]
theorem joinTo_lt {l : List Nat} (h : ∀ x ∈ l, x < 18446744073709551616) (k : Nat) : joinTo l k < 18446744073709551616 := join_lt fun x hx => h x (List.mem_of_mem_take hx)
end Go.Proofs.YtchllbjbicomcaaDoor.Bi
