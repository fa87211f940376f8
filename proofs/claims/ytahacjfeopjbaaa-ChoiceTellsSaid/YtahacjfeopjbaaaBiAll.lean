/-
  Several texts in one, each with its own first words: BiPlain, BiBits, BiCount, BiMem, BiWalkA, BiWalkB, BiRefA, BiFrame.
  Conditions: as each says.
-/
import Derived.Test.YtahacjfeopjbaaaLow
import Derived.Test.YtahacjfeopjbaaaSoAll
import Derived.Test.YtahacjfeopjbaaaRows
import Derived.Lib.TrailingZeros
import Derived.Laws.Bits64b
import Derived.Laws.BitsAllLaws
import Derived.Lib.LaidTab
import Derived.Lib.SmallJoins
/-
  Plain facts on sets of the numbers from 0 to 63, as bits of a natural number (no Go in it): with and without a number, a set's numbers, the set of a row of numbers, all that is in some sets, whether all of one is in another one.
  Conditions: none beyond those that each theorem states.
-/
set_option maxRecDepth 4000
namespace Go.Proofs.Ytahacjfeopjbaaa.Bi

def ok (i : Int) : Bool := decide (0 ≤ i) && decide (i < 64)
def has (s : Nat) (i : Int) : Bool := ok i && s.testBit i.toNat
def withN (s : Nat) (i : Int) : Nat := if ok i = true then s ||| 2 ^ i.toNat else s
def without (s : Nat) (i : Int) : Nat := if has s i = true then s - 2 ^ i.toNat else s
def list (s : Nat) : List Nat := (List.range 64).filter s.testBit
def least (s : Nat) : Int := match (list s).head? with
  | some k => (k : Int)
  | none => -1
def sub (a b : Nat) : Bool := (list a).all b.testBit
def join (l : List Nat) : Nat := l.foldl (· ||| ·) 0
def ofR (l : List Int) : Nat × Int := if l.all ok = true then (l.foldl withN 0, 0) else (0, 1)

theorem ok_iff {i : Int} : ok i = true ↔ 0 ≤ i ∧ i < 64 := by simp [ok]
theorem ok_nat {i : Int} (h : ok i = true) : ∃ k : Nat, i = (k : Int) ∧ k < 64 := by
  have := ok_iff.1 h
  exact ⟨i.toNat, by omega, by omega⟩
theorem ok_of (k : Nat) (h : k < 64) : ok (k : Int) = true := ok_iff.2 (by omega)
theorem has_nat (s k : Nat) (h : k < 64) : has s (k : Int) = s.testBit k := by rw [has, ok_of k h]; simp
theorem has_no {s : Nat} {i : Int} (h : ok i = false) : has s i = false := by rw [has, h]; rfl
theorem with_nat (s k : Nat) (h : k < 64) : withN s (k : Int) = s ||| 2 ^ k := by rw [withN, if_pos (ok_of k h)]; simp
theorem with_no {s : Nat} {i : Int} (h : ok i = false) : withN s i = s := if_neg (by rw [h]; simp)
theorem without_no {s : Nat} {i : Int} (h : has s i = false) : without s i = s := if_neg (by rw [h]; simp)
theorem without_nat {s k : Nat} (h : k < 64) (hb : s.testBit k = true) : without s (k : Int) = s - 2 ^ k := by rw [without, if_pos (by rw [has_nat s k h]; exact hb)]; simp

/-! A bit that is not there is added, one that is there is taken away. -/
theorem or_add {s k : Nat} (h : s.testBit k = false) : s ||| 2 ^ k = s + 2 ^ k := by
  have e : s = 2 ^ k * (s / 2 ^ k) + s % 2 ^ k := (Nat.div_add_mod s (2 ^ k)).symm
  have hlt : s % 2 ^ k < 2 ^ k := Nat.mod_lt _ (Nat.two_pow_pos k)
  have hb : s / 2 ^ k % 2 = 0 := by
    have : ¬ s / 2 ^ k % 2 = 1 := by simpa [Nat.testBit_eq_decide_div_mod_eq] using h
    omega
  have e2 : s + 2 ^ k = 2 ^ k * (s / 2 ^ k + 1) + s % 2 ^ k := by rw [Nat.mul_add]; omega
  refine Nat.eq_of_testBit_eq fun j => ?_
  rw [e2, Nat.testBit_two_pow_mul_add _ hlt, Nat.testBit_or, Nat.testBit_two_pow]
  have e3 : s.testBit j = if j < k then (s % 2 ^ k).testBit j else (s / 2 ^ k).testBit (j - k) := by
    have := Nat.testBit_two_pow_mul_add (s / 2 ^ k) hlt j
    rwa [← e] at this
  rw [e3]
  by_cases hj : j < k
  · rw [if_pos hj, if_pos hj, decide_eq_false (by omega), Bool.or_false]
  · rw [if_neg hj, if_neg hj]
    by_cases hjk : k = j
    · subst hjk
      rw [Nat.sub_self, decide_eq_true rfl, Bool.or_true, Nat.testBit_zero]
      symm
      rw [decide_eq_true_eq]
      omega
    · rw [decide_eq_false hjk, Bool.or_false]
      obtain ⟨m, hm⟩ : ∃ m, j - k = m + 1 := ⟨j - k - 1, by omega⟩
      rw [hm, Nat.testBit_succ, Nat.testBit_succ]
      congr 1
      omega
theorem sub_bit {s k : Nat} (h : s.testBit k = true) : (s - 2 ^ k).testBit k = false ∧ (s - 2 ^ k) ||| 2 ^ k = s ∧ 2 ^ k ≤ s := by
  have hge := Nat.ge_two_pow_of_testBit h
  have e0 := Nat.testBit_two_pow_add_eq (s - 2 ^ k) k
  rw [show 2 ^ k + (s - 2 ^ k) = s by omega, h] at e0
  have h0 : (s - 2 ^ k).testBit k = false := by
    cases hq : (s - 2 ^ k).testBit k with
    | false => rfl
    | true => rw [hq] at e0; cases e0
  refine ⟨h0, ?_, hge⟩
  rw [or_add h0]
  omega
theorem sub_testBit {s k : Nat} (h : s.testBit k = true) (j : Nat) : (s - 2 ^ k).testBit j = (s.testBit j && !decide (k = j)) := by
  obtain ⟨h0, h1, _⟩ := sub_bit h
  by_cases e : k = j
  · subst e; rw [h0, decide_eq_true rfl]; simp
  · have : s.testBit j = ((s - 2 ^ k) ||| 2 ^ k).testBit j := by rw [h1]
    rw [this, Nat.testBit_or, Nat.testBit_two_pow, decide_eq_false e]
    simp
/-- As the reference has it. -/
theorem has_div (s k : Nat) : s.testBit k = decide (s / 2 ^ k % 2 = 1) := Nat.testBit_eq_decide_div_mod_eq
theorem with_add {s k : Nat} (hk : k < 64) (h : s.testBit k = false) : withN s (k : Int) = s + 2 ^ k := by rw [with_nat s k hk, or_add h]
theorem with_there {s : Nat} {i : Int} (h : has s i = true) : withN s i = s := by
  rw [has, Bool.and_eq_true] at h
  rw [withN, if_pos h.1]
  refine Nat.eq_of_testBit_eq fun j => ?_
  rw [Nat.testBit_or, Nat.testBit_two_pow]
  by_cases e : i.toNat = j
  · rw [← e, h.2]; rfl
  · rw [decide_eq_false e, Bool.or_false]
theorem with_bit (s : Nat) (i : Int) (j : Nat) : (withN s i).testBit j = (s.testBit j || (ok i && decide (i.toNat = j))) := by
  unfold withN
  cases h : ok i with
  | false => simp
  | true => simp [Nat.testBit_or, Nat.testBit_two_pow]
theorem without_bit (s : Nat) (i : Int) (j : Nat) : (without s i).testBit j = (s.testBit j && !(ok i && decide (i.toNat = j))) := by
  unfold without
  cases h : has s i with
  | true =>
    rw [has, Bool.and_eq_true] at h
    rw [if_pos rfl, sub_testBit h.2, h.1]
    simp
  | false =>
    rw [if_neg (by simp)]
    cases ho : ok i with
    | false => simp
    | true =>
      rw [has, ho, Bool.true_and] at h
      by_cases e : i.toNat = j
      · rw [← e, h]; rfl
      · rw [decide_eq_false e]; simp
theorem pow_lt {k : Nat} (h : k < 64) : 2 ^ k < 2 ^ 64 := Nat.pow_lt_pow_right (by decide) h
theorem with_lt {s : Nat} (hs : s < 2 ^ 64) (i : Int) : withN s i < 2 ^ 64 := by
  unfold withN
  split
  · rename_i h
    obtain ⟨k, rfl, hk⟩ := ok_nat h
    exact Nat.or_lt_two_pow hs (pow_lt (by simpa using hk))
  · exact hs
theorem without_le (s : Nat) (i : Int) : without s i ≤ s := by
  unfold without
  split
  · exact Nat.sub_le _ _
  · exact Nat.le_refl _
/-- Two sets with the same bits are the same. -/
theorem same {a b : Nat} (ha : a < 2 ^ 64) (hb : b < 2 ^ 64) (h : ∀ j, j < 64 → a.testBit j = b.testBit j) : a = b := by
  refine Nat.eq_of_testBit_eq fun j => ?_
  by_cases hj : j < 64
  · exact h j hj
  · rw [Nat.testBit_lt_two_pow (Nat.lt_of_lt_of_le ha (Nat.pow_le_pow_right (by decide) (by omega))), Nat.testBit_lt_two_pow (Nat.lt_of_lt_of_le hb (Nat.pow_le_pow_right (by decide) (by omega)))]

/-! With and without, in whatever order. -/
theorem with_comm (s : Nat) (i k : Int) : withN (withN s i) k = withN (withN s k) i := by
  refine Nat.eq_of_testBit_eq fun j => ?_
  rw [with_bit, with_bit, with_bit, with_bit, Bool.or_assoc, Bool.or_assoc, Bool.or_comm (ok i && _)]
theorem without_with (s : Nat) (i : Int) : without (withN s i) i = without s i := by
  refine Nat.eq_of_testBit_eq fun j => ?_
  rw [without_bit, without_bit, with_bit]
  cases s.testBit j <;> cases (ok i && decide (i.toNat = j)) <;> rfl
theorem with_without (s : Nat) (i : Int) : withN (without s i) i = withN s i := by
  refine Nat.eq_of_testBit_eq fun j => ?_
  rw [with_bit, with_bit, without_bit]
  cases s.testBit j <;> cases (ok i && decide (i.toNat = j)) <;> rfl
theorem has_with {s : Nat} {i : Int} (h : ok i = true) : has (withN s i) i = true := by
  rw [has, h, with_bit, h]
  simp
theorem has_without (s : Nat) (i : Int) : has (without s i) i = false := by
  rw [has, without_bit]
  cases ok i <;> simp

/-! A set's numbers. -/
theorem mem_list {s k : Nat} : k ∈ list s ↔ k < 64 ∧ s.testBit k = true := by rw [list, List.mem_filter, List.mem_range]
theorem list_rise (s : Nat) : (list s).Pairwise (· < ·) := List.pairwise_lt_range.filter _
theorem list_len (s : Nat) : (list s).length ≤ 64 := by
  have := List.length_filter_le s.testBit (List.range 64)
  rw [List.length_range] at this
  exact this
def listTo (s k : Nat) : List Nat := (List.range k).filter s.testBit
theorem listTo_yes {s k : Nat} (h : s.testBit k = true) : listTo s (k + 1) = listTo s k ++ [k] := by
  unfold listTo
  rw [List.range_succ, List.filter_append]
  simp [h]
theorem listTo_no {s k : Nat} (h : s.testBit k = false) : listTo s (k + 1) = listTo s k := by
  unfold listTo
  rw [List.range_succ, List.filter_append]
  simp [h]
theorem listTo_len (s k : Nat) : (listTo s k).length ≤ k := by
  have := List.length_filter_le s.testBit (List.range k)
  rw [List.length_range] at this
  exact this
/-- All bits of a row of numbers. -/
theorem fold_bit (l : List Nat) (hl : ∀ k ∈ l, k < 64) (s j : Nat) : ((l.map fun (k : Nat) => (k : Int)).foldl withN s).testBit j = (s.testBit j || decide (j ∈ l)) := by
  induction l generalizing s with
  | nil => simp
  | cons a r ih =>
    rw [List.map_cons, List.foldl_cons, ih (fun k hk => hl k (List.mem_cons_of_mem _ hk)), with_bit, ok_of a (hl a List.mem_cons_self), Bool.or_assoc]
    congr 1
    by_cases e : a = j
    · subst e; simp
    · have e2 : ¬ j = a := fun q => e q.symm
      simp [e, e2]
theorem fold_lt (l : List Int) {s : Nat} (hs : s < 2 ^ 64) : l.foldl withN s < 2 ^ 64 := by
  induction l generalizing s with
  | nil => exact hs
  | cons a r ih => exact ih (with_lt hs a)
theorem of_list {s : Nat} (hs : s < 2 ^ 64) : ofR ((list s).map fun (k : Nat) => (k : Int)) = (s, 0) := by
  have hall : ((list s).map fun (k : Nat) => (k : Int)).all ok = true := by
    rw [List.all_eq_true]
    intro x hx
    obtain ⟨k, hk, rfl⟩ := List.mem_map.1 hx
    exact ok_of k (mem_list.1 hk).1
  rw [ofR, if_pos hall]
  congr 1
  refine same (fold_lt _ (by decide)) hs fun j hj => ?_
  rw [fold_bit _ (fun k hk => (mem_list.1 hk).1), Nat.zero_testBit, Bool.false_or]
  cases hb : s.testBit j with
  | true => exact decide_eq_true (mem_list.2 ⟨hj, hb⟩)
  | false => exact decide_eq_false fun q => by rw [(mem_list.1 q).2] at hb; cases hb
theorem has_iff {s : Nat} {i : Int} : has s i = true ↔ ∃ k ∈ list s, i = (k : Int) := by
  constructor
  · intro h
    have ho : ok i = true := by rw [has, Bool.and_eq_true] at h; exact h.1
    obtain ⟨k, rfl, hk⟩ := ok_nat ho
    rw [has_nat s k hk] at h
    exact ⟨k, mem_list.2 ⟨hk, h⟩, rfl⟩
  · rintro ⟨k, hk, rfl⟩
    rw [has_nat s k (mem_list.1 hk).1]
    exact (mem_list.1 hk).2
theorem least_nil {s : Nat} (h : list s = []) : least s = -1 := by rw [least, h]; rfl
theorem least_cons {s k : Nat} {r : List Nat} (h : list s = k :: r) : least s = (k : Int) := by rw [least, h]; rfl
/-- The least number, by its own property. -/
theorem least_is {s k : Nat} (hk : k < 64) (hb : s.testBit k = true) (hlow : ∀ j, j < k → s.testBit j = false) : least s = (k : Int) := by
  have hm : k ∈ list s := mem_list.2 ⟨hk, hb⟩
  have hr := list_rise s
  cases e : list s with
  | nil => rw [e] at hm; cases hm
  | cons a r =>
    rw [least_cons e]
    rw [e] at hm hr
    rw [List.pairwise_cons] at hr
    rcases List.mem_cons.1 hm with q | q
    · rw [q]
    · have h1 := hr.1 k q
      have h2 := hlow a h1
      have h3 := (mem_list.1 (show a ∈ list s by rw [e]; exact List.mem_cons_self)).2
      rw [h2] at h3
      cases h3
theorem list_zero : list 0 = [] := by decide
theorem list_nil {s : Nat} (hs : s < 2 ^ 64) : list s = [] ↔ s = 0 := by
  constructor
  · intro h
    refine same hs (by decide) fun j hj => ?_
    rw [Nat.zero_testBit]
    cases hb : s.testBit j with
    | false => rfl
    | true =>
      have := mem_list.2 ⟨hj, hb⟩
      rw [h] at this
      cases this
  · rintro rfl; exact list_zero

/-! How many: without a number that is there, one less. -/
theorem count_less {s k : Nat} (hk : k < 64) (hb : s.testBit k = true) : (list s).length = (list (s - 2 ^ k)).length + 1 := by
  have key : ∀ (l : List Nat), l.Nodup → (l.filter s.testBit).length = (l.filter (s - 2 ^ k).testBit).length + if k ∈ l then 1 else 0 := by
    intro l
    induction l with
    | nil => intro _; simp
    | cons a r ih =>
      intro hn
      rw [List.nodup_cons] at hn
      have h2 := ih hn.2
      rw [List.filter_cons, List.filter_cons, sub_testBit hb a]
      by_cases e : k = a
      · subst e
        rw [if_neg hn.1] at h2
        rw [if_pos hb, if_neg (by simp), if_pos List.mem_cons_self, List.length_cons]
        omega
      · have hmem : (k ∈ a :: r) ↔ k ∈ r := by simp [e]
        simp only [hmem]
        rw [decide_eq_false e, Bool.not_false, Bool.and_true]
        split
        · rw [List.length_cons, List.length_cons]; omega
        · exact h2
  have := key (List.range 64) List.nodup_range
  rw [if_pos (List.mem_range.2 hk)] at this
  exact this
theorem count_with {s : Nat} {i : Int} (ho : ok i = true) : (list (withN s i)).length = (list (without s i)).length + 1 := by
  obtain ⟨k, rfl, hk⟩ := ok_nat ho
  have hb : (withN s (k : Int)).testBit k = true := by rw [with_bit, ho]; simp
  rw [count_less hk hb, ← without_nat hk hb, without_with]
theorem count_same {s : Nat} {i : Int} : (list s).length = (list (without s i)).length ∨ (list s).length = (list (withN s i)).length := by
  cases h : has s i with
  | false => exact .inl (by rw [without_no h])
  | true => exact .inr (by rw [with_there h])

/-! All of one set in another one, and all that is in some. -/
theorem sub_iff {a b : Nat} : sub a b = true ↔ ∀ j, j < 64 → a.testBit j = true → b.testBit j = true := by
  rw [sub, List.all_eq_true]
  exact ⟨fun h j hj hb => h j (mem_list.2 ⟨hj, hb⟩), fun h j hj => h j (mem_list.1 hj).1 (mem_list.1 hj).2⟩
theorem sub_and {a b : Nat} (ha : a < 2 ^ 64) : sub a b = true ↔ a &&& b = a := by
  rw [sub_iff]
  constructor
  · intro h
    refine same (Nat.lt_of_le_of_lt Nat.and_le_left ha) ha fun j hj => ?_
    rw [Nat.testBit_and]
    cases hb : a.testBit j with
    | false => rfl
    | true => rw [h j hj hb]; rfl
  · intro h j _ hb
    rw [← h, Nat.testBit_and, Bool.and_eq_true] at hb
    exact hb.2
theorem sub_or {a b : Nat} (ha : a < 2 ^ 64) (hb : b < 2 ^ 64) : sub a b = true ↔ a ||| b = b := by
  rw [sub_iff]
  constructor
  · intro h
    refine same (Nat.or_lt_two_pow ha hb) hb fun j hj => ?_
    rw [Nat.testBit_or]
    cases hq : a.testBit j with
    | false => rfl
    | true => rw [h j hj hq]; rfl
  · intro h j _ hq
    rw [← h, Nat.testBit_or, hq]
    rfl
theorem join_bit (l : List Nat) (s j : Nat) : (l.foldl (· ||| ·) s).testBit j = (s.testBit j || l.any fun x => x.testBit j) := by
  induction l generalizing s with
  | nil => simp
  | cons a r ih => rw [List.foldl_cons, ih, Nat.testBit_or, List.any_cons, Bool.or_assoc]
theorem join_at (l : List Nat) (j : Nat) : (join l).testBit j = l.any fun x => x.testBit j := by rw [join, join_bit, Nat.zero_testBit, Bool.false_or]
theorem join_lt {l : List Nat} (h : ∀ x ∈ l, x < 2 ^ 64) : join l < 2 ^ 64 := by
  have key : ∀ (l : List Nat) (s : Nat), s < 2 ^ 64 → (∀ x ∈ l, x < 2 ^ 64) → l.foldl (· ||| ·) s < 2 ^ 64 := by
    intro l
    induction l with
    | nil => intro s hs _; exact hs
    | cons a r ih => intro s hs ha; exact ih _ (Nat.or_lt_two_pow hs (ha a List.mem_cons_self)) fun x hx => ha x (List.mem_cons_of_mem _ hx)
  exact key l 0 (by decide) h
theorem join_snoc (l : List Nat) (x : Nat) : join (l ++ [x]) = join l ||| x := by rw [join, List.foldl_append]; rfl
theorem join_reverse (l : List Nat) : join l.reverse = join l := by
  refine Nat.eq_of_testBit_eq fun j => ?_
  rw [join_at, join_at, List.any_reverse]
theorem join_sub {l : List Nat} {x : Nat} (h : x ∈ l) : sub x (join l) = true := by
  rw [sub_iff]
  intro j _ hb
  rw [join_at, List.any_eq_true]
  exact ⟨x, h, hb⟩
theorem join_two (a b : Nat) : join [a, b] = a ||| b := by simp [join]
/-- The numbers of a set, put into another one, one by one. -/
theorem or_list {s x : Nat} (hs : s < 2 ^ 64) (hx : x < 2 ^ 64) : ((list x).map fun (k : Nat) => (k : Int)).foldl withN s = s ||| x := by
  refine same (fold_lt _ hs) (Nat.or_lt_two_pow hs hx) fun j hj => ?_
  rw [fold_bit _ (fun k hk => (mem_list.1 hk).1), Nat.testBit_or]
  congr 1
  cases hb : x.testBit j with
  | true => exact decide_eq_true (mem_list.2 ⟨hj, hb⟩)
  | false => exact decide_eq_false fun q => by rw [(mem_list.1 q).2] at hb; cases hb
end Go.Proofs.Ytahacjfeopjbaaa.Bi
/-
  Plain facts on sets of numbers as bits (no Go in it): the set of one number; with it, without it, whether it is in there, and whether all of one set is in another one, as 'or' and 'and' of numbers below 2^64.
  Conditions: none beyond those that each theorem states.
-/
set_option maxRecDepth 4000
namespace Go.Proofs.Ytahacjfeopjbaaa.Bi

/-- The set of one number; the empty one where no set has it. -/
def one (i : Int) : Nat := if ok i = true then 2 ^ i.toNat else 0
theorem one_no {i : Int} (h : ok i = false) : one i = 0 := if_neg (by rw [h]; simp)
theorem one_nat {k : Nat} (h : k < 64) : one (k : Int) = 2 ^ k := by rw [one, if_pos (ok_of k h)]; simp
theorem one_lt (i : Int) : one i < 18446744073709551616 := by
  unfold one
  split
  · rename_i h
    obtain ⟨k, rfl, hk⟩ := ok_nat h
    exact pow_lt (by simpa using hk)
  · decide
theorem one_bit (i : Int) (j : Nat) : (one i).testBit j = (ok i && decide (i.toNat = j)) := by
  cases h : ok i with
  | false => rw [one_no h]; simp
  | true => rw [one, if_pos h, Nat.testBit_two_pow]; simp
theorem or_one (s : Nat) (i : Int) : s ||| one i = withN s i := by
  cases h : ok i with
  | false => rw [one_no h, with_no h, Nat.or_zero]
  | true => rw [one, withN, if_pos h, if_pos h]
/-- No bit below 64: nothing. -/
theorem none_zero {s : Nat} (hs : s < 2 ^ 64) (h : ∀ j, j < 64 → s.testBit j = false) : s = 0 :=
  same hs (by decide) fun j hj => by rw [h j hj, Nat.zero_testBit]
theorem and_one {s : Nat} (i : Int) : (((s &&& one i : Nat) : Int) != 0) = has s i := by
  cases h : has s i with
  | true =>
    rw [has, Bool.and_eq_true] at h
    have hb : (s &&& one i).testBit i.toNat = true := by rw [Nat.testBit_and, one_bit, h.1, h.2]; simp
    have : s &&& one i ≠ 0 := fun q => by rw [q, Nat.zero_testBit] at hb; cases hb
    simp
    omega
  | false =>
    have : s &&& one i = 0 := by
      refine Nat.eq_of_testBit_eq fun j => ?_
      rw [Nat.testBit_and, one_bit, Nat.zero_testBit]
      cases ho : ok i with
      | false => simp
      | true =>
        rw [has, ho, Bool.true_and] at h
        by_cases e : i.toNat = j
        · subst e; rw [h]; rfl
        · rw [decide_eq_false e]; simp
    rw [this]
    rfl
theorem not_bit {x : Nat} (hx : x < 18446744073709551616) (j : Nat) : (18446744073709551615 - x).testBit j = (decide (j < 64) && !x.testBit j) := by
  have h := Nat.testBit_two_pow_sub_succ (n := 64) hx j
  rwa [show 2 ^ 64 - (x + 1) = 18446744073709551615 - x by omega] at h
theorem clear_sub {a b : Nat} (ha : a < 18446744073709551616) (hb : b < 18446744073709551616) : (((a &&& (18446744073709551615 - b) : Nat) : Int) == 0) = sub a b := by
  cases h : sub a b with
  | true =>
    rw [sub_iff] at h
    have : a &&& (18446744073709551615 - b) = 0 := none_zero (Nat.lt_of_le_of_lt Nat.and_le_left ha) fun j hj => by
      rw [Nat.testBit_and, not_bit hb]
      cases hq : a.testBit j with
      | false => rfl
      | true => rw [h j hj hq]; simp
    rw [this]
    rfl
  | false =>
    have h2 : a &&& (18446744073709551615 - b) ≠ 0 := fun q => by
      have : sub a b = true := by
        rw [sub_iff]
        intro j hj hq
        have h3 : (a &&& (18446744073709551615 - b)).testBit j = false := by rw [q, Nat.zero_testBit]
        rw [Nat.testBit_and, not_bit hb, hq, decide_eq_true hj, Bool.true_and, Bool.true_and] at h3
        simpa using h3
      rw [this] at h
      cases h
    simp
    omega
theorem with_zero_lt {s : Nat} (hs : s < 18446744073709551616) (i : Int) : withN s i < 18446744073709551616 := with_lt hs i

def joinTo (l : List Nat) (k : Nat) : Nat := join (l.take k)
theorem joinTo_next {l : List Nat} {k : Nat} (h : k < l.length) : joinTo l (k + 1) = joinTo l k ||| l[k] := by
  unfold joinTo
  rw [List.take_succ_eq_append_getElem h, join_snoc]
theorem joinTo_all (l : List Nat) : joinTo l l.length = join l := by rw [joinTo, List.take_length]
theorem joinTo_lt {l : List Nat} (h : ∀ x ∈ l, x < 18446744073709551616) (k : Nat) : joinTo l k < 18446744073709551616 := join_lt fun x hx => h x (List.mem_of_mem_take hx)
end Go.Proofs.Ytahacjfeopjbaaa.Bi
/-
  Plain facts on how many bits of a number below 2^64 are set (no Go in it): the sum over its bytes, by halves, quarters and eighths of them side by side in one number, is the number of its bits; and its lowest bit.
  Conditions: none beyond those that each theorem states.
-/
set_option maxRecDepth 4000
namespace Go.Proofs.Ytahacjfeopjbaaa.Bi

/-- A byte, so many times side by side. -/
def rep (c : Nat) : Nat → Nat
  | 0 => 0
  | k + 1 => c + 256 * rep c k
def halves (k x : Nat) : Nat := ((x / 2) &&& rep 85 k) + (x &&& rep 85 k)
def quarters (k x : Nat) : Nat := ((x / 4) &&& rep 51 k) + (x &&& rep 51 k)
def eighths (k x : Nat) : Nat := (x / 16 + x) &&& rep 15 k
def sums (k x : Nat) : Nat := eighths k (quarters k (halves k x))

/-! How many bits are set, byte by byte. -/
def ones (n x : Nat) : Nat := ((List.range n).filter x.testBit).length
/-! The lowest bit. -/
theorem least_ctz {s : Nat} (h0 : s ≠ 0) (hs : s < 2 ^ 64) : least s = (Lib.ctz 64 s : Int) := by
  obtain ⟨m, hm, hk⟩ := Lib.ctzFrom_spec 64 s (by omega) hs
  have e : Lib.ctz 64 s = Lib.ctzFrom 64 s := by rw [Lib.ctz, if_neg h0]
  rw [e]
  generalize Lib.ctzFrom 64 s = k at *
  refine least_is hk ?_ fun j hj => ?_
  · rw [hm, Nat.testBit_two_pow_mul, Nat.sub_self, Nat.testBit_zero]
    simp
  · rw [hm, Nat.testBit_two_pow_mul, decide_eq_false (by omega), Bool.false_and]
end Go.Proofs.Ytahacjfeopjbaaa.Bi
/-
  Words for what bits works with in memory: rows of numbers and rows of sets (uint64), how they last and grow, and the library's table for the lowest bit.
  Conditions: none beyond those that each theorem states.
  (This program has not all of these functions: TZ, TZ.below are left out here.)
-/
set_option maxRecDepth 4000
namespace Go.Proofs.Ytahacjfeopjbaaa
open Go.RowKit

namespace Bi
/-- A row of natural numbers, as a row of integers. -/
def nums (l : List Nat) : List Int := l.map fun (k : Nat) => (k : Int)
theorem nums_len (l : List Nat) : (nums l).length = l.length := List.length_map _
theorem nums_at (l : List Nat) (k : Nat) (hk : k < l.length) : (nums l)[k]'(by rw [nums_len]; exact hk) = (l[k] : Int) := List.getElem_map _
theorem nums_snoc (l : List Nat) (n : Nat) : nums (l ++ [n]) = nums l ++ [(n : Int)] := by simp [nums]
end Bi

/-! Rows of sets. -/
def uC (n : Nat) : List Value := [.int .u64 (n : Int)]
theorem uC_len (n : Nat) : (uC n).length = 1 := rfl
theorem one_uC (n : Nat) : ∀ u ∈ uC n, u.oneCell' = true := by
  intro u hu
  rw [List.mem_singleton.1 hu]
  rfl
def Us (w : World) (v : Value) (l : List Nat) : Prop := Rows' 1 uC w v l
theorem Us.below {w w' : World} {v : Value} {l : List Nat} (h : Us w v l) (hb : Below w.heap.size w w') : Us w' v l := Rows'.below h hb
theorem Us.nil (w : World) (A : Option Addr) : Us w (.slice A 0 0) [] := Rows'.nil w A
theorem Us.spelled {w : World} {v : Value} {l : List Nat} (h : Us w v l) : ∃ A c, v = .slice A l.length c ∧ ∀ (k : Nat) (hk : k < l.length), ∃ ad : Addr, A = some ad ∧ ad.block < w.heap.size ∧ w.cell? (ad.add k) = some (.int .u64 (l[k] : Int)) := by
  obtain ⟨A, c, hv, hh⟩ := Rows'.form uC_len h
  refine ⟨A, c, hv, fun k hk => ?_⟩
  obtain ⟨ad, e, hb, hc⟩ := hh k hk
  refine ⟨ad, e, hb, ?_⟩
  have := hc 0 _ rfl
  rwa [Nat.mul_one, Nat.add_zero] at this
theorem nums_own {W : World} {base : Nat} {e : TypeId} {v : Value} {d : List Nat} (h : W.ownsRow base e 1 v d.length ((Bi.nums d).flatMap nC)) : Ns W v (Bi.nums d) := by
  refine Rows'.own (base := base) (e := e) ?_
  rw [Bi.nums_len]
  exact h
theorem nums_more {W : World} {base : Nat} {e : TypeId} {v : Value} {d : List Nat} {n : Nat} (h : W.ownsRow base e 1 v (d.length + 1) ((Bi.nums d).flatMap nC ++ nC (n : Int))) : W.ownsRow base e 1 v (d ++ [n]).length ((Bi.nums (d ++ [n])).flatMap nC) := by
  rw [Bi.nums_snoc, flat_snoc, List.length_append]
  exact h

/-! A row of numbers, as the walk spells it. -/
theorem Ns.nums {w : World} {v : Value} {l : List Nat} (h : Ns w v (Bi.nums l)) : ∃ A c, v = .slice A l.length c ∧ ∀ (k : Nat) (hk : k < l.length), ∃ ad : Addr, A = some ad ∧ ad.block < w.heap.size ∧ w.cell? (ad.add k) = some (.int .i64 (l[k] : Int)) := by
  obtain ⟨A, c, hv, hf⟩ := h.spelled
  rw [Bi.nums_len] at hv
  refine ⟨A, c, hv, fun k hk => ?_⟩
  have := hf k (by rw [Bi.nums_len]; exact hk)
  rw [Bi.nums_at l k hk] at this
  exact this

/-- A row of numbers that a call hands back, of its own. -/
def RetElems (w : World) (l : List Nat) (e : Ending) (w' : World) : Prop := ∃ v, e = .returned v ∧ w'.ownsRow w.heap.size 3 1 v l.length ((Bi.nums l).flatMap nC) ∧ Below w.heap.size w w'
end Go.Proofs.Ytahacjfeopjbaaa
/-
  What bits' functions of one set answer, and the library's two that they call: only, Has, With, Without, Sub, the lowest bit, how many bits are set, Least, Count; what was in memory stays as it was.
  Conditions: sets are below 2^64; for the lowest bit, the library's table holds what its text says.
  (This program has not all of these functions: biWithout_at, tz64_at, ones64_core, ones64_at, biLeast_at, biCount_at are left out here.)
-/
set_option maxRecDepth 4000
namespace Go.Proofs.Ytahacjfeopjbaaa
open Go.RowKit

theorem Bi.wrap_pow {k : Nat} (h : k < 64) : IntKind.u64.wrap ((2 : Int) ^ k) = ((2 ^ k : Nat) : Int) := by
  have h1 : (2 : Int) ^ k = ((2 ^ k : Nat) : Int) := by simp
  have h2 := Bi.pow_lt h
  rw [h1, IntKind.wrap_u64]
  generalize 2 ^ k = p at *
  omega
theorem biOnly_at (i : Int) (w : World) : Calls Try.prog 89 #[.int .i64 i] w fun e w' => e = .returned (.int .u64 (Bi.one i : Nat)) ∧ w' = w := by
  by_cases h0 : i < 0
  · rw [Bi.one_no (by cases h : Bi.ok i with
      | false => rfl
      | true => have := Bi.ok_iff.1 h; omega)]
    have hd : decide (i < 0) = true := decide_eq_true h0
    go_enter Try.func89, Try.ntmps89
    go_wp2
    go_ret
    exact ⟨rfl, rfl⟩
  · have hd : decide (i < 0) = false := decide_eq_false h0
    obtain ⟨k, rfl⟩ : ∃ k : Nat, i = (k : Int) := ⟨i.toNat, by omega⟩
    by_cases h1 : k < 64
    · rw [Bi.one_nat h1]
      have hd1 : decide ((64 : Int) ≤ (k : Int)) = false := decide_eq_false (by omega)
      go_enter Try.func89, Try.ntmps89
      go_wp2
      go_ret
      exact ⟨congrArg (fun x => Ending.returned (.int .u64 x)) (Bi.wrap_pow h1), rfl⟩
    · rw [Bi.one_no (by cases h : Bi.ok (k : Int) with
        | false => rfl
        | true => have := Bi.ok_iff.1 h; omega)]
      have hd1 : decide ((64 : Int) ≤ (k : Int)) = true := decide_eq_true (by omega)
      go_enter Try.func89, Try.ntmps89
      go_wp2
      go_ret
      exact ⟨rfl, rfl⟩

theorem biHas_at (s : Nat) (i : Int) (w : World) (hs : s < 18446744073709551616) : Calls Try.prog 57 #[.int .u64 s, .int .i64 i] w fun e w' => e = .returned (.bool (Bi.has s i)) ∧ w' = w := by
  have key : ((bits .and .u64 (s : Int) ((Bi.one i : Nat) : Int)) != 0) = Bi.has s i := by rw [bits_and_u64_nat _ _ hs (Bi.one_lt i), Bi.and_one]
  go_enter Try.func57, Try.ntmps57
  go_wp2_with fail
  refine (biOnly_at i _).mono ?_
  rintro e w1 ⟨rfl, rfl⟩
  go_wp2_with fail
  go_ret
  exact ⟨rfl, rfl⟩
theorem biWith_at (s : Nat) (i : Int) (w : World) (hs : s < 18446744073709551616) : Calls Try.prog 90 #[.int .u64 s, .int .i64 i] w fun e w' => e = .returned (.int .u64 (Bi.withN s i : Nat)) ∧ w' = w := by
  have key : bits .or .u64 (s : Int) ((Bi.one i : Nat) : Int) = (Bi.withN s i : Nat) := by rw [bits_or_u64_nat _ _ hs (Bi.one_lt i), Bi.or_one]
  go_enter Try.func90, Try.ntmps90
  go_wp2_with fail
  refine (biOnly_at i _).mono ?_
  rintro e w1 ⟨rfl, rfl⟩
  go_wp2_with fail
  go_ret
  exact ⟨rfl, rfl⟩
theorem biSub_at (a b : Nat) (w : World) (ha : a < 18446744073709551616) (hb : b < 18446744073709551616) : Calls Try.prog 88 #[.int .u64 a, .int .u64 b] w fun e w' => e = .returned (.bool (Bi.sub a b)) ∧ w' = w := by
  have key : ((bits .andNot .u64 (a : Int) (b : Int)) == 0) = Bi.sub a b := by rw [u64_andNot_nat _ _ ha hb, Bi.clear_sub ha hb]
  go_enter Try.func88, Try.ntmps88
  go_wp2_with fail
  go_ret
  exact ⟨rfl, rfl⟩

/-! The library's two. -/
theorem and_mask (x m : Nat) (z k : Int) (hx : x < 18446744073709551616) (hm : m < 18446744073709551616) (hz : z = (x : Int)) (hk : k = (m : Int)) : bits .and .u64 z k = ((x &&& m : Nat) : Int) := by
  rw [hz, hk]
  exact bits_and_u64_nat _ _ hx hm
/-- Where the table is read for a set that is not empty, as Go's expression spells the place; and what lies there. -/
theorem Bi.place {x : Nat} (h0 : x ≠ 0) (hx : x < 18446744073709551616) : ∃ n c : Nat, n < 64 ∧ c < 64 ∧ Bi.least x = (c : Int) ∧ Lib.deBruijn64tab.getD n 0 = c ∧
    IntKind.u64.wrap (bits .and .u64 (x : Int) (IntKind.u64.wrap (-(x : Int))) * 285870213051353865) / 288230376151711744 = (n : Int) := by
  have hb := Lib.lowest_bit 64 x h0 hx
  have ht := Lib.deBruijn64_at _ hb.2
  have hand := and_mask x (18446744073709551616 - x) (x : Int) (IntKind.u64.wrap (-(x : Int))) hx (by omega) rfl (by rw [IntKind.wrap_u64]; omega)
  rw [hb.1] at hand
  refine ⟨_, _, ht.1, hb.2, Bi.least_ctz h0 hx, ht.2, ?_⟩
  rw [hand, IntKind.wrap_u64]
  generalize 2 ^ Lib.ctz 64 x = p
  omega
end Go.Proofs.Ytahacjfeopjbaaa
/-
  What bits' functions over rows answer: Of, List, Join; what was in memory stays as it was.
  Conditions: a row has at most 2^32 elements; sets are below 2^64.
  (This program has not all of these functions: biOf_at is left out here.)
-/
set_option maxRecDepth 4000
namespace Go.Proofs.Ytahacjfeopjbaaa
open Go.RowKit

set_option maxHeartbeats 1000000 in
theorem biList_at (s : Nat) (w : World) (hs : s < 18446744073709551616) : Calls Try.prog 55 #[.int .u64 s] w (RetElems w (Bi.list s)) := by
  obtain ⟨i0, hi0, hz0, hz1, hz2⟩ := info_parts int_info
  have I0 := Lib.hid hi0
  have I1 := Lib.hid hz0
  have I2 := Lib.hid hz1
  have I3 := Lib.hid hz2
  clear hi0 hz0 hz1 hz2
  go_enter Try.func55, Try.ntmps55
  go_wp2_with fail
  go_loopw [3, 5] (fun v i wr => ∃ (k : Nat) (d : List Nat), k ≤ 64 ∧ i = .int .i64 k ∧ d.length ≤ k ∧ Hid (d = Bi.listTo s k) ∧ wr.ownsRow w.heap.size 3 1 v d.length ((Bi.nums d).flatMap nC) ∧ Hid (Below w.heap.size w wr)) (fun _ i _ => 64 - (intOf i).toNat)
  case atStart => exact ⟨0, [], Nat.zero_le _, rfl, Nat.le_refl _, rfl, World.ownsRow_nil _ _ _ _, Below.refl _ _⟩
  case round =>
    obtain ⟨k, d, hk, rfl, hdl, HD, hown, HB⟩ := hrel
    have HW := Lib.hid hown
    obtain ⟨A', cp, rfl⟩ := own_form hown
    clear hown
    by_cases hlt : k < 64
    · have HYes := Lib.hid (fun q => @Bi.listTo_yes s k q)
      have HNo := Lib.hid (fun q => @Bi.listTo_no s k q)
      have hh := Bi.has_nat s k hlt
      go_wp2_with fail
      refine (biHas_at s (k : Int) _ hs).mono ?_
      rintro e w2 ⟨rfl, rfl⟩
      rw [hh]
      cases hg : s.testBit k with
      | false =>
        have HD2 : Hid (d = Bi.listTo s (k + 1)) := by rw [Hid, HNo.out hg]; exact HD.out
        clear hg hh
        go_wp2_with fail
        go_roundw
        case rel => exact ⟨k + 1, d, by omega, by go_num, by omega, HD2, HW.out, HB⟩
        case measure => simp [intOf]; omega
      | true =>
        have HD2 : Hid (d ++ [k] = Bi.listTo s (k + 1)) := by rw [Hid, HYes.out hg, ← HD.out]
        have HW2 := Lib.hid (HW.out.alloc (.cells #[.int .i64 (k : Int)] 3))
        have HB2 := Lib.hid (below_all HB.out (alloc_below w2 (.cells #[.int .i64 (k : Int)] 3)))
        have HN := Lib.hid (new_nC w2 (k : Int) 3)
        clear hg hh
        go_wp2_with (at_builtin; refine wpList_append_own_at _ rfl _ _ 46 rfl w.heap.size 3 i0 _ 1 8 Try.underlying46 I0.out I1.out I2.out I3.out rfl (by decide) _ d.length _ rfl HW2.out ⟨w2.heap.size, 0, none⟩ 1 1 (nC (k : Int)) rfl rfl HN.out (one_nC _) (by simp only [maxLen]; omega) (by omega) HB2.out.size ?_; intro v2 w3 hown2 hgrow2 hnil2 hat2; have HO2 := Lib.hid hown2; have HB3 := Lib.hid (below_append HB2.out HB2.out.size HW2.out hgrow2); clear hown2 hgrow2 hnil2 hat2)
        go_roundw
        case rel => exact ⟨k + 1, d ++ [k], by omega, by go_num, by simp; omega, HD2, nums_more HO2.out, HB3⟩
        case measure => simp [intOf]; omega
    · obtain rfl : k = 64 := by omega
      go_wp2_with fail
      go_ret
      refine ⟨_, rfl, ?_, HB.out⟩
      rw [show Bi.list s = d from HD.out.symm]
      exact HW.out

set_option maxHeartbeats 1000000 in
theorem biJoin_at (l : List Nat) (u : Value) (w : World) (hu : Us w u l) (hl : l.length ≤ 4294967296) (hs : ∀ x ∈ l, x < 18446744073709551616) : Calls Try.prog 72 #[u] w fun e w' => e = .returned (.int .u64 (Bi.join l : Nat)) ∧ w' = w := by
  obtain ⟨A, c, rfl, hf⟩ := hu.spelled
  have HF := Lib.hid hf
  have HS := Lib.hid hs
  clear hf hu hs
  rw [← Bi.joinTo_all]
  go_enter Try.func72, Try.ntmps72
  go_wp2_with fail
  go_loopw [3, 8] (fun s i wr => ∃ k : Nat, k ≤ l.length ∧ i = .int .i64 k ∧ s = .int .u64 (Bi.joinTo l k : Nat) ∧ wr = w) (fun _ i _ => l.length - (intOf i).toNat)
  case atStart => exact ⟨0, Nat.zero_le _, rfl, rfl, rfl⟩
  case round =>
    obtain ⟨k, hk, rfl, rfl, rfl⟩ := hrel
    by_cases hlt : k < l.length
    · obtain ⟨ad, rfl, hblk, hE⟩ := HF.out k hlt
      have hor : bits .or .u64 ((Bi.joinTo l k : Nat) : Int) ((l[k]'hlt : Nat) : Int) = (Bi.joinTo l (k + 1) : Nat) := by
        rw [Bi.joinTo_next hlt]
        exact bits_or_u64_nat _ _ (Bi.joinTo_lt HS.out k) (HS.out _ (List.getElem_mem hlt))
      generalize l[k]'hlt = x at *
      go_wp2_with fail
      go_roundw
      case rel => exact ⟨k + 1, by omega, by go_num, rfl, trivial⟩
      case measure => simp [intOf]; omega
    · obtain rfl : k = l.length := by omega
      go_wp2_with fail
      go_ret
      exact ⟨rfl, rfl⟩
end Go.Proofs.Ytahacjfeopjbaaa
/-
  What the reference's functions of layer 10 answer: Power, In, Has, With, Without, Of, List, Least, Sub, Join; what was in memory stays as it was.
  Conditions: sets are below 2^64; a row has at most 2^32 elements.
  (This program has not all of these functions: rWithout10_at, rOf10_at, rLeast10_at, rJoin10_at are left out here.)
-/
set_option maxRecDepth 4000
namespace Go.Proofs.Ytahacjfeopjbaaa
open Go.RowKit

theorem Bi.ok_cases (i : Int) : (decide (0 ≤ i) = false ∧ Bi.ok i = false) ∨ (decide (0 ≤ i) = true ∧ decide (i ≤ 63) = Bi.ok i) := by
  by_cases h : 0 ≤ i
  · refine .inr ⟨decide_eq_true h, ?_⟩
    rw [Bi.ok, decide_eq_true h, Bool.true_and]
    exact decide_eq_decide.2 (by omega)
  · refine .inl ⟨decide_eq_false h, ?_⟩
    rw [Bi.ok, decide_eq_false h, Bool.false_and]
theorem Bi.pow_twice {k : Nat} (h : k + 1 < 64) : IntKind.u64.wrap (((2 ^ k : Nat) : Int) + ((2 ^ k : Nat) : Int)) = ((2 ^ (k + 1) : Nat) : Int) := by
  have h2 := Bi.pow_lt h
  rw [Nat.pow_succ] at h2 ⊢
  rw [IntKind.wrap_u64]
  generalize 2 ^ k = p at *
  omega

theorem rIn10_at (i : Int) (w : World) : Calls Try.prog 80 #[.int .i64 i] w fun e w' => e = .returned (.bool (Bi.ok i)) ∧ w' = w := by
  rcases Bi.ok_cases i with ⟨h0, h1⟩ | ⟨h0, h1⟩
  · rw [h1]
    go_enter Try.func80, Try.ntmps80
    go_wp2
    go_ret
    exact ⟨rfl, rfl⟩
  · go_enter Try.func80, Try.ntmps80
    go_wp2
    go_ret
    exact ⟨rfl, rfl⟩
theorem rPower10_at (n : Nat) (hn : n < 64) (w : World) : Calls Try.prog 81 #[.int .i64 n] w fun e w' => e = .returned (.int .u64 (2 ^ n : Nat)) ∧ w' = w := by
  go_enter Try.func81, Try.ntmps81
  go_wp2_with fail
  go_loopw [3, 4] (fun s i wr => ∃ (k p : Nat), k ≤ n ∧ i = .int .i64 k ∧ s = .int .u64 p ∧ Hid (p = 2 ^ k) ∧ wr = w) (fun _ i _ => n - (intOf i).toNat)
  case atStart => exact ⟨0, 1, Nat.zero_le _, rfl, rfl, rfl, rfl⟩
  case round =>
    obtain ⟨k, p, hk, rfl, rfl, HP, rfl⟩ := hrel
    by_cases hlt : k < n
    · have h2 := Bi.pow_twice (k := k) (by omega)
      rw [← HP.out] at h2
      generalize hq : 2 ^ (k + 1) = q at *
      go_wp2_with fail
      go_roundw
      case rel => exact ⟨k + 1, q, by omega, by go_num, rfl, hq.symm, trivial⟩
      case measure => simp [intOf]; omega
    · obtain rfl : k = n := by omega
      go_wp2_with fail
      go_ret
      have e := HP.out
      subst e
      exact ⟨rfl, rfl⟩
theorem rHas10_at (s : Nat) (i : Int) (w : World) (hs : s < 18446744073709551616) : Calls Try.prog 59 #[.int .u64 s, .int .i64 i] w fun e w' => e = .returned (.bool (Bi.has s i)) ∧ w' = w := by
  cases h : Bi.ok i with
  | false =>
    rw [Bi.has_no h]
    go_enter Try.func59, Try.ntmps59
    go_wp2_with fail
    refine (rIn10_at i _).mono ?_
    rintro e w1 ⟨rfl, rfl⟩
    rw [h]
    go_wp2_with fail
    go_ret
    exact ⟨rfl, rfl⟩
  | true =>
    obtain ⟨k, rfl, hk⟩ := Bi.ok_nat h
    have key : ((IntKind.u64.wrap ((s : Int) / ((2 ^ k : Nat) : Int))).tmod 2 == 1) = Bi.has s (k : Int) := by
      rw [Bi.has_nat s k hk, Bi.has_div]
      generalize 2 ^ k = p
      have e : IntKind.u64.wrap ((s : Int) / (p : Int)) = ((s / p : Nat) : Int) := by
        have h1 := Nat.div_le_self s p
        rw [← Int.natCast_ediv, IntKind.wrap_u64]
        generalize s / p = y at *
        omega
      rw [e]
      generalize s / p = y
      rw [Int.tmod_eq_emod_of_nonneg (by omega)]
      cases hd : decide (y % 2 = 1) with
      | true => have := of_decide_eq_true hd; rw [beq_iff_eq]; omega
      | false =>
        have := of_decide_eq_false hd
        rw [beq_eq_false_iff_ne]
        omega
    have hpos := Nat.two_pow_pos k
    have hlt := Bi.pow_lt hk
    have HP := Lib.hid (fun w => rPower10_at k hk w)
    generalize Bi.has s (k : Int) = b at *
    generalize 2 ^ k = p at *
    have hp0 : ((p : Nat) : Int) ≠ 0 := by omega
    go_enter Try.func59, Try.ntmps59
    go_wp2_with fail
    refine (rIn10_at k _).mono ?_
    rintro e w1 ⟨rfl, rfl⟩
    rw [h]
    go_wp2_with fail
    refine (HP.out _).mono ?_
    rintro e w1 ⟨rfl, rfl⟩
    go_wp2_with fail
    go_ret
    exact ⟨rfl, rfl⟩
theorem rWith10_at (s : Nat) (i : Int) (w : World) (hs : s < 18446744073709551616) : Calls Try.prog 45 #[.int .u64 s, .int .i64 i] w fun e w' => e = .returned (.int .u64 (Bi.withN s i : Nat)) ∧ w' = w := by
  cases hh : Bi.has s i with
  | true =>
    rw [Bi.with_there hh]
    go_enter Try.func45, Try.ntmps45
    go_wp2_with fail
    refine (rHas10_at s i _ hs).mono ?_
    rintro e w1 ⟨rfl, rfl⟩
    rw [hh]
    go_wp2_with fail
    go_ret
    exact ⟨rfl, rfl⟩
  | false =>
    cases h : Bi.ok i with
    | false =>
      rw [Bi.with_no h]
      go_enter Try.func45, Try.ntmps45
      go_wp2_with fail
      refine (rHas10_at s i _ hs).mono ?_
      rintro e w1 ⟨rfl, rfl⟩
      rw [hh]
      go_wp2_with fail
      refine (rIn10_at i _).mono ?_
      rintro e w1 ⟨rfl, rfl⟩
      rw [h]
      go_wp2_with fail
      go_ret
      exact ⟨rfl, rfl⟩
    | true =>
      obtain ⟨k, rfl, hk⟩ := Bi.ok_nat h
      have hb : s.testBit k = false := by rw [← Bi.has_nat s k hk]; exact hh
      have hw := Bi.with_lt hs (k : Int)
      have key : IntKind.u64.wrap ((s : Int) + ((2 ^ k : Nat) : Int)) = ((Bi.withN s (k : Int) : Nat) : Int) := by
        rw [Bi.with_add hk hb] at hw ⊢
        rw [IntKind.wrap_u64]
        generalize 2 ^ k = p at *
        omega
      have HP := Lib.hid (fun w => rPower10_at k hk w)
      generalize Bi.withN s (k : Int) = b at *
      generalize 2 ^ k = p at *
      go_enter Try.func45, Try.ntmps45
      go_wp2_with fail
      refine (rHas10_at s k _ hs).mono ?_
      rintro e w1 ⟨rfl, rfl⟩
      rw [hh]
      go_wp2_with fail
      refine (rIn10_at k _).mono ?_
      rintro e w1 ⟨rfl, rfl⟩
      rw [h]
      go_wp2_with fail
      refine (HP.out _).mono ?_
      rintro e w1 ⟨rfl, rfl⟩
      go_wp2_with fail
      go_ret
      exact ⟨rfl, rfl⟩
set_option maxHeartbeats 1000000 in
theorem rList10_at (s : Nat) (w : World) (hs : s < 18446744073709551616) : Calls Try.prog 58 #[.int .u64 s] w (RetElems w (Bi.list s)) := by
  obtain ⟨i0, hi0, hz0, hz1, hz2⟩ := info_parts int_info
  have I0 := Lib.hid hi0
  have I1 := Lib.hid hz0
  have I2 := Lib.hid hz1
  have I3 := Lib.hid hz2
  clear hi0 hz0 hz1 hz2
  go_enter Try.func58, Try.ntmps58
  go_wp2_with fail
  go_loopw [3, 4] (fun v i wr => ∃ (k : Nat) (d : List Nat), k ≤ 64 ∧ i = .int .i64 k ∧ d.length ≤ k ∧ Hid (d = Bi.listTo s k) ∧ wr.ownsRow w.heap.size 3 1 v d.length ((Bi.nums d).flatMap nC) ∧ Hid (Below w.heap.size w wr)) (fun _ i _ => 64 - (intOf i).toNat)
  case atStart => exact ⟨0, [], Nat.zero_le _, rfl, Nat.le_refl _, rfl, World.ownsRow_nil _ _ _ _, Below.refl _ _⟩
  case round =>
    obtain ⟨k, d, hk, rfl, hdl, HD, hown, HB⟩ := hrel
    have HW := Lib.hid hown
    obtain ⟨A', cp, rfl⟩ := own_form hown
    clear hown
    by_cases hlt : k < 64
    · have HYes := Lib.hid (fun q => @Bi.listTo_yes s k q)
      have HNo := Lib.hid (fun q => @Bi.listTo_no s k q)
      have hh := Bi.has_nat s k hlt
      go_wp2_with fail
      refine (rHas10_at s (k : Int) _ hs).mono ?_
      rintro e w2 ⟨rfl, rfl⟩
      rw [hh]
      cases hg : s.testBit k with
      | false =>
        have HD2 : Hid (d = Bi.listTo s (k + 1)) := by rw [Hid, HNo.out hg]; exact HD.out
        clear hg hh
        go_wp2_with fail
        go_roundw
        case rel => exact ⟨k + 1, d, by omega, by go_num, by omega, HD2, HW.out, HB⟩
        case measure => simp [intOf]; omega
      | true =>
        have HD2 : Hid (d ++ [k] = Bi.listTo s (k + 1)) := by rw [Hid, HYes.out hg, ← HD.out]
        have HW2 := Lib.hid (HW.out.alloc (.cells #[.int .i64 (k : Int)] 3))
        have HB2 := Lib.hid (below_all HB.out (alloc_below w2 (.cells #[.int .i64 (k : Int)] 3)))
        have HN := Lib.hid (new_nC w2 (k : Int) 3)
        clear hg hh
        go_wp2_with (at_builtin; refine wpList_append_own_at _ rfl _ _ 46 rfl w.heap.size 3 i0 _ 1 8 Try.underlying46 I0.out I1.out I2.out I3.out rfl (by decide) _ d.length _ rfl HW2.out ⟨w2.heap.size, 0, none⟩ 1 1 (nC (k : Int)) rfl rfl HN.out (one_nC _) (by simp only [maxLen]; omega) (by omega) HB2.out.size ?_; intro v2 w3 hown2 hgrow2 hnil2 hat2; have HO2 := Lib.hid hown2; have HB3 := Lib.hid (below_append HB2.out HB2.out.size HW2.out hgrow2); clear hown2 hgrow2 hnil2 hat2)
        go_roundw
        case rel => exact ⟨k + 1, d ++ [k], by omega, by go_num, by simp; omega, HD2, nums_more HO2.out, HB3⟩
        case measure => simp [intOf]; omega
    · obtain rfl : k = 64 := by omega
      go_wp2_with fail
      go_ret
      refine ⟨_, rfl, ?_, HB.out⟩
      rw [show Bi.list s = d from HD.out.symm]
      exact HW.out

set_option maxHeartbeats 1000000 in
theorem rSub10_at (a b : Nat) (w : World) (ha : a < 18446744073709551616) (hb : b < 18446744073709551616) : Calls Try.prog 28 #[.int .u64 a, .int .u64 b] w (RetBool w (Bi.sub a b)) := by
  go_enter Try.func28, Try.ntmps28
  go_wp2_with fail
  refine (rList10_at a _ ha).mono ?_
  rintro e w1 ⟨v, rfl, ho, hb1⟩
  have HB := Lib.hid hb1
  obtain ⟨A, c, rfl, hf⟩ := (nums_own ho).nums
  have HF := Lib.hid hf
  have HL := Lib.hid (show Bi.sub a b = (Bi.list a).all b.testBit from rfl)
  have HM := Lib.hid (fun k (h : k < (Bi.list a).length) => (Bi.mem_list.1 (List.getElem_mem h)).1)
  have hlen := Bi.list_len a
  clear ho hb1 hf
  generalize Bi.sub a b = r at *
  generalize Bi.list a = l at *
  go_wp2_with fail
  go_loopw [6] (fun i wr => ∃ k : Nat, k ≤ l.length ∧ i = .int .i64 k ∧ Hid (∀ x ∈ l.take k, b.testBit x = true) ∧ wr = w1) (fun i _ => l.length - (intOf i).toNat)
  case atStart => exact ⟨0, Nat.zero_le _, rfl, (fun x hx => by cases hx), rfl⟩
  case round =>
    obtain ⟨k, hk, rfl, HA, rfl⟩ := hrel
    by_cases hlt : k < l.length
    · obtain ⟨ad, rfl, hblk, hE⟩ := HF.out k hlt
      have hh := Bi.has_nat b (l[k]'hlt) (HM.out k hlt)
      obtain ⟨x, hx⟩ : ∃ x, x = l[k]'hlt := ⟨_, rfl⟩
      have HX := Lib.hid hx
      rw [← hx] at hE hh
      clear hx
      go_wp2_with fail
      refine (rHas10_at b (x : Int) _ hb).mono ?_
      rintro e w2 ⟨rfl, rfl⟩
      rw [hh]
      cases hg : b.testBit x with
      | false =>
        have hr : r = false := by
          rw [HL.out, List.all_eq_false]
          exact ⟨x, by rw [HX.out]; exact List.getElem_mem hlt, by rw [hg]; simp⟩
        clear hg hh
        subst hr
        go_wp2_with fail
        go_ret
        exact ⟨rfl, HB.out⟩
      | true =>
        have HA2 : Hid (∀ y ∈ l.take (k + 1), b.testBit y = true) := by
          intro y hy
          rw [List.take_succ_eq_append_getElem hlt, List.mem_append, List.mem_singleton] at hy
          rcases hy with h | h
          · exact HA.out y h
          · rw [h, ← HX.out]; exact hg
        clear hg hh
        go_wp2_with fail
        go_roundw
        case rel => exact ⟨k + 1, by omega, by go_num, HA2, trivial⟩
        case measure => simp [intOf]; omega
    · obtain rfl : k = l.length := by omega
      have hr : r = true := by
        rw [HL.out, List.all_eq_true]
        intro x hx
        exact HA.out x (by rw [List.take_length]; exact hx)
      subst hr
      go_wp2_with fail
      go_ret
      exact ⟨rfl, HB.out⟩

/-! All numbers of a set, put into another one, one by one. -/
def Bi.putTo (s : Nat) (l : List Nat) (k : Nat) : Nat := (Bi.nums (l.take k)).foldl Bi.withN s
theorem Bi.putTo_zero (s : Nat) (l : List Nat) : Bi.putTo s l 0 = s := rfl
theorem Bi.putTo_lt {s : Nat} (hs : s < 18446744073709551616) (l : List Nat) (k : Nat) : Bi.putTo s l k < 18446744073709551616 := Bi.fold_lt _ hs
end Go.Proofs.Ytahacjfeopjbaaa
/-
  From a row's list of package-level variables to what the walks ask: the library's table for the lowest bit holds what its text says; and sets and rows of numbers or of sets among the arguments.
  Conditions: none beyond those that each theorem states.
  (This program has not all of these functions: tz_named, tz_type, tz_cells, tz_laid, laidBits are left out here.)
-/
set_option maxRecDepth 4000
namespace Go.Proofs.Ytahacjfeopjbaaa
open Go.ChangeShapes Go.WideShapes Go.ChangeAt Go.RowKit Go.Joins

section
variable {H : Type} {enc : TypeId × Value → H} {w : World} {base : Nat} {r : Reach} {b0 : Nat}
theorem u64_wf {n : Int} (h : (Lit.int .u64 n).wf = true) : ∃ m : Nat, n = (m : Int) ∧ m < 18446744073709551616 := by
  obtain ⟨h1, h2⟩ : IntKind.u64.min ≤ n ∧ n ≤ IntKind.u64.max := by simpa [Lit.wf] using h
  rw [show IntKind.u64.min = 0 from by decide] at h1
  rw [show IntKind.u64.max = 18446744073709551615 from by decide] at h2
  exact ⟨n.toNat, by omega, by omega⟩
/-- A set among the arguments. -/
theorem arg_u64 {v : Value} {d : DataW H} {ps : List MemPlace} (hval : Value.okWide Try.prog w r b0 58 v) (h : DataW.Trod enc Try.prog w base (fun _ => true) true 58 v d ps) : ∃ m : Nat, v = .int .u64 (m : Int) ∧ m < 18446744073709551616 := by
  obtain ⟨n, rfl, rfl, rfl, hw⟩ := open_int Try.underlying58 hval h
  obtain ⟨m, rfl, hm⟩ := u64_wf hw
  exact ⟨m, rfl, hm⟩
theorem cells_u64 {fuel : Nat} {cs : List Value} {x : DataW H × List MemPlace} (h : DataW.trod enc Try.prog w base (fun _ => true) true fuel 58 cs = some x) : ∃ y : Nat, cs = uC y ∧ y < 18446744073709551616 := by
  obtain ⟨z, e, _, hw⟩ := DataW.trod_int Try.underlying58 h
  obtain ⟨m, rfl, hm⟩ := u64_wf hw
  exact ⟨m, e, hm⟩
end

end Go.Proofs.Ytahacjfeopjbaaa
