/-
  Plain facts on sets of the numbers from 0 to 63, as bits of a natural number (no Go in it): with and without a number, a set's numbers, the set of a row of numbers, all that is in some sets, whether all of one is in another one.
  Conditions: none beyond those that each theorem states.
-/
import Derived.Test.YtchllbjbicomcaaDoorLow
set_option maxRecDepth 4000
namespace Go.Proofs.YtchllbjbicomcaaDoor.Bi

def ok (i : Int) : Bool := decide (0 ≤ i) && decide (i < 64)
def has (s : Nat) (i : Int) : Bool := ok i && s.testBit i.toNat
def withN (s : Nat) (i : Int) : Nat := if ok i = true then s ||| 2 ^ i.toNat else s
def without (s : Nat) (i : Int) : Nat := if has s i = true then s - 2 ^ i.toNat else s
def list (s : Nat) : List Nat := (List.range 64).filter s.testBit
def least (s : Nat) : Int := match (list s).head? with
  | some k => (k : Int)
  | none => -1
def sub (a b : Nat) : Bool := (list a).all b.testBit
def join (l : List Nat) : Nat := l.foldl (· ||| ·) 0
def ofR (l : List Int) : Nat × Int := if l.all ok = true then (l.foldl withN 0, 0) else (0, 1)

theorem ok_iff {i : Int} : ok i = true ↔ 0 ≤ i ∧ i < 64 := by simp [ok]
theorem ok_nat {i : Int} (h : ok i = true) : ∃ k : Nat, i = (k : Int) ∧ k < 64 := by
  have := ok_iff.1 h
  exact ⟨i.toNat, by omega, by omega⟩
theorem ok_of (k : Nat) (h : k < 64) : ok (k : Int) = true := ok_iff.2 (by omega)
theorem has_nat (s k : Nat) (h : k < 64) : has s (k : Int) = s.testBit k := by rw [has, ok_of k h]; simp
theorem has_no {s : Nat} {i : Int} (h : ok i = false) : has s i = false := by rw [has, h]; rfl
theorem with_nat (s k : Nat) (h : k < 64) : withN s (k : Int) = s ||| 2 ^ k := by rw [withN, if_pos (ok_of k h)]; simp
theorem with_no {s : Nat} {i : Int} (h : ok i = false) : withN s i = s := if_neg (by rw [h]; simp)
theorem without_no {s : Nat} {i : Int} (h : has s i = false) : without s i = s := if_neg (by rw [h]; simp)
theorem without_nat {s k : Nat} (h : k < 64) (hb : s.testBit k = true) : without s (k : Int) = s - 2 ^ k := by rw [without, if_pos (by rw [has_nat s k h]; exact hb)]; simp

/-! A bit that is not there is added, one that is there is taken away. -/
theorem or_add {s k : Nat} (h : s.testBit k = false) : s ||| 2 ^ k = s + 2 ^ k := by
  have e : s = 2 ^ k * (s / 2 ^ k) + s % 2 ^ k := (Nat.div_add_mod s (2 ^ k)).symm
  have hlt : s % 2 ^ k < 2 ^ k := Nat.mod_lt _ (Nat.two_pow_pos k)
  have hb : s / 2 ^ k % 2 = 0 := by
    have : ¬ s / 2 ^ k % 2 = 1 := by simpa [Nat.testBit_eq_decide_div_mod_eq] using h
    omega
  have e2 : s + 2 ^ k = 2 ^ k * (s / 2 ^ k + 1) + s % 2 ^ k := by rw [Nat.mul_add]; omega
  refine Nat.eq_of_testBit_eq fun j => ?_
  rw [e2, Nat.testBit_two_pow_mul_add _ hlt, Nat.testBit_or, Nat.testBit_two_pow]
  have e3 : s.testBit j = if j < k then (s % 2 ^ k).testBit j else (s / 2 ^ k).testBit (j - k) := by
    have := Nat.testBit_two_pow_mul_add (s / 2 ^ k) hlt j
    rwa [← e] at this
  rw [e3]
  by_cases hj : j < k
  · rw [if_pos hj, if_pos hj, decide_eq_false (by omega), Bool.or_false]
  · rw [if_neg hj, if_neg hj]
    by_cases hjk : k = j
    · subst hjk
      rw [Nat.sub_self, decide_eq_true rfl, Bool.or_true, Nat.testBit_zero]
      symm
      rw [decide_eq_true_eq]
      omega
    · rw [decide_eq_false hjk, Bool.or_false]
      obtain ⟨m, hm⟩ : ∃ m, j - k = m + 1 := ⟨j - k - 1, by omega⟩
      rw [hm, Nat.testBit_succ, Nat.testBit_succ]
      congr 1
      omega
theorem sub_bit {s k : Nat} (h : s.testBit k = true) : (s - 2 ^ k).testBit k = false ∧ (s - 2 ^ k) ||| 2 ^ k = s ∧ 2 ^ k ≤ s := by
  have hge := Nat.ge_two_pow_of_testBit h
  have e0 := Nat.testBit_two_pow_add_eq (s - 2 ^ k) k
  rw [show 2 ^ k + (s - 2 ^ k) = s by omega, h] at e0
  have h0 : (s - 2 ^ k).testBit k = false := by
    cases hq : (s - 2 ^ k).testBit k with
    | false => rfl
    | true => rw [hq] at e0; cases e0
  refine ⟨h0, ?_, hge⟩
  rw [or_add h0]
  omega
theorem sub_testBit {s k : Nat} (h : s.testBit k = true) (j : Nat) : (s - 2 ^ k).testBit j = (s.testBit j && !decide (k = j)) := by
  obtain ⟨h0, h1, _⟩ := sub_bit h
  by_cases e : k = j
  · subst e; rw [h0, decide_eq_true rfl]; simp
  · have : s.testBit j = ((s - 2 ^ k) ||| 2 ^ k).testBit j := by rw [h1]
    rw [this, Nat.testBit_or, Nat.testBit_two_pow, decide_eq_false e]
    simp
/-- As the reference has it. -/
theorem has_div (s k : Nat) : s.testBit k = decide (s / 2 ^ k % 2 = 1) := Nat.testBit_eq_decide_div_mod_eq
theorem with_add {s k : Nat} (hk : k < 64) (h : s.testBit k = false) : withN s (k : Int) = s + 2 ^ k := by rw [with_nat s k hk, or_add h]
theorem with_there {s : Nat} {i : Int} (h : has s i = true) : withN s i = s := by
  rw [has, Bool.and_eq_true] at h
  rw [withN, if_pos h.1]
  refine Nat.eq_of_testBit_eq fun j => ?_
  rw [Nat.testBit_or, Nat.testBit_two_pow]
  by_cases e : i.toNat = j
  · rw [← e, h.2]; rfl
  · rw [decide_eq_false e, Bool.or_false]
theorem with_bit (s : Nat) (i : Int) (j : Nat) : (withN s i).testBit j = (s.testBit j || (ok i && decide (i.toNat = j))) := by
  unfold withN
  cases h : ok i with
  | false => simp
  | true => simp [Nat.testBit_or, Nat.testBit_two_pow]
theorem without_bit (s : Nat) (i : Int) (j : Nat) : (without s i).testBit j = (s.testBit j && !(ok i && decide (i.toNat = j))) := by
  unfold without
  cases h : has s i with
  | true =>
    rw [has, Bool.and_eq_true] at h
    rw [if_pos rfl, sub_testBit h.2, h.1]
    simp
  | false =>
    rw [if_neg (by simp)]
    cases ho : ok i with
    | false => simp
    | true =>
      rw [has, ho, Bool.true_and] at h
      by_cases e : i.toNat = j
      · rw [← e, h]; rfl
      · rw [decide_eq_false e]; simp
theorem pow_lt {k : Nat} (h : k < 64) : 2 ^ k < 2 ^ 64 := Nat.pow_lt_pow_right (by decide) h
theorem with_lt {s : Nat} (hs : s < 2 ^ 64) (i : Int) : withN s i < 2 ^ 64 := by
  unfold withN
  split
  · rename_i h
    obtain ⟨k, rfl, hk⟩ := ok_nat h
    exact Nat.or_lt_two_pow hs (pow_lt (by simpa using hk))
  · exact hs
theorem without_le (s : Nat) (i : Int) : without s i ≤ s := by
  unfold without
  split
  · exact Nat.sub_le _ _
  · exact Nat.le_refl _
/-- Two sets with the same bits are the same. -/
theorem same {a b : Nat} (ha : a < 2 ^ 64) (hb : b < 2 ^ 64) (h : ∀ j, j < 64 → a.testBit j = b.testBit j) : a = b := by
  refine Nat.eq_of_testBit_eq fun j => ?_
  by_cases hj : j < 64
  · exact h j hj
  · rw [Nat.testBit_lt_two_pow (Nat.lt_of_lt_of_le ha (Nat.pow_le_pow_right (by decide) (by omega))), Nat.testBit_lt_two_pow (Nat.lt_of_lt_of_le hb (Nat.pow_le_pow_right (by decide) (by omega)))]

/-! With and without, in whatever order. -/
theorem with_comm (s : Nat) (i k : Int) : withN (withN s i) k = withN (withN s k) i := by
  refine Nat.eq_of_testBit_eq fun j => ?_
  rw [with_bit, with_bit, with_bit, with_bit, Bool.or_assoc, Bool.or_assoc, Bool.or_comm (ok i && _)]
theorem without_with (s : Nat) (i : Int) : without (withN s i) i = without s i := by
  refine Nat.eq_of_testBit_eq fun j => ?_
  rw [without_bit, without_bit, with_bit]
  cases s.testBit j <;> cases (ok i && decide (i.toNat = j)) <;> rfl
theorem with_without (s : Nat) (i : Int) : withN (without s i) i = withN s i := by
  refine Nat.eq_of_testBit_eq fun j => ?_
  rw [with_bit, with_bit, without_bit]
  cases s.testBit j <;> cases (ok i && decide (i.toNat = j)) <;> rfl
theorem has_with {s : Nat} {i : Int} (h : ok i = true) : has (withN s i) i = true := by
  rw [has, h, with_bit, h]
  simp
theorem has_without (s : Nat) (i : Int) : has (without s i) i = false := by
  rw [has, without_bit]
  cases ok i <;> simp

/-! A set's numbers. -/
theorem mem_list {s k : Nat} : k ∈ list s ↔ k < 64 ∧ s.testBit k = true := by rw [list, List.mem_filter, List.mem_range]
theorem list_rise (s : Nat) : (list s).Pairwise (· < ·) := List.pairwise_lt_range.filter _
theorem list_len (s : Nat) : (list s).length ≤ 64 := by
  have := List.length_filter_le s.testBit (List.range 64)
  rw [List.length_range] at this
  exact this
def listTo (s k : Nat) : List Nat := (List.range k).filter s.testBit
theorem listTo_yes {s k : Nat} (h : s.testBit k = true) : listTo s (k + 1) = listTo s k ++ [k] := by
  unfold listTo
  rw [List.range_succ, List.filter_append]
  simp [h]
theorem listTo_no {s k : Nat} (h : s.testBit k = false) : listTo s (k + 1) = listTo s k := by
  unfold listTo
  rw [List.range_succ, List.filter_append]
  simp [h]
theorem listTo_len (s k : Nat) : (listTo s k).length ≤ k := by
  have := List.length_filter_le s.testBit (List.range k)
  rw [List.length_range] at this
  exact this
/-- All bits of a row of numbers. -/
theorem fold_bit (l : List Nat) (hl : ∀ k ∈ l, k < 64) (s j : Nat) : ((l.map fun (k : Nat) => (k : Int)).foldl withN s).testBit j = (s.testBit j || decide (j ∈ l)) := by
  induction l generalizing s with
  | nil => simp
  | cons a r ih =>
    rw [List.map_cons, List.foldl_cons, ih (fun k hk => hl k (List.mem_cons_of_mem _ hk)), with_bit, ok_of a (hl a List.mem_cons_self), Bool.or_assoc]
    congr 1
    by_cases e : a = j
    · subst e; simp
    · have e2 : ¬ j = a := fun q => e q.symm
      simp [e, e2]
theorem fold_lt (l : List Int) {s : Nat} (hs : s < 2 ^ 64) : l.foldl withN s < 2 ^ 64 := by
  induction l generalizing s with
  | nil => exact hs
  | cons a r ih => exact ih (with_lt hs a)
theorem of_list {s : Nat} (hs : s < 2 ^ 64) : ofR ((list s).map fun (k : Nat) => (k : Int)) = (s, 0) := by
  have hall : ((list s).map fun (k : Nat) => (k : Int)).all ok = true := by
    rw [List.all_eq_true]
    intro x hx
    obtain ⟨k, hk, rfl⟩ := List.mem_map.1 hx
    exact ok_of k (mem_list.1 hk).1
  rw [ofR, if_pos hall]
  congr 1
  refine same (fold_lt _ (by decide)) hs fun j hj => ?_
  rw [fold_bit _ (fun k hk => (mem_list.1 hk).1), Nat.zero_testBit, Bool.false_or]
  cases hb : s.testBit j with
  | true => exact decide_eq_true (mem_list.2 ⟨hj, hb⟩)
  | false => exact decide_eq_false fun q => by rw [(mem_list.1 q).2] at hb; cases hb
theorem has_iff {s : Nat} {i : Int} : has s i = true ↔ ∃ k ∈ list s, i = (k : Int) := by
  constructor
  · intro h
    have ho : ok i = true := by rw [has, Bool.and_eq_true] at h; exact h.1
    obtain ⟨k, rfl, hk⟩ := ok_nat ho
    rw [has_nat s k hk] at h
    exact ⟨k, mem_list.2 ⟨hk, h⟩, rfl⟩
  · rintro ⟨k, hk, rfl⟩
    rw [has_nat s k (mem_list.1 hk).1]
    exact (mem_list.1 hk).2
theorem least_nil {s : Nat} (h : list s = []) : least s = -1 := by rw [least, h]; rfl
theorem least_cons {s k : Nat} {r : List Nat} (h : list s = k :: r) : least s = (k : Int) := by rw [least, h]; rfl
/-- The least number, by its own property. -/
theorem least_is {s k : Nat} (hk : k < 64) (hb : s.testBit k = true) (hlow : ∀ j, j < k → s.testBit j = false) : least s = (k : Int) := by
  have hm : k ∈ list s := mem_list.2 ⟨hk, hb⟩
  have hr := list_rise s
  cases e : list s with
  | nil => rw [e] at hm; cases hm
  | cons a r =>
    rw [least_cons e]
    rw [e] at hm hr
    rw [List.pairwise_cons] at hr
    rcases List.mem_cons.1 hm with q | q
    · rw [q]
    · have h1 := hr.1 k q
      have h2 := hlow a h1
      have h3 := (mem_list.1 (show a ∈ list s by rw [e]; exact List.mem_cons_self)).2
      rw [h2] at h3
      cases h3
theorem list_zero : list 0 = [] := by decide
theorem list_nil {s : Nat} (hs : s < 2 ^ 64) : list s = [] ↔ s = 0 := by
  constructor
  · intro h
    refine same hs (by decide) fun j hj => ?_
    rw [Nat.zero_testBit]
    cases hb : s.testBit j with
    | false => rfl
    | true =>
      have := mem_list.2 ⟨hj, hb⟩
      rw [h] at this
      cases this
  · rintro rfl; exact list_zero

/-! How many: without a number that is there, one less. -/
theorem count_less {s k : Nat} (hk : k < 64) (hb : s.testBit k = true) : (list s).length = (list (s - 2 ^ k)).length + 1 := by
  have key : ∀ (l : List Nat), l.Nodup → (l.filter s.testBit).length = (l.filter (s - 2 ^ k).testBit).length + if k ∈ l then 1 else 0 := by
    intro l
    induction l with
    | nil => intro _; simp
    | cons a r ih =>
      intro hn
      rw [List.nodup_cons] at hn
      have h2 := ih hn.2
      rw [List.filter_cons, List.filter_cons, sub_testBit hb a]
      by_cases e : k = a
      · subst e
        rw [if_neg hn.1] at h2
        rw [if_pos hb, if_neg (by simp), if_pos List.mem_cons_self, List.length_cons]
        omega
      · have hmem : (k ∈ a :: r) ↔ k ∈ r := by simp [e]
        simp only [hmem]
        rw [decide_eq_false e, Bool.not_false, Bool.and_true]
        split
        · rw [List.length_cons, List.length_cons]; omega
        · exact h2
  have := key (List.range 64) List.nodup_range
  rw [if_pos (List.mem_range.2 hk)] at this
  exact this
theorem count_with {s : Nat} {i : Int} (ho : ok i = true) : (list (withN s i)).length = (list (without s i)).length + 1 := by
  obtain ⟨k, rfl, hk⟩ := ok_nat ho
  have hb : (withN s (k : Int)).testBit k = true := by rw [with_bit, ho]; simp
  rw [count_less hk hb, ← without_nat hk hb, without_with]
theorem count_same {s : Nat} {i : Int} : (list s).length = (list (without s i)).length ∨ (list s).length = (list (withN s i)).length := by
  cases h : has s i with
  | false => exact .inl (by rw [without_no h])
  | true => exact .inr (by rw [with_there h])

/-! All of one set in another one, and all that is in some. -/
theorem sub_iff {a b : Nat} : sub a b = true ↔ ∀ j, j < 64 → a.testBit j = true → b.testBit j = true := by
  rw [sub, List.all_eq_true]
  exact ⟨fun h j hj hb => h j (mem_list.2 ⟨hj, hb⟩), fun h j hj => h j (mem_list.1 hj).1 (mem_list.1 hj).2⟩
theorem sub_and {a b : Nat} (ha : a < 2 ^ 64) : sub a b = true ↔ a &&& b = a := by
  rw [sub_iff]
  constructor
  · intro h
    refine same (Nat.lt_of_le_of_lt Nat.and_le_left ha) ha fun j hj => ?_
    rw [Nat.testBit_and]
    cases hb : a.testBit j with
    | false => rfl
    | true => rw [h j hj hb]; rfl
  · intro h j _ hb
    rw [← h, Nat.testBit_and, Bool.and_eq_true] at hb
    exact hb.2
theorem sub_or {a b : Nat} (ha : a < 2 ^ 64) (hb : b < 2 ^ 64) : sub a b = true ↔ a ||| b = b := by
  rw [sub_iff]
  constructor
  · intro h
    refine same (Nat.or_lt_two_pow ha hb) hb fun j hj => ?_
    rw [Nat.testBit_or]
    cases hq : a.testBit j with
    | false => rfl
    | true => rw [h j hj hq]; rfl
  · intro h j _ hq
    rw [← h, Nat.testBit_or, hq]
    rfl
theorem join_bit (l : List Nat) (s j : Nat) : (l.foldl (· ||| ·) s).testBit j = (s.testBit j || l.any fun x => x.testBit j) := by
  induction l generalizing s with
  | nil => simp
  | cons a r ih => rw [List.foldl_cons, ih, Nat.testBit_or, List.any_cons, Bool.or_assoc]
theorem join_at (l : List Nat) (j : Nat) : (join l).testBit j = l.any fun x => x.testBit j := by rw [join, join_bit, Nat.zero_testBit, Bool.false_or]
theorem join_lt {l : List Nat} (h : ∀ x ∈ l, x < 2 ^ 64) : join l < 2 ^ 64 := by
  have key : ∀ (l : List Nat) (s : Nat), s < 2 ^ 64 → (∀ x ∈ l, x < 2 ^ 64) → l.foldl (· ||| ·) s < 2 ^ 64 := by
    intro l
    induction l with
    | nil => intro s hs _; exact hs
    | cons a r ih => intro s hs ha; exact ih _ (Nat.or_lt_two_pow hs (ha a List.mem_cons_self)) fun x hx => ha x (List.mem_cons_of_mem _ hx)
  exact key l 0 (by decide) h
theorem join_snoc (l : List Nat) (x : Nat) : join (l ++ [x]) = join l ||| x := by rw [join, List.foldl_append]; rfl
theorem join_reverse (l : List Nat) : join l.reverse = join l := by
  refine Nat.eq_of_testBit_eq fun j => ?_
  rw [join_at, join_at, List.any_reverse]
theorem join_sub {l : List Nat} {x : Nat} (h : x ∈ l) : sub x (join l) = true := by
  rw [sub_iff]
  intro j _ hb
  rw [join_at, List.any_eq_true]
  exact ⟨x, h, hb⟩
theorem join_two (a b : Nat) : join [a, b] = a ||| b := by simp [join]
/-- The numbers of a set, put into another one, one by one. -/
theorem or_list {s x : Nat} (hs : s < 2 ^ 64) (hx : x < 2 ^ 64) : ((list x).map fun (k : Nat) => (k : Int)).foldl withN s = s ||| x := by
  refine same (fold_lt _ hs) (Nat.or_lt_two_pow hs hx) fun j hj => ?_
  rw [fold_bit _ (fun k hk => (mem_list.1 hk).1), Nat.testBit_or]
  congr 1
  cases hb : x.testBit j with
  | true => exact decide_eq_true (mem_list.2 ⟨hj, hb⟩)
  | false => exact decide_eq_false fun q => by rw [(mem_list.1 q).2] at hb; cases hb
end Go.Proofs.YtchllbjbicomcaaDoor.Bi
