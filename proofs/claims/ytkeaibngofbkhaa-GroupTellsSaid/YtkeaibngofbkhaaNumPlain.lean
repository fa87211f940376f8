/-
  Plain facts on decimal digits (no Go in it): a number's digits, the value of digits, that each is the other's inverse, and that numbers rise as their digits do.
  Conditions: none beyond those that each theorem states.
-/
namespace Go.Proofs.Ytkeaibngofbkhaa.Nm

/-- Is a byte a digit? -/
def isDig (c : UInt8) : Bool := decide (48 ≤ c.toNat) && decide (c.toNat ≤ 57)
/-- The digit of a number below ten. -/
def dig (k : Nat) : UInt8 := UInt8.ofNat (48 + k)
/-- A number's digits. -/
def digs (n : Nat) : List UInt8 := if n < 10 then [dig n] else digs (n / 10) ++ [dig (n % 10)]
  termination_by n
  decreasing_by omega
/-- What digits mean. -/
def val (l : List UInt8) : Nat := l.foldl (fun n c => n * 10 + (c.toNat - 48)) 0
/-- The digits ahead. -/
def lead (l : List UInt8) : List UInt8 := l.takeWhile isDig

theorem isDig_iff (c : UInt8) : isDig c = true ↔ 48 ≤ c.toNat ∧ c.toNat ≤ 57 := by simp [isDig]
theorem isDig_not (c : UInt8) : isDig c = false ↔ c.toNat < 48 ∨ 57 < c.toNat := by
  rw [← Bool.not_eq_true, isDig_iff]; omega

theorem dig_toNat (k : Nat) (h : k < 10) : (dig k).toNat = 48 + k := by
  unfold dig; rw [UInt8.toNat_ofNat']; omega
theorem isDig_dig (k : Nat) (h : k < 10) : isDig (dig k) = true := by
  rw [isDig_iff, dig_toNat k h]; omega
theorem dig_of (c : UInt8) (h : isDig c = true) : dig (c.toNat - 48) = c := by
  rw [isDig_iff] at h
  apply UInt8.toNat.inj
  rw [dig_toNat _ (by omega)]; omega

theorem digs_small (n : Nat) (h : n < 10) : digs n = [dig n] := by rw [digs, if_pos h]
theorem digs_big (n : Nat) (h : 10 ≤ n) : digs n = digs (n / 10) ++ [dig (n % 10)] := by rw [digs, if_neg (by omega)]

theorem val_nil : val [] = 0 := rfl
theorem val_snoc (l : List UInt8) (c : UInt8) : val (l ++ [c]) = val l * 10 + (c.toNat - 48) := by
  simp [val, List.foldl_append]
theorem val_one (c : UInt8) : val [c] = c.toNat - 48 := by simp [val]

theorem val_digs (n : Nat) : val (digs n) = n := by
  induction n using Nat.strongRecOn with
  | _ n ih =>
    by_cases h : n < 10
    · rw [digs_small n h, val_one, dig_toNat n h]; omega
    · rw [digs_big n (by omega), val_snoc, ih (n / 10) (by omega), dig_toNat _ (by omega)]; omega

theorem digs_all (n : Nat) : ∀ c ∈ digs n, isDig c = true := by
  induction n using Nat.strongRecOn with
  | _ n ih =>
    by_cases h : n < 10
    · rw [digs_small n h]; intro c hc; rw [List.mem_singleton.1 hc]; exact isDig_dig n h
    · rw [digs_big n (by omega)]
      intro c hc
      rcases List.mem_append.1 hc with hc | hc
      · exact ih (n / 10) (by omega) c hc
      · rw [List.mem_singleton.1 hc]; exact isDig_dig _ (by omega)

theorem digs_pos (n : Nat) : 0 < (digs n).length := by
  by_cases h : n < 10
  · rw [digs_small n h]; simp
  · rw [digs_big n (by omega)]; simp

theorem digs_ne (n : Nat) : digs n ≠ [] := by
  intro h; have := digs_pos n; rw [h] at this; simp at this

theorem digs_head (n : Nat) (hn : 0 < n) : ∃ c r, digs n = c :: r ∧ c ≠ 48 := by
  induction n using Nat.strongRecOn with
  | _ n ih =>
    by_cases h : n < 10
    · refine ⟨dig n, [], digs_small n h, fun e => ?_⟩
      have := congrArg UInt8.toNat e
      rw [dig_toNat n h] at this
      simp at this; omega
    · obtain ⟨c, r, e, hc⟩ := ih (n / 10) (by omega) (by omega)
      exact ⟨c, r ++ [dig (n % 10)], by rw [digs_big n (by omega), e]; rfl, hc⟩

theorem snocRec {motive : List UInt8 → Prop} (l : List UInt8) (nil : motive []) (snoc : ∀ l c, motive l → motive (l ++ [c])) : motive l := by
  rw [← List.reverse_reverse l]
  generalize l.reverse = r
  induction r with
  | nil => exact nil
  | cons c r ih => rw [List.reverse_cons]; exact snoc _ _ ih

/-- The value of a row of digits is below ten to the power of how many they are. -/
theorem val_lt (l : List UInt8) (h : ∀ c ∈ l, isDig c = true) : val l < 10 ^ l.length := by
  induction l using snocRec with
  | nil => simp [val]
  | snoc l c ih =>
    have h1 := ih (fun x hx => h x (by simp [hx]))
    have h2 := (isDig_iff c).1 (h c (by simp))
    rw [val_snoc, List.length_append, List.length_singleton, Nat.pow_succ]
    omega

/-- A row's value never falls as it gets longer. -/
theorem val_append_le (l m : List UInt8) : val l ≤ val (l ++ m) := by
  induction m using snocRec with
  | nil => simp
  | snoc m c ih => rw [← List.append_assoc, val_snoc]; omega

theorem foldl_val (l : List UInt8) (a : Nat) : l.foldl (fun n c => n * 10 + (c.toNat - 48)) a = a * 10 ^ l.length + val l := by
  induction l using snocRec generalizing a with
  | nil => simp [val]
  | snoc l c ih =>
    rw [List.foldl_append, ih, val_snoc]
    simp only [List.foldl_cons, List.foldl_nil, List.length_append, List.length_singleton, Nat.pow_succ]
    rw [Nat.add_mul, Nat.mul_assoc]; omega

theorem val_cons (c : UInt8) (l : List UInt8) : val (c :: l) = (c.toNat - 48) * 10 ^ l.length + val l := by
  have := foldl_val l (c.toNat - 48)
  rw [← this]; simp [val]

/-- Digits of which the first is no 0, or that are one alone, are those of their value. -/
theorem digs_val (l : List UInt8) (hne : l ≠ []) (h : ∀ c ∈ l, isDig c = true) (h0 : l.head? = some 48 → l.length = 1) : digs (val l) = l := by
  induction l using snocRec with
  | nil => exact absurd rfl hne
  | snoc l c ih =>
    have hc := h c (by simp)
    have hc' := (isDig_iff c).1 hc
    rcases l with _ | ⟨b, l⟩
    · rw [List.nil_append, val_one, digs_small _ (by omega), dig_of c hc]
    · have hb := (isDig_iff b).1 (h b (by simp))
      have hb0 : b ≠ 48 := fun e => by
        have := h0 (by simp [e])
        simp at this
      have hb1 : 49 ≤ b.toNat := by
        rcases Nat.lt_or_ge b.toNat 49 with hlt | hge
        · exact absurd (UInt8.toNat.inj (show b.toNat = (48 : UInt8).toNat by simp; omega)) hb0
        · exact hge
      have hv : 1 ≤ val (b :: l) := by
        rw [val_cons]
        have : 1 ≤ 10 ^ l.length := Nat.pos_of_ne_zero (by simp)
        have := Nat.mul_le_mul (show 1 ≤ b.toNat - 48 by omega) this
        omega
      have hi := ih (by simp) (fun x hx => h x (List.mem_append.2 (.inl hx))) (fun e => by
        simp at e; exact absurd e hb0)
      rw [val_snoc, digs_big _ (by omega)]
      have e1 : (val (b :: l) * 10 + (c.toNat - 48)) / 10 = val (b :: l) := by omega
      have e2 : (val (b :: l) * 10 + (c.toNat - 48)) % 10 = c.toNat - 48 := by omega
      rw [e1, e2, hi, dig_of c hc]

theorem digs_len (n k : Nat) (h : n < 10 ^ (k + 1)) : (digs n).length ≤ k + 1 := by
  induction k generalizing n with
  | zero => rw [digs_small n (by simpa using h)]; simp
  | succ k ih =>
    by_cases hs : n < 10
    · rw [digs_small n hs]; simp
    · rw [digs_big n (by omega), List.length_append, List.length_singleton]
      have := ih (n / 10) (by rw [Nat.pow_succ] at h; omega)
      omega

theorem digs_len10 (n : Nat) (h : n ≤ 2147483647) : (digs n).length ≤ 10 := digs_len n 9 (by omega)

theorem digs_ge (n : Nat) (hn : 0 < n) : 10 ^ ((digs n).length - 1) ≤ n := by
  induction n using Nat.strongRecOn with
  | _ n ih =>
    by_cases h : n < 10
    · rw [digs_small n h]; simp; omega
    · have h1 := ih (n / 10) (by omega) (by omega)
      have h2 := digs_pos (n / 10)
      rw [digs_big n (by omega), List.length_append, List.length_singleton, Nat.add_sub_cancel]
      have : (digs (n / 10)).length = ((digs (n / 10)).length - 1) + 1 := by omega
      rw [this, Nat.pow_succ]; omega

theorem digs_lt (n : Nat) : n < 10 ^ (digs n).length := by
  have := val_lt (digs n) (digs_all n)
  rwa [val_digs] at this

/-- Fewer digits are less. -/
theorem less_of_len (a b : Nat) (h : (digs a).length < (digs b).length) : a < b := by
  have hb : 0 < b := by
    rcases Nat.eq_zero_or_pos b with e | e
    · subst e; rw [digs_small 0 (by omega)] at h; simp at h; exact absurd h (digs_ne a)
    · exact e
  have h1 := digs_lt a
  have h2 := digs_ge b hb
  have h3 : 10 ^ (digs a).length ≤ 10 ^ ((digs b).length - 1) := Nat.pow_le_pow_right (by omega) (by omega)
  omega

/-- The digits ahead, by how many there are. -/
theorem lead_of (l : List UInt8) (k : Nat) (hk : k ≤ l.length) (h : ∀ j (hj : j < l.length), j < k → isDig l[j] = true) (he : ∀ hk' : k < l.length, isDig l[k] = false) : lead l = l.take k := by
  induction l generalizing k with
  | nil => simp [lead]
  | cons c l ih =>
    rcases k with _ | k
    · have := he (by simp)
      simp at this
      simp [lead, this]
    · have h0 := h 0 (by simp) (by omega)
      simp at h0
      simp only [lead, List.takeWhile_cons, h0, if_true, List.take_succ_cons]
      congr 1
      exact ih k (by simpa using hk) (fun j hj hjk => h (j + 1) (by simpa using hj) (by omega)) (fun hk' => he (by simpa using hk'))

theorem lead_all (l : List UInt8) : ∀ c ∈ lead l, isDig c = true := by
  induction l with
  | nil => simp [lead]
  | cons c l ih =>
    by_cases h : isDig c = true
    · simp only [lead, List.takeWhile_cons, h, if_true]
      intro d hd
      rcases List.mem_cons.1 hd with rfl | hd
      · exact h
      · exact ih d hd
    · simp [lead, h]

theorem lead_le (l : List UInt8) : (lead l).length ≤ l.length := by
  induction l with
  | nil => simp [lead]
  | cons c l ih =>
    by_cases h : isDig c = true
    · simp only [lead, List.takeWhile_cons, h, if_true, List.length_cons] at ih ⊢; omega
    · simp [lead, h]

/-- The digits ahead are what stands ahead. -/
theorem lead_take (l : List UInt8) : l.take (lead l).length = lead l := by
  induction l with
  | nil => simp [lead]
  | cons c l ih =>
    by_cases h : isDig c = true
    · simp only [lead, List.takeWhile_cons, h, if_true, List.length_cons, List.take_succ_cons] at ih ⊢; rw [ih]
    · simp [lead, h]

/-- Digits with no digit behind them are the digits ahead. -/
theorem lead_append (d l : List UInt8) (hd : ∀ c ∈ d, isDig c = true) (hl : ∀ c r, l = c :: r → isDig c = false) : lead (d ++ l) = d := by
  induction d with
  | nil =>
    rcases l with _ | ⟨c, r⟩
    · rfl
    · simp [lead, hl c r rfl]
  | cons c d ih =>
    have h := hd c (by simp)
    simp only [List.cons_append, lead, List.takeWhile_cons, h, if_true]
    congr 1
    exact ih (fun x hx => hd x (by simp [hx]))

/-- The value, if it is at most 2147483647, else 0; and whether it is. -/
def vnum (l : List UInt8) : Int := if val l ≤ 2147483647 then (val l : Int) else 0
def vok (l : List UInt8) : Bool := decide (val l ≤ 2147483647)
theorem vnum_yes (l : List UInt8) (h : val l ≤ 2147483647) : vnum l = val l := if_pos h
theorem vnum_no (l : List UInt8) (h : ¬ val l ≤ 2147483647) : vnum l = 0 := if_neg h
theorem vok_yes (l : List UInt8) (h : val l ≤ 2147483647) : vok l = true := decide_eq_true h
theorem vok_no (l : List UInt8) (h : ¬ val l ≤ 2147483647) : vok l = false := decide_eq_false h
/-- A row's value is at least that of what stands ahead with one digit more. -/
theorem val_ge (l : List UInt8) (k : Nat) (hk : k < l.length) : val (l.take k) * 10 + (l[k].toNat - 48) ≤ val l := by
  have h1 := val_append_le (l.take (k + 1)) (l.drop (k + 1))
  rw [List.take_append_drop, List.take_succ_eq_append_getElem hk, val_snoc] at h1
  exact h1
theorem val_step (l : List UInt8) (k : Nat) (hk : k < l.length) : val (l.take (k + 1)) = val (l.take k) * 10 + (l[k].toNat - 48) := by
  rw [List.take_succ_eq_append_getElem hk, val_snoc]

/-- The number at a place of a text, the place behind it, and the error's number: what P1.2 says. -/
def takeR (l : List UInt8) (a : Int) : Int × Int × Int :=
  if a < 0 ∨ (l.length : Int) < a then (0, 0, 1)
  else if lead (l.drop a.toNat) = [] ∨ ((lead (l.drop a.toNat)).head? = some 48 ∧ 1 < (lead (l.drop a.toNat)).length) then (0, 0, 2)
  else if val (lead (l.drop a.toNat)) ≤ 2147483647 then ((val (lead (l.drop a.toNat)) : Int), a + ((lead (l.drop a.toNat)).length : Int), 0) else (0, 0, 3)
theorem takeR_arg (l : List UInt8) (a : Int) (h : a < 0 ∨ (l.length : Int) < a) : takeR l a = (0, 0, 1) := if_pos h
theorem takeR_form (l : List UInt8) (n : Nat) (hn : n ≤ l.length) (h : lead (l.drop n) = [] ∨ ((lead (l.drop n)).head? = some 48 ∧ 1 < (lead (l.drop n)).length)) : takeR l (n : Int) = (0, 0, 2) := by
  unfold takeR
  rw [if_neg (by omega), Int.toNat_natCast, if_pos h]
theorem takeR_num (l : List UInt8) (n : Nat) (hn : n ≤ l.length) (h : ¬ (lead (l.drop n) = [] ∨ ((lead (l.drop n)).head? = some 48 ∧ 1 < (lead (l.drop n)).length))) (h2 : ¬ val (lead (l.drop n)) ≤ 2147483647) :
    takeR l (n : Int) = (0, 0, 3) := by
  unfold takeR
  rw [if_neg (by omega), Int.toNat_natCast, if_neg h, if_neg h2]
theorem takeR_ok (l : List UInt8) (n : Nat) (hn : n ≤ l.length) (h : ¬ (lead (l.drop n) = [] ∨ ((lead (l.drop n)).head? = some 48 ∧ 1 < (lead (l.drop n)).length))) (h2 : val (lead (l.drop n)) ≤ 2147483647) :
    takeR l (n : Int) = ((val (lead (l.drop n)) : Int), (n : Int) + ((lead (l.drop n)).length : Int), 0) := by
  unfold takeR
  rw [if_neg (by omega), Int.toNat_natCast, if_neg h, if_pos h2]

/-- What is taken without an error: it is where it was asked, of the form, and small enough. -/
theorem takeR_good (l : List UInt8) (a : Int) (h : (takeR l a).2.2 = 0) : ∃ n : Nat, a = (n : Int) ∧ n ≤ l.length ∧ ¬ (lead (l.drop n) = [] ∨ ((lead (l.drop n)).head? = some 48 ∧ 1 < (lead (l.drop n)).length)) ∧
    val (lead (l.drop n)) ≤ 2147483647 ∧ takeR l a = ((val (lead (l.drop n)) : Int), (n : Int) + ((lead (l.drop n)).length : Int), 0) := by
  by_cases h0 : a < 0 ∨ (l.length : Int) < a
  · rw [takeR_arg l a h0] at h; simp at h
  obtain ⟨n, rfl⟩ := Int.eq_ofNat_of_zero_le (show 0 ≤ a by omega)
  have hn : n ≤ l.length := by omega
  by_cases h1 : lead (l.drop n) = [] ∨ ((lead (l.drop n)).head? = some 48 ∧ 1 < (lead (l.drop n)).length)
  · rw [takeR_form l n hn h1] at h; simp at h
  by_cases h2 : val (lead (l.drop n)) ≤ 2147483647
  · exact ⟨n, rfl, hn, h1, h2, takeR_ok l n hn h1 h2⟩
  · rw [takeR_num l n hn h1 h2] at h; simp at h

theorem takeR_bad (l : List UInt8) (a : Int) (h : (takeR l a).2.2 ≠ 0) : (takeR l a).1 = 0 ∧ (takeR l a).2.1 = 0 := by
  unfold takeR at h ⊢
  split
  · exact ⟨rfl, rfl⟩
  · split
    · exact ⟨rfl, rfl⟩
    · split
      · rename_i h1 h2 h3
        rw [if_neg h1, if_neg h2, if_pos h3] at h
        exact absurd rfl h
      · exact ⟨rfl, rfl⟩

theorem takeR_end (l : List UInt8) (a : Int) (h : (takeR l a).2.2 = 0) : (takeR l a).2.1 ≤ (l.length : Int) := by
  obtain ⟨n, rfl, hn, _, _, e⟩ := takeR_good l a h
  have := lead_le (l.drop n)
  rw [List.length_drop] at this
  rw [e]
  show (n : Int) + _ ≤ _
  omega

/-- The number that a whole text is, and the error's number: what P1.3 says. -/
def wholeR (l : List UInt8) : Int × Int :=
  if (takeR l 0).2.2 = 0 then (if (takeR l 0).2.1 = (l.length : Int) then ((takeR l 0).1, 0) else (0, 2)) else (0, (takeR l 0).2.2)

/-- A number's text, and the error's number: what P1.1 says. -/
def isNum (n : Int) : Bool := decide (0 ≤ n) && decide (n ≤ 2147483647)
def showS (n : Int) : List UInt8 := if isNum n = true then digs n.toNat else []
def showE (n : Int) : Int := if isNum n = true then 0 else 1
theorem isNum_iff (n : Int) : isNum n = true ↔ 0 ≤ n ∧ n ≤ 2147483647 := by simp [isNum]

end Go.Proofs.Ytkeaibngofbkhaa.Nm
