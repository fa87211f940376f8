/-
  Plain facts on what a transaction knows of a key, op by op (no Go in it): the first value read ahead of any write, the last one written; what an op's error is by these, and what they are behind it.
  Conditions: none beyond those that each theorem states.
-/
import Derived.Test.YtlbpdnaaailpeaaInPlain
namespace Go.Proofs.Ytlbpdnaaailpeaa.In
open Ev (right hasKey)

/-- The first value read of a key, where its first op is a read. -/
def fr (p : List Ev.Event) (k : Nat) : Option Int := (rd p k).map (·.2)
theorem rd_fr (p : List Ev.Event) (k : Nat) : rd p k = (fr p k).map fun v => ((k : Int), v) := by
  unfold fr
  cases h : rd p k with
  | none => rfl
  | some y =>
    have := rd_key p k y h
    obtain ⟨a, b⟩ := y
    dsimp only at this
    subst this
    rfl
theorem future_take (e : Ev.Event) (r : List Ev.Event) (m : Nat) (h : future e (r.take m) = true) : future e r = true := by
  rw [future, List.any_eq_true] at h ⊢
  obtain ⟨x, hx, h⟩ := h
  exact ⟨x, List.mem_of_mem_take hx, h⟩
theorem wrong_take (p r : List Ev.Event) (e : Ev.Event) (m : Nat) (h : wrong p e r = 0) : wrong p e (r.take m) = 0 := by
  unfold wrong at h ⊢
  split
  · rename_i h1
    rw [if_pos h1] at h
    exact h
  · rename_i h1
    rw [if_neg h1] at h
    split
    · rfl
    · rename_i h2
      rw [if_neg h2] at h
      cases h3 : lastOf 2 e.key p with
      | some v => rw [h3] at h; exact h
      | none =>
        rw [h3] at h
        cases h4 : lastOf 1 e.key p with
        | some v => rw [h4] at h; exact h
        | none =>
          rw [h4] at h
          dsimp only at h ⊢
          cases h5 : future e (r.take m) with
          | false => rfl
          | true => rw [future_take e r m h5, if_pos rfl] at h; cases h
/-- What is right so far is right by itself. -/
theorem good_take (l : List Ev.Event) (n : Nat) (hn : n ≤ l.length) (h : ∀ i, i < n → errAt l i = 0) : good (l.take n) := good_of_all _ fun i hi => by
  have hi2 : i < n := by rw [List.length_take] at hi; omega
  have h1 := h i hi2
  rw [errAt_at l i (by omega)] at h1
  rw [errAt_at _ i hi, List.take_take, Nat.min_eq_left (by omega), List.getElem_take, List.drop_take]
  exact wrong_take _ _ _ _ h1

theorem fr_snoc_other (p : List Ev.Event) (x : Ev.Event) (k : Nat) (h : x.key ≠ (k : Int) ∨ ∃ e ∈ p, e.key = (k : Int)) : fr (p ++ [x]) k = fr p k := by rw [fr, fr, rd_snoc_other p x k h]
theorem last_snoc_other (p : List Ev.Event) (x : Ev.Event) (k : Nat) (h : x.key ≠ (k : Int)) : lastOf 2 (k : Int) (p ++ [x]) = lastOf 2 (k : Int) p := by
  rw [lastOf_snoc, if_neg (by rw [isK_iff]; exact fun e => h e.2)]
/-- Behind a write. -/
theorem fr_write (p : List Ev.Event) (x : Ev.Event) (hx : x.kind = 2) (k : Nat) : fr (p ++ [x]) k = fr p k := by
  by_cases h : x.key ≠ (k : Int) ∨ ∃ e ∈ p, e.key = (k : Int)
  · exact fr_snoc_other p x k h
  · have hk : x.key = (k : Int) := Classical.byContradiction fun e => h (.inl e)
    have hf : (p.find? fun e => decide (e.key = (k : Int))) = none := by
      rw [List.find?_eq_none]
      intro e he
      simpa using fun h' => h (.inr ⟨e, he, h'⟩)
    rw [fr, fr, rd, rd, find_snoc, hf, if_pos hk]
    simp [hx]
theorem last_write (p : List Ev.Event) (x : Ev.Event) (hx : x.kind = 2) (k : Nat) (hk : x.key = (k : Int)) : lastOf 2 (k : Int) (p ++ [x]) = some x.value := by
  rw [lastOf_snoc, if_pos ((isK_iff _ _ _).2 ⟨hx, hk⟩)]
theorem last_read (p : List Ev.Event) (x : Ev.Event) (hx : x.kind = 1) (k : Nat) : lastOf 2 (k : Int) (p ++ [x]) = lastOf 2 (k : Int) p := by
  rw [lastOf_snoc, if_neg (by rw [isK_iff]; omega)]

/-- What a read of a key comes to, by what is known of it. -/
def readErr (key : Int) (r v : Option Int) (x : Int) (l : List Ev.Event) : Int :=
  match v with
  | some u => if x = u then 0 else 10
  | none => match r with
    | some u => if x = u then 0 else 11
    | none => if (l.any fun e => isK 2 key e && decide (e.value = x)) = true then 9 else 0
def readNew (key : Int) (r v : Option Int) (x : Int) (l : List Ev.Event) : Option Int :=
  match v with
  | some _ => r
  | none => match r with
    | some u => some u
    | none => if (l.any fun e => isK 2 key e && decide (e.value = x)) = true then none else some x
theorem if_swap (a b c d : Int) : (if a = b then c else d) = if b = a then c else d := by
  by_cases h : a = b
  · rw [if_pos h, if_pos h.symm]
  · rw [if_neg h, if_neg (fun e => h e.symm)]
/-- A read, those ahead being right: its error, and what is known behind it. -/
theorem step_read {p : List Ev.Event} (hg : good p) (x : Ev.Event) (r : List Ev.Event) (hr : right x = true) (hx : x.kind = 1) (k : Nat) (hk : x.key = (k : Int)) :
    wrong p x r = readErr (k : Int) (fr p k) (lastOf 2 (k : Int) p) x.value r ∧ (wrong p x r = 0 → fr (p ++ [x]) k = readNew (k : Int) (fr p k) (lastOf 2 (k : Int) p) x.value r) := by
  have hw := wrong_read p r x hr hx
  have hw0 := wrong_read p [] x hr hx
  rcases more_cases hg x hr hx k hk with ⟨u, h1, h2, e, he, hek⟩ | ⟨h1, v, h2, h3, e, he, hek⟩ | ⟨h1, h2, h3, h4⟩
  · rw [h1] at hw
    rw [← hk, h1]
    refine ⟨?_, fun _ => ?_⟩
    · rw [hw, readErr, if_swap]
    · rw [readNew]
      exact fr_snoc_other p x k (.inr ⟨e, he, by rw [← hk]; exact hek⟩)
  · have hfr : fr p k = some v := by rw [fr, h2]; rfl
    have h5 : lastOf 1 x.key p ≠ none := fun h' => by
      rcases kind_mem hg e he with hk1 | hk1
      · have := (lastOf_none _ _ _).1 h' e he
        rw [(isK_iff 1 x.key e).2 ⟨hk1, hek⟩] at this
        cases this
      · have := (lastOf_none _ _ _).1 h1 e he
        rw [(isK_iff 2 x.key e).2 ⟨hk1, hek⟩] at this
        cases this
    have h6 : wrong p x r = wrong p x [] := by
      rw [hw, hw0, h1]
      cases h7 : lastOf 1 x.key p with
      | none => exact absurd h7 h5
      | some y => rfl
    rw [← hk, h1, hfr]
    refine ⟨?_, fun _ => ?_⟩
    · rw [h6, h3, readErr, if_swap]
    · rw [readNew, ← hfr]
      exact fr_snoc_other p x k (.inr ⟨e, he, by rw [← hk]; exact hek⟩)
  · have hfr : fr p k = none := by rw [fr, h2]; rfl
    have h5 : lastOf 1 x.key p = none := (lastOf_none _ _ _).2 fun e he => by
      cases h6 : isK 1 x.key e with
      | false => rfl
      | true => exact absurd ((isK_iff _ _ _).1 h6).2 (h4 e he)
    rw [h1, h5] at hw
    dsimp only at hw
    rw [← hk, h1, hfr]
    refine ⟨?_, fun h0 => ?_⟩
    · rw [hw]; rfl
    · have hno : future x r = false := by
        cases h6 : future x r with
        | false => rfl
        | true => rw [hw, h6, if_pos rfl] at h0; cases h0
      have : readNew x.key none none x.value r = some x.value := by
        have h7 : (r.any fun e => isK 2 x.key e && decide (e.value = x.value)) = false := hno
        rw [readNew]
        simp only [h7, Bool.false_eq_true, if_false]
      rw [this]
      have hf : (p.find? fun e => decide (e.key = (k : Int))) = none := by
        rw [List.find?_eq_none]
        intro e he
        have := h4 e he
        rw [hk] at this
        simpa using this
      rw [fr, rd, find_snoc, hf, if_pos hk]
      simp [hx]
/-- By the row, op by op. -/
theorem look_arg (l : List Ev.Event) (k : Nat) (hk : k < l.length) (h0 : ∀ j, j < k → errAt l j = 0) (h : (right l[k] && hasKey l[k].kind) = false) : lookR l = (([], []), (k : Int), 1) := by
  have h1 : errAt l k = 1 := by
    rw [errAt_at l k hk, wrong, if_pos]
    rw [Bool.and_eq_false_iff] at h
    exact h
  rw [look_bad l k h0 (by rw [h1]; decide), h1]
theorem next_ok (l : List Ev.Event) (k : Nat) (h0 : ∀ j, j < k → errAt l j = 0) (h : errAt l k = 0) : ∀ j, j < k + 1 → errAt l j = 0 := fun j hj => by
  rcases Nat.lt_or_ge j k with h' | h'
  · exact h0 j h'
  · obtain rfl : j = k := by omega
    exact h
theorem key_small (x : Ev.Event) (h : (right x && hasKey x.kind) = true) : ∃ n : Nat, n < 16 ∧ x.key = (n : Int) := by
  rw [Bool.and_eq_true] at h
  obtain ⟨_, _, _, _, h5⟩ := (Ev.right_iff x).1 h.1
  rw [if_pos h.2] at h5
  exact ⟨x.key.toNat, by omega, by omega⟩
theorem at_write (l : List Ev.Event) (k : Nat) (hk : k < l.length) (h : (right l[k] && hasKey l[k].kind) = true) (h2 : l[k].kind = 2) : errAt l k = 0 := by
  rw [Bool.and_eq_true] at h
  rw [errAt_at l k hk]
  exact wrong_write _ _ _ h.1 h2
theorem at_read (l : List Ev.Event) (k : Nat) (hk : k < l.length) (h0 : ∀ j, j < k → errAt l j = 0) (h : (right l[k] && hasKey l[k].kind) = true) (h2 : ¬ l[k].kind = 2) (n : Nat) (hn : l[k].key = (n : Int)) :
    errAt l k = readErr (n : Int) (fr (l.take k) n) (lastOf 2 (n : Int) (l.take k)) l[k].value (l.drop (k + 1)) ∧ (errAt l k = 0 → fr (l.take k ++ [l[k]]) n = readNew (n : Int) (fr (l.take k) n) (lastOf 2 (n : Int) (l.take k)) l[k].value (l.drop (k + 1))) ∧ l[k].kind = 1 := by
  rw [Bool.and_eq_true] at h
  have h1 : l[k].kind = 1 := ((Ev.hasKey_iff _).1 h.2).resolve_right h2
  rw [errAt_at l k hk]
  obtain ⟨a, b⟩ := step_read (good_take l k (Nat.le_of_lt hk) h0) l[k] (l.drop (k + 1)) h.1 h1 n hn
  exact ⟨a, b, h1⟩
theorem all_ok (l : List Ev.Event) (k : Nat) (hk : l.length ≤ k) (h0 : ∀ j, j < k → errAt l j = 0) : lookR l = (faceR l, 0, 0) := look_ok l (good_of_all l fun i hi => h0 i (by omega))
theorem rd_told (p : List Ev.Event) (k : Nat) : (rd p k).toList = ((fr p k).map fun x => ((k : Int), x)).toList := by rw [rd_fr]
theorem wr_told (p : List Ev.Event) (k : Nat) : (wr p k).toList = ((lastOf 2 (k : Int) p).map fun x => ((k : Int), x)).toList := rfl
theorem fr_nil (k : Nat) : fr [] k = none := rfl
theorem last_nil (k : Nat) : lastOf 2 (k : Int) [] = none := rfl
end Go.Proofs.Ytlbpdnaaailpeaa.In
