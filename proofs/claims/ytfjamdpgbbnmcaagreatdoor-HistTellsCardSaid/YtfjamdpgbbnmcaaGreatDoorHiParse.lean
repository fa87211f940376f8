/-
  Plain facts on histories and their texts (no Go in it): a history's text, a text's history, or where it is wrong; that what is shown is parsed as it was, that what is parsed may be, and can be shown.
  Conditions: none beyond those that each theorem states.
-/
import Derived.Test.YtfjamdpgbbnmcaaGreatDoorHiPlain
import Derived.Test.YtfjamdpgbbnmcaaGreatDoorDiAll
set_option maxRecDepth 4000
namespace Go.Proofs.YtfjamdpgbbnmcaaGreatDoor.Hi
open In (isK isK_iff lastOf lookR readsTo writesTo rd wr)
open So (Txn histR txns txnOf)

/-- The place of a transaction's Begin. -/
def firstOf (t : List Gr.Tx) (i : Int) : Int := match t[i.toNat]? with
  | some x => x.first
  | none => 0
/-- Parse's answer: P8.1. -/
def parseR (s : List UInt8) : List Txn × Int × Int :=
  if (Di.parseR s).2.2 ≠ 0 then ([], (Di.parseR s).2.1, (Di.parseR s).2.2)
  else if (Gr.groupR (Di.parseR s).1).2.2 ≠ 0 then ([], (Gr.groupR (Di.parseR s).1).2.1 + 1, (Gr.groupR (Di.parseR s).1).2.2)
  else if (histR (Gr.groupR (Di.parseR s).1).1).2.2 ≠ 0 then ([], firstOf (Gr.groupR (Di.parseR s).1).1 (histR (Gr.groupR (Di.parseR s).1).1).2.1 + 1, (histR (Gr.groupR (Di.parseR s).1).1).2.2)
  else ((histR (Gr.groupR (Di.parseR s).1).1).1, 0, 0)
open Classical in
/-- Right's and Show's answers: P8.1, P8.2. -/
noncomputable def rightB (h : List Txn) : Bool := decide (Right h)
open Classical in
noncomputable def showR (h : List Txn) : List UInt8 × Int := if Right h then Di.showR (events h) else ([], 1)
theorem rightB_iff (h : List Txn) : rightB h = true ↔ Right h := @decide_eq_true_iff _ (Classical.propDecidable _)
theorem show_not (h : List Txn) (hr : ¬ Right h) : showR h = ([], 1) := by unfold showR; rw [if_neg hr]
theorem show_is (h : List Txn) (hr : Right h) : showR h = Di.showR (events h) := by unfold showR; rw [if_pos hr]
theorem show_few (h : List Txn) (hr : Right h) (hl : (events h).length ≤ 400) : (showR h).2 = 0 := by
  rw [show_is h hr, Di.show_ok _ (by omega) ((Di.all_right _).2 (events_right hr))]
theorem show_many (h : List Txn) (hr : Right h) (hl : 400 < (events h).length) : showR h = ([], 4) := by rw [show_is h hr, Di.show_many _ hl]
/-- P8.3: Parse returns the history that Show printed. -/
theorem parse_show (h : List Txn) (hr : Right h) (hs : (showR h).2 = 0) : parseR (showR h).1 = (h, 0, 0) := by
  rw [show_is h hr] at hs ⊢
  obtain ⟨m, h1, h2⟩ := hist_back hr
  unfold parseR
  rw [Di.parse_back _ hs]
  simp only [h1, h2]
  rfl
/-! Group's answer, by its parts. -/
theorem group_none (l : List Ev.Event) (h : (Gr.groupR l).2.2 = 0) : Gr.run 0 [] l = none ∧ (Gr.groupR l).1 = (Gr.go 0 [] l).map (·.1) := by
  cases hq : Gr.run 0 [] l with
  | none => rw [Gr.group_ok l hq]; exact ⟨rfl, rfl⟩
  | some p =>
    obtain ⟨k, q⟩ := p
    rw [Gr.group_bad l k q hq] at h
    exact absurd h (Gr.run_some 0 [] l k q hq).2.2.1
/-! How many lines. -/
theorem keys_count (p : Ev.Event → Bool) (f : Nat → Option (Int × Int)) (ops : List Ev.Event) (hf : ∀ k y, f k = some y → ∃ e ∈ ops, p e = true ∧ e.key = (k : Int)) (n : Nat) :
    ((List.range n).filterMap f).length ≤ ops.countP (fun e => p e && decide (0 ≤ e.key ∧ e.key < (n : Int))) := by
  induction n with
  | zero => simp
  | succ n ih =>
    rw [List.range_succ, List.filterMap_append, List.length_append]
    have hsplit : ops.countP (fun e => p e && decide (0 ≤ e.key ∧ e.key < (n : Int))) + ops.countP (fun e => p e && decide (e.key = (n : Int))) = ops.countP (fun e => p e && decide (0 ≤ e.key ∧ e.key < ((n + 1 : Nat) : Int))) := by
      clear ih hf
      induction ops with
      | nil => rfl
      | cons x r ihr =>
        rw [List.countP_cons, List.countP_cons, List.countP_cons, ← ihr]
        have : (if (p x && decide (0 ≤ x.key ∧ x.key < (n : Int))) = true then 1 else 0) + (if (p x && decide (x.key = (n : Int))) = true then 1 else 0) = (if (p x && decide (0 ≤ x.key ∧ x.key < ((n + 1 : Nat) : Int))) = true then 1 else 0) := by
          cases p x with
          | false => rfl
          | true =>
            simp only [Bool.true_and, decide_eq_true_eq]
            split <;> split <;> split <;> omega
        omega
    cases hq : f n with
    | none =>
      have : ([n].filterMap f) = [] := by simp [hq]
      rw [this, List.length_nil]
      omega
    | some y =>
      have e1 : ([n].filterMap f) = [y] := by simp [hq]
      rw [e1, List.length_singleton]
      obtain ⟨e, he, hp, hk⟩ := hf n y hq
      have : 0 < ops.countP (fun e => p e && decide (e.key = (n : Int))) := by
        rw [List.countP_pos_iff]
        exact ⟨e, he, by simp [hp, hk]⟩
      omega
theorem count_two (ops : List Ev.Event) : ops.countP (fun e => decide (e.kind = 1)) + ops.countP (fun e => decide (e.kind = 2)) ≤ ops.length := by
  induction ops with
  | nil => simp
  | cons x r ih =>
    rw [List.countP_cons, List.countP_cons, List.length_cons]
    simp only [decide_eq_true_eq]
    split <;> split <;> omega
/-- A face has no more reads and writes than there are ops. -/
theorem face_len (ops : List Ev.Event) : (readsTo ops 16).length + (writesTo ops 16).length ≤ ops.length := by
  have h1 := keys_count (fun e => decide (e.kind = 1)) (rd ops) ops (fun k y hy => by
    unfold rd at hy
    cases hf : ops.find? fun e => decide (e.key = (k : Int)) with
    | none => rw [hf] at hy; cases hy
    | some e =>
      rw [hf] at hy
      simp only at hy
      split at hy
      · rename_i hk
        exact ⟨e, List.mem_of_find?_eq_some hf, by simpa using hk, by simpa using List.find?_some hf⟩
      · cases hy) 16
  have h2 := keys_count (fun e => decide (e.kind = 2)) (wr ops) ops (fun k y hy => by
    unfold wr at hy
    cases hl : lastOf 2 (k : Int) ops with
    | none => rw [hl] at hy; cases hy
    | some v =>
      obtain ⟨x, hx, hk, _⟩ := In.lastOf_some _ _ _ _ hl
      obtain ⟨q1, q2⟩ := (isK_iff _ _ _).1 hk
      exact ⟨x, hx, by simpa using q1, q2⟩) 16
  have m1 : ops.countP (fun e => decide (e.kind = 1) && decide (0 ≤ e.key ∧ e.key < ((16 : Nat) : Int))) ≤ ops.countP (fun e => decide (e.kind = 1)) := List.countP_mono_left fun e _ h => by rw [Bool.and_eq_true] at h; exact h.1
  have m2 : ops.countP (fun e => decide (e.kind = 2) && decide (0 ≤ e.key ∧ e.key < ((16 : Nat) : Int))) ≤ ops.countP (fun e => decide (e.kind = 2)) := List.countP_mono_left fun e _ h => by rw [Bool.and_eq_true] at h; exact h.1
  have h3 := count_two ops
  unfold readsTo writesTo
  omega
/-- Those that are committed are no more than the Commits. -/
def doneOf (st : List (Gr.Tx × Bool)) : Nat := st.countP fun x => x.1.done
def commits (l : List Ev.Event) : Nat := l.countP fun e => decide (e.kind = 3)
theorem done_step {st : List (Gr.Tx × Bool)} (h : Gr.Fine st) (i : Nat) (e : Ev.Event) (hf : Gr.fault st e = 0) : doneOf (Gr.next i st e) ≤ doneOf st + (if e.kind = 3 then 1 else 0) := by
  obtain ⟨_, _, hn⟩ := Gr.fault_zero st e hf
  unfold Gr.next
  by_cases hk : e.kind = 0
  · rw [if_pos hk, doneOf, doneOf, List.countP_append]
    simp
  · rw [if_neg hk]
    obtain ⟨x, hx, e1, e2⟩ := (Gr.hasOpen_iff _ _).1 (hn hk)
    obtain ⟨k, hkk, rfl⟩ := List.getElem_of_mem hx
    have hm := Gr.mine_at hkk e1 e2
    by_cases hkey : Ev.hasKey e.kind = true
    · rw [if_pos hkey, Gr.upd_set h _ _ k hkk hm, doneOf, doneOf, List.countP_set hkk]
      have hpos : st[k].1.done = true → 0 < st.countP fun x => x.1.done := fun hd => List.countP_pos_iff.2 ⟨st[k], List.getElem_mem hkk, hd⟩
      simp only [Gr.addOp]
      by_cases hd : st[k].1.done = true
      · have := hpos hd
        simp only [hd, if_true]
        omega
      · have hd' : st[k].1.done = false := by simpa using hd
        simp only [hd', Bool.false_eq_true, if_false]
        omega
    · rw [if_neg hkey, Gr.upd_set h _ _ k hkk hm, doneOf, doneOf, List.countP_set hkk]
      simp only [Gr.shut, decide_eq_true_eq]
      split <;> split <;> omega
theorem done_go {st : List (Gr.Tx × Bool)} (h : Gr.Fine st) (i : Nat) (l : List Ev.Event) (hr : Gr.run i st l = none) : doneOf (Gr.go i st l) ≤ doneOf st + commits l := by
  induction l generalizing i st with
  | nil => exact Nat.le_refl _
  | cons e l ih =>
    rw [Gr.run] at hr
    split at hr
    · cases hr
    · rename_i hf
      have hf0 : Gr.fault st e = 0 := by simpa using hf
      have i1 := ih (h.next i hf0) (i + 1) hr
      have c1 := done_step h i e hf0
      rw [Gr.go]
      have : commits (e :: l) = commits l + if e.kind = 3 then 1 else 0 := by simp [commits, List.countP_cons]
      omega
theorem kinds_len (l : List Ev.Event) : Gr.keyed l + Gr.begins l + commits l ≤ l.length := by
  unfold Gr.keyed Gr.begins commits
  induction l with
  | nil => simp
  | cons x r ih =>
    rw [List.countP_cons, List.countP_cons, List.countP_cons, List.length_cons]
    have hk := Ev.hasKey_iff x.kind
    simp only [decide_eq_true_eq]
    by_cases h1 : Ev.hasKey x.kind = true
    · have := hk.1 h1
      rw [if_pos h1, if_neg (by omega), if_neg (by omega)]
      omega
    · rw [if_neg h1]
      split <;> split <;> omega
/-- A history's lines. -/
theorem events_len (h : List Txn) : (events h).length = (h.map fun t => t.reads.length + t.writes.length + 2).sum := by
  have key : ∀ (l : List Txn) (f : Nat → Nat → Nat), (Gr.eventsR (l.mapIdx fun n t => txOf (f n 0) t)).length = (l.map fun t => t.reads.length + t.writes.length + 2).sum := by
    intro l
    induction l with
    | nil => intro f; rfl
    | cons t r ih =>
      intro f
      rw [List.mapIdx_cons, Gr.eventsR, List.flatMap_cons, List.length_append, List.map_cons, List.sum_cons]
      have := ih (fun n m => f (n + 1) m)
      rw [Gr.eventsR] at this
      rw [this]
      congr 1
      simp [Gr.txEvents, txOf, opsOf]
      omega
  exact key h (fun n _ => n)
theorem sum_done (l : List Gr.Tx) (m : List Gr.Tx) : ((l.filter (·.done)).map fun t => (txnOf m t).reads.length + (txnOf m t).writes.length + 2).sum ≤ (l.map fun t => t.ops.length).sum + 2 * (l.filter (·.done)).length := by
  induction l with
  | nil => simp
  | cons t r ih =>
    rw [List.map_cons, List.sum_cons]
    cases hd : t.done with
    | false =>
      rw [List.filter_cons_of_neg (by simp [hd])]
      omega
    | true =>
      rw [List.filter_cons_of_pos (by simpa using hd), List.map_cons, List.sum_cons, List.length_cons]
      have := face_len t.ops
      simp only [txnOf, List.length_map] at ih ⊢
      omega
/-- What was parsed has no more lines than there were. -/
theorem lines_le (l : List Ev.Event) (h : Gr.run 0 [] l = none) : (events (txns ((Gr.go 0 [] l).map (·.1)))).length ≤ l.length := by
  rw [events_len, txns, List.map_map]
  have h1 := sum_done ((Gr.go 0 [] l).map (·.1)) ((Gr.go 0 [] l).map (·.1))
  obtain ⟨c1, c2, _⟩ := Gr.counts l h
  have h2 := done_go Gr.Fine.nil 0 l h
  have h3 := kinds_len l
  have e1 : (((Gr.go 0 [] l).map (·.1)).map fun t : Gr.Tx => t.ops.length).sum = Gr.keyed l := by rw [← c1, List.map_map]; rfl
  have e2 : (((Gr.go 0 [] l).map (·.1)).filter (·.done)).length = doneOf (Gr.go 0 [] l) := by
    rw [List.filter_map, List.length_map, doneOf, List.countP_eq_length_filter]
    rfl
  have e3 : doneOf (Gr.go 0 [] l) ≤ Gr.begins l := by rw [← c2]; exact List.countP_le_length
  have e4 : doneOf ([] : List (Gr.Tx × Bool)) = 0 := rfl
  rw [e1, e2] at h1
  refine Nat.le_trans (Nat.le_of_eq ?_) (Nat.le_trans h1 (by omega))
  rfl
/-- P8.3: what is parsed may be, and can be shown, and is parsed as it was. -/
theorem parse_yes (s : List UInt8) (h : (parseR s).2.2 = 0) : Right (parseR s).1 ∧ (parseR s).2.1 = 0 ∧ (showR (parseR s).1).2 = 0 := by
  unfold parseR at h ⊢
  by_cases h1 : (Di.parseR s).2.2 ≠ 0
  · rw [if_pos h1] at h; exact absurd h h1
  · rw [if_neg h1] at h ⊢
    by_cases h2 : (Gr.groupR (Di.parseR s).1).2.2 ≠ 0
    · rw [if_pos h2] at h; exact absurd h h2
    · rw [if_neg h2] at h ⊢
      by_cases h3 : (histR (Gr.groupR (Di.parseR s).1).1).2.2 ≠ 0
      · rw [if_pos h3] at h; exact absurd h h3
      · rw [if_neg h3] at h ⊢
        have h2' : (Gr.groupR (Di.parseR s).1).2.2 = 0 := Decidable.byContradiction h2
        have h3' : (histR (Gr.groupR (Di.parseR s).1).1).2.2 = 0 := Decidable.byContradiction h3
        obtain ⟨g1, g2⟩ := group_none _ h2'
        rcases So.hist_cases (Gr.groupR (Di.parseR s).1).1 with q | ⟨hl, q | ⟨p, i, q1, q2, q3, q4, q5⟩⟩
        · rw [So.hist_many _ q] at h3'
          cases h3'
        · have e := So.hist_ok _ hl q
          have hr : Right (histR (Gr.groupR (Di.parseR s).1).1).1 := by rw [e]; exact right_of _ hl q
          refine ⟨hr, rfl, show_few _ hr ?_⟩
          rw [e]
          show (events (txns (Gr.groupR (Di.parseR s).1).1)).length ≤ 400
          rw [g2]
          exact Nat.le_trans (lines_le _ g1) (Di.parse_len s)
        · rw [So.hist_bad _ hl p i q1 q2 q3 q4 q5] at h3'
          exact absurd h3' q5
end Go.Proofs.YtfjamdpgbbnmcaaGreatDoor.Hi
