/-
  Plain facts on events grouped into transactions (no Go in it): which transactions a row of events makes, or which event is the first wrong one, and how; transactions as events; what is grouped, as events, is grouped as it was; one session's events alone; the first wrong event; how many of each kind.
  Conditions: none beyond those that each theorem states.
-/
import Derived.Test.YtkeaibngofbkhaaEvPlain
namespace Go.Proofs.Ytkeaibngofbkhaa.Gr
open Ev (right hasKey)

/-- A transaction: its session, whether it was committed, where it begins, its reads and writes. -/
structure Tx where
  session : Int
  done : Bool
  first : Int
  ops : List Ev.Event
  deriving DecidableEq

/-! The transactions that have begun, each with whether it is open: a list of pairs. -/
def mine (s : Int) (x : Tx × Bool) : Bool := decide (x.1.session = s) && x.2
def hasOpen (st : List (Tx × Bool)) (s : Int) : Bool := st.any (mine s)
/-- The open one of a session turned. -/
def upd (st : List (Tx × Bool)) (s : Int) (f : Tx → Tx × Bool) : List (Tx × Bool) := st.map fun x => if mine s x = true then f x.1 else x

/-- What is wrong with an event behind those that made st: 0 if nothing is. -/
def fault (st : List (Tx × Bool)) (e : Ev.Event) : Int :=
  if right e = false then 1
  else if e.kind = 0 then (if hasOpen st e.session = true then 5 else if st.length = 32 then 4 else 0)
  else if hasOpen st e.session = true then 0 else 6
def addOp (e : Ev.Event) (t : Tx) : Tx × Bool := ({ t with ops := t.ops ++ [e] }, true)
def shut (d : Bool) (t : Tx) : Tx × Bool := ({ t with done := d }, false)
/-- What an event makes of them. -/
def next (i : Nat) (st : List (Tx × Bool)) (e : Ev.Event) : List (Tx × Bool) :=
  if e.kind = 0 then st ++ [(⟨e.session, false, (i : Int), []⟩, true)]
  else if hasKey e.kind = true then upd st e.session (addOp e)
  else upd st e.session (shut (decide (e.kind = 3)))

def go (i : Nat) (st : List (Tx × Bool)) : List Ev.Event → List (Tx × Bool)
  | [] => st
  | e :: r => go (i + 1) (next i st e) r
/-- The first wrong event's place, and its error. -/
def run (i : Nat) (st : List (Tx × Bool)) : List Ev.Event → Option (Nat × Int)
  | [] => none
  | e :: r => if fault st e ≠ 0 then some (i, fault st e) else run (i + 1) (next i st e) r
/-- Group's answer: P5.1. -/
def groupR (l : List Ev.Event) : List Tx × Int × Int :=
  match run 0 [] l with
  | none => ((go 0 [] l).map (·.1), 0, 0)
  | some (k, q) => ([], (k : Int), q)
def endOf (t : Tx) : Ev.Event := ⟨if t.done = true then 3 else 4, t.session, 0, 0⟩
def beginOf (t : Tx) : Ev.Event := ⟨0, t.session, 0, 0⟩
def txEvents (t : Tx) : List Ev.Event := beginOf t :: (t.ops ++ [endOf t])
/-- Events' answer: P5.2. -/
def eventsR (l : List Tx) : List Ev.Event := l.flatMap txEvents

theorem group_ok (l : List Ev.Event) (h : run 0 [] l = none) : groupR l = ((go 0 [] l).map (·.1), 0, 0) := by rw [groupR, h]
theorem group_bad (l : List Ev.Event) (k : Nat) (q : Int) (h : run 0 [] l = some (k, q)) : groupR l = ([], (k : Int), q) := by rw [groupR, h]

theorem go_append (i : Nat) (st : List (Tx × Bool)) (a b : List Ev.Event) : go i st (a ++ b) = go (i + a.length) (go i st a) b := by
  induction a generalizing i st with
  | nil => rfl
  | cons e a ih => rw [List.cons_append, go, go, ih, List.length_cons, show i + 1 + a.length = i + (a.length + 1) by omega]
theorem run_append (i : Nat) (st : List (Tx × Bool)) (a b : List Ev.Event) : run i st (a ++ b) = (run i st a).or (run (i + a.length) (go i st a) b) := by
  induction a generalizing i st with
  | nil => rfl
  | cons e a ih =>
    rw [List.cons_append, run, run, go]
    split
    · rfl
    · rw [ih, List.length_cons, show i + 1 + a.length = i + (a.length + 1) by omega]
theorem run_of_front (i : Nat) (st : List (Tx × Bool)) (a b : List Ev.Event) (p : Nat × Int) (h : run i st a = some p) : run i st (a ++ b) = some p := by rw [run_append, h]; rfl
theorem run_front (i : Nat) (st : List (Tx × Bool)) (a b : List Ev.Event) (h : run i st (a ++ b) = none) : run i st a = none ∧ run (i + a.length) (go i st a) b = none := by
  rw [run_append] at h
  cases ha : run i st a with
  | none => rw [ha] at h; exact ⟨rfl, h⟩
  | some p => rw [ha] at h; cases h
theorem run_both (i : Nat) (st : List (Tx × Bool)) (a b : List Ev.Event) (h : run i st a = none) (h' : run (i + a.length) (go i st a) b = none) : run i st (a ++ b) = none := by rw [run_append, h, h']; rfl
theorem run_one (i : Nat) (st : List (Tx × Bool)) (e : Ev.Event) : run i st [e] = if fault st e ≠ 0 then some (i, fault st e) else none := rfl
/-- One event more, all ahead of it being right. -/
theorem run_take (l : List Ev.Event) (k : Nat) (hk : k < l.length) (h : run 0 [] (l.take k) = none) :
    (fault (go 0 [] (l.take k)) l[k] = 0 → run 0 [] (l.take (k + 1)) = none ∧ go 0 [] (l.take (k + 1)) = next k (go 0 [] (l.take k)) l[k]) ∧
    (fault (go 0 [] (l.take k)) l[k] ≠ 0 → run 0 [] l = some (k, fault (go 0 [] (l.take k)) l[k])) := by
  have hl : (l.take k).length = k := by rw [List.length_take]; omega
  have ht := List.take_succ_eq_append_getElem hk
  refine ⟨fun hf => ⟨?_, ?_⟩, fun hf => ?_⟩
  · rw [ht]
    refine run_both _ _ _ _ h ?_
    rw [run_one, if_neg (by simpa using hf)]
  · rw [ht, go_append, Nat.zero_add, hl]
    rfl
  · have h1 : run 0 [] (l.take (k + 1)) = some (k, fault (go 0 [] (l.take k)) l[k]) := by
      rw [ht, run_append, h, Nat.zero_add, hl, run_one, if_pos hf]
      rfl
    have h2 := run_of_front 0 [] (l.take (k + 1)) (l.drop (k + 1)) _ h1
    rw [List.take_append_drop] at h2
    exact h2
/-- Where the first wrong event is. -/
theorem run_some (i : Nat) (st : List (Tx × Bool)) (l : List Ev.Event) (k : Nat) (q : Int) (h : run i st l = some (k, q)) : i ≤ k ∧ k < i + l.length ∧ q ≠ 0 ∧ run i st (l.take (k - i)) = none ∧ run i st (l.take (k - i + 1)) = some (k, q) := by
  induction l generalizing i st with
  | nil => cases h
  | cons e l ih =>
    rw [run] at h
    split at h
    · rename_i hf
      cases h
      refine ⟨Nat.le_refl _, by simp, hf, ?_, ?_⟩
      · rw [Nat.sub_self]; rfl
      · rw [Nat.sub_self, Nat.zero_add, List.take_succ_cons, List.take_zero, run_one, if_pos hf]
    · rename_i hf
      obtain ⟨h1, h2, h3, h4, h5⟩ := ih _ _ h
      refine ⟨by omega, by rw [List.length_cons]; omega, h3, ?_, ?_⟩
      · rw [show k - i = (k - (i + 1)) + 1 by omega, List.take_succ_cons, run, if_neg hf]
        exact h4
      · rw [show k - i + 1 = (k - (i + 1) + 1) + 1 by omega, List.take_succ_cons, run, if_neg hf]
        exact h5

/-- What holds of all transactions while events are right. -/
structure Fine (st : List (Tx × Bool)) : Prop where
  len : st.length ≤ 32
  sess : ∀ x ∈ st, 0 ≤ x.1.session ∧ x.1.session < 8
  ops : ∀ x ∈ st, ∀ e ∈ x.1.ops, right e = true ∧ hasKey e.kind = true ∧ e.session = x.1.session
  open_ : ∀ x ∈ st, x.2 = true → x.1.done = false
  last : st.Pairwise fun x y => x.1.session = y.1.session → x.2 = false
theorem Fine.nil : Fine [] := ⟨by simp, by simp, by simp, by simp, List.Pairwise.nil⟩
theorem upd_len (st : List (Tx × Bool)) (s : Int) (f : Tx → Tx × Bool) : (upd st s f).length = st.length := by simp [upd]
theorem mem_upd {st : List (Tx × Bool)} {s : Int} {f : Tx → Tx × Bool} {x : Tx × Bool} (h : x ∈ upd st s f) : (x ∈ st ∧ mine s x = false) ∨ ∃ y ∈ st, mine s y = true ∧ x = f y.1 := by
  obtain ⟨y, hy, e⟩ := List.mem_map.1 h
  cases hm : mine s y with
  | true => rw [hm, if_pos rfl] at e; exact .inr ⟨y, hy, hm, e.symm⟩
  | false => rw [hm, if_neg (by simp)] at e; subst e; exact .inl ⟨hy, hm⟩
theorem mine_iff (s : Int) (x : Tx × Bool) : mine s x = true ↔ x.1.session = s ∧ x.2 = true := by simp [mine]
theorem hasOpen_iff (st : List (Tx × Bool)) (s : Int) : hasOpen st s = true ↔ ∃ x ∈ st, x.1.session = s ∧ x.2 = true := by simp [hasOpen, mine]
theorem hasOpen_no (st : List (Tx × Bool)) (s : Int) : hasOpen st s = false ↔ ∀ x ∈ st, x.1.session = s → x.2 = false := by
  rw [← Bool.not_eq_true, hasOpen_iff]
  simp

theorem fault_zero (st : List (Tx × Bool)) (e : Ev.Event) (h : fault st e = 0) : right e = true ∧ (e.kind = 0 → hasOpen st e.session = false ∧ st.length ≠ 32) ∧ (e.kind ≠ 0 → hasOpen st e.session = true) := by
  unfold fault at h
  split at h
  · cases h
  · rename_i hr
    refine ⟨by simpa using hr, fun hk => ?_, fun hk => ?_⟩
    · rw [if_pos hk] at h
      split at h
      · cases h
      · rename_i ho
        split at h
        · cases h
        · rename_i hl
          exact ⟨by simpa using ho, hl⟩
    · rw [if_neg hk] at h
      split at h
      · assumption
      · cases h

theorem pairwise_map_keep {st : List (Tx × Bool)} {s : Int} {f : Tx → Tx × Bool} (hf : ∀ t, (f t).1.session = t.session) (h : st.Pairwise fun x y => x.1.session = y.1.session → x.2 = false) : (upd st s f).Pairwise fun x y => x.1.session = y.1.session → x.2 = false := by
  rw [upd, List.pairwise_map]
  refine h.imp_of_mem ?_
  intro x y hx hy hxy hs
  have e1 : (if mine s x = true then f x.1 else x).1.session = x.1.session := by split <;> simp [hf]
  have e2 : (if mine s y = true then f y.1 else y).1.session = y.1.session := by split <;> simp [hf]
  rw [e1, e2] at hs
  have h2 := hxy hs
  rw [if_neg (by rw [mine_iff]; intro h; rw [h.2] at h2; cases h2)]
  exact h2

theorem Fine.next {st : List (Tx × Bool)} {e : Ev.Event} (i : Nat) (h : Fine st) (hf : fault st e = 0) : Fine (next i st e) := by
  obtain ⟨hr, hb, hn⟩ := fault_zero st e hf
  obtain ⟨a1, a2, a3, a4, a5⟩ := (Ev.right_iff e).1 hr
  unfold Gr.next
  split
  · rename_i hk
    obtain ⟨ho, hl⟩ := hb hk
    rw [hasOpen_no] at ho
    have hl2 := h.len
    refine ⟨by rw [List.length_append, List.length_singleton]; omega, ?_, ?_, ?_, ?_⟩
    · intro x hx
      rcases List.mem_append.1 hx with hx | hx
      · exact h.sess x hx
      · rw [List.mem_singleton.1 hx]; exact ⟨a3, a4⟩
    · intro x hx
      rcases List.mem_append.1 hx with hx | hx
      · exact h.ops x hx
      · rw [List.mem_singleton.1 hx]; intro e he; cases he
    · intro x hx
      rcases List.mem_append.1 hx with hx | hx
      · exact h.open_ x hx
      · rw [List.mem_singleton.1 hx]; intro _; rfl
    · rw [List.pairwise_append]
      refine ⟨h.last, List.pairwise_singleton _ _, fun x hx y hy => ?_⟩
      rw [List.mem_singleton.1 hy]
      exact ho x hx
  · split
    · rename_i hk hkey
      refine ⟨by rw [upd_len]; exact h.len, ?_, ?_, ?_, pairwise_map_keep (fun _ => rfl) h.last⟩
      · intro x hx
        rcases mem_upd hx with ⟨hx, _⟩ | ⟨y, hy, _, rfl⟩
        · exact h.sess x hx
        · exact h.sess y hy
      · intro x hx
        rcases mem_upd hx with ⟨hx, _⟩ | ⟨y, hy, hm, rfl⟩
        · exact h.ops x hx
        · intro e' he
          rcases List.mem_append.1 he with he | he
          · exact h.ops y hy e' he
          · rw [List.mem_singleton.1 he]
            exact ⟨hr, hkey, ((mine_iff _ _).1 hm).1.symm⟩
      · intro x hx
        rcases mem_upd hx with ⟨hx, _⟩ | ⟨y, hy, hm, rfl⟩
        · exact h.open_ x hx
        · intro _
          exact h.open_ y hy ((mine_iff _ _).1 hm).2
    · refine ⟨by rw [upd_len]; exact h.len, ?_, ?_, ?_, pairwise_map_keep (fun _ => rfl) h.last⟩
      · intro x hx
        rcases mem_upd hx with ⟨hx, _⟩ | ⟨y, hy, _, rfl⟩
        · exact h.sess x hx
        · exact h.sess y hy
      · intro x hx
        rcases mem_upd hx with ⟨hx, _⟩ | ⟨y, hy, hm, rfl⟩
        · exact h.ops x hx
        · exact h.ops y hy
      · intro x hx
        rcases mem_upd hx with ⟨hx, _⟩ | ⟨y, hy, hm, rfl⟩
        · exact h.open_ x hx
        · intro e; cases e
theorem Fine.go {st : List (Tx × Bool)} (i : Nat) (l : List Ev.Event) (h : Fine st) (hr : run i st l = none) : Fine (go i st l) := by
  induction l generalizing i st with
  | nil => exact h
  | cons e l ih =>
    rw [run] at hr
    split at hr
    · cases hr
    · rename_i hf
      exact ih (i + 1) (h.next i (by simpa using hf)) hr
theorem fine_of (l : List Ev.Event) (h : run 0 [] l = none) : Fine (go 0 [] l) := Fine.nil.go 0 l h

/-! By index: which one is a session's open one. -/
theorem Fine.one {st : List (Tx × Bool)} (h : Fine st) {s : Int} {i j : Nat} (hi : i < st.length) (hj : j < st.length) (mi : mine s st[i] = true) (mj : mine s st[j] = true) : i = j := by
  have key : ∀ {a b : Nat} (ha : a < st.length) (hb : b < st.length), a < b → mine s st[a] = true → mine s st[b] = true → False := fun {a b} ha hb hab ma mb => by
    have := List.pairwise_iff_getElem.1 h.last a b ha hb hab (((mine_iff _ _).1 ma).1.trans ((mine_iff _ _).1 mb).1.symm)
    rw [((mine_iff _ _).1 ma).2] at this
    cases this
  rcases Nat.lt_trichotomy i j with h' | h' | h'
  · exact (key hi hj h' mi mj).elim
  · exact h'
  · exact (key hj hi h' mj mi).elim
theorem upd_set {st : List (Tx × Bool)} (h : Fine st) (s : Int) (f : Tx → Tx × Bool) (k : Nat) (hk : k < st.length) (hm : mine s st[k] = true) : upd st s f = st.set k (f st[k].1) := by
  apply List.ext_getElem
  · simp [upd]
  · intro j h1 h2
    have hj : j < st.length := by simpa [upd] using h1
    rw [List.getElem_set]
    simp only [upd, List.getElem_map]
    by_cases hjk : k = j
    · subst hjk
      rw [if_pos hm, if_pos rfl]
    · rw [if_neg hjk]
      cases hmj : mine s st[j] with
      | true => exact absurd (h.one hk hj hm hmj) hjk
      | false => rw [if_neg (by simp)]
/-- A session's last transaction tells whether one is open. -/
theorem hasOpen_last {st : List (Tx × Bool)} (h : Fine st) (s : Int) (k : Nat) (hk : k < st.length) (hs : st[k].1.session = s) (ha : ∀ j (hj : j < st.length), k < j → st[j].1.session ≠ s) : hasOpen st s = st[k].2 := by
  rw [Bool.eq_iff_iff, hasOpen_iff]
  constructor
  · rintro ⟨x, hx, e1, e2⟩
    obtain ⟨i, hi, rfl⟩ := List.getElem_of_mem hx
    rcases Nat.lt_trichotomy i k with h' | h' | h'
    · have := List.pairwise_iff_getElem.1 h.last i k hi hk h' (e1.trans hs.symm)
      rw [e2] at this
      cases this
    · subst h'; exact e2
    · exact absurd e1 (ha i hi h')
  · intro e
    exact ⟨st[k], List.getElem_mem hk, hs, e⟩
theorem hasOpen_none (st : List (Tx × Bool)) (s : Int) (ha : ∀ j (hj : j < st.length), st[j].1.session ≠ s) : hasOpen st s = false := by
  rw [hasOpen_no]
  intro x hx e
  obtain ⟨i, hi, rfl⟩ := List.getElem_of_mem hx
  exact absurd e (ha i hi)
theorem mine_at {st : List (Tx × Bool)} {s : Int} {k : Nat} (hk : k < st.length) (hs : st[k].1.session = s) (ho : st[k].2 = true) : mine s st[k] = true := (mine_iff _ _).2 ⟨hs, ho⟩

/-! How many there are of each. -/
def opsOf (st : List (Tx × Bool)) : Nat := (st.map fun x => x.1.ops.length).sum
def keyed (l : List Ev.Event) : Nat := l.countP fun e => hasKey e.kind
def begins (l : List Ev.Event) : Nat := l.countP fun e => decide (e.kind = 0)
theorem sum_set (l : List Nat) (k : Nat) (hk : k < l.length) (v : Nat) (h : v = l[k] + 1) : (l.set k v).sum = l.sum + 1 := by
  induction l generalizing k with
  | nil => simp at hk
  | cons x l ih =>
    cases k with
    | zero =>
      simp only [List.getElem_cons_zero] at h
      simp [h]
      omega
    | succ k =>
      simp only [List.getElem_cons_succ] at h
      simp only [List.set_cons_succ, List.sum_cons]
      rw [ih k (by simpa using hk) h]
      omega
theorem kind_not (e : Ev.Event) (h : e.kind = 0) : hasKey e.kind = false := by rw [h]; decide
theorem counts_next {st : List (Tx × Bool)} (h : Fine st) (i : Nat) (e : Ev.Event) (hf : fault st e = 0) : opsOf (next i st e) = opsOf st + (if hasKey e.kind = true then 1 else 0) ∧ (next i st e).length = st.length + (if e.kind = 0 then 1 else 0) := by
  obtain ⟨_, hb, hn⟩ := fault_zero st e hf
  unfold next
  by_cases hk : e.kind = 0
  · rw [if_pos hk, if_pos hk, kind_not e hk, if_neg (by simp)]
    refine ⟨?_, by simp⟩
    simp [opsOf]
  · rw [if_neg hk, if_neg hk]
    obtain ⟨x, hx, e1, e2⟩ := (hasOpen_iff _ _).1 (hn hk)
    obtain ⟨k, hkk, rfl⟩ := List.getElem_of_mem hx
    have hm := mine_at hkk e1 e2
    by_cases hkey : hasKey e.kind = true
    · rw [if_pos hkey, if_pos hkey]
      refine ⟨?_, by rw [upd_len]; rfl⟩
      rw [upd_set h _ _ k hkk hm, opsOf, opsOf, List.map_set]
      exact sum_set _ k (by simpa using hkk) _ (by simp [addOp])
    · rw [if_neg hkey, if_neg hkey]
      refine ⟨?_, by rw [upd_len]; rfl⟩
      rw [opsOf, opsOf, upd, List.map_map]
      congr 1
      refine List.map_congr_left (fun y _ => ?_)
      simp only [Function.comp_apply]
      split <;> rfl
theorem counts_go {st : List (Tx × Bool)} (h : Fine st) (i : Nat) (l : List Ev.Event) (hr : run i st l = none) : opsOf (go i st l) = opsOf st + keyed l ∧ (go i st l).length = st.length + begins l := by
  induction l generalizing i st with
  | nil => exact ⟨rfl, rfl⟩
  | cons e l ih =>
    rw [run] at hr
    split at hr
    · cases hr
    · rename_i hf
      have hf0 : fault st e = 0 := by simpa using hf
      obtain ⟨i1, i2⟩ := ih (h.next i hf0) (i + 1) hr
      obtain ⟨c1, c2⟩ := counts_next h i e hf0
      rw [go, i1, i2, c1, c2]
      simp only [keyed, begins, List.countP_cons, decide_eq_true_eq]
      exact ⟨by omega, by omega⟩
/-- Each Read and Write is in one transaction, each Begin makes one, and they are not too many. -/
theorem counts (l : List Ev.Event) (h : run 0 [] l = none) : opsOf (go 0 [] l) = keyed l ∧ (go 0 [] l).length = begins l ∧ begins l ≤ 32 := by
  obtain ⟨h1, h2⟩ := counts_go Fine.nil 0 l h
  have h3 := (fine_of l h).len
  refine ⟨by rw [h1]; exact Nat.zero_add _, by rw [h2]; exact Nat.zero_add _, ?_⟩
  rw [h2, List.length_nil] at h3
  omega

theorem mem_sum (l : List Nat) (n : Nat) (h : n ∈ l) : n ≤ l.sum := by
  induction l with
  | nil => cases h
  | cons x l ih =>
    rw [List.sum_cons]
    rcases List.mem_cons.1 h with rfl | h
    · omega
    · have := ih h; omega
theorem ops_le (l : List Ev.Event) (h : run 0 [] l = none) (x : Tx × Bool) (hx : x ∈ go 0 [] l) : x.1.ops.length ≤ l.length := by
  have h1 := (counts l h).1
  have h2 : x.1.ops.length ≤ opsOf (go 0 [] l) := mem_sum _ _ (List.mem_map.2 ⟨x, hx, rfl⟩)
  have h3 : keyed l ≤ l.length := List.countP_le_length
  omega

/-! What was grouped, as events, is grouped as it was, but for where each begins. -/
def core (t : Tx) : Int × Bool × List Ev.Event := (t.session, t.done, t.ops)
theorem right_plain (k s : Int) (hk : k = 0 ∨ k = 3 ∨ k = 4) (hs : 0 ≤ s ∧ s < 8) : right ⟨k, s, 0, 0⟩ = true := by
  rw [Ev.right_iff]
  have hkey : hasKey k = false := by rcases hk with h | h | h <;> subst h <;> decide
  refine ⟨by show (0 : Int) ≤ k; omega, by show k < 5; omega, hs.1, hs.2, ?_⟩
  rw [if_neg (by show ¬ hasKey k = true; rw [hkey]; simp)]
  exact ⟨rfl, rfl⟩
theorem upd_same (st : List (Tx × Bool)) (s : Int) (f : Tx → Tx × Bool) (h : ∀ x ∈ st, x.2 = false) : upd st s f = st := by
  rw [upd]
  conv => rhs; rw [← List.map_id st]
  refine List.map_congr_left (fun x hx => ?_)
  rw [if_neg (by rw [mine_iff]; intro h'; rw [h x hx] at h'; cases h'.2)]
  rfl
theorem upd_end (st : List (Tx × Bool)) (s : Int) (f : Tx → Tx × Bool) (t : Tx) (h : ∀ x ∈ st, x.2 = false) (hs : t.session = s) : upd (st ++ [(t, true)]) s f = st ++ [f t] := by
  have e : upd (st ++ [(t, true)]) s f = upd st s f ++ upd [(t, true)] s f := by simp [upd]
  rw [e, upd_same st s f h]
  congr 1
  simp [upd, mine, hs]
theorem open_end (st : List (Tx × Bool)) (t : Tx) (s : Int) (hs : t.session = s) : hasOpen (st ++ [(t, true)]) s = true := by
  rw [hasOpen_iff]
  exact ⟨(t, true), by simp, hs, rfl⟩
theorem ops_run (st : List (Tx × Bool)) (h : ∀ x ∈ st, x.2 = false) (s : Int) (f : Int) (l : List Ev.Event) (hl : ∀ e ∈ l, right e = true ∧ hasKey e.kind = true ∧ e.session = s) (i : Nat) (acc : List Ev.Event) :
    run i (st ++ [(⟨s, false, f, acc⟩, true)]) l = none ∧ go i (st ++ [(⟨s, false, f, acc⟩, true)]) l = st ++ [(⟨s, false, f, acc ++ l⟩, true)] := by
  induction l generalizing i acc with
  | nil => exact ⟨rfl, by rw [List.append_nil]; rfl⟩
  | cons e l ih =>
    obtain ⟨h1, h2, h3⟩ := hl e (by simp)
    have hk : ¬ e.kind = 0 := fun h0 => by rw [kind_not e h0] at h2; cases h2
    have hf : fault (st ++ [(⟨s, false, f, acc⟩, true)]) e = 0 := by
      rw [fault, if_neg (by rw [h1]; simp), if_neg hk, h3, open_end st _ s rfl, if_pos rfl]
    have hn : next i (st ++ [(⟨s, false, f, acc⟩, true)]) e = st ++ [(⟨s, false, f, acc ++ [e]⟩, true)] := by
      rw [next, if_neg hk, if_pos h2, h3, upd_end st s (addOp e) _ h rfl]
      rfl
    obtain ⟨i1, i2⟩ := ih (fun e' he => hl e' (List.mem_cons_of_mem _ he)) (i + 1) (acc ++ [e])
    rw [run, go, hf, if_neg (by simp), hn]
    refine ⟨i1, ?_⟩
    rw [i2, List.append_assoc]
    rfl
theorem tx_run (st : List (Tx × Bool)) (h : ∀ x ∈ st, x.2 = false) (hl : st.length < 32) (t : Tx) (hs : 0 ≤ t.session ∧ t.session < 8) (ho : ∀ e ∈ t.ops, right e = true ∧ hasKey e.kind = true ∧ e.session = t.session) (i : Nat) :
    run i st (txEvents t) = none ∧ go i st (txEvents t) = st ++ [({ t with first := (i : Int) }, false)] := by
  have hf : fault st (beginOf t) = 0 := by
    rw [fault, if_neg (by rw [beginOf, right_plain 0 _ (.inl rfl) hs]; simp), if_pos (show (beginOf t).kind = 0 from rfl), (hasOpen_no _ _).2 (fun x hx _ => h x hx), if_neg (by simp), if_neg (by omega)]
  have hn : next i st (beginOf t) = st ++ [(⟨t.session, false, (i : Int), []⟩, true)] := rfl
  obtain ⟨o1, o2⟩ := ops_run st h t.session (i : Int) t.ops ho (i + 1) []
  have hk : ¬ (endOf t).kind = 0 := by
    show ¬ (if t.done = true then (3 : Int) else 4) = 0
    split <;> omega
  have hkey : ¬ hasKey (endOf t).kind = true := by
    show ¬ hasKey (if t.done = true then (3 : Int) else 4) = true
    split <;> decide
  have hr : right (endOf t) = true := by
    refine right_plain _ _ ?_ hs
    by_cases hd : t.done = true
    · rw [if_pos hd]; exact .inr (.inl rfl)
    · rw [if_neg hd]; exact .inr (.inr rfl)
  have hse : (endOf t).session = t.session := rfl
  rw [List.nil_append] at o2
  have hf2 : fault (st ++ [(⟨t.session, false, (i : Int), t.ops⟩, true)]) (endOf t) = 0 := by
    rw [fault, if_neg (by rw [hr]; simp), if_neg hk, hse, open_end st _ _ rfl, if_pos rfl]
  have hd : decide ((endOf t).kind = 3) = t.done := by
    show decide ((if t.done = true then (3 : Int) else 4) = 3) = t.done
    cases t.done <;> rfl
  have hn2 : ∀ j, next j (st ++ [(⟨t.session, false, (i : Int), t.ops⟩, true)]) (endOf t) = st ++ [({ t with first := (i : Int) }, false)] := fun j => by
    rw [next, if_neg hk, if_neg hkey, hse, upd_end st _ _ _ h rfl, hd]
    rfl
  rw [txEvents, run, go, hf, if_neg (by simp), hn]
  refine ⟨run_both _ _ _ _ o1 ?_, ?_⟩
  · rw [o2, run_one, hf2, if_neg (by simp)]
  · rw [go_append, o2, go, hn2, go]
theorem txs_run (a : List Tx) (ha : ∀ t ∈ a, (0 ≤ t.session ∧ t.session < 8) ∧ ∀ e ∈ t.ops, right e = true ∧ hasKey e.kind = true ∧ e.session = t.session) (st : List (Tx × Bool)) (h : ∀ x ∈ st, x.2 = false) (hl : st.length + a.length ≤ 32) (i : Nat) :
    run i st (eventsR a) = none ∧ ∃ b : List Tx, go i st (eventsR a) = st ++ b.map (fun t => (t, false)) ∧ b.map core = a.map core := by
  induction a generalizing i st with
  | nil => exact ⟨rfl, [], by simp [eventsR, go], rfl⟩
  | cons t a ih =>
    rw [List.length_cons] at hl
    obtain ⟨h1, h2⟩ := ha t (by simp)
    obtain ⟨r1, r2⟩ := tx_run st h (by omega) t h1 h2 i
    obtain ⟨i1, b, i2, i3⟩ := ih (fun t' ht => ha t' (List.mem_cons_of_mem _ ht)) (st ++ [({ t with first := (i : Int) }, false)]) (fun x hx => by
      rcases List.mem_append.1 hx with hx | hx
      · exact h x hx
      · rw [List.mem_singleton.1 hx]) (by rw [List.length_append, List.length_singleton]; omega) (i + (txEvents t).length)
    have e : eventsR (t :: a) = txEvents t ++ eventsR a := by simp [eventsR]
    rw [e]
    refine ⟨run_both _ _ _ _ r1 (by rw [r2]; exact i1), { t with first := (i : Int) } :: b, ?_, ?_⟩
    · rw [go_append, r2, i2, List.append_assoc]
      rfl
    · rw [List.map_cons, List.map_cons, i3]
      rfl
/-- The transactions of right events. -/
def txs (l : List Ev.Event) : List Tx := (go 0 [] l).map (·.1)
theorem txs_fine (l : List Ev.Event) (h : run 0 [] l = none) : (txs l).length ≤ 32 ∧ ∀ t ∈ txs l, (0 ≤ t.session ∧ t.session < 8) ∧ ∀ e ∈ t.ops, right e = true ∧ hasKey e.kind = true ∧ e.session = t.session := by
  have hf := fine_of l h
  refine ⟨by rw [txs, List.length_map]; exact hf.len, fun t ht => ?_⟩
  obtain ⟨x, hx, rfl⟩ := List.mem_map.1 ht
  exact ⟨hf.sess x hx, hf.ops x hx⟩
theorem back (l : List Ev.Event) (h : run 0 [] l = none) : run 0 [] (eventsR (txs l)) = none ∧ (txs (eventsR (txs l))).map core = (txs l).map core := by
  obtain ⟨h1, h2⟩ := txs_fine l h
  obtain ⟨r1, b, r2, r3⟩ := txs_run (txs l) h2 [] (by simp) (by simpa using h1) 0
  refine ⟨r1, ?_⟩
  have e : (b.map fun t => (t, false)).map (·.1) = b := by
    rw [List.map_map]
    exact List.map_id b
  rw [txs, r2, List.nil_append, e, r3]

/-! One session's events alone. -/
def ofS (s : Int) (e : Ev.Event) : Bool := decide (e.session = s)
def txS (s : Int) (x : Tx × Bool) : Bool := decide (x.1.session = s)
/-- Where a session's events are. -/
def places (s : Int) (i : Nat) : List Ev.Event → List Nat
  | [] => []
  | e :: r => if ofS s e = true then i :: places s (i + 1) r else places s (i + 1) r
def look (pl : List Nat) (n : Int) : Int := (pl.getD n.toNat 0 : Int)
def turn (pl : List Nat) (x : Tx × Bool) : Tx × Bool := ({ x.1 with first := look pl x.1.first }, x.2)
structure Apart (s : Int) (pl : List Nat) (st st' : List (Tx × Bool)) : Prop where
  same : st.filter (txS s) = st'.map (turn pl)
  only : ∀ x ∈ st', x.1.session = s ∧ 0 ≤ x.1.first ∧ x.1.first < (pl.length : Int)
theorem look_more (pl q : List Nat) (n : Int) (h0 : 0 ≤ n) (h : n < (pl.length : Int)) : look (pl ++ q) n = look pl n := by
  unfold look
  rw [List.getD_eq_getElem?_getD, List.getD_eq_getElem?_getD, List.getElem?_append_left (by omega)]
theorem look_end (pl : List Nat) (i : Nat) : look (pl ++ [i]) (pl.length : Int) = (i : Int) := by
  unfold look
  rw [Int.toNat_natCast, List.getD_eq_getElem?_getD]
  simp
theorem turn_more (pl q : List Nat) (st' : List (Tx × Bool)) (h : ∀ x ∈ st', 0 ≤ x.1.first ∧ x.1.first < (pl.length : Int)) : st'.map (turn (pl ++ q)) = st'.map (turn pl) := by
  refine List.map_congr_left (fun x hx => ?_)
  unfold turn
  rw [look_more pl q _ (h x hx).1 (h x hx).2]
theorem hasOpen_filter (st : List (Tx × Bool)) (s : Int) : hasOpen (st.filter (txS s)) s = hasOpen st s := by
  rw [Bool.eq_iff_iff, hasOpen_iff, hasOpen_iff]
  constructor
  · rintro ⟨x, hx, h⟩
    exact ⟨x, (List.mem_filter.1 hx).1, h⟩
  · rintro ⟨x, hx, h1, h2⟩
    exact ⟨x, List.mem_filter.2 ⟨hx, by simpa [txS] using h1⟩, h1, h2⟩
theorem hasOpen_turn (pl : List Nat) (st' : List (Tx × Bool)) (s : Int) : hasOpen (st'.map (turn pl)) s = hasOpen st' s := by
  simp only [hasOpen, List.any_map]
  rfl
theorem filter_upd (st : List (Tx × Bool)) (s s' : Int) (f : Tx → Tx × Bool) (hf : ∀ t, (f t).1.session = t.session) : (upd st s' f).filter (txS s) = upd (st.filter (txS s)) s' f := by
  rw [upd, upd, List.filter_map]
  congr 1
  refine List.filter_congr (fun x _ => ?_)
  simp only [Function.comp_apply, txS]
  split <;> simp [hf]
theorem upd_other (st : List (Tx × Bool)) (s s' : Int) (f : Tx → Tx × Bool) (hs : s ≠ s') (h : ∀ x ∈ st, x.1.session = s) : upd st s' f = st := by
  rw [upd]
  conv => rhs; rw [← List.map_id st]
  refine List.map_congr_left (fun x hx => ?_)
  rw [if_neg (by rw [mine_iff]; intro h'; exact hs ((h x hx).symm.trans h'.1))]
  rfl
theorem upd_turn (pl : List Nat) (st' : List (Tx × Bool)) (s : Int) (f : Tx → Tx × Bool) (hf : ∀ x : Tx × Bool, turn pl (f x.1) = f (turn pl x).1) : upd (st'.map (turn pl)) s f = (upd st' s f).map (turn pl) := by
  rw [upd, upd, List.map_map, List.map_map]
  refine List.map_congr_left (fun x _ => ?_)
  have e : mine s (turn pl x) = mine s x := rfl
  simp only [Function.comp_apply, e]
  split
  · exact (hf x).symm
  · rfl
theorem upd_only {s s' : Int} {pl : List Nat} {st' : List (Tx × Bool)} {f : Tx → Tx × Bool} (hf : ∀ t, (f t).1.session = t.session ∧ (f t).1.first = t.first) (h : ∀ x ∈ st', x.1.session = s ∧ 0 ≤ x.1.first ∧ x.1.first < (pl.length : Int)) (q : List Nat) : ∀ x ∈ upd st' s' f, x.1.session = s ∧ 0 ≤ x.1.first ∧ x.1.first < ((pl ++ q).length : Int) := by
  intro x hx
  rw [List.length_append]
  rcases mem_upd hx with ⟨hx, _⟩ | ⟨y, hy, _, rfl⟩
  · obtain ⟨h1, h2, h3⟩ := h x hx
    exact ⟨h1, h2, by omega⟩
  · obtain ⟨h1, h2, h3⟩ := h y hy
    rw [(hf y.1).1, (hf y.1).2]
    exact ⟨h1, h2, by omega⟩
/-- An event of another session. -/
theorem Apart.other {s : Int} {pl : List Nat} {st st' : List (Tx × Bool)} (h : Apart s pl st st') (i : Nat) (e : Ev.Event) (he : ofS s e = false) : Apart s pl (next i st e) st' := by
  have hne : s ≠ e.session := fun h' => by rw [ofS, h', decide_eq_true rfl] at he; cases he
  have hall : ∀ x ∈ st.filter (txS s), x.1.session = s := fun x hx => by simpa [txS] using (List.mem_filter.1 hx).2
  refine ⟨?_, h.only⟩
  unfold next
  split
  · rw [List.filter_append, ← h.same]
    have : ([(⟨e.session, false, (i : Int), []⟩, true)] : List (Tx × Bool)).filter (txS s) = [] := by
      simp [txS]
      exact fun h' => hne h'.symm
    rw [this, List.append_nil]
  · split
    · rw [filter_upd _ _ _ _ (by intro t; rfl), upd_other _ s _ _ hne hall, h.same]
    · rw [filter_upd _ _ _ _ (by intro t; rfl), upd_other _ s _ _ hne hall, h.same]
/-- An event of that session. -/
theorem Apart.own {s : Int} {pl : List Nat} {st st' : List (Tx × Bool)} (h : Apart s pl st st') (hF : Fine st) (i : Nat) (e : Ev.Event) (he : ofS s e = true) (hf : fault st e = 0) : fault st' e = 0 ∧ Apart s (pl ++ [i]) (next i st e) (next pl.length st' e) := by
  have hs : e.session = s := by simpa [ofS] using he
  obtain ⟨hr, hb, hn⟩ := fault_zero st e hf
  have ho : hasOpen st' s = hasOpen st s := by rw [← hasOpen_turn pl st' s, ← h.same, hasOpen_filter]
  have hlen : st'.length ≤ st.length := by
    have := congrArg List.length h.same
    rw [List.length_map] at this
    rw [← this]
    exact List.length_filter_le _ _
  have hlast : ∀ x ∈ st', 0 ≤ x.1.first ∧ x.1.first < (pl.length : Int) := fun x hx => (h.only x hx).2
  constructor
  · unfold fault
    rw [if_neg (by rw [hr]; simp)]
    by_cases hk : e.kind = 0
    · obtain ⟨h1, h2⟩ := hb hk
      rw [if_pos hk, hs, ho, ← hs, h1, if_neg (by simp), if_neg (by have := hF.len; omega)]
    · rw [if_neg hk, hs, ho, ← hs, hn hk, if_pos rfl]
  · unfold next
    by_cases hk : e.kind = 0
    · rw [if_pos hk, if_pos hk]
      refine ⟨?_, ?_⟩
      · rw [List.filter_append, h.same, List.map_append, turn_more pl [i] st' hlast]
        congr 1
        simp [txS, hs, turn, look_end]
      · intro x hx
        rw [List.length_append, List.length_singleton]
        rcases List.mem_append.1 hx with hx | hx
        · obtain ⟨h1, h2, h3⟩ := h.only x hx
          exact ⟨h1, h2, by omega⟩
        · rw [List.mem_singleton.1 hx]
          exact ⟨hs, by show (0 : Int) ≤ (pl.length : Int); omega, by show ((pl.length : Nat) : Int) < _; omega⟩
    · rw [if_neg hk, if_neg hk]
      split
      · refine ⟨?_, upd_only (fun _ => ⟨rfl, rfl⟩) h.only [i]⟩
        rw [filter_upd _ _ _ _ (by intro t; rfl), h.same, ← turn_more pl [i] st' hlast, upd_turn _ _ _ _ (fun _ => rfl)]
      · refine ⟨?_, upd_only (fun _ => ⟨rfl, rfl⟩) h.only [i]⟩
        rw [filter_upd _ _ _ _ (by intro t; rfl), h.same, ← turn_more pl [i] st' hlast, upd_turn _ _ _ _ (fun _ => rfl)]
theorem apart_go (s : Int) (l : List Ev.Event) (i : Nat) (st st' : List (Tx × Bool)) (pl : List Nat) (hF : Fine st) (hr : run i st l = none) (h : Apart s pl st st') : run pl.length st' (l.filter (ofS s)) = none ∧ Apart s (pl ++ places s i l) (go i st l) (go pl.length st' (l.filter (ofS s))) := by
  induction l generalizing i st st' pl with
  | nil =>
    refine ⟨rfl, ?_⟩
    rw [places, List.append_nil]
    exact h
  | cons e l ih =>
    rw [run] at hr
    split at hr
    · cases hr
    · rename_i hf
      have hf0 : fault st e = 0 := by simpa using hf
      cases he : ofS s e with
      | true =>
        obtain ⟨f1, f2⟩ := h.own hF i e he hf0
        obtain ⟨i1, i2⟩ := ih (i + 1) _ _ (pl ++ [i]) (hF.next i hf0) hr f2
        rw [List.length_append, List.length_singleton] at i1 i2
        rw [List.filter_cons_of_pos he, run, go, go, f1, if_neg (by simp), places, if_pos he]
        refine ⟨i1, ?_⟩
        rw [show pl ++ i :: places s (i + 1) l = pl ++ [i] ++ places s (i + 1) l by simp]
        exact i2
      | false =>
        obtain ⟨i1, i2⟩ := ih (i + 1) _ _ pl (hF.next i hf0) hr (h.other i e he)
        rw [List.filter_cons_of_neg (by rw [he]; simp), go, places, if_neg (by rw [he]; simp)]
        exact ⟨i1, i2⟩
/-- One session's events alone are that session's transactions, but for where each begins: P5.3. -/
theorem apart (s : Int) (l : List Ev.Event) (h : run 0 [] l = none) : run 0 [] (l.filter (ofS s)) = none ∧
    (txs l).filter (fun t => decide (t.session = s)) = (txs (l.filter (ofS s))).map (fun t => { t with first := look (places s 0 l) t.first }) ∧
    ∀ t ∈ txs (l.filter (ofS s)), t.session = s ∧ 0 ≤ t.first ∧ t.first < ((places s 0 l).length : Int) := by
  obtain ⟨h1, h2⟩ := apart_go s l 0 [] [] [] Fine.nil h ⟨rfl, fun x hx => by cases hx⟩
  rw [List.nil_append] at h2
  refine ⟨h1, ?_, ?_⟩
  · have e := congrArg (List.map (·.1)) h2.same
    rw [txs, txs, List.map_map, List.filter_map]
    rw [List.map_map] at e
    exact e
  · intro t ht
    obtain ⟨x, hx, rfl⟩ := List.mem_map.1 ht
    exact h2.only x hx
end Go.Proofs.Ytkeaibngofbkhaa.Gr
