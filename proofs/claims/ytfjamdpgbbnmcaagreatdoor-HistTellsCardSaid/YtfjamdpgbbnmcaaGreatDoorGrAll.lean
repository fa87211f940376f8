/-
  Several texts in one, each with its own first words: GrPlain, GrMem, GrFrame, GrWalkA, GrMap, GrWalkB, GrWalkC, GrRefA, GrRefB, GrRefC, GrRefD.
  Conditions: as each says.
-/
import Derived.Test.YtfjamdpgbbnmcaaGreatDoorEvAll
import Derived.Test.YtfjamdpgbbnmcaaGreatDoorDiAll
import Derived.Maps.OwnSet
import Derived.Deep.AppendLies
import Derived.Deep.RegionLaw
import Derived.BigRegion
import Derived.Deep.RegionHeld3
/-
  Plain facts on events grouped into transactions (no Go in it): which transactions a row of events makes, or which event is the first wrong one, and how; transactions as events; what is grouped, as events, is grouped as it was; one session's events alone; the first wrong event; how many of each kind.
  Conditions: none beyond those that each theorem states.
-/
set_option maxRecDepth 4000
namespace Go.Proofs.YtfjamdpgbbnmcaaGreatDoor.Gr
open Ev (right hasKey)

/-- A transaction: its session, whether it was committed, where it begins, its reads and writes. -/
structure Tx where
  session : Int
  done : Bool
  first : Int
  ops : List Ev.Event
  deriving DecidableEq

/-! The transactions that have begun, each with whether it is open: a list of pairs. -/
def mine (s : Int) (x : Tx × Bool) : Bool := decide (x.1.session = s) && x.2
def hasOpen (st : List (Tx × Bool)) (s : Int) : Bool := st.any (mine s)
/-- The open one of a session turned. -/
def upd (st : List (Tx × Bool)) (s : Int) (f : Tx → Tx × Bool) : List (Tx × Bool) := st.map fun x => if mine s x = true then f x.1 else x

/-- What is wrong with an event behind those that made st: 0 if nothing is. -/
def fault (st : List (Tx × Bool)) (e : Ev.Event) : Int :=
  if right e = false then 1
  else if e.kind = 0 then (if hasOpen st e.session = true then 5 else if st.length = 32 then 4 else 0)
  else if hasOpen st e.session = true then 0 else 6
def addOp (e : Ev.Event) (t : Tx) : Tx × Bool := ({ t with ops := t.ops ++ [e] }, true)
def shut (d : Bool) (t : Tx) : Tx × Bool := ({ t with done := d }, false)
/-- What an event makes of them. -/
def next (i : Nat) (st : List (Tx × Bool)) (e : Ev.Event) : List (Tx × Bool) :=
  if e.kind = 0 then st ++ [(⟨e.session, false, (i : Int), []⟩, true)]
  else if hasKey e.kind = true then upd st e.session (addOp e)
  else upd st e.session (shut (decide (e.kind = 3)))

def go (i : Nat) (st : List (Tx × Bool)) : List Ev.Event → List (Tx × Bool)
  | [] => st
  | e :: r => go (i + 1) (next i st e) r
/-- The first wrong event's place, and its error. -/
def run (i : Nat) (st : List (Tx × Bool)) : List Ev.Event → Option (Nat × Int)
  | [] => none
  | e :: r => if fault st e ≠ 0 then some (i, fault st e) else run (i + 1) (next i st e) r
/-- Group's answer: P5.1. -/
def groupR (l : List Ev.Event) : List Tx × Int × Int :=
  match run 0 [] l with
  | none => ((go 0 [] l).map (·.1), 0, 0)
  | some (k, q) => ([], (k : Int), q)
def endOf (t : Tx) : Ev.Event := ⟨if t.done = true then 3 else 4, t.session, 0, 0⟩
def beginOf (t : Tx) : Ev.Event := ⟨0, t.session, 0, 0⟩
def txEvents (t : Tx) : List Ev.Event := beginOf t :: (t.ops ++ [endOf t])
/-- Events' answer: P5.2. -/
def eventsR (l : List Tx) : List Ev.Event := l.flatMap txEvents

theorem group_ok (l : List Ev.Event) (h : run 0 [] l = none) : groupR l = ((go 0 [] l).map (·.1), 0, 0) := by rw [groupR, h]
theorem group_bad (l : List Ev.Event) (k : Nat) (q : Int) (h : run 0 [] l = some (k, q)) : groupR l = ([], (k : Int), q) := by rw [groupR, h]

theorem go_append (i : Nat) (st : List (Tx × Bool)) (a b : List Ev.Event) : go i st (a ++ b) = go (i + a.length) (go i st a) b := by
  induction a generalizing i st with
  | nil => rfl
  | cons e a ih => rw [List.cons_append, go, go, ih, List.length_cons, show i + 1 + a.length = i + (a.length + 1) by omega]
theorem run_append (i : Nat) (st : List (Tx × Bool)) (a b : List Ev.Event) : run i st (a ++ b) = (run i st a).or (run (i + a.length) (go i st a) b) := by
  induction a generalizing i st with
  | nil => rfl
  | cons e a ih =>
    rw [List.cons_append, run, run, go]
    split
    · rfl
    · rw [ih, List.length_cons, show i + 1 + a.length = i + (a.length + 1) by omega]
theorem run_of_front (i : Nat) (st : List (Tx × Bool)) (a b : List Ev.Event) (p : Nat × Int) (h : run i st a = some p) : run i st (a ++ b) = some p := by rw [run_append, h]; rfl
theorem run_front (i : Nat) (st : List (Tx × Bool)) (a b : List Ev.Event) (h : run i st (a ++ b) = none) : run i st a = none ∧ run (i + a.length) (go i st a) b = none := by
  rw [run_append] at h
  cases ha : run i st a with
  | none => rw [ha] at h; exact ⟨rfl, h⟩
  | some p => rw [ha] at h; cases h
theorem run_both (i : Nat) (st : List (Tx × Bool)) (a b : List Ev.Event) (h : run i st a = none) (h' : run (i + a.length) (go i st a) b = none) : run i st (a ++ b) = none := by rw [run_append, h, h']; rfl
theorem run_one (i : Nat) (st : List (Tx × Bool)) (e : Ev.Event) : run i st [e] = if fault st e ≠ 0 then some (i, fault st e) else none := rfl
/-- One event more, all ahead of it being right. -/
theorem run_take (l : List Ev.Event) (k : Nat) (hk : k < l.length) (h : run 0 [] (l.take k) = none) :
    (fault (go 0 [] (l.take k)) l[k] = 0 → run 0 [] (l.take (k + 1)) = none ∧ go 0 [] (l.take (k + 1)) = next k (go 0 [] (l.take k)) l[k]) ∧
    (fault (go 0 [] (l.take k)) l[k] ≠ 0 → run 0 [] l = some (k, fault (go 0 [] (l.take k)) l[k])) := by
  have hl : (l.take k).length = k := by rw [List.length_take]; omega
  have ht := List.take_succ_eq_append_getElem hk
  refine ⟨fun hf => ⟨?_, ?_⟩, fun hf => ?_⟩
  · rw [ht]
    refine run_both _ _ _ _ h ?_
    rw [run_one, if_neg (by simpa using hf)]
  · rw [ht, go_append, Nat.zero_add, hl]
    rfl
  · have h1 : run 0 [] (l.take (k + 1)) = some (k, fault (go 0 [] (l.take k)) l[k]) := by
      rw [ht, run_append, h, Nat.zero_add, hl, run_one, if_pos hf]
      rfl
    have h2 := run_of_front 0 [] (l.take (k + 1)) (l.drop (k + 1)) _ h1
    rw [List.take_append_drop] at h2
    exact h2
/-- Where the first wrong event is. -/
theorem run_some (i : Nat) (st : List (Tx × Bool)) (l : List Ev.Event) (k : Nat) (q : Int) (h : run i st l = some (k, q)) : i ≤ k ∧ k < i + l.length ∧ q ≠ 0 ∧ run i st (l.take (k - i)) = none ∧ run i st (l.take (k - i + 1)) = some (k, q) := by
  induction l generalizing i st with
  | nil => cases h
  | cons e l ih =>
    rw [run] at h
    split at h
    · rename_i hf
      cases h
      refine ⟨Nat.le_refl _, by simp, hf, ?_, ?_⟩
      · rw [Nat.sub_self]; rfl
      · rw [Nat.sub_self, Nat.zero_add, List.take_succ_cons, List.take_zero, run_one, if_pos hf]
    · rename_i hf
      obtain ⟨h1, h2, h3, h4, h5⟩ := ih _ _ h
      refine ⟨by omega, by rw [List.length_cons]; omega, h3, ?_, ?_⟩
      · rw [show k - i = (k - (i + 1)) + 1 by omega, List.take_succ_cons, run, if_neg hf]
        exact h4
      · rw [show k - i + 1 = (k - (i + 1) + 1) + 1 by omega, List.take_succ_cons, run, if_neg hf]
        exact h5

/-- What holds of all transactions while events are right. -/
structure Fine (st : List (Tx × Bool)) : Prop where
  len : st.length ≤ 32
  sess : ∀ x ∈ st, 0 ≤ x.1.session ∧ x.1.session < 8
  ops : ∀ x ∈ st, ∀ e ∈ x.1.ops, right e = true ∧ hasKey e.kind = true ∧ e.session = x.1.session
  open_ : ∀ x ∈ st, x.2 = true → x.1.done = false
  last : st.Pairwise fun x y => x.1.session = y.1.session → x.2 = false
theorem Fine.nil : Fine [] := ⟨by simp, by simp, by simp, by simp, List.Pairwise.nil⟩
theorem upd_len (st : List (Tx × Bool)) (s : Int) (f : Tx → Tx × Bool) : (upd st s f).length = st.length := by simp [upd]
theorem mem_upd {st : List (Tx × Bool)} {s : Int} {f : Tx → Tx × Bool} {x : Tx × Bool} (h : x ∈ upd st s f) : (x ∈ st ∧ mine s x = false) ∨ ∃ y ∈ st, mine s y = true ∧ x = f y.1 := by
  obtain ⟨y, hy, e⟩ := List.mem_map.1 h
  cases hm : mine s y with
  | true => rw [hm, if_pos rfl] at e; exact .inr ⟨y, hy, hm, e.symm⟩
  | false => rw [hm, if_neg (by simp)] at e; subst e; exact .inl ⟨hy, hm⟩
theorem mine_iff (s : Int) (x : Tx × Bool) : mine s x = true ↔ x.1.session = s ∧ x.2 = true := by simp [mine]
theorem hasOpen_iff (st : List (Tx × Bool)) (s : Int) : hasOpen st s = true ↔ ∃ x ∈ st, x.1.session = s ∧ x.2 = true := by simp [hasOpen, mine]
theorem hasOpen_no (st : List (Tx × Bool)) (s : Int) : hasOpen st s = false ↔ ∀ x ∈ st, x.1.session = s → x.2 = false := by
  rw [← Bool.not_eq_true, hasOpen_iff]
  simp

theorem fault_zero (st : List (Tx × Bool)) (e : Ev.Event) (h : fault st e = 0) : right e = true ∧ (e.kind = 0 → hasOpen st e.session = false ∧ st.length ≠ 32) ∧ (e.kind ≠ 0 → hasOpen st e.session = true) := by
  unfold fault at h
  split at h
  · cases h
  · rename_i hr
    refine ⟨by simpa using hr, fun hk => ?_, fun hk => ?_⟩
    · rw [if_pos hk] at h
      split at h
      · cases h
      · rename_i ho
        split at h
        · cases h
        · rename_i hl
          exact ⟨by simpa using ho, hl⟩
    · rw [if_neg hk] at h
      split at h
      · assumption
      · cases h

theorem pairwise_map_keep {st : List (Tx × Bool)} {s : Int} {f : Tx → Tx × Bool} (hf : ∀ t, (f t).1.session = t.session) (h : st.Pairwise fun x y => x.1.session = y.1.session → x.2 = false) : (upd st s f).Pairwise fun x y => x.1.session = y.1.session → x.2 = false := by
  rw [upd, List.pairwise_map]
  refine h.imp_of_mem ?_
  intro x y hx hy hxy hs
  have e1 : (if mine s x = true then f x.1 else x).1.session = x.1.session := by split <;> simp [hf]
  have e2 : (if mine s y = true then f y.1 else y).1.session = y.1.session := by split <;> simp [hf]
  rw [e1, e2] at hs
  have h2 := hxy hs
  rw [if_neg (by rw [mine_iff]; intro h; rw [h.2] at h2; cases h2)]
  exact h2

theorem Fine.next {st : List (Tx × Bool)} {e : Ev.Event} (i : Nat) (h : Fine st) (hf : fault st e = 0) : Fine (next i st e) := by
  obtain ⟨hr, hb, hn⟩ := fault_zero st e hf
  obtain ⟨a1, a2, a3, a4, a5⟩ := (Ev.right_iff e).1 hr
  unfold Gr.next
  split
  · rename_i hk
    obtain ⟨ho, hl⟩ := hb hk
    rw [hasOpen_no] at ho
    have hl2 := h.len
    refine ⟨by rw [List.length_append, List.length_singleton]; omega, ?_, ?_, ?_, ?_⟩
    · intro x hx
      rcases List.mem_append.1 hx with hx | hx
      · exact h.sess x hx
      · rw [List.mem_singleton.1 hx]; exact ⟨a3, a4⟩
    · intro x hx
      rcases List.mem_append.1 hx with hx | hx
      · exact h.ops x hx
      · rw [List.mem_singleton.1 hx]; intro e he; cases he
    · intro x hx
      rcases List.mem_append.1 hx with hx | hx
      · exact h.open_ x hx
      · rw [List.mem_singleton.1 hx]; intro _; rfl
    · rw [List.pairwise_append]
      refine ⟨h.last, List.pairwise_singleton _ _, fun x hx y hy => ?_⟩
      rw [List.mem_singleton.1 hy]
      exact ho x hx
  · split
    · rename_i hk hkey
      refine ⟨by rw [upd_len]; exact h.len, ?_, ?_, ?_, pairwise_map_keep (fun _ => rfl) h.last⟩
      · intro x hx
        rcases mem_upd hx with ⟨hx, _⟩ | ⟨y, hy, _, rfl⟩
        · exact h.sess x hx
        · exact h.sess y hy
      · intro x hx
        rcases mem_upd hx with ⟨hx, _⟩ | ⟨y, hy, hm, rfl⟩
        · exact h.ops x hx
        · intro e' he
          rcases List.mem_append.1 he with he | he
          · exact h.ops y hy e' he
          · rw [List.mem_singleton.1 he]
            exact ⟨hr, hkey, ((mine_iff _ _).1 hm).1.symm⟩
      · intro x hx
        rcases mem_upd hx with ⟨hx, _⟩ | ⟨y, hy, hm, rfl⟩
        · exact h.open_ x hx
        · intro _
          exact h.open_ y hy ((mine_iff _ _).1 hm).2
    · refine ⟨by rw [upd_len]; exact h.len, ?_, ?_, ?_, pairwise_map_keep (fun _ => rfl) h.last⟩
      · intro x hx
        rcases mem_upd hx with ⟨hx, _⟩ | ⟨y, hy, _, rfl⟩
        · exact h.sess x hx
        · exact h.sess y hy
      · intro x hx
        rcases mem_upd hx with ⟨hx, _⟩ | ⟨y, hy, hm, rfl⟩
        · exact h.ops x hx
        · exact h.ops y hy
      · intro x hx
        rcases mem_upd hx with ⟨hx, _⟩ | ⟨y, hy, hm, rfl⟩
        · exact h.open_ x hx
        · intro e; cases e
theorem Fine.go {st : List (Tx × Bool)} (i : Nat) (l : List Ev.Event) (h : Fine st) (hr : run i st l = none) : Fine (go i st l) := by
  induction l generalizing i st with
  | nil => exact h
  | cons e l ih =>
    rw [run] at hr
    split at hr
    · cases hr
    · rename_i hf
      exact ih (i + 1) (h.next i (by simpa using hf)) hr
theorem fine_of (l : List Ev.Event) (h : run 0 [] l = none) : Fine (go 0 [] l) := Fine.nil.go 0 l h

/-! By index: which one is a session's open one. -/
theorem Fine.one {st : List (Tx × Bool)} (h : Fine st) {s : Int} {i j : Nat} (hi : i < st.length) (hj : j < st.length) (mi : mine s st[i] = true) (mj : mine s st[j] = true) : i = j := by
  have key : ∀ {a b : Nat} (ha : a < st.length) (hb : b < st.length), a < b → mine s st[a] = true → mine s st[b] = true → False := fun {a b} ha hb hab ma mb => by
    have := List.pairwise_iff_getElem.1 h.last a b ha hb hab (((mine_iff _ _).1 ma).1.trans ((mine_iff _ _).1 mb).1.symm)
    rw [((mine_iff _ _).1 ma).2] at this
    cases this
  rcases Nat.lt_trichotomy i j with h' | h' | h'
  · exact (key hi hj h' mi mj).elim
  · exact h'
  · exact (key hj hi h' mj mi).elim
theorem upd_set {st : List (Tx × Bool)} (h : Fine st) (s : Int) (f : Tx → Tx × Bool) (k : Nat) (hk : k < st.length) (hm : mine s st[k] = true) : upd st s f = st.set k (f st[k].1) := by
  apply List.ext_getElem
  · simp [upd]
  · intro j h1 h2
    have hj : j < st.length := by simpa [upd] using h1
    rw [List.getElem_set]
    simp only [upd, List.getElem_map]
    by_cases hjk : k = j
    · subst hjk
      rw [if_pos hm, if_pos rfl]
    · rw [if_neg hjk]
      cases hmj : mine s st[j] with
      | true => exact absurd (h.one hk hj hm hmj) hjk
      | false => rw [if_neg (by simp)]
/-- A session's last transaction tells whether one is open. -/
theorem hasOpen_last {st : List (Tx × Bool)} (h : Fine st) (s : Int) (k : Nat) (hk : k < st.length) (hs : st[k].1.session = s) (ha : ∀ j (hj : j < st.length), k < j → st[j].1.session ≠ s) : hasOpen st s = st[k].2 := by
  rw [Bool.eq_iff_iff, hasOpen_iff]
  constructor
  · rintro ⟨x, hx, e1, e2⟩
    obtain ⟨i, hi, rfl⟩ := List.getElem_of_mem hx
    rcases Nat.lt_trichotomy i k with h' | h' | h'
    · have := List.pairwise_iff_getElem.1 h.last i k hi hk h' (e1.trans hs.symm)
      rw [e2] at this
      cases this
    · subst h'; exact e2
    · exact absurd e1 (ha i hi h')
  · intro e
    exact ⟨st[k], List.getElem_mem hk, hs, e⟩
theorem hasOpen_none (st : List (Tx × Bool)) (s : Int) (ha : ∀ j (hj : j < st.length), st[j].1.session ≠ s) : hasOpen st s = false := by
  rw [hasOpen_no]
  intro x hx e
  obtain ⟨i, hi, rfl⟩ := List.getElem_of_mem hx
  exact absurd e (ha i hi)
theorem mine_at {st : List (Tx × Bool)} {s : Int} {k : Nat} (hk : k < st.length) (hs : st[k].1.session = s) (ho : st[k].2 = true) : mine s st[k] = true := (mine_iff _ _).2 ⟨hs, ho⟩

/-! How many there are of each. -/
def opsOf (st : List (Tx × Bool)) : Nat := (st.map fun x => x.1.ops.length).sum
def keyed (l : List Ev.Event) : Nat := l.countP fun e => hasKey e.kind
def begins (l : List Ev.Event) : Nat := l.countP fun e => decide (e.kind = 0)
theorem sum_set (l : List Nat) (k : Nat) (hk : k < l.length) (v : Nat) (h : v = l[k] + 1) : (l.set k v).sum = l.sum + 1 := by
  induction l generalizing k with
  | nil => simp at hk
  | cons x l ih =>
    cases k with
    | zero =>
      simp only [List.getElem_cons_zero] at h
      simp [h]
      omega
    | succ k =>
      simp only [List.getElem_cons_succ] at h
      simp only [List.set_cons_succ, List.sum_cons]
      rw [ih k (by simpa using hk) h]
      omega
theorem kind_not (e : Ev.Event) (h : e.kind = 0) : hasKey e.kind = false := by rw [h]; decide
theorem counts_next {st : List (Tx × Bool)} (h : Fine st) (i : Nat) (e : Ev.Event) (hf : fault st e = 0) : opsOf (next i st e) = opsOf st + (if hasKey e.kind = true then 1 else 0) ∧ (next i st e).length = st.length + (if e.kind = 0 then 1 else 0) := by
  obtain ⟨_, hb, hn⟩ := fault_zero st e hf
  unfold next
  by_cases hk : e.kind = 0
  · rw [if_pos hk, if_pos hk, kind_not e hk, if_neg (by simp)]
    refine ⟨?_, by simp⟩
    simp [opsOf]
  · rw [if_neg hk, if_neg hk]
    obtain ⟨x, hx, e1, e2⟩ := (hasOpen_iff _ _).1 (hn hk)
    obtain ⟨k, hkk, rfl⟩ := List.getElem_of_mem hx
    have hm := mine_at hkk e1 e2
    by_cases hkey : hasKey e.kind = true
    · rw [if_pos hkey, if_pos hkey]
      refine ⟨?_, by rw [upd_len]; rfl⟩
      rw [upd_set h _ _ k hkk hm, opsOf, opsOf, List.map_set]
      exact sum_set _ k (by simpa using hkk) _ (by simp [addOp])
    · rw [if_neg hkey, if_neg hkey]
      refine ⟨?_, by rw [upd_len]; rfl⟩
      rw [opsOf, opsOf, upd, List.map_map]
      congr 1
      refine List.map_congr_left (fun y _ => ?_)
      simp only [Function.comp_apply]
      split <;> rfl
theorem counts_go {st : List (Tx × Bool)} (h : Fine st) (i : Nat) (l : List Ev.Event) (hr : run i st l = none) : opsOf (go i st l) = opsOf st + keyed l ∧ (go i st l).length = st.length + begins l := by
  induction l generalizing i st with
  | nil => exact ⟨rfl, rfl⟩
  | cons e l ih =>
    rw [run] at hr
    split at hr
    · cases hr
    · rename_i hf
      have hf0 : fault st e = 0 := by simpa using hf
      obtain ⟨i1, i2⟩ := ih (h.next i hf0) (i + 1) hr
      obtain ⟨c1, c2⟩ := counts_next h i e hf0
      rw [go, i1, i2, c1, c2]
      simp only [keyed, begins, List.countP_cons, decide_eq_true_eq]
      exact ⟨by omega, by omega⟩
/-- Each Read and Write is in one transaction, each Begin makes one, and they are not too many. -/
theorem counts (l : List Ev.Event) (h : run 0 [] l = none) : opsOf (go 0 [] l) = keyed l ∧ (go 0 [] l).length = begins l ∧ begins l ≤ 32 := by
  obtain ⟨h1, h2⟩ := counts_go Fine.nil 0 l h
  have h3 := (fine_of l h).len
  refine ⟨by rw [h1]; exact Nat.zero_add _, by rw [h2]; exact Nat.zero_add _, ?_⟩
  rw [h2, List.length_nil] at h3
  omega

theorem mem_sum (l : List Nat) (n : Nat) (h : n ∈ l) : n ≤ l.sum := by
  induction l with
  | nil => cases h
  | cons x l ih =>
    rw [List.sum_cons]
    rcases List.mem_cons.1 h with rfl | h
    · omega
    · have := ih h; omega
theorem ops_le (l : List Ev.Event) (h : run 0 [] l = none) (x : Tx × Bool) (hx : x ∈ go 0 [] l) : x.1.ops.length ≤ l.length := by
  have h1 := (counts l h).1
  have h2 : x.1.ops.length ≤ opsOf (go 0 [] l) := mem_sum _ _ (List.mem_map.2 ⟨x, hx, rfl⟩)
  have h3 : keyed l ≤ l.length := List.countP_le_length
  omega

/-! What was grouped, as events, is grouped as it was, but for where each begins. -/
def core (t : Tx) : Int × Bool × List Ev.Event := (t.session, t.done, t.ops)
theorem right_plain (k s : Int) (hk : k = 0 ∨ k = 3 ∨ k = 4) (hs : 0 ≤ s ∧ s < 8) : right ⟨k, s, 0, 0⟩ = true := by
  rw [Ev.right_iff]
  have hkey : hasKey k = false := by rcases hk with h | h | h <;> subst h <;> decide
  refine ⟨by show (0 : Int) ≤ k; omega, by show k < 5; omega, hs.1, hs.2, ?_⟩
  rw [if_neg (by show ¬ hasKey k = true; rw [hkey]; simp)]
  exact ⟨rfl, rfl⟩
theorem upd_same (st : List (Tx × Bool)) (s : Int) (f : Tx → Tx × Bool) (h : ∀ x ∈ st, x.2 = false) : upd st s f = st := by
  rw [upd]
  conv => rhs; rw [← List.map_id st]
  refine List.map_congr_left (fun x hx => ?_)
  rw [if_neg (by rw [mine_iff]; intro h'; rw [h x hx] at h'; cases h'.2)]
  rfl
theorem upd_end (st : List (Tx × Bool)) (s : Int) (f : Tx → Tx × Bool) (t : Tx) (h : ∀ x ∈ st, x.2 = false) (hs : t.session = s) : upd (st ++ [(t, true)]) s f = st ++ [f t] := by
  have e : upd (st ++ [(t, true)]) s f = upd st s f ++ upd [(t, true)] s f := by simp [upd]
  rw [e, upd_same st s f h]
  congr 1
  simp [upd, mine, hs]
theorem open_end (st : List (Tx × Bool)) (t : Tx) (s : Int) (hs : t.session = s) : hasOpen (st ++ [(t, true)]) s = true := by
  rw [hasOpen_iff]
  exact ⟨(t, true), by simp, hs, rfl⟩
theorem ops_run (st : List (Tx × Bool)) (h : ∀ x ∈ st, x.2 = false) (s : Int) (f : Int) (l : List Ev.Event) (hl : ∀ e ∈ l, right e = true ∧ hasKey e.kind = true ∧ e.session = s) (i : Nat) (acc : List Ev.Event) :
    run i (st ++ [(⟨s, false, f, acc⟩, true)]) l = none ∧ go i (st ++ [(⟨s, false, f, acc⟩, true)]) l = st ++ [(⟨s, false, f, acc ++ l⟩, true)] := by
  induction l generalizing i acc with
  | nil => exact ⟨rfl, by rw [List.append_nil]; rfl⟩
  | cons e l ih =>
    obtain ⟨h1, h2, h3⟩ := hl e (by simp)
    have hk : ¬ e.kind = 0 := fun h0 => by rw [kind_not e h0] at h2; cases h2
    have hf : fault (st ++ [(⟨s, false, f, acc⟩, true)]) e = 0 := by
      rw [fault, if_neg (by rw [h1]; simp), if_neg hk, h3, open_end st _ s rfl, if_pos rfl]
    have hn : next i (st ++ [(⟨s, false, f, acc⟩, true)]) e = st ++ [(⟨s, false, f, acc ++ [e]⟩, true)] := by
      rw [next, if_neg hk, if_pos h2, h3, upd_end st s (addOp e) _ h rfl]
      rfl
    obtain ⟨i1, i2⟩ := ih (fun e' he => hl e' (List.mem_cons_of_mem _ he)) (i + 1) (acc ++ [e])
    rw [run, go, hf, if_neg (by simp), hn]
    refine ⟨i1, ?_⟩
    rw [i2, List.append_assoc]
    rfl
theorem tx_run (st : List (Tx × Bool)) (h : ∀ x ∈ st, x.2 = false) (hl : st.length < 32) (t : Tx) (hs : 0 ≤ t.session ∧ t.session < 8) (ho : ∀ e ∈ t.ops, right e = true ∧ hasKey e.kind = true ∧ e.session = t.session) (i : Nat) :
    run i st (txEvents t) = none ∧ go i st (txEvents t) = st ++ [({ t with first := (i : Int) }, false)] := by
  have hf : fault st (beginOf t) = 0 := by
    rw [fault, if_neg (by rw [beginOf, right_plain 0 _ (.inl rfl) hs]; simp), if_pos (show (beginOf t).kind = 0 from rfl), (hasOpen_no _ _).2 (fun x hx _ => h x hx), if_neg (by simp), if_neg (by omega)]
  have hn : next i st (beginOf t) = st ++ [(⟨t.session, false, (i : Int), []⟩, true)] := rfl
  obtain ⟨o1, o2⟩ := ops_run st h t.session (i : Int) t.ops ho (i + 1) []
  have hk : ¬ (endOf t).kind = 0 := by
    show ¬ (if t.done = true then (3 : Int) else 4) = 0
    split <;> omega
  have hkey : ¬ hasKey (endOf t).kind = true := by
    show ¬ hasKey (if t.done = true then (3 : Int) else 4) = true
    split <;> decide
  have hr : right (endOf t) = true := by
    refine right_plain _ _ ?_ hs
    by_cases hd : t.done = true
    · rw [if_pos hd]; exact .inr (.inl rfl)
    · rw [if_neg hd]; exact .inr (.inr rfl)
  have hse : (endOf t).session = t.session := rfl
  rw [List.nil_append] at o2
  have hf2 : fault (st ++ [(⟨t.session, false, (i : Int), t.ops⟩, true)]) (endOf t) = 0 := by
    rw [fault, if_neg (by rw [hr]; simp), if_neg hk, hse, open_end st _ _ rfl, if_pos rfl]
  have hd : decide ((endOf t).kind = 3) = t.done := by
    show decide ((if t.done = true then (3 : Int) else 4) = 3) = t.done
    cases t.done <;> rfl
  have hn2 : ∀ j, next j (st ++ [(⟨t.session, false, (i : Int), t.ops⟩, true)]) (endOf t) = st ++ [({ t with first := (i : Int) }, false)] := fun j => by
    rw [next, if_neg hk, if_neg hkey, hse, upd_end st _ _ _ h rfl, hd]
    rfl
  rw [txEvents, run, go, hf, if_neg (by simp), hn]
  refine ⟨run_both _ _ _ _ o1 ?_, ?_⟩
  · rw [o2, run_one, hf2, if_neg (by simp)]
  · rw [go_append, o2, go, hn2, go]
theorem txs_run (a : List Tx) (ha : ∀ t ∈ a, (0 ≤ t.session ∧ t.session < 8) ∧ ∀ e ∈ t.ops, right e = true ∧ hasKey e.kind = true ∧ e.session = t.session) (st : List (Tx × Bool)) (h : ∀ x ∈ st, x.2 = false) (hl : st.length + a.length ≤ 32) (i : Nat) :
    run i st (eventsR a) = none ∧ ∃ b : List Tx, go i st (eventsR a) = st ++ b.map (fun t => (t, false)) ∧ b.map core = a.map core := by
  induction a generalizing i st with
  | nil => exact ⟨rfl, [], by simp [eventsR, go], rfl⟩
  | cons t a ih =>
    rw [List.length_cons] at hl
    obtain ⟨h1, h2⟩ := ha t (by simp)
    obtain ⟨r1, r2⟩ := tx_run st h (by omega) t h1 h2 i
    obtain ⟨i1, b, i2, i3⟩ := ih (fun t' ht => ha t' (List.mem_cons_of_mem _ ht)) (st ++ [({ t with first := (i : Int) }, false)]) (fun x hx => by
      rcases List.mem_append.1 hx with hx | hx
      · exact h x hx
      · rw [List.mem_singleton.1 hx]) (by rw [List.length_append, List.length_singleton]; omega) (i + (txEvents t).length)
    have e : eventsR (t :: a) = txEvents t ++ eventsR a := by simp [eventsR]
    rw [e]
    refine ⟨run_both _ _ _ _ r1 (by rw [r2]; exact i1), { t with first := (i : Int) } :: b, ?_, ?_⟩
    · rw [go_append, r2, i2, List.append_assoc]
      rfl
    · rw [List.map_cons, List.map_cons, i3]
      rfl
/-- The transactions of right events. -/
def txs (l : List Ev.Event) : List Tx := (go 0 [] l).map (·.1)
theorem txs_fine (l : List Ev.Event) (h : run 0 [] l = none) : (txs l).length ≤ 32 ∧ ∀ t ∈ txs l, (0 ≤ t.session ∧ t.session < 8) ∧ ∀ e ∈ t.ops, right e = true ∧ hasKey e.kind = true ∧ e.session = t.session := by
  have hf := fine_of l h
  refine ⟨by rw [txs, List.length_map]; exact hf.len, fun t ht => ?_⟩
  obtain ⟨x, hx, rfl⟩ := List.mem_map.1 ht
  exact ⟨hf.sess x hx, hf.ops x hx⟩
theorem back (l : List Ev.Event) (h : run 0 [] l = none) : run 0 [] (eventsR (txs l)) = none ∧ (txs (eventsR (txs l))).map core = (txs l).map core := by
  obtain ⟨h1, h2⟩ := txs_fine l h
  obtain ⟨r1, b, r2, r3⟩ := txs_run (txs l) h2 [] (by simp) (by simpa using h1) 0
  refine ⟨r1, ?_⟩
  have e : (b.map fun t => (t, false)).map (·.1) = b := by
    rw [List.map_map]
    exact List.map_id b
  rw [txs, r2, List.nil_append, e, r3]

/-! One session's events alone. -/
def ofS (s : Int) (e : Ev.Event) : Bool := decide (e.session = s)
def txS (s : Int) (x : Tx × Bool) : Bool := decide (x.1.session = s)
/-- Where a session's events are. -/
def places (s : Int) (i : Nat) : List Ev.Event → List Nat
  | [] => []
  | e :: r => if ofS s e = true then i :: places s (i + 1) r else places s (i + 1) r
def look (pl : List Nat) (n : Int) : Int := (pl.getD n.toNat 0 : Int)
def turn (pl : List Nat) (x : Tx × Bool) : Tx × Bool := ({ x.1 with first := look pl x.1.first }, x.2)
structure Apart (s : Int) (pl : List Nat) (st st' : List (Tx × Bool)) : Prop where
  same : st.filter (txS s) = st'.map (turn pl)
  only : ∀ x ∈ st', x.1.session = s ∧ 0 ≤ x.1.first ∧ x.1.first < (pl.length : Int)
theorem look_more (pl q : List Nat) (n : Int) (h0 : 0 ≤ n) (h : n < (pl.length : Int)) : look (pl ++ q) n = look pl n := by
  unfold look
  rw [List.getD_eq_getElem?_getD, List.getD_eq_getElem?_getD, List.getElem?_append_left (by omega)]
theorem look_end (pl : List Nat) (i : Nat) : look (pl ++ [i]) (pl.length : Int) = (i : Int) := by
  unfold look
  rw [Int.toNat_natCast, List.getD_eq_getElem?_getD]
  simp
theorem turn_more (pl q : List Nat) (st' : List (Tx × Bool)) (h : ∀ x ∈ st', 0 ≤ x.1.first ∧ x.1.first < (pl.length : Int)) : st'.map (turn (pl ++ q)) = st'.map (turn pl) := by
  refine List.map_congr_left (fun x hx => ?_)
  unfold turn
  rw [look_more pl q _ (h x hx).1 (h x hx).2]
theorem hasOpen_filter (st : List (Tx × Bool)) (s : Int) : hasOpen (st.filter (txS s)) s = hasOpen st s := by
  rw [Bool.eq_iff_iff, hasOpen_iff, hasOpen_iff]
  constructor
  · rintro ⟨x, hx, h⟩
    exact ⟨x, (List.mem_filter.1 hx).1, h⟩
  · rintro ⟨x, hx, h1, h2⟩
    exact ⟨x, List.mem_filter.2 ⟨hx, by simpa [txS] using h1⟩, h1, h2⟩
theorem hasOpen_turn (pl : List Nat) (st' : List (Tx × Bool)) (s : Int) : hasOpen (st'.map (turn pl)) s = hasOpen st' s := by
  simp only [hasOpen, List.any_map]
  rfl
theorem filter_upd (st : List (Tx × Bool)) (s s' : Int) (f : Tx → Tx × Bool) (hf : ∀ t, (f t).1.session = t.session) : (upd st s' f).filter (txS s) = upd (st.filter (txS s)) s' f := by
  rw [upd, upd, List.filter_map]
  congr 1
  refine List.filter_congr (fun x _ => ?_)
  simp only [Function.comp_apply, txS]
  split <;> simp [hf]
theorem upd_other (st : List (Tx × Bool)) (s s' : Int) (f : Tx → Tx × Bool) (hs : s ≠ s') (h : ∀ x ∈ st, x.1.session = s) : upd st s' f = st := by
  rw [upd]
  conv => rhs; rw [← List.map_id st]
  refine List.map_congr_left (fun x hx => ?_)
  rw [if_neg (by rw [mine_iff]; intro h'; exact hs ((h x hx).symm.trans h'.1))]
  rfl
theorem upd_turn (pl : List Nat) (st' : List (Tx × Bool)) (s : Int) (f : Tx → Tx × Bool) (hf : ∀ x : Tx × Bool, turn pl (f x.1) = f (turn pl x).1) : upd (st'.map (turn pl)) s f = (upd st' s f).map (turn pl) := by
  rw [upd, upd, List.map_map, List.map_map]
  refine List.map_congr_left (fun x _ => ?_)
  have e : mine s (turn pl x) = mine s x := rfl
  simp only [Function.comp_apply, e]
  split
  · exact (hf x).symm
  · rfl
theorem upd_only {s s' : Int} {pl : List Nat} {st' : List (Tx × Bool)} {f : Tx → Tx × Bool} (hf : ∀ t, (f t).1.session = t.session ∧ (f t).1.first = t.first) (h : ∀ x ∈ st', x.1.session = s ∧ 0 ≤ x.1.first ∧ x.1.first < (pl.length : Int)) (q : List Nat) : ∀ x ∈ upd st' s' f, x.1.session = s ∧ 0 ≤ x.1.first ∧ x.1.first < ((pl ++ q).length : Int) := by
  intro x hx
  rw [List.length_append]
  rcases mem_upd hx with ⟨hx, _⟩ | ⟨y, hy, _, rfl⟩
  · obtain ⟨h1, h2, h3⟩ := h x hx
    exact ⟨h1, h2, by omega⟩
  · obtain ⟨h1, h2, h3⟩ := h y hy
    rw [(hf y.1).1, (hf y.1).2]
    exact ⟨h1, h2, by omega⟩
/-- An event of another session. -/
theorem Apart.other {s : Int} {pl : List Nat} {st st' : List (Tx × Bool)} (h : Apart s pl st st') (i : Nat) (e : Ev.Event) (he : ofS s e = false) : Apart s pl (next i st e) st' := by
  have hne : s ≠ e.session := fun h' => by rw [ofS, h', decide_eq_true rfl] at he; cases he
  have hall : ∀ x ∈ st.filter (txS s), x.1.session = s := fun x hx => by simpa [txS] using (List.mem_filter.1 hx).2
  refine ⟨?_, h.only⟩
  unfold next
  split
  · rw [List.filter_append, ← h.same]
    have : ([(⟨e.session, false, (i : Int), []⟩, true)] : List (Tx × Bool)).filter (txS s) = [] := by
      simp [txS]
      exact fun h' => hne h'.symm
    rw [this, List.append_nil]
  · split
    · rw [filter_upd _ _ _ _ (by intro t; rfl), upd_other _ s _ _ hne hall, h.same]
    · rw [filter_upd _ _ _ _ (by intro t; rfl), upd_other _ s _ _ hne hall, h.same]
/-- An event of that session. -/
theorem Apart.own {s : Int} {pl : List Nat} {st st' : List (Tx × Bool)} (h : Apart s pl st st') (hF : Fine st) (i : Nat) (e : Ev.Event) (he : ofS s e = true) (hf : fault st e = 0) : fault st' e = 0 ∧ Apart s (pl ++ [i]) (next i st e) (next pl.length st' e) := by
  have hs : e.session = s := by simpa [ofS] using he
  obtain ⟨hr, hb, hn⟩ := fault_zero st e hf
  have ho : hasOpen st' s = hasOpen st s := by rw [← hasOpen_turn pl st' s, ← h.same, hasOpen_filter]
  have hlen : st'.length ≤ st.length := by
    have := congrArg List.length h.same
    rw [List.length_map] at this
    rw [← this]
    exact List.length_filter_le _ _
  have hlast : ∀ x ∈ st', 0 ≤ x.1.first ∧ x.1.first < (pl.length : Int) := fun x hx => (h.only x hx).2
  constructor
  · unfold fault
    rw [if_neg (by rw [hr]; simp)]
    by_cases hk : e.kind = 0
    · obtain ⟨h1, h2⟩ := hb hk
      rw [if_pos hk, hs, ho, ← hs, h1, if_neg (by simp), if_neg (by have := hF.len; omega)]
    · rw [if_neg hk, hs, ho, ← hs, hn hk, if_pos rfl]
  · unfold next
    by_cases hk : e.kind = 0
    · rw [if_pos hk, if_pos hk]
      refine ⟨?_, ?_⟩
      · rw [List.filter_append, h.same, List.map_append, turn_more pl [i] st' hlast]
        congr 1
        simp [txS, hs, turn, look_end]
      · intro x hx
        rw [List.length_append, List.length_singleton]
        rcases List.mem_append.1 hx with hx | hx
        · obtain ⟨h1, h2, h3⟩ := h.only x hx
          exact ⟨h1, h2, by omega⟩
        · rw [List.mem_singleton.1 hx]
          exact ⟨hs, by show (0 : Int) ≤ (pl.length : Int); omega, by show ((pl.length : Nat) : Int) < _; omega⟩
    · rw [if_neg hk, if_neg hk]
      split
      · refine ⟨?_, upd_only (fun _ => ⟨rfl, rfl⟩) h.only [i]⟩
        rw [filter_upd _ _ _ _ (by intro t; rfl), h.same, ← turn_more pl [i] st' hlast, upd_turn _ _ _ _ (fun _ => rfl)]
      · refine ⟨?_, upd_only (fun _ => ⟨rfl, rfl⟩) h.only [i]⟩
        rw [filter_upd _ _ _ _ (by intro t; rfl), h.same, ← turn_more pl [i] st' hlast, upd_turn _ _ _ _ (fun _ => rfl)]
theorem apart_go (s : Int) (l : List Ev.Event) (i : Nat) (st st' : List (Tx × Bool)) (pl : List Nat) (hF : Fine st) (hr : run i st l = none) (h : Apart s pl st st') : run pl.length st' (l.filter (ofS s)) = none ∧ Apart s (pl ++ places s i l) (go i st l) (go pl.length st' (l.filter (ofS s))) := by
  induction l generalizing i st st' pl with
  | nil =>
    refine ⟨rfl, ?_⟩
    rw [places, List.append_nil]
    exact h
  | cons e l ih =>
    rw [run] at hr
    split at hr
    · cases hr
    · rename_i hf
      have hf0 : fault st e = 0 := by simpa using hf
      cases he : ofS s e with
      | true =>
        obtain ⟨f1, f2⟩ := h.own hF i e he hf0
        obtain ⟨i1, i2⟩ := ih (i + 1) _ _ (pl ++ [i]) (hF.next i hf0) hr f2
        rw [List.length_append, List.length_singleton] at i1 i2
        rw [List.filter_cons_of_pos he, run, go, go, f1, if_neg (by simp), places, if_pos he]
        refine ⟨i1, ?_⟩
        rw [show pl ++ i :: places s (i + 1) l = pl ++ [i] ++ places s (i + 1) l by simp]
        exact i2
      | false =>
        obtain ⟨i1, i2⟩ := ih (i + 1) _ _ pl (hF.next i hf0) hr (h.other i e he)
        rw [List.filter_cons_of_neg (by rw [he]; simp), go, places, if_neg (by rw [he]; simp)]
        exact ⟨i1, i2⟩
/-- One session's events alone are that session's transactions, but for where each begins: P5.3. -/
theorem apart (s : Int) (l : List Ev.Event) (h : run 0 [] l = none) : run 0 [] (l.filter (ofS s)) = none ∧
    (txs l).filter (fun t => decide (t.session = s)) = (txs (l.filter (ofS s))).map (fun t => { t with first := look (places s 0 l) t.first }) ∧
    ∀ t ∈ txs (l.filter (ofS s)), t.session = s ∧ 0 ≤ t.first ∧ t.first < ((places s 0 l).length : Int) := by
  obtain ⟨h1, h2⟩ := apart_go s l 0 [] [] [] Fine.nil h ⟨rfl, fun x hx => by cases hx⟩
  rw [List.nil_append] at h2
  refine ⟨h1, ?_, ?_⟩
  · have e := congrArg (List.map (·.1)) h2.same
    rw [txs, txs, List.map_map, List.filter_map]
    rw [List.map_map] at e
    exact e
  · intro t ht
    obtain ⟨x, hx, rfl⟩ := List.mem_map.1 ht
    exact h2.only x hx
end Go.Proofs.YtfjamdpgbbnmcaaGreatDoor.Gr
/-
  Words for rows of transactions in memory: a slice that reads as a list of transactions, each with its own slice of events, and how that lasts; such a row of a call's own, as it grows and is written.
  Conditions: none beyond those that each theorem states.
-/
set_option maxRecDepth 4000
namespace Go.Proofs.YtfjamdpgbbnmcaaGreatDoor
open Go.RowKit

theorem far_cell {w : World} {a p : Addr} {v : Value} (h : a.block ≠ p.block) : (w.setCell p v).cell? a = w.cell? a := World.cell?_of_block (Below.heap_setCell w p v a.block h)

/-! Elements of four cells. -/
section
variable {α : Type} {f : α → List Value}
theorem four_len (hf : ∀ x, (f x).length = 4) (p : List α) : (p.flatMap f).length = p.length * 4 := by
  induction p with
  | nil => rfl
  | cons x p ih => rw [List.flatMap_cons, List.length_append, ih, List.length_cons, hf]; omega
theorem four_at (hf : ∀ x, (f x).length = 4) (p : List α) (k : Nat) (hk : k < p.length) (j : Nat) (hj : j < 4) : (p.flatMap f)[k * 4 + j]? = (f p[k])[j]? := by
  induction p generalizing k with
  | nil => simp at hk
  | cons x p ih =>
    rw [List.flatMap_cons]
    cases k with
    | zero => rw [List.getElem?_append_left (by rw [hf]; omega)]; simp
    | succ k =>
      rw [List.getElem?_append_right (by rw [hf]; omega), hf, show (k + 1) * 4 + j - 4 = k * 4 + j by omega]
      exact ih k (by simpa using hk)
theorem four_set (hf : ∀ x, (f x).length = 4) (p : List α) (k : Nat) (hk : k < p.length) (j : Nat) (hj : j < 4) (y : α) (u : Value) (he : f y = (f p[k]).set j u) : (p.flatMap f).set (k * 4 + j) u = (p.set k y).flatMap f := by
  induction p generalizing k with
  | nil => simp at hk
  | cons x p ih =>
    rw [List.flatMap_cons]
    cases k with
    | zero =>
      rw [List.set_append_left _ _ (by rw [hf]; omega), List.set_cons_zero, List.flatMap_cons, he]
      simp
    | succ k =>
      rw [List.set_append_right _ _ (by rw [hf]; omega), hf, show (k + 1) * 4 + j - 4 = k * 4 + j by omega, ih k (by simpa using hk) he, List.set_cons_succ, List.flatMap_cons]
end

/-- A transaction's cells, beside the slice of its events. -/
def txC (x : Gr.Tx × Value) : List Value := [.int .i64 x.1.session, .bool x.1.done, .int .i64 x.1.first, x.2]
theorem txC_len (x : Gr.Tx × Value) : (txC x).length = 4 := rfl

/-- The slice value v reads as the transactions l. -/
def Txs (w : World) (v : Value) (l : List Gr.Tx) : Prop := ∃ p : List (Gr.Tx × Value), p.map (·.1) = l ∧ Sl w 4 v p.length (p.flatMap txC) ∧ ∀ x ∈ p, Evs w x.2 x.1.ops
theorem Txs.below {w w' : World} {v : Value} {l : List Gr.Tx} (h : Txs w v l) (hb : Below w.heap.size w w') : Txs w' v l := by
  obtain ⟨p, h1, h2, h3⟩ := h
  exact ⟨p, h1, h2.below hb, fun x hx => (h3 x hx).below hb⟩
theorem Txs.nil (w : World) (A : Option Addr) : Txs w (.slice A 0 0) [] := ⟨[], rfl, Sl.nil w 4 A, fun x hx => by cases hx⟩
theorem Txs.none_ {w : World} {v : Value} {l : List Gr.Tx} (h : Txs w v l) (hl : l = []) : ∃ A c, v = .slice A 0 c := by
  obtain ⟨p, h1, h2, _⟩ := h
  subst hl
  obtain rfl : p = [] := List.map_eq_nil_iff.1 h1
  obtain ⟨A, c, hv, _⟩ := h2.form
  exact ⟨A, c, hv⟩

/-- Element k of a slice is the transaction t, its events in the slice u, as the walk spells its cells' places. -/
structure TxIn (w : World) (ad : Addr) (k : Nat) (t : Gr.Tx) (u : Value) : Prop where
  c0 : w.cell? (ad.add (k * 4)) = some (.int .i64 t.session)
  c1 : w.cell? ⟨(ad.add (k * 4)).block, (ad.add (k * 4)).off + 1, none⟩ = some (.bool t.done)
  c2 : w.cell? ⟨(ad.add (k * 4)).block, (ad.add (k * 4)).off + 2, none⟩ = some (.int .i64 t.first)
  c3 : w.cell? ⟨(ad.add (k * 4)).block, (ad.add (k * 4)).off + 3, none⟩ = some u
theorem TxIn.below {w w' : World} {ad : Addr} {k : Nat} {t : Gr.Tx} {u : Value} (h : TxIn w ad k t u) (hlt : ad.block < w.heap.size) (hb : Below w.heap.size w w') : TxIn w' ad k t u := by
  have e : ad.block = (ad.add (k * 4)).block := (add_block ad _).symm
  refine ⟨(hb.cell ?_).trans h.c0, (hb.cell ?_).trans h.c1, (hb.cell ?_).trans h.c2, (hb.cell ?_).trans h.c3⟩
  all_goals exact e ▸ hlt
theorem Txs.spelled {w : World} {v : Value} {l : List Gr.Tx} (h : Txs w v l) :
    ∃ A c, v = .slice A l.length c ∧ ∀ (k : Nat) (hk : k < l.length), ∃ (ad : Addr) (u : Value), A = some ad ∧ ad.block < w.heap.size ∧ TxIn w ad k l[k] u ∧ Evs w u l[k].ops := by
  obtain ⟨p, rfl, h2, h3⟩ := h
  obtain ⟨A, c, hv, hh⟩ := h2.form
  refine ⟨A, c, by rw [List.length_map]; exact hv, fun k hk => ?_⟩
  rw [List.length_map] at hk
  obtain ⟨ad, e, hb, hc⟩ := hh (by omega)
  have key : ∀ j (hj : j < 4) x, (txC p[k])[j]? = some x → w.cell? (ad.add (k * 4 + j)) = some x := fun j hj x hx => hc _ _ ((four_at txC_len p k hk j hj).trans hx)
  refine ⟨ad, p[k].2, e, hb, ⟨?_, ?_, ?_, ?_⟩, ?_⟩
  · rw [List.getElem_map]; exact key 0 (by omega) _ rfl
  · rw [add_next ad _ 1 (by omega), List.getElem_map]; exact key 1 (by omega) _ rfl
  · rw [add_next ad _ 2 (by omega), List.getElem_map]; exact key 2 (by omega) _ rfl
  · rw [add_next ad _ 3 (by omega)]; exact key 3 (by omega) _ rfl
  · rw [List.getElem_map]; exact h3 _ (List.getElem_mem hk)

/-- A row of transactions of the call's own: its own block, each one's events in a block of their own, no two in one. -/
structure OwnTxs (w : World) (base : Nat) (t e : TypeId) (v : Value) (p : List (Gr.Tx × Value)) : Prop where
  row : w.ownsRow base t 4 v p.length (p.flatMap txC)
  ops : ∀ x ∈ p, w.ownsRow base e 4 x.2 x.1.ops.length (x.1.ops.flatMap evCells)
  apart : ∀ x ∈ p, x.2.ownBlock = none ∨ x.2.ownBlock ≠ v.ownBlock
  each : p.Pairwise fun x y => x.2.ownBlock = none ∨ x.2.ownBlock ≠ y.2.ownBlock
theorem OwnTxs.nil (w : World) (base : Nat) (t e : TypeId) : OwnTxs w base t e (.slice none 0 0) [] := ⟨World.ownsRow_nil _ _ _ _, fun _ hx => (List.not_mem_nil hx).elim, fun _ hx => (List.not_mem_nil hx).elim, List.Pairwise.nil⟩
theorem OwnTxs.lit (w : World) (base : Nat) (t e : TypeId) (hb : base ≤ w.heap.size) : OwnTxs (w.alloc (.cells #[] t)) base t e (.slice (some ⟨w.heap.size, 0, none⟩) 0 0) [] :=
  ⟨World.ownsRow_lit w #[] 0 hb (by simp [maxLen]) (by simp), fun _ hx => (List.not_mem_nil hx).elim, fun _ hx => (List.not_mem_nil hx).elim, List.Pairwise.nil⟩
theorem OwnTxs.below {w w' : World} {base : Nat} {t e : TypeId} {v : Value} {p : List (Gr.Tx × Value)} (h : OwnTxs w base t e v p) (hb : Below w.heap.size w w') : OwnTxs w' base t e v p :=
  ⟨own_below h.row hb, fun x hx => own_below (h.ops x hx) hb, h.apart, h.each⟩
theorem OwnTxs.drewN {w : World} {base : Nat} {t e : TypeId} {v : Value} {p : List (Gr.Tx × Value)} (h : OwnTxs w base t e v p) (k : Nat) : OwnTxs (w.drewN k) base t e v p := ⟨h.row, h.ops, h.apart, h.each⟩
theorem OwnTxs.txs {w : World} {base : Nat} {t e : TypeId} {v : Value} {p : List (Gr.Tx × Value)} (h : OwnTxs w base t e v p) : Txs w v (p.map (·.1)) := ⟨p, rfl, Sl.own h.row, fun x hx => Evs.own (h.ops x hx)⟩

theorem ne_fresh {w : World} {base size n : Nat} {e : TypeId} {v : Value} {xs : List Value} (h : w.ownsRow base e size v n xs) : v.ownBlock = none ∨ v.ownBlock ≠ some w.heap.size := by
  cases hv : v.ownBlock with
  | none => exact .inl rfl
  | some k =>
    refine .inr fun h' => ?_
    have := (h.lt k hv).2
    cases h'
    omega
/-- One transaction more, whose events are none. -/
theorem OwnTxs.snoc {w w' : World} {base : Nat} {t e : TypeId} {v v' : Value} {p : List (Gr.Tx × Value)} {x : Gr.Tx} (h : OwnTxs w base t e v p) (hx : x.ops = []) (hrow : w'.ownsRow base t 4 v' (p.length + 1) (p.flatMap txC ++ txC (x, .slice none 0 0))) (hg : w.grownBy w' v.ownBlock) (hv : v'.ownBlock = v.ownBlock ∨ v'.ownBlock = some w.heap.size) : OwnTxs w' base t e v' (p ++ [(x, .slice none 0 0)]) := by
  refine ⟨?_, ?_, ?_, ?_⟩
  · rw [List.length_append, List.flatMap_append]
    simpa using hrow
  · intro y hy
    rcases List.mem_append.1 hy with hy | hy
    · exact (h.ops y hy).kept hg (h.apart y hy)
    · rw [List.mem_singleton.1 hy]
      show w'.ownsRow base e 4 (.slice none 0 0) x.ops.length (x.ops.flatMap evCells)
      rw [hx]
      exact World.ownsRow_nil _ _ _ _
  · intro y hy
    rcases List.mem_append.1 hy with hy | hy
    · rcases hv with hv | hv
      · rw [hv]; exact h.apart y hy
      · rw [hv]; exact ne_fresh (h.ops y hy)
    · rw [List.mem_singleton.1 hy]
      exact .inl rfl
  · rw [List.pairwise_append]
    refine ⟨h.each, List.pairwise_singleton _ _, fun y hy z hz => ?_⟩
    rw [List.mem_singleton.1 hz]
    cases hy' : y.2.ownBlock with
    | none => exact .inl rfl
    | some k => exact .inr (fun h' => by cases h')
/-- Where the row's cells lie, once it has one. -/
theorem OwnTxs.form {w : World} {base : Nat} {t e : TypeId} {v : Value} {p : List (Gr.Tx × Value)} (h : OwnTxs w base t e v p) (k : Nat) (hk : k < p.length) :
    ∃ g c, v = .slice (some ⟨g, 0, none⟩) p.length c ∧ ∀ j, j < 4 → w.cell? ⟨g, k * 4 + j, none⟩ = (txC p[k])[j]? ∧ w.frozen? ⟨g, k * 4 + j, none⟩ = false := by
  rcases h.row.2 with ⟨_, h0⟩ | ⟨g, cap, cur, rfl, _⟩
  · omega
  · refine ⟨g, cap, rfl, fun j hj => ⟨?_, h.row.frozenAt _⟩⟩
    rw [h.row.cellAt _ (by omega), four_at txC_len p k hk j hj]
theorem each_at {p : List (Gr.Tx × Value)} (h : p.Pairwise fun x y => x.2.ownBlock = none ∨ x.2.ownBlock ≠ y.2.ownBlock) (i j : Nat) (hi : i < p.length) (hj : j < p.length) (hij : i ≠ j) : p[i].2.ownBlock = none ∨ p[i].2.ownBlock ≠ p[j].2.ownBlock := by
  rcases Nat.lt_or_gt_of_ne hij with h' | h'
  · exact List.pairwise_iff_getElem.1 h i j hi hj h'
  · rcases List.pairwise_iff_getElem.1 h j i hj hi h' with e | e
    · cases hb : p[i].2.ownBlock with
      | none => exact .inl rfl
      | some b => exact .inr (by rw [e]; simp)
    · exact .inr fun e' => e e'.symm
theorem mem_set_at {α : Type} {p : List α} {k : Nat} {y x : α} (hx : x ∈ p.set k y) : x = y ∨ ∃ i, ∃ hi : i < p.length, i ≠ k ∧ x = p[i] := by
  obtain ⟨i, hi, rfl⟩ := List.getElem_of_mem hx
  rw [List.length_set] at hi
  rw [List.getElem_set]
  by_cases h : k = i
  · rw [if_pos h]; exact .inl rfl
  · rw [if_neg h]; exact .inr ⟨i, hi, fun e => h e.symm, rfl⟩
/-- A cell of a transaction that is no slice is written. -/
theorem OwnTxs.put {w : World} {base : Nat} {t e : TypeId} {g c : Nat} {p : List (Gr.Tx × Value)} (h : OwnTxs w base t e (.slice (some ⟨g, 0, none⟩) p.length c) p) (k : Nat) (hk : k < p.length) (j : Nat) (hj : j < 4) (x : Gr.Tx) (u : Value) (hx : txC (x, p[k].2) = (txC p[k]).set j u) (ho : x.ops = p[k].1.ops) :
    OwnTxs (w.setCell ⟨g, k * 4 + j, none⟩ u) base t e (.slice (some ⟨g, 0, none⟩) p.length c) (p.set k (x, p[k].2)) := by
  obtain ⟨s1, s2⟩ := h.row.stored (k * 4 + j) u
  refine ⟨?_, ?_, ?_, ?_⟩
  · rw [four_set txC_len p k hk j hj _ u hx] at s1
    rw [List.length_set]
    exact s1
  · intro y hy
    rcases mem_set_at hy with rfl | ⟨i, hi, _, rfl⟩
    · show (w.setCell _ u).ownsRow base e 4 p[k].2 x.ops.length (x.ops.flatMap evCells)
      rw [ho]
      exact (h.ops _ (List.getElem_mem hk)).kept s2 (h.apart _ (List.getElem_mem hk))
    · exact (h.ops _ (List.getElem_mem hi)).kept s2 (h.apart _ (List.getElem_mem hi))
  · intro y hy
    rcases mem_set_at hy with rfl | ⟨i, hi, _, rfl⟩
    · exact h.apart p[k] (List.getElem_mem hk)
    · exact h.apart _ (List.getElem_mem hi)
  · rw [List.pairwise_iff_getElem]
    intro i j' hi hj' hij
    rw [List.length_set] at hi hj'
    have key : ∀ m (hm : m < p.length), ((p.set k (x, p[k].2))[m]'(by rw [List.length_set]; exact hm)).2 = p[m].2 := fun m hm => by
      rw [List.getElem_set]
      split
      · rename_i h'; subst h'; rfl
      · rfl
    rw [key i hi, key j' hj']
    exact each_at h.each i j' hi hj' (by omega)
/-- A transaction's events have grown (in their block, or in a new one), and their slice is laid into its cell. -/
theorem OwnTxs.grow {w w1 : World} {base : Nat} {t e : TypeId} {g c : Nat} {p : List (Gr.Tx × Value)} (h : OwnTxs w base t e (.slice (some ⟨g, 0, none⟩) p.length c) p) (k : Nat) (hk : k < p.length) (x : Gr.Tx) (u : Value)
    (hx : x.session = p[k].1.session ∧ x.done = p[k].1.done ∧ x.first = p[k].1.first) (hu : w1.ownsRow base e 4 u x.ops.length (x.ops.flatMap evCells)) (hg : w.grownBy w1 p[k].2.ownBlock) (hv : u.ownBlock = p[k].2.ownBlock ∨ u.ownBlock = some w.heap.size) :
    OwnTxs (w1.setCell ⟨g, k * 4 + 3, none⟩ u) base t e (.slice (some ⟨g, 0, none⟩) p.length c) (p.set k (x, u)) := by
  have hrow1 : w1.ownsRow base t 4 (.slice (some ⟨g, 0, none⟩) p.length c) p.length (p.flatMap txC) := by
    refine h.row.kept hg ?_
    rcases h.apart _ (List.getElem_mem hk) with e1 | e1
    · rw [e1]; exact .inr (by simp [Value.ownBlock])
    · exact .inr fun e2 => e1 e2.symm
  obtain ⟨s1, s2⟩ := hrow1.stored (k * 4 + 3) u
  have hug : u.ownBlock = none ∨ u.ownBlock ≠ some g := by
    rcases hv with hv | hv
    · rw [hv]; exact h.apart _ (List.getElem_mem hk)
    · rw [hv]
      refine .inr fun e1 => ?_
      have := (h.row.lt g rfl).2
      cases e1
      omega
  have hothers : ∀ i (hi : i < p.length), i ≠ k → p[i].2.ownBlock = none ∨ p[i].2.ownBlock ≠ u.ownBlock := fun i hi hik => by
    rcases hv with hv | hv
    · rw [hv]; exact each_at h.each i k hi hk hik
    · rw [hv]; exact ne_fresh (h.ops _ (List.getElem_mem hi))
  refine ⟨?_, ?_, ?_, ?_⟩
  · rw [four_set txC_len p k hk 3 (by omega) (x, u) u (by simp [txC, hx])] at s1
    rw [List.length_set]
    exact s1
  · intro y hy
    rcases mem_set_at hy with rfl | ⟨i, hi, hik, rfl⟩
    · exact hu.kept s2 hug
    · exact ((h.ops _ (List.getElem_mem hi)).kept hg (each_at h.each i k hi hk hik)).kept s2 (h.apart _ (List.getElem_mem hi))
  · intro y hy
    rcases mem_set_at hy with rfl | ⟨i, hi, _, rfl⟩
    · exact hug
    · exact h.apart _ (List.getElem_mem hi)
  · rw [List.pairwise_iff_getElem]
    intro i j hi hj hij
    rw [List.length_set] at hi hj
    rw [List.getElem_set, List.getElem_set]
    by_cases h1 : k = i
    · rw [if_pos h1, if_neg (by omega)]
      rcases hothers j hj (by omega) with e1 | e1
      · cases hb : u.ownBlock with
        | none => exact .inl rfl
        | some b => exact .inr (by rw [e1]; simp)
      · exact .inr fun e2 => e1 e2.symm
    · rw [if_neg h1]
      by_cases h2 : k = j
      · rw [if_pos h2]
        exact hothers i hi (by omega)
      · rw [if_neg h2]
        exact each_at h.each i j hi hj (by omega)

/-- Transactions, a place and an error: what a call hands back lies in memory of its own; what was there stays. -/
def RetTxs (w : World) (r : List Gr.Tx × Int × Int) (e : Ending) (w' : World) : Prop := ∃ v, e = .returned (.tuple #[v, .int .i64 r.2.1, .int .i64 r.2.2]) ∧ Txs w' v r.1 ∧ Below w.heap.size w w'
theorem RetTxs.mk {w w' : World} {r : List Gr.Tx × Int × Int} (v : Value) (n q : Int) (hn : r.2.1 = n) (hq : r.2.2 = q) (hs : Txs w' v r.1) (hb : Below w.heap.size w w') : RetTxs w r (.returned (.tuple #[v, .int .i64 n, .int .i64 q])) w' :=
  ⟨v, by rw [hn, hq], hs, hb⟩
end Go.Proofs.YtfjamdpgbbnmcaaGreatDoor
/-
  A slice of transactions among the arguments: it reads as a list of transactions, each with its own slice of events.
  Conditions: none beyond those that each theorem states.
-/
set_option maxRecDepth 4000
namespace Go.Proofs.YtfjamdpgbbnmcaaGreatDoor
open Go.ChangeShapes Go.WideShapes Go.ChangeAt Go.RowKit Go.Joins Go.Deep

section
variable {H : Type} {enc : TypeId × Value → H} {w : World} {base : Nat} {r : Reach} {b0 : Nat}
/-- Four cells that read as a transaction are a transaction's. -/
theorem cells_tx {fuel : Nat} {cs : List Value} {x : DataW H × List MemPlace} (h : DataW.trod enc Tryz.prog w base (fun _ => true) true fuel 69 cs = some x) : ∃ y : Gr.Tx × Value, cs = txC y ∧ Evs w y.2 y.1.ops := by
  obtain ⟨xs, n, _, _, hlen, hl, hg⟩ := DataW.trod_struct Tryz.underlying69 h
  have h4 : cs.length = 4 := hlen.trans (by kernel_rfl)
  match cs, h4 with
  | [c0, c1, c2, c3], _ =>
    have ci : Tryz.prog.cellsOf 3 = 1 := by kernel_rfl
    have cb : Tryz.prog.cellsOf 4 = 1 := by kernel_rfl
    have cl : Tryz.prog.cellsOf 45 = 1 := by kernel_rfl
    have g0 : DataW.trod enc Tryz.prog w base (fun _ => true) true n 3 (([c0, c1, c2, c3].drop 0).take (Tryz.prog.cellsOf 3)) = xs[0]? := hg 0 _ rfl
    have g1 : DataW.trod enc Tryz.prog w base (fun _ => true) true n 4 (([c0, c1, c2, c3].drop 1).take (Tryz.prog.cellsOf 4)) = xs[1]? := hg 1 _ rfl
    have g2 : DataW.trod enc Tryz.prog w base (fun _ => true) true n 3 (([c0, c1, c2, c3].drop 2).take (Tryz.prog.cellsOf 3)) = xs[2]? := hg 2 _ rfl
    have g3 : DataW.trod enc Tryz.prog w base (fun _ => true) true n 45 (([c0, c1, c2, c3].drop 3).take (Tryz.prog.cellsOf 45)) = xs[3]? := hg 3 _ rfl
    simp only [ci, cb, cl, List.drop_zero, List.drop_succ_cons, List.take_succ_cons, List.take_zero] at g0 g1 g2 g3
    have hx : xs.length = 4 := hl
    rw [List.getElem?_eq_getElem (by omega)] at g0 g1 g2 g3
    obtain ⟨z0, e0, _⟩ := DataW.trod_int Tryz.underlying3 g0
    obtain ⟨z1, e1, _⟩ := DataW.trod_bool Tryz.underlying4 g1
    obtain ⟨z2, e2, _⟩ := DataW.trod_int Tryz.underlying3 g2
    obtain ⟨A, m, c, e3, l, he, _⟩ := cells_evs Tryz.underlying45 g3
    cases e0
    cases e1
    cases e2
    cases e3
    exact ⟨(⟨z0, z1, z2, l⟩, .slice A m c), rfl, he⟩

/-- A slice of transactions among the arguments. -/
theorem arg_txs {t : TypeId} {v : Value} {d : DataW H} {ps : List MemPlace} (ht : Tryz.prog.underlying t = some (.slice 69)) (hval : Value.okWide Tryz.prog w r b0 t v) (h : DataW.Trod enc Tryz.prog w base (fun _ => true) true t v d ps) :
    ∃ l : List Gr.Tx, Txs w v l := by
  obtain ⟨a0, len0, cap0, rfl⟩ := okWide_slice ht hval
  obtain ⟨fuel, hf⟩ := h
  have ce : Tryz.prog.cellsOf 69 = 4 := by kernel_rfl
  rcases open_slice ht hf with ⟨hcs, _⟩ | ⟨a, len, cap, m, n, D, Pl, hcs, _, hl, hm, hmm, _, hi⟩
  · simp [Value.cells] at hcs
    obtain ⟨rfl, rfl, rfl⟩ := hcs
    exact ⟨[], Txs.nil _ _⟩
  · simp [Value.cells] at hcs
    obtain ⟨rfl, rfl, rfl⟩ := hcs
    simp only [if_true] at hmm
    have hall : ∀ k, k < len0 → ∃ y : Gr.Tx × Value, (∀ j, j < 4 → w.cell? (a.add (k * 4 + j)) = (txC y)[j]?) ∧ Evs w y.2 y.1.ops := fun k hk => by
      obtain ⟨cs', hc, ht'⟩ := hi k (by omega)
      rw [ce] at hc
      obtain ⟨y, rfl, hev⟩ := cells_tx ht'
      obtain ⟨_, _, hat⟩ := World.cells?_some hc
      exact ⟨y, fun j hj => by rw [← Go.Deep.add_add]; exact hat j hj, hev⟩
    have hinh : Inhabited (Gr.Tx × Value) := ⟨(⟨0, false, 0, []⟩, .slice none 0 0)⟩
    obtain ⟨f, hfn⟩ := choose_lt hall
    have hlen : ((List.range len0).map f).length = len0 := by simp
    refine ⟨((List.range len0).map f).map (·.1), (List.range len0).map f, rfl, ?_, fun x hx => ?_⟩
    · rw [hlen]
      refine ⟨by rw [four_len txC_len, hlen], some a, cap0, rfl, hl, fun h => (by cases h), fun hn => ⟨a, rfl, ?_, fun j u hu => ?_⟩⟩
      · have h0 := (hfn 0 hn).1 0 (by omega)
        rw [Nat.zero_mul, Nat.zero_add, add_zero'] at h0
        exact World.block_lt_of_cell? w a (u := .int .i64 (f 0).1.session) h0
      · have hj : j < len0 * 4 := by
          have := (List.getElem?_eq_some_iff.1 hu).1
          rw [four_len txC_len, hlen] at this
          exact this
        have hk : j / 4 < len0 := by omega
        have e1 : j / 4 * 4 + j % 4 = j := by omega
        have h1 := four_at txC_len ((List.range len0).map f) (j / 4) (by rw [hlen]; exact hk) (j % 4) (by omega)
        rw [e1, hu] at h1
        have h2 := (hfn (j / 4) hk).1 (j % 4) (by omega)
        rw [e1] at h2
        rw [h2, h1]
        simp
    · obtain ⟨k, hk, rfl⟩ := List.mem_map.1 hx
      exact (hfn k (List.mem_range.1 hk)).2
end
end Go.Proofs.YtfjamdpgbbnmcaaGreatDoor
/-
  What group.errorOf and group.lastKind answer, for every input: Gr.errR, and the kind of the event that closes a transaction; what was in memory stays as it was.
  Conditions: none.
-/
set_option maxRecDepth 4000
namespace Go.Proofs.YtfjamdpgbbnmcaaGreatDoor
open Go.RowKit

namespace Gr
/-- What is wrong with an event whose session has an open transaction or none, behind so many that have begun. -/
def errR (e : Ev.Event) (o : Bool) (n : Nat) : Int :=
  if Ev.right e = false then 1
  else if e.kind = 0 then (if o = true then 5 else if 32 ≤ n then 4 else 0)
  else if o = true then 0 else 6
theorem errR_fault (st : List (Tx × Bool)) (e : Ev.Event) (h : st.length ≤ 32) : errR e (hasOpen st e.session) st.length = fault st e := by
  unfold errR fault
  have : (32 ≤ st.length) ↔ (st.length = 32) := by omega
  simp only [this]
end Gr

/-- A number, in whatever memory was made. -/
def RetInt (w : World) (n : Int) (e : Ending) (w' : World) : Prop := e = .returned (.int .i64 n) ∧ Below w.heap.size w w'

set_option maxHeartbeats 1000000 in
theorem errorOf_at (x : Ev.Event) (o : Bool) (n : Nat) (w : World) : Calls Tryz.prog 52 #[evV x, .bool o, .int .i64 (n : Int)] w (RetInt w (Gr.errR x o n)) := by
  unfold evV
  have HN := Lib.hid (new_cell w #[.int .i64 x.kind, .int .i64 x.session, .int .i64 x.key, .int .i64 x.value] 74)
  go_enter Tryz.func52, Tryz.ntmps52
  go_wp2_with fail
  refine (evRight_at x _).mono ?_
  rintro e w1 ⟨rfl, hb1⟩
  have B1 := Lib.hid (below_new hb1)
  have hc0 : w1.cell? ⟨w.heap.size, 0, none⟩ = some (.int .i64 x.kind) := (hb1.cell (by simp)).trans (HN.out 0 _ rfl)
  clear hb1 HN
  cases hr : Ev.right x with
  | false =>
    have HR : Hid (Gr.errR x o n = 1) := by rw [Hid, Gr.errR, if_pos hr]
    clear hr
    go_wp2_with fail
    go_ret
    exact ⟨ret_int (by rw [HR.out]), B1.out⟩
  | true =>
    by_cases hk : x.kind = 0
    · have hk2 : (x.kind == 0) = true := by rw [beq_iff_eq]; exact hk
      have hk3 : (x.kind != 0) = false := by simp [hk]
      cases o with
      | true =>
        have HR : Hid (Gr.errR x true n = 5) := by rw [Hid, Gr.errR, if_neg (by rw [hr]; simp), if_pos hk, if_pos rfl]
        clear hr hk
        go_wp2_with fail
        go_ret
        exact ⟨ret_int (by rw [HR.out]), B1.out⟩
      | false =>
        by_cases hn : 32 ≤ n
        · have HR : Hid (Gr.errR x false n = 4) := by rw [Hid, Gr.errR, if_neg (by rw [hr]; simp), if_pos hk, if_neg (by simp), if_pos hn]
          have hd : decide ((32 : Int) ≤ (n : Int)) = true := by simp; omega
          clear hr hk
          go_wp2_with fail
          go_ret
          exact ⟨ret_int (by rw [HR.out]), B1.out⟩
        · have HR : Hid (Gr.errR x false n = 0) := by rw [Hid, Gr.errR, if_neg (by rw [hr]; simp), if_pos hk, if_neg (by simp), if_neg hn]
          have hd : decide ((32 : Int) ≤ (n : Int)) = false := by simp; omega
          clear hr hk
          go_wp2_with fail
          go_ret
          exact ⟨ret_int (by rw [HR.out]), B1.out⟩
    · have hk2 : (x.kind == 0) = false := by rw [beq_eq_false_iff_ne]; exact hk
      have hk3 : (x.kind != 0) = true := by rw [bne_iff_ne]; exact hk
      cases o with
      | true =>
        have HR : Hid (Gr.errR x true n = 0) := by rw [Hid, Gr.errR, if_neg (by rw [hr]; simp), if_neg hk, if_pos rfl]
        clear hr hk
        go_wp2_with fail
        go_ret
        exact ⟨ret_int (by rw [HR.out]), B1.out⟩
      | false =>
        have HR : Hid (Gr.errR x false n = 6) := by rw [Hid, Gr.errR, if_neg (by rw [hr]; simp), if_neg hk, if_neg (by simp)]
        clear hr hk
        go_wp2_with fail
        go_ret
        exact ⟨ret_int (by rw [HR.out]), B1.out⟩

/-- The kind of the event that closes a transaction. -/
theorem lastKind_at (t : Gr.Tx) (u : Value) (w : World) : Calls Tryz.prog 42 #[.agg #[.int .i64 t.session, .bool t.done, .int .i64 t.first, u]] w (RetInt w (Gr.endOf t).kind) := by
  cases hd : t.done with
  | true =>
    have HR : Hid ((Gr.endOf t).kind = 3) := by rw [Hid, Gr.endOf, hd, if_pos rfl]
    clear hd
    go_enter Tryz.func42, Tryz.ntmps42
    go_wp2
    go_ret
    exact ⟨ret_int (by rw [HR.out]), alloc_below _ _⟩
  | false =>
    have HR : Hid ((Gr.endOf t).kind = 4) := by rw [Hid, Gr.endOf, hd, if_neg (by simp)]
    clear hd
    go_enter Tryz.func42, Tryz.ntmps42
    go_wp2
    go_ret
    exact ⟨ret_int (by rw [HR.out]), alloc_below _ _⟩
end Go.Proofs.YtfjamdpgbbnmcaaGreatDoor
/-
  The map of a session's open transaction beside the row of transactions: that both agree with the transactions that have begun, and that they go on agreeing when one begins, gets an op, or is closed.
  Conditions: none beyond those that each theorem states.
-/
set_option maxRecDepth 4000
namespace Go.Proofs.YtfjamdpgbbnmcaaGreatDoor
open Go.RowKit
open Go.Maps (Keyed int_keyed keyOf_int_mk IsMap)

/-- The map tells of each session whether a transaction is open, and where it stands. -/
structure Keeps (D : DataW Unit) (st : List (Gr.Tx × Bool)) : Prop where
  has : ∀ s, Maps.has D (.int .i64 s) = Gr.hasOpen st s
  place : ∀ s, Gr.hasOpen st s = true → ∃ j, ∃ h : j < st.length, Gr.mine s st[j] = true ∧ D.atKey (.int .i64 s) (.lit (.int .i64 0)) = .lit (.int .i64 (j : Int))
theorem Keeps.start : Keeps (.map []) [] := ⟨fun _ => rfl, fun s h => by simp [Gr.hasOpen] at h⟩
theorem key_lit (s : Int) : WideAt.IsKeyLit (.int .i64 s) := trivial
theorem key_ne {a b : Int} (h : a ≠ b) : (Lit.int .i64 a) ≠ .int .i64 b := fun e => by cases e; exact h rfl
theorem hasOpen_snoc (st : List (Gr.Tx × Bool)) (x : Gr.Tx × Bool) (s : Int) : Gr.hasOpen (st ++ [x]) s = (Gr.hasOpen st s || Gr.mine s x) := by simp [Gr.hasOpen]
theorem Keeps.put {D : DataW Unit} {st : List (Gr.Tx × Bool)} (h : Keeps D st) (hD : IsMap D) (s f : Int) (n : Nat) (hn : n = st.length) :
    Keeps (D.put (.int .i64 s) (.lit (.int .i64 (n : Int)))) (st ++ [(⟨s, false, f, []⟩, true)]) := by
  subst hn
  refine ⟨fun s' => ?_, fun s' hs => ?_⟩
  · rw [hasOpen_snoc]
    by_cases e : s' = s
    · subst e
      rw [Maps.has_put_same hD (key_lit _)]
      simp [Gr.mine]
    · have e2 : ¬ s = s' := fun h' => e h'.symm
      rw [Maps.has_put_other (key_ne e), h.has]
      simp [Gr.mine, e2]
  · by_cases e : s' = s
    · subst e
      refine ⟨st.length, by simp, by simp [Gr.mine], ?_⟩
      rw [Maps.atKey_put_same hD (key_lit _)]
    · rw [hasOpen_snoc] at hs
      have e2 : ¬ s = s' := fun h' => e h'.symm
      have hs' : Gr.hasOpen st s' = true := by simpa [Gr.mine, e2] using hs
      obtain ⟨j, hj, h1, h2⟩ := h.place s' hs'
      refine ⟨j, by simp; omega, by rw [List.getElem_append_left hj]; exact h1, ?_⟩
      rw [Maps.atKey_put_other (key_ne e), h2]
theorem mine_upd (s s' : Int) (f : Gr.Tx → Gr.Tx × Bool) (b : Bool) (hf : ∀ t, (f t).1.session = t.session ∧ (f t).2 = b) (x : Gr.Tx × Bool) : Gr.mine s' (if Gr.mine s x = true then f x.1 else x) = (Gr.mine s' x && (b || !decide (s' = s))) := by
  cases hm : Gr.mine s x with
  | true =>
    obtain ⟨h1, h2⟩ := (Gr.mine_iff s x).1 hm
    rw [if_pos rfl]
    simp only [Gr.mine, hf, h1, h2, Bool.and_true]
    by_cases e : s' = s
    · subst e; simp
    · have e2 : ¬ s = s' := fun h' => e h'.symm
      simp [e2]
  | false =>
    rw [if_neg (by simp)]
    by_cases e : s' = s
    · subst e; rw [hm]; simp
    · simp [e]
theorem upd_at (st : List (Gr.Tx × Bool)) (s : Int) (f : Gr.Tx → Gr.Tx × Bool) (j : Nat) (hj : j < st.length) : (Gr.upd st s f)[j]'(by rw [Gr.upd_len]; exact hj) = if Gr.mine s st[j] = true then f st[j].1 else st[j] := by simp [Gr.upd]
theorem hasOpen_upd (st : List (Gr.Tx × Bool)) (s s' : Int) (f : Gr.Tx → Gr.Tx × Bool) (b : Bool) (hf : ∀ t, (f t).1.session = t.session ∧ (f t).2 = b) : Gr.hasOpen (Gr.upd st s f) s' = (Gr.hasOpen st s' && (b || !decide (s' = s))) := by
  have e : ((Gr.mine s') ∘ fun x : Gr.Tx × Bool => if Gr.mine s x = true then f x.1 else x) = fun x => (Gr.mine s' x && (b || !decide (s' = s))) := by
    funext x
    exact mine_upd s s' f b hf x
  rw [Gr.hasOpen, Gr.upd, List.any_map, e, Gr.hasOpen]
  cases (b || !decide (s' = s)) <;> simp
/-- An op more: the map stays. -/
theorem Keeps.op {D : DataW Unit} {st : List (Gr.Tx × Bool)} (h : Keeps D st) (s : Int) (f : Gr.Tx → Gr.Tx × Bool) (hf : ∀ t, (f t).1.session = t.session ∧ (f t).2 = true) : Keeps D (Gr.upd st s f) := by
  refine ⟨fun s' => ?_, fun s' hs => ?_⟩
  · rw [hasOpen_upd st s s' f true hf, h.has]; simp
  · rw [hasOpen_upd st s s' f true hf] at hs
    obtain ⟨j, hj, h1, h2⟩ := h.place s' (by simpa using hs)
    refine ⟨j, by rw [Gr.upd_len]; exact hj, ?_, h2⟩
    rw [upd_at st s f j hj, mine_upd s s' f true hf, h1]
    rfl
/-- The open one is closed: its session is deleted. -/
theorem Keeps.del {D : DataW Unit} {st : List (Gr.Tx × Bool)} (h : Keeps D st) (s : Int) (f : Gr.Tx → Gr.Tx × Bool) (hf : ∀ t, (f t).1.session = t.session ∧ (f t).2 = false) : Keeps (D.del (.int .i64 s)) (Gr.upd st s f) := by
  refine ⟨fun s' => ?_, fun s' hs => ?_⟩
  · rw [hasOpen_upd st s s' f false hf]
    by_cases e : s' = s
    · subst e; rw [Maps.has_del_same]; simp
    · rw [Maps.has_del_other (key_ne e), h.has]; simp [e]
  · rw [hasOpen_upd st s s' f false hf] at hs
    have e : s' ≠ s := fun e => by subst e; simp at hs
    obtain ⟨j, hj, h1, h2⟩ := h.place s' (by simp [e] at hs; exact hs)
    refine ⟨j, by rw [Gr.upd_len]; exact hj, ?_, ?_⟩
    · rw [upd_at st s f j hj, mine_upd s s' f false hf, h1]; simp [e]
    · rw [Maps.atKey_del_other (key_ne e), h2]

theorem int_law : Keyed Tryz.prog 3 := int_keyed Tryz.underlying3
theorem int_zero (w : World) : (zeroValue 3).run Tryz.prog w = .ok (.int .i64 0) w := by kernel_rfl
theorem int_key {s : Int} (h : (Lit.int .i64 s).wf = true) : keyOf Tryz.prog 3 (.int .i64 s) = some (.int .i64 s) := keyOf_int_mk Tryz.underlying3 h
theorem int_elem {n : Nat} (h : n ≤ 4294967296) : plainElem (H := Unit) Tryz.prog 3 (.int .i64 (n : Int)) = some (.lit (.int .i64 (n : Int)), []) := plainElem_int Tryz.underlying3 (WalkArith.wf_i64 (by omega))

/-- A row of the call's own lies in no map's block. -/
theorem own_not_map {w : World} {base size n m b : Nat} {e k : TypeId} {v : Value} {xs : List Value} {R : Value → Option (DataW Unit × List MemPlace)} {P : Program} {D : DataW Unit} (h : w.ownsRow base e size v n xs) (hm : w.ownsMap P k R b m D) : v.ownBlock = none ∨ v.ownBlock ≠ some b := by
  obtain ⟨es, clock, hb, _⟩ := hm
  rcases h.2 with ⟨rfl, _⟩ | ⟨g, cap, cur, rfl, _, hg, _⟩
  · exact .inl rfl
  · refine .inr fun e => ?_
    cases e
    rw [hb] at hg
    cases hg
theorem own_not_map' {w : World} {base size n m b : Nat} {e k : TypeId} {v : Value} {xs : List Value} {R : Value → Option (DataW Unit × List MemPlace)} {P : Program} {D : DataW Unit} (h : w.ownsRow base e size v n xs) (hm : w.ownsMap P k R b m D) : some b ≠ v.ownBlock := by
  rcases own_not_map h hm with e | e
  · rw [e]; simp
  · exact fun e' => e e'.symm
theorem OwnTxs.kept {w w' : World} {base : Nat} {t e : TypeId} {v : Value} {p : List (Gr.Tx × Value)} {row : Option Nat} (h : OwnTxs w base t e v p) (hg : w.grownBy w' row) (hv : v.ownBlock = none ∨ v.ownBlock ≠ row) (hx : ∀ x ∈ p, x.2.ownBlock = none ∨ x.2.ownBlock ≠ row) : OwnTxs w' base t e v p :=
  ⟨h.row.kept hg hv, fun x hx' => (h.ops x hx').kept hg (hx x hx'), h.apart, h.each⟩

/-- What stands behind events that are right: the row, the map, and what has begun. -/
structure GroupAt (w wr : World) (v : Value) (st : List (Gr.Tx × Bool)) (p : List (Gr.Tx × Value)) (D : DataW Unit) : Prop where
  own : OwnTxs wr w.heap.size 69 74 v p
  map : wr.ownsMap Tryz.prog 3 (plainElem Tryz.prog 3) (w.heap.size + 1) st.length D
  same : p.map (·.1) = st.map (·.1)
  keeps : Keeps D st
  fine : Gr.Fine st
  below : Below w.heap.size w wr
theorem GroupAt.len {w wr : World} {v : Value} {st : List (Gr.Tx × Bool)} {p : List (Gr.Tx × Value)} {D : DataW Unit} (h : GroupAt w wr v st p D) : p.length = st.length := by
  have := congrArg List.length h.same
  simpa using this
theorem GroupAt.later {w wr w' : World} {v : Value} {st : List (Gr.Tx × Bool)} {p : List (Gr.Tx × Value)} {D : DataW Unit} (h : GroupAt w wr v st p D) (hb : Below wr.heap.size wr w') : GroupAt w w' v st p D :=
  ⟨h.own.below hb, h.map.kept (row := none) ⟨hb.os, hb.tape, hb.output, hb.size, fun k hk _ => hb.block k hk⟩ (by simp), h.same, h.keeps, h.fine, below_all h.below hb⟩
/-- The map is written: the row stays. -/
theorem GroupAt.row_stays {w wr w' : World} {v : Value} {st : List (Gr.Tx × Bool)} {p : List (Gr.Tx × Value)} {D : DataW Unit} (h : GroupAt w wr v st p D) (hg : wr.grownBy w' (some (w.heap.size + 1))) : OwnTxs w' w.heap.size 69 74 v p :=
  h.own.kept hg (own_not_map h.own.row h.map) (fun x hx => own_not_map (h.own.ops x hx) h.map)
theorem GroupAt.below_map {w wr w' : World} {v : Value} {st : List (Gr.Tx × Bool)} {p : List (Gr.Tx × Value)} {D : DataW Unit} (h : GroupAt w wr v st p D) (hg : wr.grownBy w' (some (w.heap.size + 1))) : Below w.heap.size w w' :=
  h.below.grown hg h.below.size (fun j hj => by cases hj; omega)
/-- One begins: its session goes into the map, and it into the row. -/
theorem GroupAt.begin {w wr w1 w2 : World} {v v' : Value} {st : List (Gr.Tx × Bool)} {p : List (Gr.Tx × Value)} {D : DataW Unit} (h : GroupAt w wr v st p D) (x : Ev.Event) (i : Nat) (o : Obj) (hk : x.kind = 0) (hf : Gr.fault st x = 0)
    (hg : wr.grownBy w1 (some (w.heap.size + 1))) (hm : w1.ownsMap Tryz.prog 3 (plainElem Tryz.prog 3) (w.heap.size + 1) (st.length + 1) (D.put (.int .i64 x.session) (.lit (.int .i64 (p.length : Int)))))
    (hrow : w2.ownsRow w.heap.size 69 4 v' (p.length + 1) (p.flatMap txC ++ txC (⟨x.session, false, (i : Int), []⟩, .slice none 0 0))) (hg2 : (w1.alloc o).grownBy w2 v.ownBlock) (hv : v'.ownBlock = v.ownBlock ∨ v'.ownBlock = some (w1.alloc o).heap.size) :
    GroupAt w w2 v' (Gr.next i st x) (p ++ [(⟨x.session, false, (i : Int), []⟩, .slice none 0 0)]) (D.put (.int .i64 x.session) (.lit (.int .i64 (p.length : Int)))) := by
  have e : Gr.next i st x = st ++ [(⟨x.session, false, (i : Int), []⟩, true)] := by rw [Gr.next, if_pos hk]
  have r1 := h.row_stays hg
  have r2 : OwnTxs (w1.alloc o) w.heap.size 69 74 v p := r1.below (alloc_below w1 o)
  refine ⟨r2.snoc rfl hrow hg2 hv, ?_, ?_, ?_, h.fine.next i hf, ?_⟩
  · rw [e, List.length_append, List.length_singleton]
    exact (hm.alloc o).kept hg2 (own_not_map' r2.row (hm.alloc o))
  · rw [e, List.map_append, List.map_append, h.same]
    rfl
  · rw [e]
    exact h.keeps.put h.map.isMap _ _ _ h.len
  · have hb := below_all (h.below_map hg) (alloc_below w1 o)
    exact below_append hb hb.size r2.row hg2
/-- The open one is closed. -/
theorem GroupAt.close {w wr w2 : World} {g c : Nat} {st : List (Gr.Tx × Bool)} {p : List (Gr.Tx × Value)} {D : DataW Unit} (h : GroupAt w wr (.slice (some ⟨g, 0, none⟩) p.length c) st p D) (x : Ev.Event) (b : Bool) (hb3 : (x.kind == 3) = b) (i j : Nat) (hj : j < p.length) (hj' : j < st.length) (hm : Gr.mine x.session st[j] = true) (hk : x.kind ≠ 0) (hkey : Ev.hasKey x.kind = false) (hf : Gr.fault st x = 0)
    (hmap : w2.ownsMap Tryz.prog 3 (plainElem Tryz.prog 3) (w.heap.size + 1) st.length (D.del (.int .i64 x.session))) (hg : (wr.setCell ⟨g, j * 4 + 1, none⟩ (.bool b)).grownBy w2 (some (w.heap.size + 1))) :
    GroupAt w w2 (.slice (some ⟨g, 0, none⟩) p.length c) (Gr.next i st x) (p.set j ({ p[j].1 with done := b }, p[j].2)) (D.del (.int .i64 x.session)) := by
  have hb4 : decide (x.kind = 3) = b := by rw [← hb3]; rfl
  have e : Gr.next i st x = Gr.upd st x.session (Gr.shut b) := by rw [Gr.next, if_neg hk, if_neg (by rw [hkey]; simp), hb4]
  have hset := Gr.upd_set h.fine x.session (Gr.shut b) j hj' hm
  have r1 := h.own.put j hj 1 (by omega) { p[j].1 with done := b } (.bool b) rfl rfl
  have hgB : w.heap.size + 1 ≠ g := fun e => own_not_map' h.own.row h.map (by rw [e]; rfl)
  have m1 : (wr.setCell ⟨g, j * 4 + 1, none⟩ (.bool b)).ownsMap Tryz.prog 3 (plainElem Tryz.prog 3) (w.heap.size + 1) st.length D := h.map.setCell hgB _
  have hbB : Below w.heap.size w (wr.setCell ⟨g, j * 4 + 1, none⟩ (.bool b)) := h.below.setCell (h.own.row.lt g rfl).1 _
  have hpj : p[j].1 = st[j].1 := by
    have h1 := congrArg (·[j]?) h.same
    simp only [List.getElem?_map, List.getElem?_eq_getElem hj, List.getElem?_eq_getElem hj', Option.map_some, Option.some.injEq] at h1
    exact h1
  refine ⟨?_, ?_, ?_, ?_, h.fine.next i hf, ?_⟩
  · have := r1.kept hg (own_not_map r1.row m1) (fun x hx => own_not_map (r1.ops x hx) m1)
    exact this
  · rw [e, Gr.upd_len]
    exact hmap
  · rw [e, hset, List.map_set, List.map_set, h.same, hpj]
    rfl
  · rw [e]
    exact h.keeps.del _ _ (fun _ => ⟨rfl, rfl⟩)
  · exact hbB.grown hg hbB.size (fun j hj => by cases hj; omega)
/-- The open one gets an op: its events have grown, and their slice is laid into its cell. -/
theorem GroupAt.op {w wr w1 : World} {g c : Nat} {st : List (Gr.Tx × Bool)} {p : List (Gr.Tx × Value)} {D : DataW Unit} {u : Value} (h : GroupAt w wr (.slice (some ⟨g, 0, none⟩) p.length c) st p D) (x : Ev.Event) (i j : Nat) (hj : j < p.length) (hj' : j < st.length) (hm : Gr.mine x.session st[j] = true) (hk : x.kind ≠ 0) (hkey : Ev.hasKey x.kind = true) (hf : Gr.fault st x = 0)
    (hu : w1.ownsRow w.heap.size 74 4 u (p[j].1.ops.length + 1) (p[j].1.ops.flatMap evCells ++ evCells x)) (hg : wr.grownBy w1 p[j].2.ownBlock) (hv : u.ownBlock = p[j].2.ownBlock ∨ u.ownBlock = some wr.heap.size) :
    GroupAt w (w1.setCell ⟨g, j * 4 + 3, none⟩ u) (.slice (some ⟨g, 0, none⟩) p.length c) (Gr.next i st x) (p.set j ({ p[j].1 with ops := p[j].1.ops ++ [x] }, u)) D := by
  have e : Gr.next i st x = Gr.upd st x.session (Gr.addOp x) := by rw [Gr.next, if_neg hk, if_pos hkey]
  have hset := Gr.upd_set h.fine x.session (Gr.addOp x) j hj' hm
  have r1 := h.own.grow j hj { p[j].1 with ops := p[j].1.ops ++ [x] } u ⟨rfl, rfl, rfl⟩ (Evs.own_snoc hu) hg hv
  have hgB : w.heap.size + 1 ≠ g := fun e => own_not_map' h.own.row h.map (by rw [e]; rfl)
  have hops := h.own.ops _ (List.getElem_mem hj)
  have m1 := h.map.kept hg (own_not_map' hops h.map)
  have hpj : p[j].1 = st[j].1 := by
    have h1 := congrArg (·[j]?) h.same
    simp only [List.getElem?_map, List.getElem?_eq_getElem hj, List.getElem?_eq_getElem hj', Option.map_some, Option.some.injEq] at h1
    exact h1
  refine ⟨r1, ?_, ?_, ?_, h.fine.next i hf, ?_⟩
  · rw [e, Gr.upd_len]
    exact m1.setCell hgB _
  · rw [e, hset, List.map_set, List.map_set, h.same, hpj]
    rfl
  · rw [e]
    exact h.keeps.op _ _ (fun _ => ⟨rfl, rfl⟩)
  · exact (below_append h.below h.below.size hops hg).setCell (h.own.row.lt g rfl).1 _

/-- 'v, ok := m[k]' where both are known. -/
theorem wpList_look {P : Program} (w : World) {ops : Array Oper} {rest : List Oper} {o : Oper} {a : Act} {Q : Exit → Act → World → Prop} (hg : o.guard = none) (m x : Operand) (t : TypeId) (hop : o.op = Op.lookup t m x true)
    (k e : TypeId) (K : Keyed P k) (ht : P.underlying t = some (.map k e)) (he : P.underlying e = some (.int .i64)) (hz : (zeroValue e).run P w = .ok (.int .i64 0) w) (b n : Nat) (D : DataW Unit)
    (hm : a.eval m = .map (some b)) (hown : w.ownsMap P k (plainElem P e) b n D) (key : Value) (kl : Lit) (hx : a.eval x = key) (hkey : keyOf P k key = some kl) (c : Int) (ok : Bool) (hat : D.atKey kl (.lit (.int .i64 0)) = .lit (.int .i64 c)) (hok : Maps.has D kl = ok)
    (hK : wpList P ops Q rest (a.put o.dst (.tuple #[.int .i64 c, .bool ok])) w) : wpList P ops Q (o :: rest) a w := by
  refine wpList_lookup_own_ok_int w hg m x t hop k e .i64 K ht he hz b n D hm hown key kl hx hkey fun c' hc _ => ?_
  rw [hat] at hc
  cases hc
  rw [hok]
  exact hK
end Go.Proofs.YtfjamdpgbbnmcaaGreatDoor
/-
  What group.Group answers, for every row of events: Gr.groupR; what was in memory stays as it was.
  Conditions: a row has at most 2^32 elements; each event's session is a number of its kind.
-/
set_option maxRecDepth 4000
namespace Go.Proofs.YtfjamdpgbbnmcaaGreatDoor
open Go.RowKit

theorem gtx_info : (Tryz.prog.info? 69).map (fun i => (i.zero, i.size, i.bytes)) = some (some (.agg #[.int .i64 0, .bool false, .int .i64 0, .slice none 0 0]), 4, 48) := by kernel_rfl

theorem new_tx (w : World) (x : Gr.Tx) (u : Value) (e : TypeId) : ∀ j y, (txC (x, u))[j]? = some y → (w.alloc (.cells #[.int .i64 x.session, .bool x.done, .int .i64 x.first, u] e)).cell? ((⟨w.heap.size, 0, none⟩ : Addr).add j) = some y := by
  intro j y hj
  have e1 : (⟨w.heap.size, 0, none⟩ : Addr).add j = ⟨w.heap.size, j, none⟩ := by
    unfold Addr.add
    split
    · rename_i h; rw [h]
    · simp
  rw [e1]
  exact new_cell w _ _ j y (by rw [← hj, txC, ← List.getElem?_toArray])
theorem one_tx (x : Gr.Tx) : ∀ u ∈ txC (x, .slice none 0 0), u.oneCell' = true := by
  intro u hu
  simp only [txC, List.mem_cons, List.not_mem_nil, or_false] at hu
  rcases hu with rfl | rfl | rfl | rfl
  all_goals rfl

/-- What Group's loop holds at the head of each round. -/
def GroupRel (w : World) (l : List Ev.Event) (v i : Value) (wr : World) : Prop :=
  ∃ (k : Nat) (p : List (Gr.Tx × Value)) (D : DataW Unit), k ≤ l.length ∧ i = .int .i64 k ∧ Gr.run 0 [] (l.take k) = none ∧ GroupAt w wr v (Gr.go 0 [] (l.take k)) p D

set_option maxHeartbeats 1000000 in
theorem group_at (l : List Ev.Event) (v : Value) (w : World) (hv : Evs w v l) (hl : l.length ≤ 4294967296) (hwf : ∀ x ∈ l, evWf x) : Calls Tryz.prog 30 #[v] w (RetTxs w (Gr.groupR l)) := by
  obtain ⟨i0, hi0, hz0, hz1, hz2⟩ := info_parts ev_info
  have I0 := Lib.hid hi0
  have I1 := Lib.hid hz0
  have I2 := Lib.hid hz1
  have I3 := Lib.hid hz2
  clear hi0 hz0 hz1 hz2
  obtain ⟨j0, hi0, hz0, hz1, hz2⟩ := info_parts gtx_info
  have J0 := Lib.hid hi0
  have J1 := Lib.hid hz0
  have J2 := Lib.hid hz1
  have J3 := Lib.hid hz2
  clear hi0 hz0 hz1 hz2
  obtain ⟨A, c, rfl, hform⟩ := hv.spelled
  have HF := Lib.hid hform
  have HW := Lib.hid hwf
  clear hform hv hwf
  have hmm := @run_makeMap Tryz.prog
  go_enter Tryz.func30, Tryz.ntmps30
  go_wp2
  go_loopw [5, 16] (fun v i wr => GroupRel w l v i wr) (fun _ i _ => l.length - (intOf i).toNat)
  case atStart =>
    have e1 : (w.alloc (.cells #[] 69)).heap.size = w.heap.size + 1 := by simp
    refine ⟨0, [], .map [], Nat.zero_le _, rfl, rfl, ⟨(OwnTxs.lit w _ _ _ (Nat.le_refl _)).below (alloc_below _ _), ?_, rfl, Keeps.start, Gr.Fine.nil, ((Below.refl _ _).alloc (Nat.le_refl _) _).alloc (by simp) _⟩⟩
    rw [← e1]
    exact World.ownsMap_made _ _ _ _
  case round =>
    obtain ⟨k, p, D, hk, rfl, hrun, hat⟩ := hrel
    have HU := Lib.hid hrun
    have HG := Lib.hid hat
    obtain ⟨A', cp, rfl⟩ := own_form hat.own.row
    clear hrun hat
    by_cases hlt : k < l.length
    · obtain ⟨ad, rfl, hblk, hE⟩ := HF.out k hlt
      obtain ⟨x, hx⟩ : ∃ x, x = l[k]'hlt := ⟨_, rfl⟩
      have HT := Lib.hid (Gr.run_take l k hlt HU.out)
      rw [← hx] at hE HT
      have HE := Lib.hid (hE.below hblk HG.out.below)
      have hc0 := HE.out.c0
      have hc1 := HE.out.c1
      have hc2 := HE.out.c2
      have hc3 := HE.out.c3
      have HX : Hid ((Lit.int .i64 x.session).wf = true) := by rw [hx]; exact HW.out _ (List.getElem_mem _)
      have HOL := Lib.hid (Gr.ops_le _ HU.out)
      generalize Gr.go 0 [] (l.take k) = st at *
      have HL := Lib.hid HG.out.len
      have h32 : p.length ≤ 32 := by rw [HL.out]; exact HG.out.fine.len
      have HMB := Lib.hid HG.out.map.lt
      have HER := Lib.hid (Gr.errR_fault st x HG.out.fine.len)
      rw [← HL.out] at HER
      have HH := Lib.hid (HG.out.keeps.has x.session)
      clear hE hx
      cases ho : Gr.hasOpen st x.session with
      | false =>
        rw [ho] at HH HER
        have HAT : Hid (D.atKey (.int .i64 x.session) (.lit (.int .i64 0)) = .lit (.int .i64 0)) := Maps.atKey_of_not_has HH.out _
        have HM1 := Lib.hid (HG.out.map.alloc (.cells #[.int .i64 x.kind, .int .i64 x.session, .int .i64 x.key, .int .i64 x.value] 74))
        go_wp2_with (at_lookup; refine wpList_look _ rfl _ _ 101 rfl 3 3 int_law Tryz.underlying101 Tryz.underlying3 (int_zero _) (w.heap.size + 1) st.length D rfl HM1.out _ _ rfl (int_key HX.out) 0 false HAT.out HH.out ?_)
        refine (errorOf_at x false p.length _).mono ?_
        rintro e w1 ⟨rfl, hb1⟩
        have HG1 := Lib.hid (HG.out.later (below_new hb1))
        have e0 : w1.cell? ⟨wr.heap.size, 0, none⟩ = some (.int .i64 x.kind) := (hb1.cell (by simp)).trans (new_cell wr _ _ 0 _ rfl)
        have e1 : w1.cell? ⟨wr.heap.size, 1, none⟩ = some (.int .i64 x.session) := (hb1.cell (by simp)).trans (new_cell wr _ _ 1 _ rfl)
        rw [HER.out]
        clear hb1 hc0 hc1 hc2 hc3 HE HG HM1 HAT HH HER
        by_cases hq : Gr.fault st x = 0
        · rw [hq]
          have hk0 : x.kind = 0 := Decidable.byContradiction fun h => by
            have := (Gr.fault_zero st x hq).2.2 h
            rw [ho] at this
            cases this
          have hkb : (x.kind == 0) = true := by rw [beq_iff_eq]; exact hk0
          obtain ⟨hr1, hr2⟩ := HT.out.1 hq
          have HQ := Lib.hid hq
          have HK0 := Lib.hid hk0
          have HR1 := Lib.hid hr1
          have HR2 := Lib.hid hr2
          clear hq hk0 hr1 hr2 HT
          have hB : w.heap.size + 1 < wr.heap.size := HMB.out
          go_wp2_with (first
            | (at_mapUpdate; refine wpList_mapUpdate_own _ rfl _ _ _ 101 rfl 3 3 int_law Tryz.underlying101 _ (w.heap.size + 1) st.length D rfl HG1.out.map (by have := HL.out; unfold maxLen; omega) _ _ _ rfl rfl (int_key HX.out) _ [] (int_elem (by omega)) ?_; intro w2 hm2 hg2; have HM2 := Lib.hid hm2; have HG2 := Lib.hid hg2; have f1 : w2.cell? ⟨wr.heap.size, 1, none⟩ = some (.int .i64 x.session) := hg2.cell e1 (by simp; omega); have HO2 := Lib.hid ((HG1.out.row_stays hg2).below (alloc_below w2 (.cells #[.int .i64 x.session, .bool false, .int .i64 (k : Int), .slice none 0 0] 69))); clear hm2 hg2)
            | (at_builtin; refine wpList_append_own_at _ rfl _ _ 56 rfl w.heap.size 69 j0 _ 4 48 Tryz.underlying56 J0.out J1.out J2.out J3.out rfl (by decide) _ p.length (p.flatMap txC) rfl HO2.out.row ⟨w2.heap.size, 0, none⟩ 1 1 (txC (⟨x.session, false, (k : Int), []⟩, .slice none 0 0)) rfl rfl (new_tx w2 _ _ _) (one_tx _) (by simp only [maxLen]; omega) (by omega) (Nat.le_trans (HG1.out.below_map HG2.out).size (by simp)) ?_; intro v' w3 hown' hgrow hnil hat; have HO3 := Lib.hid hown'; have HG3 := Lib.hid hgrow; have HA3 := Lib.hid hat; clear hown' hgrow hnil hat))
          go_roundw
          case rel =>
            have hgo := HG1.out.begin x k _ HK0.out HQ.out HG2.out HM2.out HO3.out HG3.out HA3.out
            rw [← HR2.out] at hgo
            exact ⟨k + 1, _, _, by omega, by go_num, HR1.out, hgo⟩
          case measure => simp [intOf]; omega
        · have HR := Lib.hid (Gr.group_bad l k _ (HT.out.2 hq))
          have hqb : (Gr.fault st x != 0) = true := by rw [bne_iff_ne]; exact hq
          generalize Gr.fault st x = q at *
          clear hq HT
          go_wp2_with fail
          refine bodyPost_ret (results_tmp3 rfl _ _ _) rfl ?_
          exact RetTxs.mk _ _ _ (by rw [HR.out]) (by rw [HR.out]) (by rw [HR.out]; exact Txs.nil _ _) HG1.out.below
      | true =>
        rw [ho] at HH HER
        obtain ⟨j, hj, hmine, hatk⟩ := HG.out.keeps.place x.session ho
        have hjp : j < p.length := by rw [HL.out]; exact hj
        obtain ⟨g, cp', hv', _⟩ := HG.out.own.form j hjp
        cases hv'
        have HGW := Lib.hid (HG.out.own.row.lt g rfl).2
        have HAT := Lib.hid hatk
        have HMI := Lib.hid hmine
        have HJ := Lib.hid hj
        have HM1 := Lib.hid (HG.out.map.alloc (.cells #[.int .i64 x.kind, .int .i64 x.session, .int .i64 x.key, .int .i64 x.value] 74))
        clear hmine hatk
        go_wp2_with (at_lookup; refine wpList_look _ rfl _ _ 101 rfl 3 3 int_law Tryz.underlying101 Tryz.underlying3 (int_zero _) (w.heap.size + 1) st.length D rfl HM1.out _ _ rfl (int_key HX.out) (j : Int) true HAT.out HH.out ?_)
        refine (errorOf_at x true p.length _).mono ?_
        rintro e w1 ⟨rfl, hb1⟩
        have HG1 := Lib.hid (HG.out.later (below_new hb1))
        have e0 : w1.cell? ⟨wr.heap.size, 0, none⟩ = some (.int .i64 x.kind) := (hb1.cell (by simp)).trans (new_cell wr _ _ 0 _ rfl)
        have e1 : w1.cell? ⟨wr.heap.size, 1, none⟩ = some (.int .i64 x.session) := (hb1.cell (by simp)).trans (new_cell wr _ _ 1 _ rfl)
        have e2 : w1.cell? ⟨wr.heap.size, 2, none⟩ = some (.int .i64 x.key) := (hb1.cell (by simp)).trans (new_cell wr _ _ 2 _ rfl)
        have e3 : w1.cell? ⟨wr.heap.size, 3, none⟩ = some (.int .i64 x.value) := (hb1.cell (by simp)).trans (new_cell wr _ _ 3 _ rfl)
        rw [HER.out]
        clear hb1 hc0 hc1 hc2 hc3 HE HG HM1 HAT HH HER
        by_cases hq : Gr.fault st x = 0
        · rw [hq]
          have hk0 : x.kind ≠ 0 := fun h => by
            have := ((Gr.fault_zero st x hq).2.1 h).1
            rw [ho] at this
            cases this
          have hkb : (x.kind == 0) = false := by rw [beq_eq_false_iff_ne]; exact hk0
          obtain ⟨hr1, hr2⟩ := HT.out.1 hq
          have hright := (Ev.right_iff x).1 (Gr.fault_zero st x hq).1
          have HQ := Lib.hid hq
          have HK0 := Lib.hid hk0
          have HR1 := Lib.hid hr1
          have HR2 := Lib.hid hr2
          obtain ⟨g', cp', hv', hcl⟩ := HG1.out.own.form j hjp
          cases hv'
          have hgB : ¬ g = w.heap.size + 1 := fun e => own_not_map' HG1.out.own.row HG1.out.map (by rw [e]; rfl)
          cases hkey : Ev.hasKey x.kind with
          | true =>
            have HKE := Lib.hid hkey
            have h3 : (x.kind == 3) = false := by
              have := (Ev.hasKey_iff _).1 hkey
              rw [beq_eq_false_iff_ne]; omega
            have h4 : (x.kind == 4) = false := by
              have := (Ev.hasKey_iff _).1 hkey
              rw [beq_eq_false_iff_ne]; omega
            obtain ⟨d1, f1⟩ := hcl 3 (by omega)
            have d2 : w1.cell? ⟨g, j * 4 + 3, none⟩ = some p[j].2 := d1
            have hgw : g < wr.heap.size := HGW.out
            have hol : p[j].1.ops.length ≤ 4294967296 := by
              have h1 := HOL.out st[j] (List.getElem_mem hj)
              rw [List.length_take] at h1
              have h2 : p[j].1 = st[j].1 := by
                have h1 := congrArg (·[j]?) HG1.out.same
                simp only [List.getElem?_map, List.getElem?_eq_getElem hjp, List.getElem?_eq_getElem hj, Option.map_some, Option.some.injEq] at h1
                exact h1
              rw [h2]
              omega
            have HOO := Lib.hid (own_drewN ((HG1.out.own.ops _ (List.getElem_mem hjp)).alloc (.cells #[.int .i64 x.kind, .int .i64 x.session, .int .i64 x.key, .int .i64 x.value] 74)) 1)
            have HGA := Lib.hid ((HG1.out.later (alloc_below w1 (.cells #[.int .i64 x.kind, .int .i64 x.session, .int .i64 x.key, .int .i64 x.value] 74))).later (drewN_below _ 1))
            have HC : Hid (∀ w2, ((w1.alloc (.cells #[.int .i64 x.kind, .int .i64 x.session, .int .i64 x.key, .int .i64 x.value] 74)).drewN 1).grownBy w2 p[j].2.ownBlock → w2.cell? ⟨g, j * 4 + 3, none⟩ = some p[j].2 ∧ w2.frozen? ⟨g, j * 4 + 3, none⟩ = false) := fun w2 hg => by
              have hgs := (HGA.out.own.row.lt g rfl).2
              have hne : some g ≠ p[j].2.ownBlock := by
                rcases HG1.out.own.apart _ (List.getElem_mem hjp) with e | e
                · rw [e]; simp
                · exact fun e' => e e'.symm
              obtain ⟨_, _, hv2, hcl2⟩ := HGA.out.own.form j hjp
              cases hv2
              exact ⟨(hg.cell_far ⟨g, j * 4 + 3, none⟩ hgs hne).trans (hcl2 3 (by omega)).1, (hg.frozen_far ⟨g, j * 4 + 3, none⟩ hgs hne).trans (hcl2 3 (by omega)).2⟩
            have d3 : (w1.alloc (.cells #[.int .i64 x.kind, .int .i64 x.session, .int .i64 x.key, .int .i64 x.value] 74)).cell? ⟨g, j * 4 + 3, none⟩ = some p[j].2 := ((alloc_below w1 _).cell (HG1.out.own.row.lt g rfl).2).trans d2
            have HNE := Lib.hid (new_ev w1 x 74)
            have HBS := Lib.hid (Nat.le_trans HG1.out.below.size (Nat.le_succ w1.heap.size))
            clear hq hk0 hr1 hr2 HT hright hkey d1 hcl
            go_wp2_with fail
            go_region_law (refine step_append_lies _ rfl (.tmp 45) (.tmp 47) 45 rfl w.heap.size 74 i0 _ 4 32 Tryz.underlying45 I0.out I1.out I2.out I3.out rfl (by decide) p[j].2 p[j].1.ops.length (p[j].1.ops.flatMap evCells) (by simp [Act.eval]) HOO.out ⟨w1.heap.size, 0, none⟩ 1 1 (evCells x) (by simp [Act.eval]) rfl HNE.out (one_evs x) (by decide) (by simp only [maxLen]; omega) (by omega) (by simp; exact HBS.out) (w1.heap.size + 1) (by simp) ?_; intro g2 cap2 w2 hown2 hgrow2 hat2 hlt2; obtain ⟨c3, f3⟩ := HC.out w2 hgrow2; have HO2 := Lib.hid hown2; have HG2 := Lib.hid hgrow2; have HA2 := Lib.hid hat2; clear hown2 hgrow2 hat2 hlt2)
            all_goals
              go_wp2_with fail
              go_roundw
              case rel =>
                have hgo := HGA.out.op x k j hjp HJ.out HMI.out HK0.out HKE.out HQ.out HO2.out HG2.out (HA2.out.imp (fun h => h.symm) (fun h => by rw [h]; simp [Value.ownBlock, World.drewN]))
                rw [← HR2.out] at hgo
                exact ⟨k + 1, _, _, by omega, by go_num, HR1.out, hgo⟩
              case measure => simp [intOf]; omega
          | false =>
            have HKE := Lib.hid hkey
            have h34 : (x.kind == 3) = true ∨ (x.kind == 3) = false ∧ (x.kind == 4) = true := by
              have hn : ¬ (x.kind = 1 ∨ x.kind = 2) := fun h => by rw [(Ev.hasKey_iff _).2 h] at hkey; cases hkey
              simp only [beq_iff_eq, beq_eq_false_iff_ne]
              omega
            obtain ⟨d1, f1⟩ := hcl 1 (by omega)
            have d2 : w1.cell? ⟨g, j * 4 + 1, none⟩ = some (.bool p[j].1.done) := d1
            have hgw : g < wr.heap.size := HGW.out
            have HS : Hid (∀ b : Bool, (w1.setCell ⟨g, j * 4 + 1, none⟩ (.bool b)).ownsMap Tryz.prog 3 (plainElem Tryz.prog 3) (w.heap.size + 1) st.length D) := fun b => HG1.out.map.setCell (fun e => own_not_map' HG1.out.own.row HG1.out.map (by rw [e]; rfl)) _
            clear hq hk0 hr1 hr2 HT hright hkey d1 hcl
            rcases h34 with h3 | ⟨h3, h4⟩
            · have f2 : (w1.setCell ⟨g, j * 4 + 1, none⟩ (.bool true)).cell? ⟨wr.heap.size, 1, none⟩ = some (.int .i64 x.session) := (far_cell (by show wr.heap.size ≠ g; omega)).trans e1
              have H3 := Lib.hid h3
              go_wp2_with (at_delete; refine wpList_delete_own _ rfl _ _ 101 3 rfl 3 int_law Tryz.underlying101 _ (w.heap.size + 1) st.length D rfl (HS.out true) _ _ rfl (int_key HX.out) ?_; intro w2 hm2 hg2; have HM2 := Lib.hid hm2; have HG2 := Lib.hid hg2.grown; clear hm2 hg2)
              go_roundw
              case rel =>
                have hgo := HG1.out.close x true H3.out k j hjp HJ.out HMI.out HK0.out HKE.out HQ.out HM2.out HG2.out
                rw [← HR2.out] at hgo
                exact ⟨k + 1, _, _, by omega, by go_num, HR1.out, hgo⟩
              case measure => simp [intOf]; omega
            · have f2 : (w1.setCell ⟨g, j * 4 + 1, none⟩ (.bool false)).cell? ⟨wr.heap.size, 1, none⟩ = some (.int .i64 x.session) := (far_cell (by show wr.heap.size ≠ g; omega)).trans e1
              have H3 := Lib.hid h3
              go_wp2_with (at_delete; refine wpList_delete_own _ rfl _ _ 101 3 rfl 3 int_law Tryz.underlying101 _ (w.heap.size + 1) st.length D rfl (HS.out false) _ _ rfl (int_key HX.out) ?_; intro w2 hm2 hg2; have HM2 := Lib.hid hm2; have HG2 := Lib.hid hg2.grown; clear hm2 hg2)
              go_roundw
              case rel =>
                have hgo := HG1.out.close x false H3.out k j hjp HJ.out HMI.out HK0.out HKE.out HQ.out HM2.out HG2.out
                rw [← HR2.out] at hgo
                exact ⟨k + 1, _, _, by omega, by go_num, HR1.out, hgo⟩
              case measure => simp [intOf]; omega
        · have HR := Lib.hid (Gr.group_bad l k _ (HT.out.2 hq))
          have hqb : (Gr.fault st x != 0) = true := by rw [bne_iff_ne]; exact hq
          generalize Gr.fault st x = q at *
          clear hq HT
          go_wp2_with fail
          refine bodyPost_ret (results_tmp3 rfl _ _ _) rfl ?_
          exact RetTxs.mk _ _ _ (by rw [HR.out]) (by rw [HR.out]) (by rw [HR.out]; exact Txs.nil _ _) HG1.out.below
    · have HR : Hid (Gr.groupR l = (p.map (·.1), 0, 0)) := by
        have h : l.take k = l := List.take_of_length_le (by omega)
        have h1 := HU.out
        have h2 := HG.out.same
        rw [h] at h1 h2
        rw [Hid, Gr.group_ok l h1, h2]
      generalize Gr.go 0 [] (l.take k) = st at *
      go_wp2_with fail
      refine bodyPost_ret (results_tmp3 rfl _ _ _) rfl ?_
      exact RetTxs.mk _ _ _ (by rw [HR.out]) (by rw [HR.out]) (by rw [HR.out]; exact HG.out.own.txs) HG.out.below
end Go.Proofs.YtfjamdpgbbnmcaaGreatDoor
/-
  What group.Events answers, for every row of transactions: Gr.eventsR; what was in memory stays as it was.
  Conditions: the events are at most 2^32.
-/
set_option maxRecDepth 4000
namespace Go.Proofs.YtfjamdpgbbnmcaaGreatDoor
open Go.RowKit

namespace Gr
theorem eventsR_take (l : List Tx) (k : Nat) (hk : k < l.length) : eventsR (l.take (k + 1)) = eventsR (l.take k) ++ txEvents l[k] := by
  rw [List.take_succ_eq_append_getElem hk, eventsR, eventsR, List.flatMap_append]
  simp
theorem eventsR_len (l : List Tx) (k : Nat) : (eventsR (l.take k)).length ≤ (eventsR l).length := by
  conv => rhs; rw [← List.take_append_drop k l]
  rw [eventsR, eventsR, List.flatMap_append, List.length_append]
  omega
theorem txEvents_len (t : Tx) : (txEvents t).length = t.ops.length + 2 := by simp [txEvents]
theorem eventsR_more (l : List Tx) : l.length ≤ (eventsR l).length := by
  induction l with
  | nil => simp
  | cons t m ih =>
    rw [eventsR, List.flatMap_cons, List.length_append, txEvents_len, List.length_cons]
    rw [eventsR] at ih
    omega
end Gr

/-- A row of events, in memory of the call's own. -/
def RetEvRow (w : World) (l : List Ev.Event) (e : Ending) (w' : World) : Prop := ∃ v, e = .returned v ∧ Evs w' v l ∧ Below w.heap.size w w'

/-- A variable that holds a transaction. -/
structure TxVar (w : World) (b : Nat) (t : Gr.Tx) (u : Value) : Prop where
  c0 : w.cell? ⟨b, 0, none⟩ = some (.int .i64 t.session)
  c1 : w.cell? ⟨b, 1, none⟩ = some (.bool t.done)
  c2 : w.cell? ⟨b, 2, none⟩ = some (.int .i64 t.first)
  c3 : w.cell? ⟨b, 3, none⟩ = some u
theorem TxVar.new (w : World) (t : Gr.Tx) (u : Value) (ty : TypeId) : TxVar (w.alloc (.cells #[.int .i64 t.session, .bool t.done, .int .i64 t.first, u] ty)) w.heap.size t u :=
  ⟨new_cell w _ _ 0 _ rfl, new_cell w _ _ 1 _ rfl, new_cell w _ _ 2 _ rfl, new_cell w _ _ 3 _ rfl⟩
theorem TxVar.grown {w w' : World} {b : Nat} {t : Gr.Tx} {u : Value} {row : Option Nat} (h : TxVar w b t u) (hg : w.grownBy w' row) (hne : some b ≠ row) : TxVar w' b t u :=
  ⟨hg.cell h.c0 hne, hg.cell h.c1 hne, hg.cell h.c2 hne, hg.cell h.c3 hne⟩
theorem TxVar.below {w w' : World} {b : Nat} {t : Gr.Tx} {u : Value} (h : TxVar w b t u) (hb : Below w.heap.size w w') : TxVar w' b t u :=
  h.grown (row := none) ⟨hb.os, hb.tape, hb.output, hb.size, fun k hk _ => hb.block k hk⟩ (by simp)

theorem own_evs {w : World} {base : Nat} {e : TypeId} {v : Value} {d : List Ev.Event} (m : List Ev.Event) (h : w.ownsRow base e 4 v (d.length + m.length) (d.flatMap evCells ++ m.flatMap evCells)) : w.ownsRow base e 4 v (d ++ m).length ((d ++ m).flatMap evCells) := by
  rw [List.length_append, List.flatMap_append]
  exact h

/-- What Events' loop holds at the head of each round. -/
def EventsRel' (w : World) (l : List Gr.Tx) (v i : Value) (wr : World) : Prop :=
  ∃ k : Nat, k ≤ l.length ∧ i = .int .i64 k ∧ wr.ownsRow w.heap.size 74 4 v (Gr.eventsR (l.take k)).length ((Gr.eventsR (l.take k)).flatMap evCells) ∧ Below w.heap.size w wr

set_option maxHeartbeats 1000000 in
theorem events_at (l : List Gr.Tx) (v : Value) (w : World) (hv : Txs w v l) (hl : (Gr.eventsR l).length ≤ 4294967296) : Calls Tryz.prog 18 #[v] w (RetEvRow w (Gr.eventsR l)) := by
  obtain ⟨i0, hi0, hz0, hz1, hz2⟩ := info_parts ev_info
  have I0 := Lib.hid hi0
  have I1 := Lib.hid hz0
  have I2 := Lib.hid hz1
  have I3 := Lib.hid hz2
  clear hi0 hz0 hz1 hz2
  obtain ⟨A, c, rfl, hform⟩ := hv.spelled
  have HF := Lib.hid hform
  have HLE := Lib.hid hl
  have hll : l.length ≤ 4294967296 := Nat.le_trans (Gr.eventsR_more l) hl
  clear hform hv hl
  go_enter Tryz.func18, Tryz.ntmps18
  go_wp2
  go_loopw [3, 9] (fun v i wr => EventsRel' w l v i wr) (fun _ i _ => l.length - (intOf i).toNat)
  case atStart => exact ⟨0, Nat.zero_le _, rfl, World.ownsRow_lit w #[] 0 (Nat.le_refl _) (by simp [maxLen]) (by simp), (Below.refl _ _).alloc (Nat.le_refl _) _⟩
  case round =>
    obtain ⟨k, hk, rfl, hown, hb⟩ := hrel
    have HO := Lib.hid hown
    have HB := Lib.hid hb
    obtain ⟨A', cp, rfl⟩ := own_form hown
    clear hown hb
    by_cases hlt : k < l.length
    · obtain ⟨ad, u, rfl, hblk, hT, hU⟩ := HF.out k hlt
      obtain ⟨t, ht⟩ : ∃ t, t = l[k]'hlt := ⟨_, rfl⟩
      have HT1 := Lib.hid (Gr.eventsR_take l k hlt)
      have hn : (Gr.eventsR (l.take k)).length + (t.ops.length + 2) ≤ 4294967296 := by
        have h1 := Gr.eventsR_len l (k + 1)
        rw [Gr.eventsR_take l k hlt, List.length_append, Gr.txEvents_len, ← ht] at h1
        exact Nat.le_trans h1 HLE.out
      rw [← ht] at hT hU HT1
      obtain ⟨Au, cu, rfl, _⟩ := hU.form
      have HE := Lib.hid (hT.below hblk HB.out)
      have HU := Lib.hid hU
      have hc0 := HE.out.c0
      have hc1 := HE.out.c1
      have hc2 := HE.out.c2
      have hc3 := HE.out.c3
      generalize Gr.eventsR (l.take k) = d at *
      clear hT ht hU
      have HTV := Lib.hid (TxVar.new wr t (.slice Au t.ops.length cu) 69)
      have HO1 := Lib.hid ((HO.out.alloc (.cells #[.int .i64 t.session, .bool t.done, .int .i64 t.first, .slice Au t.ops.length cu] 69)).alloc (.cells #[.int .i64 0, .int .i64 t.session, .int .i64 0, .int .i64 0] 74))
      have HB1 := Lib.hid ((HB.out.alloc HB.out.size (.cells #[.int .i64 t.session, .bool t.done, .int .i64 t.first, .slice Au t.ops.length cu] 69)).alloc (Nat.le_trans HB.out.size (by simp)) (.cells #[.int .i64 0, .int .i64 t.session, .int .i64 0, .int .i64 0] 74))
      have HNF : Hid (some wr.heap.size ≠ (Value.slice A' d.length cp).ownBlock) := by
        rcases ne_fresh HO.out with e | e
        · rw [Hid, e]; simp
        · exact fun e' => e e'.symm
      have HTB := Lib.hid (HTV.out.below (alloc_below _ (.cells #[.int .i64 0, .int .i64 t.session, .int .i64 0, .int .i64 0] 74)))
      go_wp2_with (first
        | (at_builtin; refine wpList_append_own_at _ rfl (.tmp 13) (.tmp 17) 45 rfl w.heap.size 74 i0 _ 4 32 Tryz.underlying45 I0.out I1.out I2.out I3.out rfl (by decide) _ d.length (d.flatMap evCells) rfl HO1.out ⟨wr.heap.size + 1, 0, none⟩ 1 1 (evCells (Gr.beginOf t)) rfl rfl (new_ev2 wr _ (Gr.beginOf t) _) (one_evs _) (by simp only [maxLen]; omega) (by omega) HB1.out.size ?_; intro v2 w2 hown2 hgrow2 hnil2 hat2; have HO2 := Lib.hid (own_evs [Gr.beginOf t] (by simpa using hown2)); have HB2 := Lib.hid (below_append HB1.out HB1.out.size HO1.out hgrow2); have HT2 := Lib.hid (HTB.out.grown hgrow2 HNF.out); have HU2 := Lib.hid (HU.out.below HB2.out); have HN2 : Hid (some wr.heap.size ≠ v2.ownBlock) := (by rcases hat2 with e | e <;> rw [Hid, e]; exact HNF.out; simp; omega); have q3 := HT2.out.c3; clear hnil2 hown2 hgrow2 hat2)
        | (at_builtin; refine wpList_append_sl _ rfl (.tmp 19) (.tmp 21) 45 rfl w.heap.size 74 i0 _ 4 32 Tryz.underlying45 I0.out I1.out I2.out I3.out rfl (by decide) v2 _ _ rfl HO2.out _ t.ops.length (t.ops.flatMap evCells) rfl HU2.out (all_evs t.ops) (by simp [maxLen]; omega) (by simp; omega) HB2.out.size ?_; intro v3 w3 hown3 hgrow3 hat3; have HO3 := Lib.hid (own_evs t.ops hown3); have HB3 := Lib.hid (below_append HB2.out HB2.out.size HO2.out hgrow3); have HT3 := Lib.hid (HT2.out.grown hgrow3 HN2.out); clear hown3 hgrow3 hat3 q3))
      have e0 := HT3.out.c0
      have e1 := HT3.out.c1
      have e2 := HT3.out.c2
      have e3 := HT3.out.c3
      have hdl : (d ++ [Gr.beginOf t] ++ t.ops).length + 1 ≤ 4294967296 := by simp; omega
      have HEE := Lib.hid (show d ++ Gr.txEvents t = d ++ [Gr.beginOf t] ++ t.ops ++ [Gr.endOf t] by simp [Gr.txEvents])
      generalize d ++ [Gr.beginOf t] ++ t.ops = d3 at *
      clear HTB HT2 HU2 HO2 HN2 HNF HTV hc0 hc1 hc2 hc3 HE
      go_region_law (first
        | (refine step_append_lies _ rfl (.tmp 23) (.tmp 29) 45 rfl w.heap.size 74 i0 _ 4 32 Tryz.underlying45 I0.out I1.out I2.out I3.out rfl (by decide) v3 d3.length (d3.flatMap evCells) (by simp [Act.eval]) HO4.out ⟨w4.heap.size, 0, none⟩ 1 1 (evCells (Gr.endOf t)) (by simp [Act.eval]) rfl HNE.out (one_evs _) (by decide) (by simp only [maxLen]; omega) (by omega) (by simp; exact HBS.out) (w4.heap.size + 1) (by simp) ?_; intro g2 cap2 w5 hown5 hgrow5 hat5 hlt5; have HO5 := Lib.hid (own_evs [Gr.endOf t] (by simpa using hown5)); have HB5 := Lib.hid (below_append (HB4.out.alloc HB4.out.size _) (HB4.out.alloc HB4.out.size _).size HO4.out hgrow5); clear hown5 hgrow5 hat5 hlt5)
        | (go_simp; go_at_call 42; refine (lastKind_at t (.slice Au t.ops.length cu) _).mono ?_; rintro e w4 ⟨rfl, hb4⟩; have HB4 := Lib.hid (below_all (below_all HB3.out (drewN_below w3 1)) hb4); have HO4 := Lib.hid ((own_below (own_drewN HO3.out 1) hb4).alloc (.cells #[.int .i64 (Gr.endOf t).kind, .int .i64 t.session, .int .i64 0, .int .i64 0] 74)); have e4 : w4.cell? ⟨wr.heap.size, 0, none⟩ = some (.int .i64 t.session) := (hb4.cell (World.block_lt_of_cell? w3 _ e0)).trans e0; have HNE := Lib.hid (new_ev w4 (Gr.endOf t) 74); have HBS := Lib.hid (Nat.le_trans HB4.out.size (Nat.le_succ w4.heap.size)); clear hb4))
      all_goals
        go_wp2_with fail
        go_roundw
        case rel =>
          refine ⟨k + 1, by omega, by go_num, ?_, HB5.out⟩
          rw [HT1.out, HEE.out]
          exact HO5.out
        case measure => simp [intOf]; omega
    · have HK : Hid (Gr.eventsR (l.take k) = Gr.eventsR l) := by rw [Hid, List.take_of_length_le (by omega)]
      generalize Gr.eventsR (l.take k) = d at *
      go_wp2_with fail
      go_ret
      exact ⟨_, rfl, by rw [← HK.out]; exact Evs.own HO.out, HB.out⟩
end Go.Proofs.YtfjamdpgbbnmcaaGreatDoor
/-
  What the reference's last, One and Same of layer 5 answer, and the laws' Plain: the last transaction of a session; that two are the same, where they are; the same transactions, in a row of its own. What was in memory stays as it was.
  Conditions: a row has at most 2^32 elements.
  (This program has not all of these functions: rOne_at is left out here.)
-/
set_option maxRecDepth 4000
namespace Go.Proofs.YtfjamdpgbbnmcaaGreatDoor
open Go.RowKit

/-- r tells the last transaction of a session; below 0: there is none. -/
def LastAt (l : List Gr.Tx) (s r : Int) : Prop :=
  (r = -1 ∧ ∀ j (h : j < l.length), l[j].session ≠ s) ∨ ∃ k : Nat, ∃ hk : k < l.length, r = (k : Int) ∧ l[k].session = s ∧ ∀ j (h : j < l.length), k < j → l[j].session ≠ s

set_option maxHeartbeats 1000000 in
theorem rLast_at (l : List Gr.Tx) (v : Value) (s : Int) (w : World) (hv : Txs w v l) (hl : l.length ≤ 4294967296) : Calls Tryz.prog 35 #[v, .int .i64 s] w fun e w' => ∃ r, e = .returned (.int .i64 r) ∧ LastAt l s r ∧ w = w' := by
  obtain ⟨A, c, rfl, hform⟩ := hv.spelled
  have HF := Lib.hid hform
  clear hform hv
  go_enter Tryz.func35, Tryz.ntmps35
  go_wp2
  go_loop [5] (fun i => ∃ n : Nat, n ≤ l.length ∧ i = .int .i64 ((n : Int) - 1) ∧ ∀ j (h : j < l.length), n ≤ j → l[j].session ≠ s) (fun i => (intOf i + 1).toNat)
  case atStart => exact ⟨l.length, Nat.le_refl _, rfl, fun j h h' => by omega⟩
  case round =>
    obtain ⟨n, hn, rfl, hall⟩ := hrel
    have HA := Lib.hid hall
    clear hall
    cases n with
    | zero =>
      have hd : decide (0 ≤ ((0 : Nat) : Int) - 1) = false := by simp
      go_wp2_with fail
      go_ret
      exact ⟨-1, rfl, .inl ⟨rfl, fun j h => HA.out j h (Nat.zero_le _)⟩, rfl⟩
    | succ m =>
      have e1 : ((m + 1 : Nat) : Int) - 1 = (m : Int) := by omega
      rw [e1]
      have hd : decide (0 ≤ (m : Int)) = true := by simp
      have hm : m < l.length := by omega
      obtain ⟨ad, u, rfl, hblk, hT, _⟩ := HF.out m hm
      have hc0 := hT.c0
      by_cases hs : (l[m]'hm).session = s
      · have hb : ((l[m]'hm).session == s) = true := by rw [beq_iff_eq]; exact hs
        have HR : Hid (LastAt l s (m : Int)) := .inr ⟨m, hm, rfl, hs, fun j h h' => HA.out j h (by omega)⟩
        generalize (l[m]'hm).session = z at *
        clear hs hT
        go_wp2_with fail
        go_ret
        exact ⟨_, rfl, HR.out, rfl⟩
      · have hb : ((l[m]'hm).session == s) = false := by rw [beq_eq_false_iff_ne]; exact hs
        have HN : Hid (∀ j (h : j < l.length), m ≤ j → l[j].session ≠ s) := fun j h h' => by
          rcases Nat.lt_or_ge m j with h2 | h2
          · exact HA.out j h (by omega)
          · obtain rfl : j = m := by omega
            exact hs
        generalize (l[m]'hm).session = z at *
        clear hs hT HA
        go_wp2_with fail
        go_round
        case rel => exact ⟨m, by omega, by go_num, HN.out⟩
        case measure => simp [intOf]

def txV (t : Gr.Tx) (u : Value) : Value := .agg #[.int .i64 t.session, .bool t.done, .int .i64 t.first, u]

end Go.Proofs.YtfjamdpgbbnmcaaGreatDoor
/-
  What the reference's Same of layer 5 answers of two rows that are one, and the laws' Plain: the same transactions, in a row of its own. What was in memory stays as it was.
  Conditions: a row has at most 2^32 elements.
  (This program has not all of these functions: rSame5_at, plain_at are left out here.)
-/
set_option maxRecDepth 4000
namespace Go.Proofs.YtfjamdpgbbnmcaaGreatDoor
open Go.RowKit

/-- A row of transactions, in whatever memory was made. -/
def RetTxRow (w : World) (l : List Gr.Tx) (e : Ending) (w' : World) : Prop := ∃ v, e = .returned v ∧ Txs w' v l ∧ Below w.heap.size w w'

theorem gt_info : (Tryz.prog.info? 53).map (fun i => (i.zero, i.size, i.bytes)) = some (some (.agg #[.int .i64 0, .bool false, .int .i64 0, .slice none 0 0]), 4, 48) := by kernel_rfl

theorem Txs.parts {w : World} {v : Value} {l : List Gr.Tx} (h : Txs w v l) :
    ∃ (p : List (Gr.Tx × Value)) (A : Option Addr) (c : Nat), p.map (·.1) = l ∧ v = .slice A p.length c ∧ (∀ x ∈ p, Evs w x.2 x.1.ops) ∧ ∀ (k : Nat) (hk : k < p.length), ∃ ad : Addr, A = some ad ∧ ad.block < w.heap.size ∧ TxIn w ad k p[k].1 p[k].2 := by
  obtain ⟨p, rfl, h2, h3⟩ := h
  obtain ⟨A, c, hv, hh⟩ := h2.form
  refine ⟨p, A, c, rfl, hv, h3, fun k hk => ?_⟩
  obtain ⟨ad, e, hb, hc⟩ := hh (by omega)
  have key : ∀ j (hj : j < 4) x, (txC p[k])[j]? = some x → w.cell? (ad.add (k * 4 + j)) = some x := fun j hj x hx => hc _ _ ((four_at txC_len p k hk j hj).trans hx)
  refine ⟨ad, e, hb, ⟨?_, ?_, ?_, ?_⟩⟩
  · exact key 0 (by omega) _ rfl
  · rw [add_next ad _ 1 (by omega)]; exact key 1 (by omega) _ rfl
  · rw [add_next ad _ 2 (by omega)]; exact key 2 (by omega) _ rfl
  · rw [add_next ad _ 3 (by omega)]; exact key 3 (by omega) _ rfl
theorem TxIn.on {w w' : World} {ad : Addr} {k : Nat} {t : Gr.Tx} {u : Value} (h : TxIn w ad k t u) (hlt : ad.block < w.heap.size) (hb : Below w.heap.size w w') :
    w'.cell? (ad.add (k * 4)) = some (.int .i64 t.session) ∧ w'.cell? ⟨(ad.add (k * 4)).block, (ad.add (k * 4)).off + 1, none⟩ = some (.bool t.done) ∧ w'.cell? ⟨(ad.add (k * 4)).block, (ad.add (k * 4)).off + 2, none⟩ = some (.int .i64 t.first) ∧ w'.cell? ⟨(ad.add (k * 4)).block, (ad.add (k * 4)).off + 3, none⟩ = some u :=
  let h' := h.below hlt hb
  ⟨h'.c0, h'.c1, h'.c2, h'.c3⟩
theorem own_txc {w : World} {base : Nat} {e : TypeId} {v : Value} (p : List (Gr.Tx × Value)) (k : Nat) (hk : k < p.length) (h : w.ownsRow base e 4 v (k + 1) ((p.take k).flatMap txC ++ txC p[k])) : w.ownsRow base e 4 v (k + 1) ((p.take (k + 1)).flatMap txC) := by
  rw [List.take_succ_eq_append_getElem hk, List.flatMap_append]
  simpa using h
theorem one_txc (x : Gr.Tx) (A : Option Addr) (n c : Nat) : ∀ u ∈ txC (x, .slice A n c), u.oneCell' = true := by
  intro u hu
  simp only [txC, List.mem_cons, List.not_mem_nil, or_false] at hu
  rcases hu with rfl | rfl | rfl | rfl
  all_goals rfl

end Go.Proofs.YtfjamdpgbbnmcaaGreatDoor
/-
  The reference's row of transactions beside its row of what is open: that both agree with the transactions that have begun, and go on agreeing when one begins, gets an op, or is closed; and what the reference's Events answers: Gr.eventsR. What was in memory stays as it was.
  Conditions: the events are at most 2^32.
  (This program has not all of these functions: rEvents_at is left out here.)
-/
set_option maxRecDepth 4000
namespace Go.Proofs.YtfjamdpgbbnmcaaGreatDoor
open Go.RowKit

/-- Rows of different types lie in different blocks. -/
theorem own_types {w : World} {b1 b2 s1 s2 n1 n2 : Nat} {e1 e2 : TypeId} {v1 v2 : Value} {x1 x2 : List Value} (h1 : w.ownsRow b1 e1 s1 v1 n1 x1) (h2 : w.ownsRow b2 e2 s2 v2 n2 x2) (he : e1 ≠ e2) : v1.ownBlock = none ∨ v1.ownBlock ≠ v2.ownBlock := by
  rcases h1.2 with ⟨rfl, _⟩ | ⟨g1, c1, cur1, rfl, _, hg1, _⟩
  · exact .inl rfl
  · refine .inr fun e => ?_
    rcases h2.2 with ⟨rfl, _⟩ | ⟨g2, c2, cur2, rfl, _, hg2, _⟩
    · cases e
    · have e' : g1 = g2 := by simpa [Value.ownBlock] using e
      rw [e', hg2] at hg1
      cases hg1
      exact he rfl

def openC (st : List (Gr.Tx × Bool)) : List Value := st.map fun x => .bool x.2
/-- What stands behind events that are right. -/
structure RefAt (w wr : World) (v vo : Value) (st : List (Gr.Tx × Bool)) (p : List (Gr.Tx × Value)) : Prop where
  own : OwnTxs wr w.heap.size 53 74 v p
  opn : wr.ownsRow w.heap.size 4 1 vo st.length (openC st)
  same : p.map (·.1) = st.map (·.1)
  fine : Gr.Fine st
  below : Below w.heap.size w wr
theorem RefAt.len {w wr : World} {v vo : Value} {st : List (Gr.Tx × Bool)} {p : List (Gr.Tx × Value)} (h : RefAt w wr v vo st p) : p.length = st.length := by
  have := congrArg List.length h.same
  simpa using this
theorem RefAt.at {w wr : World} {v vo : Value} {st : List (Gr.Tx × Bool)} {p : List (Gr.Tx × Value)} (h : RefAt w wr v vo st p) (j : Nat) (hj : j < p.length) (hj' : j < st.length) : p[j].1 = st[j].1 := by
  have h1 := congrArg (·[j]?) h.same
  simp only [List.getElem?_map, List.getElem?_eq_getElem hj, List.getElem?_eq_getElem hj', Option.map_some, Option.some.injEq] at h1
  exact h1
theorem RefAt.later {w wr w' : World} {v vo : Value} {st : List (Gr.Tx × Bool)} {p : List (Gr.Tx × Value)} (h : RefAt w wr v vo st p) (hb : Below wr.heap.size wr w') : RefAt w w' v vo st p :=
  ⟨h.own.below hb, own_below h.opn hb, h.same, h.fine, below_all h.below hb⟩
theorem RefAt.txs {w wr : World} {v vo : Value} {st : List (Gr.Tx × Bool)} {p : List (Gr.Tx × Value)} (h : RefAt w wr v vo st p) : Txs wr v (st.map (·.1)) := by
  rw [← h.same]
  exact h.own.txs
/-- Where what is open lies. -/
theorem RefAt.cell {w wr : World} {v vo : Value} {st : List (Gr.Tx × Bool)} {p : List (Gr.Tx × Value)} (h : RefAt w wr v vo st p) (j : Nat) (hj : j < st.length) : ∃ g c, vo = .slice (some ⟨g, 0, none⟩) st.length c ∧ wr.cell? ⟨g, j, none⟩ = some (.bool st[j].2) ∧ wr.frozen? ⟨g, j, none⟩ = false := by
  have h0 := h.opn
  rcases h.opn.2 with ⟨_, h1⟩ | ⟨g, cap, cur, rfl, _⟩
  · omega
  · refine ⟨g, cap, rfl, ?_, h0.frozenAt _⟩
    rw [h0.cellAt j (by omega), openC, List.getElem?_map, List.getElem?_eq_getElem hj]
    rfl
/-- One begins. -/
theorem RefAt.begin {w wr w2 w3 : World} {v vo v' vo' : Value} {st : List (Gr.Tx × Bool)} {p : List (Gr.Tx × Value)} (h : RefAt w wr v vo st p) (x : Ev.Event) (i : Nat) (o o' : Obj) (hk : x.kind = 0) (hf : Gr.fault st x = 0)
    (hrow : w2.ownsRow w.heap.size 53 4 v' (p.length + 1) (p.flatMap txC ++ txC (⟨x.session, false, (i : Int), []⟩, .slice none 0 0))) (hg : (wr.alloc o).grownBy w2 v.ownBlock) (hv : v'.ownBlock = v.ownBlock ∨ v'.ownBlock = some (wr.alloc o).heap.size)
    (hopn : w3.ownsRow w.heap.size 4 1 vo' (st.length + 1) (openC st ++ [.bool true])) (hg3 : (w2.alloc o').grownBy w3 vo.ownBlock) :
    RefAt w w3 v' vo' (Gr.next i st x) (p ++ [(⟨x.session, false, (i : Int), []⟩, .slice none 0 0)]) := by
  have e : Gr.next i st x = st ++ [(⟨x.session, false, (i : Int), []⟩, true)] := by rw [Gr.next, if_pos hk]
  have ho1 : (wr.alloc o).ownsRow w.heap.size 4 1 vo st.length (openC st) := h.opn.alloc o
  have hr1 : OwnTxs (wr.alloc o) w.heap.size 53 74 v p := h.own.below (alloc_below wr o)
  have r2 := hr1.snoc rfl hrow hg hv
  have ho2 : w2.ownsRow w.heap.size 4 1 vo st.length (openC st) := ho1.kept hg (own_types ho1 hr1.row (by decide))
  have r3 := r2.below (alloc_below w2 o')
  have ho3 := ho2.alloc o'
  refine ⟨r3.kept hg3 (own_types r3.row ho3 (by decide)) (fun y hy => own_types (r3.ops y hy) ho3 (by decide)), ?_, ?_, h.fine.next i hf, ?_⟩
  · rw [e, List.length_append, List.length_singleton, openC, List.map_append]
    exact hopn
  · rw [e, List.map_append, List.map_append, h.same]
    rfl
  · have hb := below_all h.below (alloc_below wr o)
    have hb2 := below_append hb hb.size hr1.row hg
    have hb3 := below_all hb2 (alloc_below w2 o')
    exact below_append hb3 hb3.size ho3 hg3
/-- The open one gets an op. -/
theorem RefAt.op {w wr w1 : World} {g c : Nat} {vo : Value} {st : List (Gr.Tx × Bool)} {p : List (Gr.Tx × Value)} {u : Value} (h : RefAt w wr (.slice (some ⟨g, 0, none⟩) p.length c) vo st p) (x : Ev.Event) (i j : Nat) (hj : j < p.length) (hj' : j < st.length) (hm : Gr.mine x.session st[j] = true) (hk : x.kind ≠ 0) (hkey : Ev.hasKey x.kind = true) (hf : Gr.fault st x = 0)
    (hu : w1.ownsRow w.heap.size 74 4 u (p[j].1.ops.length + 1) (p[j].1.ops.flatMap evCells ++ evCells x)) (hg : wr.grownBy w1 p[j].2.ownBlock) (hv : u.ownBlock = p[j].2.ownBlock ∨ u.ownBlock = some wr.heap.size) :
    RefAt w (w1.setCell ⟨g, j * 4 + 3, none⟩ u) (.slice (some ⟨g, 0, none⟩) p.length c) vo (Gr.next i st x) (p.set j ({ p[j].1 with ops := p[j].1.ops ++ [x] }, u)) := by
  have e : Gr.next i st x = Gr.upd st x.session (Gr.addOp x) := by rw [Gr.next, if_neg hk, if_pos hkey]
  have hset := Gr.upd_set h.fine x.session (Gr.addOp x) j hj' hm
  have r1 := h.own.grow j hj { p[j].1 with ops := p[j].1.ops ++ [x] } u ⟨rfl, rfl, rfl⟩ (Evs.own_snoc hu) hg hv
  have hops := h.own.ops _ (List.getElem_mem hj)
  have hpj := h.at j hj hj'
  have h2 : st[j].2 = true := ((Gr.mine_iff _ _).1 hm).2
  have ho1 : w1.ownsRow w.heap.size 4 1 vo st.length (openC st) := h.opn.kept hg (own_types h.opn hops (by decide))
  have hrow1 : w1.ownsRow w.heap.size 53 4 (.slice (some ⟨g, 0, none⟩) p.length c) p.length (p.flatMap txC) := h.own.row.kept hg (own_types h.own.row hops (by decide))
  have ho2 := ho1.kept (hrow1.stored (j * 4 + 3) u).2 (own_types ho1 hrow1 (by decide))
  refine ⟨r1, ?_, ?_, h.fine.next i hf, ?_⟩
  · rw [e, hset, List.length_set, openC, List.map_set]
    have e2 : (Value.bool (Gr.addOp x st[j].1).2) = (Value.bool st[j].2) := by rw [h2]; rfl
    rw [e2]
    have e3 : (st.map fun x => Value.bool x.2).set j (.bool st[j].2) = st.map fun x => Value.bool x.2 := by
      apply List.ext_getElem
      · simp
      · intro n h1 _
        rw [List.getElem_set]
        split
        · rename_i h'; subst h'; simp
        · rfl
    rw [e3]
    exact ho2
  · rw [e, hset, List.map_set, List.map_set, h.same, hpj]
    rfl
  · exact (below_append h.below h.below.size hops hg).setCell (h.own.row.lt g rfl).1 _
/-- The open one is closed. -/
theorem RefAt.close {w wr : World} {g c go co : Nat} {st : List (Gr.Tx × Bool)} {p : List (Gr.Tx × Value)} (h : RefAt w wr (.slice (some ⟨g, 0, none⟩) p.length c) (.slice (some ⟨go, 0, none⟩) st.length co) st p) (x : Ev.Event) (b : Bool) (hb3 : (x.kind == 3) = b) (i j : Nat) (hj : j < p.length) (hj' : j < st.length) (hm : Gr.mine x.session st[j] = true) (hk : x.kind ≠ 0) (hkey : Ev.hasKey x.kind = false) (hf : Gr.fault st x = 0) :
    RefAt w ((wr.setCell ⟨go, j, none⟩ (.bool false)).setCell ⟨g, j * 4 + 1, none⟩ (.bool b)) (.slice (some ⟨g, 0, none⟩) p.length c) (.slice (some ⟨go, 0, none⟩) st.length co) (Gr.next i st x) (p.set j ({ p[j].1 with done := b }, p[j].2)) := by
  have hb4 : decide (x.kind = 3) = b := by rw [← hb3]; rfl
  have e : Gr.next i st x = Gr.upd st x.session (Gr.shut b) := by rw [Gr.next, if_neg hk, if_neg (by rw [hkey]; simp), hb4]
  have hset := Gr.upd_set h.fine x.session (Gr.shut b) j hj' hm
  have hpj := h.at j hj hj'
  obtain ⟨s1, s2⟩ := h.opn.stored j (.bool false)
  have r1 : OwnTxs (wr.setCell ⟨go, j, none⟩ (.bool false)) w.heap.size 53 74 (.slice (some ⟨g, 0, none⟩) p.length c) p := h.own.kept s2 (own_types h.own.row h.opn (by decide)) (fun y hy => own_types (h.own.ops y hy) h.opn (by decide))
  have r2 := r1.put j hj 1 (by omega) { p[j].1 with done := b } (.bool b) rfl rfl
  refine ⟨r2, ?_, ?_, h.fine.next i hf, ?_⟩
  · rw [e, hset, List.length_set, openC, List.map_set]
    exact s1.kept (r1.row.stored (j * 4 + 1) (.bool b)).2 (own_types s1 r1.row (by decide))
  · rw [e, hset, List.map_set, List.map_set, h.same, hpj]
    rfl
  · exact (h.below.setCell (h.opn.lt go rfl).1 _).setCell (h.own.row.lt g rfl).1 _

end Go.Proofs.YtfjamdpgbbnmcaaGreatDoor
/-
  What the reference's Group of layer 5 answers, for every row of events: Gr.groupR; what was in memory stays as it was.
  Conditions: a row has at most 2^32 elements.
-/
set_option maxRecDepth 4000
namespace Go.Proofs.YtfjamdpgbbnmcaaGreatDoor
open Go.RowKit

theorem bool_info : (Tryz.prog.info? 4).map (fun i => (i.zero, i.size, i.bytes)) = some (some (.bool false), 1, 1) := by kernel_rfl
theorem one_bool : ∀ u ∈ [Value.bool true], u.oneCell' = true := by
  intro u hu
  rw [List.mem_singleton.1 hu]
  rfl

/-- What the loop holds at the head of each round. -/
def RefRel (w : World) (l : List Ev.Event) (v vo i : Value) (wr : World) : Prop :=
  ∃ (k : Nat) (p : List (Gr.Tx × Value)), k ≤ l.length ∧ i = .int .i64 k ∧ Gr.run 0 [] (l.take k) = none ∧ RefAt w wr v vo (Gr.go 0 [] (l.take k)) p

namespace Gr
theorem fault_arg (st : List (Tx × Bool)) (e : Ev.Event) (h : Ev.right e = false) : fault st e = 1 := by rw [fault, if_pos h]
theorem fault_open (st : List (Tx × Bool)) (e : Ev.Event) (h : Ev.right e = true) (hk : e.kind = 0) (ho : hasOpen st e.session = true) : fault st e = 5 := by rw [fault, if_neg (by rw [h]; simp), if_pos hk, if_pos ho]
theorem fault_many (st : List (Tx × Bool)) (e : Ev.Event) (h : Ev.right e = true) (hk : e.kind = 0) (ho : hasOpen st e.session = false) (hl : st.length = 32) : fault st e = 4 := by rw [fault, if_neg (by rw [h]; simp), if_pos hk, if_neg (by rw [ho]; simp), if_pos hl]
theorem fault_begin (st : List (Tx × Bool)) (e : Ev.Event) (h : Ev.right e = true) (hk : e.kind = 0) (ho : hasOpen st e.session = false) (hl : st.length ≠ 32) : fault st e = 0 := by rw [fault, if_neg (by rw [h]; simp), if_pos hk, if_neg (by rw [ho]; simp), if_neg hl]
theorem fault_shut (st : List (Tx × Bool)) (e : Ev.Event) (h : Ev.right e = true) (hk : e.kind ≠ 0) (ho : hasOpen st e.session = false) : fault st e = 6 := by rw [fault, if_neg (by rw [h]; simp), if_neg hk, if_neg (by rw [ho]; simp)]
theorem fault_none (st : List (Tx × Bool)) (e : Ev.Event) (h : Ev.right e = true) (hk : e.kind ≠ 0) (ho : hasOpen st e.session = true) : fault st e = 0 := by rw [fault, if_neg (by rw [h]; simp), if_neg hk, if_pos ho]
end Gr

set_option maxHeartbeats 4000000 in
set_option maxRecDepth 4000 in
theorem rGroup_at (l : List Ev.Event) (v : Value) (w : World) (hv : Evs w v l) (hl : l.length ≤ 4294967296) : Calls Tryz.prog 15 #[v] w (RetTxs w (Gr.groupR l)) := by
  obtain ⟨i0, hi0, hz0, hz1, hz2⟩ := info_parts ev_info
  have I0 := Lib.hid hi0
  have I1 := Lib.hid hz0
  have I2 := Lib.hid hz1
  have I3 := Lib.hid hz2
  clear hi0 hz0 hz1 hz2
  obtain ⟨j0, hi0, hz0, hz1, hz2⟩ := info_parts gt_info
  have J0 := Lib.hid hi0
  have J1 := Lib.hid hz0
  have J2 := Lib.hid hz1
  have J3 := Lib.hid hz2
  clear hi0 hz0 hz1 hz2
  obtain ⟨b0, hi0, hz0, hz1, hz2⟩ := info_parts bool_info
  have K0 := Lib.hid hi0
  have K1 := Lib.hid hz0
  have K2 := Lib.hid hz1
  have K3 := Lib.hid hz2
  clear hi0 hz0 hz1 hz2
  obtain ⟨A, c, rfl, hform⟩ := hv.spelled
  have HF := Lib.hid hform
  clear hform hv
  go_enter Tryz.func15, Tryz.ntmps15
  go_wp2
  go_loopw [5, 6, 7] (fun v vo i wr => RefRel w l v vo i wr) (fun _ _ i _ => l.length - (intOf i).toNat)
  case atStart => exact ⟨0, [], Nat.zero_le _, rfl, rfl, ⟨OwnTxs.nil _ _ _ _, World.ownsRow_nil _ _ _ _, rfl, Gr.Fine.nil, Below.refl _ _⟩⟩
  case round =>
    obtain ⟨k, p, hk, rfl, hrun, hat⟩ := hrel
    have HU := Lib.hid hrun
    have HG := Lib.hid hat
    obtain ⟨A', cp, rfl⟩ := own_form hat.own.row
    obtain ⟨Ao, co, rfl⟩ := own_form hat.opn
    clear hrun hat
    by_cases hlt : k < l.length
    · obtain ⟨ad, rfl, hblk, hE⟩ := HF.out k hlt
      obtain ⟨x, hx⟩ : ∃ x, x = l[k]'hlt := ⟨_, rfl⟩
      have HT := Lib.hid (Gr.run_take l k hlt HU.out)
      rw [← hx] at hE HT
      have HE := Lib.hid (hE.below hblk HG.out.below)
      have hc0 := HE.out.c0
      have hc1 := HE.out.c1
      have hc2 := HE.out.c2
      have hc3 := HE.out.c3
      have HOL := Lib.hid (Gr.ops_le _ HU.out)
      generalize Gr.go 0 [] (l.take k) = st at *
      have HL := Lib.hid HG.out.len
      have h32 : p.length ≤ 32 := by rw [HL.out]; exact HG.out.fine.len
      have hs32 : st.length ≤ 32 := HG.out.fine.len
      have HFI := Lib.hid HG.out.fine
      clear hE hx
      go_wp2_with fail
      refine (rEvRight_at x _).mono ?_
      rintro e w1 ⟨rfl, hb1⟩
      have HG1 := Lib.hid (HG.out.later (below_new hb1))
      have e0 : w1.cell? ⟨wr.heap.size, 0, none⟩ = some (.int .i64 x.kind) := (hb1.cell (by simp)).trans (new_cell wr _ _ 0 _ rfl)
      have e1 : w1.cell? ⟨wr.heap.size, 1, none⟩ = some (.int .i64 x.session) := (hb1.cell (by simp)).trans (new_cell wr _ _ 1 _ rfl)
      have e2 : w1.cell? ⟨wr.heap.size, 2, none⟩ = some (.int .i64 x.key) := (hb1.cell (by simp)).trans (new_cell wr _ _ 2 _ rfl)
      have e3 : w1.cell? ⟨wr.heap.size, 3, none⟩ = some (.int .i64 x.value) := (hb1.cell (by simp)).trans (new_cell wr _ _ 3 _ rfl)
      have HWS := Lib.hid (World.block_lt_of_cell? w1 _ e0)
      have HGS : Hid (∀ g, (Value.slice A' p.length cp).ownBlock = some g → g < wr.heap.size) := fun g hg => (HG.out.own.row.lt g hg).2
      have HGO : Hid (∀ g, (Value.slice Ao st.length co).ownBlock = some g → g < wr.heap.size) := fun g hg => (HG.out.opn.lt g hg).2
      clear hb1 hc0 hc1 hc2 hc3 HE HG
      cases hr : Ev.right x with
      | false =>
        have hq := Gr.fault_arg st x hr
        have HR := Lib.hid (Gr.group_bad l k _ (HT.out.2 (by rw [hq]; decide)))
        rw [hq] at HR
        clear hq hr HT
        go_wp2_with fail
        refine bodyPost_ret (results_tmp3 rfl _ _ _) rfl ?_
        exact RetTxs.mk _ _ _ (by rw [HR.out]) (by rw [HR.out]) (by rw [HR.out]; exact Txs.nil _ _) HG1.out.below
      | true =>
        have HRI := Lib.hid hr
        clear hr
        have HTX := Lib.hid HG1.out.txs
        go_wp2_with fail
        refine (rLast_at (st.map (·.1)) _ x.session w1 HTX.out (by rw [List.length_map]; omega)).mono ?_
        rintro e w2 ⟨r, rfl, hlast, rfl⟩
        -- whether one is open, and where it stands
        obtain ⟨o, ho, hcase⟩ : ∃ o, Gr.hasOpen st x.session = o ∧ ((r = -1 ∧ o = false) ∨ ∃ j : Nat, ∃ hj : j < st.length, r = (j : Int) ∧ st[j].2 = o ∧ st[j].1.session = x.session) := by
          refine ⟨_, rfl, ?_⟩
          rcases hlast with ⟨rfl, h⟩ | ⟨j, hj, rfl, hs, h⟩
          · exact .inl ⟨rfl, Gr.hasOpen_none st x.session (fun j hj => by have := h j (by simpa using hj); simpa using this)⟩
          · have hj' : j < st.length := by simpa using hj
            rw [List.getElem_map] at hs
            refine .inr ⟨j, hj', rfl, ?_, hs⟩
            exact (Gr.hasOpen_last HFI.out x.session j hj' hs (fun i hi hij => by have := h i (by simpa using hi) hij; simpa using this)).symm
        clear hlast
        cases o with
        | false =>
          have hset : r = -1 ∨ ∃ (j go : Nat), r = (j : Int) ∧ Ao = some ⟨go, 0, none⟩ ∧ j < st.length ∧ w1.cell? ⟨go, j, none⟩ = some (.bool false) := by
            rcases hcase with ⟨rfl, _⟩ | ⟨j, hj, rfl, hsj, hss⟩
            · exact .inl rfl
            · obtain ⟨go, co', hv', hcj, _⟩ := HG1.out.cell j hj
              cases hv'
              rw [hsj] at hcj
              exact .inr ⟨j, go, rfl, rfl, hj, hcj⟩
          have HO := Lib.hid ho
          clear hcase ho
          rcases hset with rfl | ⟨j, go, rfl, rfl, hj, hcj⟩
          all_goals
            by_cases hk0 : x.kind = 0
            · have hkb : (x.kind == 0) = true := by rw [beq_iff_eq]; exact hk0
              by_cases hn : st.length = 32
              · have hq := Gr.fault_many st x HRI.out hk0 HO.out hn
                have HR := Lib.hid (Gr.group_bad l k _ (HT.out.2 (by rw [hq]; decide)))
                rw [hq] at HR
                have hnb : (((p.length : Nat) : Int) == 32) = true := by rw [HL.out, hn]; rfl
                clear hq HT hn hk0
                go_wp2_with fail
                refine bodyPost_ret (results_tmp3 rfl _ _ _) rfl ?_
                exact RetTxs.mk _ _ _ (by rw [HR.out]) (by rw [HR.out]) (by rw [HR.out]; exact Txs.nil _ _) HG1.out.below
              · have hq := Gr.fault_begin st x HRI.out hk0 HO.out hn
                obtain ⟨hr1, hr2⟩ := HT.out.1 hq
                have HQ := Lib.hid hq
                have HK0 := Lib.hid hk0
                have HR1 := Lib.hid hr1
                have HR2 := Lib.hid hr2
                have hnb : (((p.length : Nat) : Int) == 32) = false := by
                  rw [beq_eq_false_iff_ne, HL.out]; omega
                have HO1 := Lib.hid ((HG1.out.own.below (alloc_below w1 (.cells #[.int .i64 x.session, .bool false, .int .i64 (k : Int), .slice none 0 0] 53))).row)
                have HB1 := Lib.hid (below_all HG1.out.below (alloc_below w1 (.cells #[.int .i64 x.session, .bool false, .int .i64 (k : Int), .slice none 0 0] 53)))
                have HP1 := Lib.hid (HG1.out.opn.alloc (.cells #[.int .i64 x.session, .bool false, .int .i64 (k : Int), .slice none 0 0] 53))
                clear hq hk0 hr1 hr2 HT hn
                go_wp2_with (first
                  | (at_builtin; refine wpList_append_own_at _ rfl (.tmp 48) (.tmp 53) 48 rfl w.heap.size 53 j0 _ 4 48 Tryz.underlying48 J0.out J1.out J2.out J3.out rfl (by decide) _ p.length (p.flatMap txC) rfl HO1.out ⟨w1.heap.size, 0, none⟩ 1 1 (txC (⟨x.session, false, (k : Int), []⟩, .slice none 0 0)) rfl rfl (new_tx w1 _ _ _) (one_tx _) (by simp only [maxLen]; omega) (by omega) HB1.out.size ?_; intro v' w3 hown' hgrow hnil hat; have HO3 := Lib.hid hown'; have HG3 := Lib.hid hgrow; have HA3 := Lib.hid hat; have HB3 := Lib.hid (below_append HB1.out HB1.out.size HO1.out hgrow); have HP3 := Lib.hid ((HP1.out.kept hgrow (own_types HP1.out HO1.out (by decide))).alloc (.cells #[.bool true] 4)); have HB4 := Lib.hid (below_all HB3.out (alloc_below w3 (.cells #[.bool true] 4))); clear hown' hgrow hnil hat)
                  | (at_builtin; refine wpList_append_own_at _ rfl (.tmp 55) (.tmp 56) 77 rfl w.heap.size 4 b0 _ 1 1 Tryz.underlying77 K0.out K1.out K2.out K3.out rfl (by decide) _ st.length (openC st) rfl HP3.out ⟨w3.heap.size, 0, none⟩ 1 1 [.bool true] rfl rfl (new_one _ _ _) one_bool (by simp only [maxLen]; omega) (by omega) HB4.out.size ?_; intro vo' w4 hown' hgrow hnil hat; have HO4 := Lib.hid hown'; have HG4 := Lib.hid hgrow; clear hown' hgrow hnil hat))
                go_roundw
                case rel =>
                  have hgo := HG1.out.begin x k _ _ HK0.out HQ.out HO3.out HG3.out HA3.out HO4.out HG4.out
                  rw [← HR2.out] at hgo
                  exact ⟨k + 1, _, by omega, by go_num, HR1.out, hgo⟩
                case measure => simp [intOf]; omega
            · have hkb : (x.kind == 0) = false := by rw [beq_eq_false_iff_ne]; exact hk0
              have hq := Gr.fault_shut st x HRI.out hk0 HO.out
              have HR := Lib.hid (Gr.group_bad l k _ (HT.out.2 (by rw [hq]; decide)))
              rw [hq] at HR
              clear hq HT hk0
              go_wp2_with fail
              refine bodyPost_ret (results_tmp3 rfl _ _ _) rfl ?_
              exact RetTxs.mk _ _ _ (by rw [HR.out]) (by rw [HR.out]) (by rw [HR.out]; exact Txs.nil _ _) HG1.out.below
        | true =>
          obtain ⟨j, hj, rfl, hsj, hss⟩ : ∃ j : Nat, ∃ hj : j < st.length, r = (j : Int) ∧ st[j].2 = true ∧ st[j].1.session = x.session := by
            rcases hcase with ⟨_, h⟩ | h
            · cases h
            · exact h
          have HMI := Lib.hid (Gr.mine_at hj hss hsj)
          have HJ := Lib.hid hj
          have hjp : j < p.length := by rw [HL.out]; exact hj
          obtain ⟨go, co', hv', hcj, hfj⟩ := HG1.out.cell j hj
          cases hv'
          rw [hsj] at hcj
          obtain ⟨g, cp', hv', hcl⟩ := HG1.out.own.form j hjp
          cases hv'
          have HO := Lib.hid ho
          clear hcase ho hsj hss
          by_cases hk0 : x.kind = 0
          · have hkb : (x.kind == 0) = true := by rw [beq_iff_eq]; exact hk0
            have hq := Gr.fault_open st x HRI.out hk0 HO.out
            have HR := Lib.hid (Gr.group_bad l k _ (HT.out.2 (by rw [hq]; decide)))
            rw [hq] at HR
            clear hq HT hk0 hcl
            go_wp2_with fail
            refine bodyPost_ret (results_tmp3 rfl _ _ _) rfl ?_
            exact RetTxs.mk _ _ _ (by rw [HR.out]) (by rw [HR.out]) (by rw [HR.out]; exact Txs.nil _ _) HG1.out.below
          · have hkb : (x.kind == 0) = false := by rw [beq_eq_false_iff_ne]; exact hk0
            have hq := Gr.fault_none st x HRI.out hk0 HO.out
            obtain ⟨hr1, hr2⟩ := HT.out.1 hq
            have HQ := Lib.hid hq
            have HK0 := Lib.hid hk0
            have HR1 := Lib.hid hr1
            have HR2 := Lib.hid hr2
            have hgw : g < wr.heap.size := HGS.out g rfl
            have hgo : go < wr.heap.size := HGO.out go rfl
            have hgg : g ≠ go := by
              rcases own_types HG1.out.own.row HG1.out.opn (by decide) with e | e
              · cases e
              · exact fun e' => e (by rw [e']; rfl)
            cases hkey : Ev.hasKey x.kind with
            | true =>
              have HKE := Lib.hid hkey
              have key : (x.kind == 1) = true ∨ (x.kind == 1) = false ∧ (x.kind == 2) = true := by
                rcases (Ev.hasKey_iff _).1 hkey with h | h
                · exact .inl (by rw [beq_iff_eq]; exact h)
                · exact .inr ⟨by rw [beq_eq_false_iff_ne]; omega, by rw [beq_iff_eq]; exact h⟩
              obtain ⟨d1, f1⟩ := hcl 3 (by omega)
              have d2 : w1.cell? ⟨g, j * 4 + 3, none⟩ = some p[j].2 := d1
              have hol : p[j].1.ops.length ≤ 4294967296 := by
                have h1 := HOL.out st[j] (List.getElem_mem hj)
                rw [List.length_take] at h1
                rw [HG1.out.at j hjp hj]
                omega
              have HOO := Lib.hid (own_drewN ((HG1.out.own.ops _ (List.getElem_mem hjp)).alloc (.cells #[.int .i64 x.kind, .int .i64 x.session, .int .i64 x.key, .int .i64 x.value] 74)) 1)
              have HGA := Lib.hid ((HG1.out.later (alloc_below w1 (.cells #[.int .i64 x.kind, .int .i64 x.session, .int .i64 x.key, .int .i64 x.value] 74))).later (drewN_below _ 1))
              have HC : Hid (∀ w2, ((w1.alloc (.cells #[.int .i64 x.kind, .int .i64 x.session, .int .i64 x.key, .int .i64 x.value] 74)).drewN 1).grownBy w2 p[j].2.ownBlock → w2.cell? ⟨g, j * 4 + 3, none⟩ = some p[j].2 ∧ w2.frozen? ⟨g, j * 4 + 3, none⟩ = false) := fun w2 hg => by
                have hgs := (HGA.out.own.row.lt g rfl).2
                have hne : some g ≠ p[j].2.ownBlock := by
                  rcases HG1.out.own.apart _ (List.getElem_mem hjp) with e | e
                  · rw [e]; simp
                  · exact fun e' => e e'.symm
                obtain ⟨_, _, hv2, hcl2⟩ := HGA.out.own.form j hjp
                cases hv2
                exact ⟨(hg.cell_far ⟨g, j * 4 + 3, none⟩ hgs hne).trans (hcl2 3 (by omega)).1, (hg.frozen_far ⟨g, j * 4 + 3, none⟩ hgs hne).trans (hcl2 3 (by omega)).2⟩
              have d3 : (w1.alloc (.cells #[.int .i64 x.kind, .int .i64 x.session, .int .i64 x.key, .int .i64 x.value] 74)).cell? ⟨g, j * 4 + 3, none⟩ = some p[j].2 := ((alloc_below w1 _).cell (HG1.out.own.row.lt g rfl).2).trans d2
              have HNE := Lib.hid (new_ev w1 x 74)
              have HBS := Lib.hid (Nat.le_trans HG1.out.below.size (Nat.le_succ w1.heap.size))
              clear hq hk0 hr1 hr2 HT hkey d1 hcl
              rcases key with k1 | ⟨k1, k2⟩
              all_goals
                go_wp2_with fail
                go_region_law (refine step_append_lies _ rfl (.tmp 75) (.tmp 77) 45 rfl w.heap.size 74 i0 _ 4 32 Tryz.underlying45 I0.out I1.out I2.out I3.out rfl (by decide) p[j].2 p[j].1.ops.length (p[j].1.ops.flatMap evCells) (by simp [Act.eval]) HOO.out ⟨w1.heap.size, 0, none⟩ 1 1 (evCells x) (by simp [Act.eval]) rfl HNE.out (one_evs x) (by decide) (by simp only [maxLen]; omega) (by omega) (by simp; exact HBS.out) (w1.heap.size + 1) (by simp) ?_; intro g2 cap2 w2 hown2 hgrow2 hat2 hlt2; obtain ⟨c3, f3⟩ := HC.out w2 hgrow2; have HO2 := Lib.hid hown2; have HG2 := Lib.hid hgrow2; have HA2 := Lib.hid hat2; clear hown2 hgrow2 hat2 hlt2)
                all_goals
                  go_wp2_with fail
                  go_roundw
                  case rel =>
                    have hgo := HGA.out.op x k j hjp HJ.out HMI.out HK0.out HKE.out HQ.out HO2.out HG2.out (HA2.out.imp (fun h => h.symm) (fun h => by rw [h]; simp [Value.ownBlock, World.drewN]))
                    rw [← HR2.out] at hgo
                    exact ⟨k + 1, _, by omega, by go_num, HR1.out, hgo⟩
                  case measure => simp [intOf]; omega
            | false =>
              have HKE := Lib.hid hkey
              have k1 : (x.kind == 1) = false := by rw [beq_eq_false_iff_ne]; exact fun h => by rw [(Ev.hasKey_iff _).2 (.inl h)] at hkey; cases hkey
              have k2 : (x.kind == 2) = false := by rw [beq_eq_false_iff_ne]; exact fun h => by rw [(Ev.hasKey_iff _).2 (.inr h)] at hkey; cases hkey
              obtain ⟨d1, f1⟩ := hcl 1 (by omega)
              have d2 : w1.cell? ⟨g, j * 4 + 1, none⟩ = some (.bool p[j].1.done) := d1
              have s0 : (w1.setCell ⟨go, j, none⟩ (.bool false)).cell? ⟨wr.heap.size, 0, none⟩ = some (.int .i64 x.kind) := (far_cell (by show wr.heap.size ≠ go; omega)).trans e0
              have s1 : (w1.setCell ⟨go, j, none⟩ (.bool false)).cell? ⟨g, j * 4 + 1, none⟩ = some (.bool p[j].1.done) := (far_cell hgg).trans d2
              have s2 : (w1.setCell ⟨go, j, none⟩ (.bool false)).frozen? ⟨g, j * 4 + 1, none⟩ = false := (World.frozen?_setCell _ _ _ _).trans f1
              obtain ⟨b, hb⟩ : ∃ b, (x.kind == 3) = b := ⟨_, rfl⟩
              have HB3 := Lib.hid hb
              clear hq hk0 hr1 hr2 HT hkey d1 hcl
              go_wp2_with fail
              go_roundw
              case rel =>
                have hgo := HG1.out.close x b HB3.out k j hjp HJ.out HMI.out HK0.out HKE.out HQ.out
                rw [← HR2.out] at hgo
                exact ⟨k + 1, _, by omega, by go_num, HR1.out, hgo⟩
              case measure => simp [intOf]; omega
    · have HR : Hid (Gr.groupR l = (p.map (·.1), 0, 0)) := by
        have h : l.take k = l := List.take_of_length_le (by omega)
        have h1 := HU.out
        have h2 := HG.out.same
        rw [h] at h1 h2
        rw [Hid, Gr.group_ok l h1, h2]
      generalize Gr.go 0 [] (l.take k) = st at *
      go_wp2_with fail
      refine bodyPost_ret (results_tmp3 rfl _ _ _) rfl ?_
      exact RetTxs.mk _ _ _ (by rw [HR.out]) (by rw [HR.out]) (by rw [HR.out]; exact HG.out.own.txs) HG.out.below
end Go.Proofs.YtfjamdpgbbnmcaaGreatDoor
