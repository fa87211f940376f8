/-
  Several texts in one, each with its own first words: GrPlain, GrMem, GrFrame, GrWalkA, GrMap, GrWalkB, GrWalkC, GrRefA, GrRefB, GrRefC, GrRefD.
  Conditions: as each says.
-/
import Derived.Test.YtahacjfeopjbaaaEvAll
import Derived.Test.YtahacjfeopjbaaaDiAll
import Derived.Maps.OwnSet
import Derived.Deep.AppendLies
import Derived.Deep.RegionLaw
import Derived.BigRegion
import Derived.Deep.RegionHeld3
/-
  Plain facts on events grouped into transactions (no Go in it): which transactions a row of events makes, or which event is the first wrong one, and how; transactions as events; what is grouped, as events, is grouped as it was; one session's events alone; the first wrong event; how many of each kind.
  Conditions: none beyond those that each theorem states.
-/
set_option maxRecDepth 4000
namespace Go.Proofs.Ytahacjfeopjbaaa.Gr
open Ev (right hasKey)

/-- A transaction: its session, whether it was committed, where it begins, its reads and writes. -/
structure Tx where
  session : Int
  done : Bool
  first : Int
  ops : List Ev.Event
  deriving DecidableEq

/-! The transactions that have begun, each with whether it is open: a list of pairs. -/
def mine (s : Int) (x : Tx × Bool) : Bool := decide (x.1.session = s) && x.2
def hasOpen (st : List (Tx × Bool)) (s : Int) : Bool := st.any (mine s)
/-- The open one of a session turned. -/
def upd (st : List (Tx × Bool)) (s : Int) (f : Tx → Tx × Bool) : List (Tx × Bool) := st.map fun x => if mine s x = true then f x.1 else x

/-- What is wrong with an event behind those that made st: 0 if nothing is. -/
def fault (st : List (Tx × Bool)) (e : Ev.Event) : Int :=
  if right e = false then 1
  else if e.kind = 0 then (if hasOpen st e.session = true then 5 else if st.length = 32 then 4 else 0)
  else if hasOpen st e.session = true then 0 else 6
def addOp (e : Ev.Event) (t : Tx) : Tx × Bool := ({ t with ops := t.ops ++ [e] }, true)
def shut (d : Bool) (t : Tx) : Tx × Bool := ({ t with done := d }, false)
/-- What an event makes of them. -/
def next (i : Nat) (st : List (Tx × Bool)) (e : Ev.Event) : List (Tx × Bool) :=
  if e.kind = 0 then st ++ [(⟨e.session, false, (i : Int), []⟩, true)]
  else if hasKey e.kind = true then upd st e.session (addOp e)
  else upd st e.session (shut (decide (e.kind = 3)))

def go (i : Nat) (st : List (Tx × Bool)) : List Ev.Event → List (Tx × Bool)
  | [] => st
  | e :: r => go (i + 1) (next i st e) r
/-- The first wrong event's place, and its error. -/
def run (i : Nat) (st : List (Tx × Bool)) : List Ev.Event → Option (Nat × Int)
  | [] => none
  | e :: r => if fault st e ≠ 0 then some (i, fault st e) else run (i + 1) (next i st e) r
/-- Group's answer: P5.1. -/
def groupR (l : List Ev.Event) : List Tx × Int × Int :=
  match run 0 [] l with
  | none => ((go 0 [] l).map (·.1), 0, 0)
  | some (k, q) => ([], (k : Int), q)
def endOf (t : Tx) : Ev.Event := ⟨if t.done = true then 3 else 4, t.session, 0, 0⟩
def beginOf (t : Tx) : Ev.Event := ⟨0, t.session, 0, 0⟩
def txEvents (t : Tx) : List Ev.Event := beginOf t :: (t.ops ++ [endOf t])
/-- Events' answer: P5.2. -/
def eventsR (l : List Tx) : List Ev.Event := l.flatMap txEvents

theorem group_ok (l : List Ev.Event) (h : run 0 [] l = none) : groupR l = ((go 0 [] l).map (·.1), 0, 0) := by rw [groupR, h]
theorem group_bad (l : List Ev.Event) (k : Nat) (q : Int) (h : run 0 [] l = some (k, q)) : groupR l = ([], (k : Int), q) := by rw [groupR, h]

theorem go_append (i : Nat) (st : List (Tx × Bool)) (a b : List Ev.Event) : go i st (a ++ b) = go (i + a.length) (go i st a) b := by
  induction a generalizing i st with
  | nil => rfl
  | cons e a ih => rw [List.cons_append, go, go, ih, List.length_cons, show i + 1 + a.length = i + (a.length + 1) by omega]
theorem run_append (i : Nat) (st : List (Tx × Bool)) (a b : List Ev.Event) : run i st (a ++ b) = (run i st a).or (run (i + a.length) (go i st a) b) := by
  induction a generalizing i st with
  | nil => rfl
  | cons e a ih =>
    rw [List.cons_append, run, run, go]
    split
    · rfl
    · rw [ih, List.length_cons, show i + 1 + a.length = i + (a.length + 1) by omega]
theorem run_both (i : Nat) (st : List (Tx × Bool)) (a b : List Ev.Event) (h : run i st a = none) (h' : run (i + a.length) (go i st a) b = none) : run i st (a ++ b) = none := by rw [run_append, h, h']; rfl
theorem run_one (i : Nat) (st : List (Tx × Bool)) (e : Ev.Event) : run i st [e] = if fault st e ≠ 0 then some (i, fault st e) else none := rfl
/-- Where the first wrong event is. -/
theorem run_some (i : Nat) (st : List (Tx × Bool)) (l : List Ev.Event) (k : Nat) (q : Int) (h : run i st l = some (k, q)) : i ≤ k ∧ k < i + l.length ∧ q ≠ 0 ∧ run i st (l.take (k - i)) = none ∧ run i st (l.take (k - i + 1)) = some (k, q) := by
  induction l generalizing i st with
  | nil => cases h
  | cons e l ih =>
    rw [run] at h
    split at h
    · rename_i hf
      cases h
      refine ⟨Nat.le_refl _, by simp, hf, ?_, ?_⟩
      · rw [Nat.sub_self]; rfl
      · rw [Nat.sub_self, Nat.zero_add, List.take_succ_cons, List.take_zero, run_one, if_pos hf]
    · rename_i hf
      obtain ⟨h1, h2, h3, h4, h5⟩ := ih _ _ h
      refine ⟨by omega, by rw [List.length_cons]; omega, h3, ?_, ?_⟩
      · rw [show k - i = (k - (i + 1)) + 1 by omega, List.take_succ_cons, run, if_neg hf]
        exact h4
      · rw [show k - i + 1 = (k - (i + 1) + 1) + 1 by omega, List.take_succ_cons, run, if_neg hf]
        exact h5

/-- What holds of all transactions while events are right. -/
structure Fine (st : List (Tx × Bool)) : Prop where
  len : st.length ≤ 32
  sess : ∀ x ∈ st, 0 ≤ x.1.session ∧ x.1.session < 8
  ops : ∀ x ∈ st, ∀ e ∈ x.1.ops, right e = true ∧ hasKey e.kind = true ∧ e.session = x.1.session
  open_ : ∀ x ∈ st, x.2 = true → x.1.done = false
  last : st.Pairwise fun x y => x.1.session = y.1.session → x.2 = false
theorem Fine.nil : Fine [] := ⟨by simp, by simp, by simp, by simp, List.Pairwise.nil⟩
theorem upd_len (st : List (Tx × Bool)) (s : Int) (f : Tx → Tx × Bool) : (upd st s f).length = st.length := by simp [upd]
theorem mem_upd {st : List (Tx × Bool)} {s : Int} {f : Tx → Tx × Bool} {x : Tx × Bool} (h : x ∈ upd st s f) : (x ∈ st ∧ mine s x = false) ∨ ∃ y ∈ st, mine s y = true ∧ x = f y.1 := by
  obtain ⟨y, hy, e⟩ := List.mem_map.1 h
  cases hm : mine s y with
  | true => rw [hm, if_pos rfl] at e; exact .inr ⟨y, hy, hm, e.symm⟩
  | false => rw [hm, if_neg (by simp)] at e; subst e; exact .inl ⟨hy, hm⟩
theorem mine_iff (s : Int) (x : Tx × Bool) : mine s x = true ↔ x.1.session = s ∧ x.2 = true := by simp [mine]
theorem hasOpen_iff (st : List (Tx × Bool)) (s : Int) : hasOpen st s = true ↔ ∃ x ∈ st, x.1.session = s ∧ x.2 = true := by simp [hasOpen, mine]
theorem hasOpen_no (st : List (Tx × Bool)) (s : Int) : hasOpen st s = false ↔ ∀ x ∈ st, x.1.session = s → x.2 = false := by
  rw [← Bool.not_eq_true, hasOpen_iff]
  simp

theorem fault_zero (st : List (Tx × Bool)) (e : Ev.Event) (h : fault st e = 0) : right e = true ∧ (e.kind = 0 → hasOpen st e.session = false ∧ st.length ≠ 32) ∧ (e.kind ≠ 0 → hasOpen st e.session = true) := by
  unfold fault at h
  split at h
  · cases h
  · rename_i hr
    refine ⟨by simpa using hr, fun hk => ?_, fun hk => ?_⟩
    · rw [if_pos hk] at h
      split at h
      · cases h
      · rename_i ho
        split at h
        · cases h
        · rename_i hl
          exact ⟨by simpa using ho, hl⟩
    · rw [if_neg hk] at h
      split at h
      · assumption
      · cases h

theorem pairwise_map_keep {st : List (Tx × Bool)} {s : Int} {f : Tx → Tx × Bool} (hf : ∀ t, (f t).1.session = t.session) (h : st.Pairwise fun x y => x.1.session = y.1.session → x.2 = false) : (upd st s f).Pairwise fun x y => x.1.session = y.1.session → x.2 = false := by
  rw [upd, List.pairwise_map]
  refine h.imp_of_mem ?_
  intro x y hx hy hxy hs
  have e1 : (if mine s x = true then f x.1 else x).1.session = x.1.session := by split <;> simp [hf]
  have e2 : (if mine s y = true then f y.1 else y).1.session = y.1.session := by split <;> simp [hf]
  rw [e1, e2] at hs
  have h2 := hxy hs
  rw [if_neg (by rw [mine_iff]; intro h; rw [h.2] at h2; cases h2)]
  exact h2

theorem Fine.next {st : List (Tx × Bool)} {e : Ev.Event} (i : Nat) (h : Fine st) (hf : fault st e = 0) : Fine (next i st e) := by
  obtain ⟨hr, hb, hn⟩ := fault_zero st e hf
  obtain ⟨a1, a2, a3, a4, a5⟩ := (Ev.right_iff e).1 hr
  unfold Gr.next
  split
  · rename_i hk
    obtain ⟨ho, hl⟩ := hb hk
    rw [hasOpen_no] at ho
    have hl2 := h.len
    refine ⟨by rw [List.length_append, List.length_singleton]; omega, ?_, ?_, ?_, ?_⟩
    · intro x hx
      rcases List.mem_append.1 hx with hx | hx
      · exact h.sess x hx
      · rw [List.mem_singleton.1 hx]; exact ⟨a3, a4⟩
    · intro x hx
      rcases List.mem_append.1 hx with hx | hx
      · exact h.ops x hx
      · rw [List.mem_singleton.1 hx]; intro e he; cases he
    · intro x hx
      rcases List.mem_append.1 hx with hx | hx
      · exact h.open_ x hx
      · rw [List.mem_singleton.1 hx]; intro _; rfl
    · rw [List.pairwise_append]
      refine ⟨h.last, List.pairwise_singleton _ _, fun x hx y hy => ?_⟩
      rw [List.mem_singleton.1 hy]
      exact ho x hx
  · split
    · rename_i hk hkey
      refine ⟨by rw [upd_len]; exact h.len, ?_, ?_, ?_, pairwise_map_keep (fun _ => rfl) h.last⟩
      · intro x hx
        rcases mem_upd hx with ⟨hx, _⟩ | ⟨y, hy, _, rfl⟩
        · exact h.sess x hx
        · exact h.sess y hy
      · intro x hx
        rcases mem_upd hx with ⟨hx, _⟩ | ⟨y, hy, hm, rfl⟩
        · exact h.ops x hx
        · intro e' he
          rcases List.mem_append.1 he with he | he
          · exact h.ops y hy e' he
          · rw [List.mem_singleton.1 he]
            exact ⟨hr, hkey, ((mine_iff _ _).1 hm).1.symm⟩
      · intro x hx
        rcases mem_upd hx with ⟨hx, _⟩ | ⟨y, hy, hm, rfl⟩
        · exact h.open_ x hx
        · intro _
          exact h.open_ y hy ((mine_iff _ _).1 hm).2
    · refine ⟨by rw [upd_len]; exact h.len, ?_, ?_, ?_, pairwise_map_keep (fun _ => rfl) h.last⟩
      · intro x hx
        rcases mem_upd hx with ⟨hx, _⟩ | ⟨y, hy, _, rfl⟩
        · exact h.sess x hx
        · exact h.sess y hy
      · intro x hx
        rcases mem_upd hx with ⟨hx, _⟩ | ⟨y, hy, hm, rfl⟩
        · exact h.ops x hx
        · exact h.ops y hy
      · intro x hx
        rcases mem_upd hx with ⟨hx, _⟩ | ⟨y, hy, hm, rfl⟩
        · exact h.open_ x hx
        · intro e; cases e
theorem Fine.go {st : List (Tx × Bool)} (i : Nat) (l : List Ev.Event) (h : Fine st) (hr : run i st l = none) : Fine (go i st l) := by
  induction l generalizing i st with
  | nil => exact h
  | cons e l ih =>
    rw [run] at hr
    split at hr
    · cases hr
    · rename_i hf
      exact ih (i + 1) (h.next i (by simpa using hf)) hr
theorem fine_of (l : List Ev.Event) (h : run 0 [] l = none) : Fine (go 0 [] l) := Fine.nil.go 0 l h

/-! By index: which one is a session's open one. -/
theorem Fine.one {st : List (Tx × Bool)} (h : Fine st) {s : Int} {i j : Nat} (hi : i < st.length) (hj : j < st.length) (mi : mine s st[i] = true) (mj : mine s st[j] = true) : i = j := by
  have key : ∀ {a b : Nat} (ha : a < st.length) (hb : b < st.length), a < b → mine s st[a] = true → mine s st[b] = true → False := fun {a b} ha hb hab ma mb => by
    have := List.pairwise_iff_getElem.1 h.last a b ha hb hab (((mine_iff _ _).1 ma).1.trans ((mine_iff _ _).1 mb).1.symm)
    rw [((mine_iff _ _).1 ma).2] at this
    cases this
  rcases Nat.lt_trichotomy i j with h' | h' | h'
  · exact (key hi hj h' mi mj).elim
  · exact h'
  · exact (key hj hi h' mj mi).elim
theorem upd_set {st : List (Tx × Bool)} (h : Fine st) (s : Int) (f : Tx → Tx × Bool) (k : Nat) (hk : k < st.length) (hm : mine s st[k] = true) : upd st s f = st.set k (f st[k].1) := by
  apply List.ext_getElem
  · simp [upd]
  · intro j h1 h2
    have hj : j < st.length := by simpa [upd] using h1
    rw [List.getElem_set]
    simp only [upd, List.getElem_map]
    by_cases hjk : k = j
    · subst hjk
      rw [if_pos hm, if_pos rfl]
    · rw [if_neg hjk]
      cases hmj : mine s st[j] with
      | true => exact absurd (h.one hk hj hm hmj) hjk
      | false => rw [if_neg (by simp)]
theorem mine_at {st : List (Tx × Bool)} {s : Int} {k : Nat} (hk : k < st.length) (hs : st[k].1.session = s) (ho : st[k].2 = true) : mine s st[k] = true := (mine_iff _ _).2 ⟨hs, ho⟩

/-! How many there are of each. -/
def opsOf (st : List (Tx × Bool)) : Nat := (st.map fun x => x.1.ops.length).sum
def keyed (l : List Ev.Event) : Nat := l.countP fun e => hasKey e.kind
def begins (l : List Ev.Event) : Nat := l.countP fun e => decide (e.kind = 0)
theorem sum_set (l : List Nat) (k : Nat) (hk : k < l.length) (v : Nat) (h : v = l[k] + 1) : (l.set k v).sum = l.sum + 1 := by
  induction l generalizing k with
  | nil => simp at hk
  | cons x l ih =>
    cases k with
    | zero =>
      simp only [List.getElem_cons_zero] at h
      simp [h]
      omega
    | succ k =>
      simp only [List.getElem_cons_succ] at h
      simp only [List.set_cons_succ, List.sum_cons]
      rw [ih k (by simpa using hk) h]
      omega
theorem kind_not (e : Ev.Event) (h : e.kind = 0) : hasKey e.kind = false := by rw [h]; decide
theorem counts_next {st : List (Tx × Bool)} (h : Fine st) (i : Nat) (e : Ev.Event) (hf : fault st e = 0) : opsOf (next i st e) = opsOf st + (if hasKey e.kind = true then 1 else 0) ∧ (next i st e).length = st.length + (if e.kind = 0 then 1 else 0) := by
  obtain ⟨_, hb, hn⟩ := fault_zero st e hf
  unfold next
  by_cases hk : e.kind = 0
  · rw [if_pos hk, if_pos hk, kind_not e hk, if_neg (by simp)]
    refine ⟨?_, by simp⟩
    simp [opsOf]
  · rw [if_neg hk, if_neg hk]
    obtain ⟨x, hx, e1, e2⟩ := (hasOpen_iff _ _).1 (hn hk)
    obtain ⟨k, hkk, rfl⟩ := List.getElem_of_mem hx
    have hm := mine_at hkk e1 e2
    by_cases hkey : hasKey e.kind = true
    · rw [if_pos hkey, if_pos hkey]
      refine ⟨?_, by rw [upd_len]; rfl⟩
      rw [upd_set h _ _ k hkk hm, opsOf, opsOf, List.map_set]
      exact sum_set _ k (by simpa using hkk) _ (by simp [addOp])
    · rw [if_neg hkey, if_neg hkey]
      refine ⟨?_, by rw [upd_len]; rfl⟩
      rw [opsOf, opsOf, upd, List.map_map]
      congr 1
      refine List.map_congr_left (fun y _ => ?_)
      simp only [Function.comp_apply]
      split <;> rfl
theorem counts_go {st : List (Tx × Bool)} (h : Fine st) (i : Nat) (l : List Ev.Event) (hr : run i st l = none) : opsOf (go i st l) = opsOf st + keyed l ∧ (go i st l).length = st.length + begins l := by
  induction l generalizing i st with
  | nil => exact ⟨rfl, rfl⟩
  | cons e l ih =>
    rw [run] at hr
    split at hr
    · cases hr
    · rename_i hf
      have hf0 : fault st e = 0 := by simpa using hf
      obtain ⟨i1, i2⟩ := ih (h.next i hf0) (i + 1) hr
      obtain ⟨c1, c2⟩ := counts_next h i e hf0
      rw [go, i1, i2, c1, c2]
      simp only [keyed, begins, List.countP_cons, decide_eq_true_eq]
      exact ⟨by omega, by omega⟩
/-- Each Read and Write is in one transaction, each Begin makes one, and they are not too many. -/
theorem counts (l : List Ev.Event) (h : run 0 [] l = none) : opsOf (go 0 [] l) = keyed l ∧ (go 0 [] l).length = begins l ∧ begins l ≤ 32 := by
  obtain ⟨h1, h2⟩ := counts_go Fine.nil 0 l h
  have h3 := (fine_of l h).len
  refine ⟨by rw [h1]; exact Nat.zero_add _, by rw [h2]; exact Nat.zero_add _, ?_⟩
  rw [h2, List.length_nil] at h3
  omega

/-! What was grouped, as events, is grouped as it was, but for where each begins. -/
def core (t : Tx) : Int × Bool × List Ev.Event := (t.session, t.done, t.ops)
theorem right_plain (k s : Int) (hk : k = 0 ∨ k = 3 ∨ k = 4) (hs : 0 ≤ s ∧ s < 8) : right ⟨k, s, 0, 0⟩ = true := by
  rw [Ev.right_iff]
  have hkey : hasKey k = false := by rcases hk with h | h | h <;> subst h <;> decide
  refine ⟨by show (0 : Int) ≤ k; omega, by show k < 5; omega, hs.1, hs.2, ?_⟩
  rw [if_neg (by show ¬ hasKey k = true; rw [hkey]; simp)]
  exact ⟨rfl, rfl⟩
theorem upd_same (st : List (Tx × Bool)) (s : Int) (f : Tx → Tx × Bool) (h : ∀ x ∈ st, x.2 = false) : upd st s f = st := by
  rw [upd]
  conv => rhs; rw [← List.map_id st]
  refine List.map_congr_left (fun x hx => ?_)
  rw [if_neg (by rw [mine_iff]; intro h'; rw [h x hx] at h'; cases h'.2)]
  rfl
theorem upd_end (st : List (Tx × Bool)) (s : Int) (f : Tx → Tx × Bool) (t : Tx) (h : ∀ x ∈ st, x.2 = false) (hs : t.session = s) : upd (st ++ [(t, true)]) s f = st ++ [f t] := by
  have e : upd (st ++ [(t, true)]) s f = upd st s f ++ upd [(t, true)] s f := by simp [upd]
  rw [e, upd_same st s f h]
  congr 1
  simp [upd, mine, hs]
theorem open_end (st : List (Tx × Bool)) (t : Tx) (s : Int) (hs : t.session = s) : hasOpen (st ++ [(t, true)]) s = true := by
  rw [hasOpen_iff]
  exact ⟨(t, true), by simp, hs, rfl⟩
theorem ops_run (st : List (Tx × Bool)) (h : ∀ x ∈ st, x.2 = false) (s : Int) (f : Int) (l : List Ev.Event) (hl : ∀ e ∈ l, right e = true ∧ hasKey e.kind = true ∧ e.session = s) (i : Nat) (acc : List Ev.Event) :
    run i (st ++ [(⟨s, false, f, acc⟩, true)]) l = none ∧ go i (st ++ [(⟨s, false, f, acc⟩, true)]) l = st ++ [(⟨s, false, f, acc ++ l⟩, true)] := by
  induction l generalizing i acc with
  | nil => exact ⟨rfl, by rw [List.append_nil]; rfl⟩
  | cons e l ih =>
    obtain ⟨h1, h2, h3⟩ := hl e (by simp)
    have hk : ¬ e.kind = 0 := fun h0 => by rw [kind_not e h0] at h2; cases h2
    have hf : fault (st ++ [(⟨s, false, f, acc⟩, true)]) e = 0 := by
      rw [fault, if_neg (by rw [h1]; simp), if_neg hk, h3, open_end st _ s rfl, if_pos rfl]
    have hn : next i (st ++ [(⟨s, false, f, acc⟩, true)]) e = st ++ [(⟨s, false, f, acc ++ [e]⟩, true)] := by
      rw [next, if_neg hk, if_pos h2, h3, upd_end st s (addOp e) _ h rfl]
      rfl
    obtain ⟨i1, i2⟩ := ih (fun e' he => hl e' (List.mem_cons_of_mem _ he)) (i + 1) (acc ++ [e])
    rw [run, go, hf, if_neg (by simp), hn]
    refine ⟨i1, ?_⟩
    rw [i2, List.append_assoc]
    rfl
theorem tx_run (st : List (Tx × Bool)) (h : ∀ x ∈ st, x.2 = false) (hl : st.length < 32) (t : Tx) (hs : 0 ≤ t.session ∧ t.session < 8) (ho : ∀ e ∈ t.ops, right e = true ∧ hasKey e.kind = true ∧ e.session = t.session) (i : Nat) :
    run i st (txEvents t) = none ∧ go i st (txEvents t) = st ++ [({ t with first := (i : Int) }, false)] := by
  have hf : fault st (beginOf t) = 0 := by
    rw [fault, if_neg (by rw [beginOf, right_plain 0 _ (.inl rfl) hs]; simp), if_pos (show (beginOf t).kind = 0 from rfl), (hasOpen_no _ _).2 (fun x hx _ => h x hx), if_neg (by simp), if_neg (by omega)]
  have hn : next i st (beginOf t) = st ++ [(⟨t.session, false, (i : Int), []⟩, true)] := rfl
  obtain ⟨o1, o2⟩ := ops_run st h t.session (i : Int) t.ops ho (i + 1) []
  have hk : ¬ (endOf t).kind = 0 := by
    show ¬ (if t.done = true then (3 : Int) else 4) = 0
    split <;> omega
  have hkey : ¬ hasKey (endOf t).kind = true := by
    show ¬ hasKey (if t.done = true then (3 : Int) else 4) = true
    split <;> decide
  have hr : right (endOf t) = true := by
    refine right_plain _ _ ?_ hs
    by_cases hd : t.done = true
    · rw [if_pos hd]; exact .inr (.inl rfl)
    · rw [if_neg hd]; exact .inr (.inr rfl)
  have hse : (endOf t).session = t.session := rfl
  rw [List.nil_append] at o2
  have hf2 : fault (st ++ [(⟨t.session, false, (i : Int), t.ops⟩, true)]) (endOf t) = 0 := by
    rw [fault, if_neg (by rw [hr]; simp), if_neg hk, hse, open_end st _ _ rfl, if_pos rfl]
  have hd : decide ((endOf t).kind = 3) = t.done := by
    show decide ((if t.done = true then (3 : Int) else 4) = 3) = t.done
    cases t.done <;> rfl
  have hn2 : ∀ j, next j (st ++ [(⟨t.session, false, (i : Int), t.ops⟩, true)]) (endOf t) = st ++ [({ t with first := (i : Int) }, false)] := fun j => by
    rw [next, if_neg hk, if_neg hkey, hse, upd_end st _ _ _ h rfl, hd]
    rfl
  rw [txEvents, run, go, hf, if_neg (by simp), hn]
  refine ⟨run_both _ _ _ _ o1 ?_, ?_⟩
  · rw [o2, run_one, hf2, if_neg (by simp)]
  · rw [go_append, o2, go, hn2, go]
theorem txs_run (a : List Tx) (ha : ∀ t ∈ a, (0 ≤ t.session ∧ t.session < 8) ∧ ∀ e ∈ t.ops, right e = true ∧ hasKey e.kind = true ∧ e.session = t.session) (st : List (Tx × Bool)) (h : ∀ x ∈ st, x.2 = false) (hl : st.length + a.length ≤ 32) (i : Nat) :
    run i st (eventsR a) = none ∧ ∃ b : List Tx, go i st (eventsR a) = st ++ b.map (fun t => (t, false)) ∧ b.map core = a.map core := by
  induction a generalizing i st with
  | nil => exact ⟨rfl, [], by simp [eventsR, go], rfl⟩
  | cons t a ih =>
    rw [List.length_cons] at hl
    obtain ⟨h1, h2⟩ := ha t (by simp)
    obtain ⟨r1, r2⟩ := tx_run st h (by omega) t h1 h2 i
    obtain ⟨i1, b, i2, i3⟩ := ih (fun t' ht => ha t' (List.mem_cons_of_mem _ ht)) (st ++ [({ t with first := (i : Int) }, false)]) (fun x hx => by
      rcases List.mem_append.1 hx with hx | hx
      · exact h x hx
      · rw [List.mem_singleton.1 hx]) (by rw [List.length_append, List.length_singleton]; omega) (i + (txEvents t).length)
    have e : eventsR (t :: a) = txEvents t ++ eventsR a := by simp [eventsR]
    rw [e]
    refine ⟨run_both _ _ _ _ r1 (by rw [r2]; exact i1), { t with first := (i : Int) } :: b, ?_, ?_⟩
    · rw [go_append, r2, i2, List.append_assoc]
      rfl
    · rw [List.map_cons, List.map_cons, i3]
      rfl
/-- The transactions of right events. -/
def txs (l : List Ev.Event) : List Tx := (go 0 [] l).map (·.1)
theorem txs_fine (l : List Ev.Event) (h : run 0 [] l = none) : (txs l).length ≤ 32 ∧ ∀ t ∈ txs l, (0 ≤ t.session ∧ t.session < 8) ∧ ∀ e ∈ t.ops, right e = true ∧ hasKey e.kind = true ∧ e.session = t.session := by
  have hf := fine_of l h
  refine ⟨by rw [txs, List.length_map]; exact hf.len, fun t ht => ?_⟩
  obtain ⟨x, hx, rfl⟩ := List.mem_map.1 ht
  exact ⟨hf.sess x hx, hf.ops x hx⟩
theorem back (l : List Ev.Event) (h : run 0 [] l = none) : run 0 [] (eventsR (txs l)) = none ∧ (txs (eventsR (txs l))).map core = (txs l).map core := by
  obtain ⟨h1, h2⟩ := txs_fine l h
  obtain ⟨r1, b, r2, r3⟩ := txs_run (txs l) h2 [] (by simp) (by simpa using h1) 0
  refine ⟨r1, ?_⟩
  have e : (b.map fun t => (t, false)).map (·.1) = b := by
    rw [List.map_map]
    exact List.map_id b
  rw [txs, r2, List.nil_append, e, r3]

/-! One session's events alone. -/
def ofS (s : Int) (e : Ev.Event) : Bool := decide (e.session = s)
def txS (s : Int) (x : Tx × Bool) : Bool := decide (x.1.session = s)
/-- Where a session's events are. -/
def places (s : Int) (i : Nat) : List Ev.Event → List Nat
  | [] => []
  | e :: r => if ofS s e = true then i :: places s (i + 1) r else places s (i + 1) r
def look (pl : List Nat) (n : Int) : Int := (pl.getD n.toNat 0 : Int)
def turn (pl : List Nat) (x : Tx × Bool) : Tx × Bool := ({ x.1 with first := look pl x.1.first }, x.2)
structure Apart (s : Int) (pl : List Nat) (st st' : List (Tx × Bool)) : Prop where
  same : st.filter (txS s) = st'.map (turn pl)
  only : ∀ x ∈ st', x.1.session = s ∧ 0 ≤ x.1.first ∧ x.1.first < (pl.length : Int)
theorem look_more (pl q : List Nat) (n : Int) (h0 : 0 ≤ n) (h : n < (pl.length : Int)) : look (pl ++ q) n = look pl n := by
  unfold look
  rw [List.getD_eq_getElem?_getD, List.getD_eq_getElem?_getD, List.getElem?_append_left (by omega)]
theorem look_end (pl : List Nat) (i : Nat) : look (pl ++ [i]) (pl.length : Int) = (i : Int) := by
  unfold look
  rw [Int.toNat_natCast, List.getD_eq_getElem?_getD]
  simp
theorem turn_more (pl q : List Nat) (st' : List (Tx × Bool)) (h : ∀ x ∈ st', 0 ≤ x.1.first ∧ x.1.first < (pl.length : Int)) : st'.map (turn (pl ++ q)) = st'.map (turn pl) := by
  refine List.map_congr_left (fun x hx => ?_)
  unfold turn
  rw [look_more pl q _ (h x hx).1 (h x hx).2]
theorem hasOpen_filter (st : List (Tx × Bool)) (s : Int) : hasOpen (st.filter (txS s)) s = hasOpen st s := by
  rw [Bool.eq_iff_iff, hasOpen_iff, hasOpen_iff]
  constructor
  · rintro ⟨x, hx, h⟩
    exact ⟨x, (List.mem_filter.1 hx).1, h⟩
  · rintro ⟨x, hx, h1, h2⟩
    exact ⟨x, List.mem_filter.2 ⟨hx, by simpa [txS] using h1⟩, h1, h2⟩
theorem hasOpen_turn (pl : List Nat) (st' : List (Tx × Bool)) (s : Int) : hasOpen (st'.map (turn pl)) s = hasOpen st' s := by
  simp only [hasOpen, List.any_map]
  rfl
theorem filter_upd (st : List (Tx × Bool)) (s s' : Int) (f : Tx → Tx × Bool) (hf : ∀ t, (f t).1.session = t.session) : (upd st s' f).filter (txS s) = upd (st.filter (txS s)) s' f := by
  rw [upd, upd, List.filter_map]
  congr 1
  refine List.filter_congr (fun x _ => ?_)
  simp only [Function.comp_apply, txS]
  split <;> simp [hf]
theorem upd_other (st : List (Tx × Bool)) (s s' : Int) (f : Tx → Tx × Bool) (hs : s ≠ s') (h : ∀ x ∈ st, x.1.session = s) : upd st s' f = st := by
  rw [upd]
  conv => rhs; rw [← List.map_id st]
  refine List.map_congr_left (fun x hx => ?_)
  rw [if_neg (by rw [mine_iff]; intro h'; exact hs ((h x hx).symm.trans h'.1))]
  rfl
theorem upd_turn (pl : List Nat) (st' : List (Tx × Bool)) (s : Int) (f : Tx → Tx × Bool) (hf : ∀ x : Tx × Bool, turn pl (f x.1) = f (turn pl x).1) : upd (st'.map (turn pl)) s f = (upd st' s f).map (turn pl) := by
  rw [upd, upd, List.map_map, List.map_map]
  refine List.map_congr_left (fun x _ => ?_)
  have e : mine s (turn pl x) = mine s x := rfl
  simp only [Function.comp_apply, e]
  split
  · exact (hf x).symm
  · rfl
theorem upd_only {s s' : Int} {pl : List Nat} {st' : List (Tx × Bool)} {f : Tx → Tx × Bool} (hf : ∀ t, (f t).1.session = t.session ∧ (f t).1.first = t.first) (h : ∀ x ∈ st', x.1.session = s ∧ 0 ≤ x.1.first ∧ x.1.first < (pl.length : Int)) (q : List Nat) : ∀ x ∈ upd st' s' f, x.1.session = s ∧ 0 ≤ x.1.first ∧ x.1.first < ((pl ++ q).length : Int) := by
  intro x hx
  rw [List.length_append]
  rcases mem_upd hx with ⟨hx, _⟩ | ⟨y, hy, _, rfl⟩
  · obtain ⟨h1, h2, h3⟩ := h x hx
    exact ⟨h1, h2, by omega⟩
  · obtain ⟨h1, h2, h3⟩ := h y hy
    rw [(hf y.1).1, (hf y.1).2]
    exact ⟨h1, h2, by omega⟩
/-- An event of another session. -/
theorem Apart.other {s : Int} {pl : List Nat} {st st' : List (Tx × Bool)} (h : Apart s pl st st') (i : Nat) (e : Ev.Event) (he : ofS s e = false) : Apart s pl (next i st e) st' := by
  have hne : s ≠ e.session := fun h' => by rw [ofS, h', decide_eq_true rfl] at he; cases he
  have hall : ∀ x ∈ st.filter (txS s), x.1.session = s := fun x hx => by simpa [txS] using (List.mem_filter.1 hx).2
  refine ⟨?_, h.only⟩
  unfold next
  split
  · rw [List.filter_append, ← h.same]
    have : ([(⟨e.session, false, (i : Int), []⟩, true)] : List (Tx × Bool)).filter (txS s) = [] := by
      simp [txS]
      exact fun h' => hne h'.symm
    rw [this, List.append_nil]
  · split
    · rw [filter_upd _ _ _ _ (by intro t; rfl), upd_other _ s _ _ hne hall, h.same]
    · rw [filter_upd _ _ _ _ (by intro t; rfl), upd_other _ s _ _ hne hall, h.same]
/-- An event of that session. -/
theorem Apart.own {s : Int} {pl : List Nat} {st st' : List (Tx × Bool)} (h : Apart s pl st st') (hF : Fine st) (i : Nat) (e : Ev.Event) (he : ofS s e = true) (hf : fault st e = 0) : fault st' e = 0 ∧ Apart s (pl ++ [i]) (next i st e) (next pl.length st' e) := by
  have hs : e.session = s := by simpa [ofS] using he
  obtain ⟨hr, hb, hn⟩ := fault_zero st e hf
  have ho : hasOpen st' s = hasOpen st s := by rw [← hasOpen_turn pl st' s, ← h.same, hasOpen_filter]
  have hlen : st'.length ≤ st.length := by
    have := congrArg List.length h.same
    rw [List.length_map] at this
    rw [← this]
    exact List.length_filter_le _ _
  have hlast : ∀ x ∈ st', 0 ≤ x.1.first ∧ x.1.first < (pl.length : Int) := fun x hx => (h.only x hx).2
  constructor
  · unfold fault
    rw [if_neg (by rw [hr]; simp)]
    by_cases hk : e.kind = 0
    · obtain ⟨h1, h2⟩ := hb hk
      rw [if_pos hk, hs, ho, ← hs, h1, if_neg (by simp), if_neg (by have := hF.len; omega)]
    · rw [if_neg hk, hs, ho, ← hs, hn hk, if_pos rfl]
  · unfold next
    by_cases hk : e.kind = 0
    · rw [if_pos hk, if_pos hk]
      refine ⟨?_, ?_⟩
      · rw [List.filter_append, h.same, List.map_append, turn_more pl [i] st' hlast]
        congr 1
        simp [txS, hs, turn, look_end]
      · intro x hx
        rw [List.length_append, List.length_singleton]
        rcases List.mem_append.1 hx with hx | hx
        · obtain ⟨h1, h2, h3⟩ := h.only x hx
          exact ⟨h1, h2, by omega⟩
        · rw [List.mem_singleton.1 hx]
          exact ⟨hs, by show (0 : Int) ≤ (pl.length : Int); omega, by show ((pl.length : Nat) : Int) < _; omega⟩
    · rw [if_neg hk, if_neg hk]
      split
      · refine ⟨?_, upd_only (fun _ => ⟨rfl, rfl⟩) h.only [i]⟩
        rw [filter_upd _ _ _ _ (by intro t; rfl), h.same, ← turn_more pl [i] st' hlast, upd_turn _ _ _ _ (fun _ => rfl)]
      · refine ⟨?_, upd_only (fun _ => ⟨rfl, rfl⟩) h.only [i]⟩
        rw [filter_upd _ _ _ _ (by intro t; rfl), h.same, ← turn_more pl [i] st' hlast, upd_turn _ _ _ _ (fun _ => rfl)]
theorem apart_go (s : Int) (l : List Ev.Event) (i : Nat) (st st' : List (Tx × Bool)) (pl : List Nat) (hF : Fine st) (hr : run i st l = none) (h : Apart s pl st st') : run pl.length st' (l.filter (ofS s)) = none ∧ Apart s (pl ++ places s i l) (go i st l) (go pl.length st' (l.filter (ofS s))) := by
  induction l generalizing i st st' pl with
  | nil =>
    refine ⟨rfl, ?_⟩
    rw [places, List.append_nil]
    exact h
  | cons e l ih =>
    rw [run] at hr
    split at hr
    · cases hr
    · rename_i hf
      have hf0 : fault st e = 0 := by simpa using hf
      cases he : ofS s e with
      | true =>
        obtain ⟨f1, f2⟩ := h.own hF i e he hf0
        obtain ⟨i1, i2⟩ := ih (i + 1) _ _ (pl ++ [i]) (hF.next i hf0) hr f2
        rw [List.length_append, List.length_singleton] at i1 i2
        rw [List.filter_cons_of_pos he, run, go, go, f1, if_neg (by simp), places, if_pos he]
        refine ⟨i1, ?_⟩
        rw [show pl ++ i :: places s (i + 1) l = pl ++ [i] ++ places s (i + 1) l by simp]
        exact i2
      | false =>
        obtain ⟨i1, i2⟩ := ih (i + 1) _ _ pl (hF.next i hf0) hr (h.other i e he)
        rw [List.filter_cons_of_neg (by rw [he]; simp), go, places, if_neg (by rw [he]; simp)]
        exact ⟨i1, i2⟩
/-- One session's events alone are that session's transactions, but for where each begins: P5.3. -/
theorem apart (s : Int) (l : List Ev.Event) (h : run 0 [] l = none) : run 0 [] (l.filter (ofS s)) = none ∧
    (txs l).filter (fun t => decide (t.session = s)) = (txs (l.filter (ofS s))).map (fun t => { t with first := look (places s 0 l) t.first }) ∧
    ∀ t ∈ txs (l.filter (ofS s)), t.session = s ∧ 0 ≤ t.first ∧ t.first < ((places s 0 l).length : Int) := by
  obtain ⟨h1, h2⟩ := apart_go s l 0 [] [] [] Fine.nil h ⟨rfl, fun x hx => by cases hx⟩
  rw [List.nil_append] at h2
  refine ⟨h1, ?_, ?_⟩
  · have e := congrArg (List.map (·.1)) h2.same
    rw [txs, txs, List.map_map, List.filter_map]
    rw [List.map_map] at e
    exact e
  · intro t ht
    obtain ⟨x, hx, rfl⟩ := List.mem_map.1 ht
    exact h2.only x hx
end Go.Proofs.Ytahacjfeopjbaaa.Gr
/-
  Words for rows of transactions in memory: a slice that reads as a list of transactions, each with its own slice of events, and how that lasts; such a row of a call's own, as it grows and is written.
  Conditions: none beyond those that each theorem states.
-/
set_option maxRecDepth 4000
namespace Go.Proofs.Ytahacjfeopjbaaa
open Go.RowKit

theorem far_cell {w : World} {a p : Addr} {v : Value} (h : a.block ≠ p.block) : (w.setCell p v).cell? a = w.cell? a := World.cell?_of_block (Below.heap_setCell w p v a.block h)

/-! Elements of four cells. -/
section
variable {α : Type} {f : α → List Value}
theorem four_at (hf : ∀ x, (f x).length = 4) (p : List α) (k : Nat) (hk : k < p.length) (j : Nat) (hj : j < 4) : (p.flatMap f)[k * 4 + j]? = (f p[k])[j]? := by
  induction p generalizing k with
  | nil => simp at hk
  | cons x p ih =>
    rw [List.flatMap_cons]
    cases k with
    | zero => rw [List.getElem?_append_left (by rw [hf]; omega)]; simp
    | succ k =>
      rw [List.getElem?_append_right (by rw [hf]; omega), hf, show (k + 1) * 4 + j - 4 = k * 4 + j by omega]
      exact ih k (by simpa using hk)
theorem four_set (hf : ∀ x, (f x).length = 4) (p : List α) (k : Nat) (hk : k < p.length) (j : Nat) (hj : j < 4) (y : α) (u : Value) (he : f y = (f p[k]).set j u) : (p.flatMap f).set (k * 4 + j) u = (p.set k y).flatMap f := by
  induction p generalizing k with
  | nil => simp at hk
  | cons x p ih =>
    rw [List.flatMap_cons]
    cases k with
    | zero =>
      rw [List.set_append_left _ _ (by rw [hf]; omega), List.set_cons_zero, List.flatMap_cons, he]
      simp
    | succ k =>
      rw [List.set_append_right _ _ (by rw [hf]; omega), hf, show (k + 1) * 4 + j - 4 = k * 4 + j by omega, ih k (by simpa using hk) he, List.set_cons_succ, List.flatMap_cons]
end

/-- A transaction's cells, beside the slice of its events. -/
def txC (x : Gr.Tx × Value) : List Value := [.int .i64 x.1.session, .bool x.1.done, .int .i64 x.1.first, x.2]
theorem txC_len (x : Gr.Tx × Value) : (txC x).length = 4 := rfl

/-- The slice value v reads as the transactions l. -/
def Txs (w : World) (v : Value) (l : List Gr.Tx) : Prop := ∃ p : List (Gr.Tx × Value), p.map (·.1) = l ∧ Sl w 4 v p.length (p.flatMap txC) ∧ ∀ x ∈ p, Evs w x.2 x.1.ops
theorem Txs.below {w w' : World} {v : Value} {l : List Gr.Tx} (h : Txs w v l) (hb : Below w.heap.size w w') : Txs w' v l := by
  obtain ⟨p, h1, h2, h3⟩ := h
  exact ⟨p, h1, h2.below hb, fun x hx => (h3 x hx).below hb⟩
theorem Txs.nil (w : World) (A : Option Addr) : Txs w (.slice A 0 0) [] := ⟨[], rfl, Sl.nil w 4 A, fun x hx => by cases hx⟩
theorem Txs.none_ {w : World} {v : Value} {l : List Gr.Tx} (h : Txs w v l) (hl : l = []) : ∃ A c, v = .slice A 0 c := by
  obtain ⟨p, h1, h2, _⟩ := h
  subst hl
  obtain rfl : p = [] := List.map_eq_nil_iff.1 h1
  obtain ⟨A, c, hv, _⟩ := h2.form
  exact ⟨A, c, hv⟩

/-- Element k of a slice is the transaction t, its events in the slice u, as the walk spells its cells' places. -/
structure TxIn (w : World) (ad : Addr) (k : Nat) (t : Gr.Tx) (u : Value) : Prop where
  c0 : w.cell? (ad.add (k * 4)) = some (.int .i64 t.session)
  c1 : w.cell? ⟨(ad.add (k * 4)).block, (ad.add (k * 4)).off + 1, none⟩ = some (.bool t.done)
  c2 : w.cell? ⟨(ad.add (k * 4)).block, (ad.add (k * 4)).off + 2, none⟩ = some (.int .i64 t.first)
  c3 : w.cell? ⟨(ad.add (k * 4)).block, (ad.add (k * 4)).off + 3, none⟩ = some u
theorem TxIn.below {w w' : World} {ad : Addr} {k : Nat} {t : Gr.Tx} {u : Value} (h : TxIn w ad k t u) (hlt : ad.block < w.heap.size) (hb : Below w.heap.size w w') : TxIn w' ad k t u := by
  have e : ad.block = (ad.add (k * 4)).block := (add_block ad _).symm
  refine ⟨(hb.cell ?_).trans h.c0, (hb.cell ?_).trans h.c1, (hb.cell ?_).trans h.c2, (hb.cell ?_).trans h.c3⟩
  all_goals exact e ▸ hlt
theorem Txs.spelled {w : World} {v : Value} {l : List Gr.Tx} (h : Txs w v l) :
    ∃ A c, v = .slice A l.length c ∧ ∀ (k : Nat) (hk : k < l.length), ∃ (ad : Addr) (u : Value), A = some ad ∧ ad.block < w.heap.size ∧ TxIn w ad k l[k] u ∧ Evs w u l[k].ops := by
  obtain ⟨p, rfl, h2, h3⟩ := h
  obtain ⟨A, c, hv, hh⟩ := h2.form
  refine ⟨A, c, by rw [List.length_map]; exact hv, fun k hk => ?_⟩
  rw [List.length_map] at hk
  obtain ⟨ad, e, hb, hc⟩ := hh (by omega)
  have key : ∀ j (hj : j < 4) x, (txC p[k])[j]? = some x → w.cell? (ad.add (k * 4 + j)) = some x := fun j hj x hx => hc _ _ ((four_at txC_len p k hk j hj).trans hx)
  refine ⟨ad, p[k].2, e, hb, ⟨?_, ?_, ?_, ?_⟩, ?_⟩
  · rw [List.getElem_map]; exact key 0 (by omega) _ rfl
  · rw [add_next ad _ 1 (by omega), List.getElem_map]; exact key 1 (by omega) _ rfl
  · rw [add_next ad _ 2 (by omega), List.getElem_map]; exact key 2 (by omega) _ rfl
  · rw [add_next ad _ 3 (by omega)]; exact key 3 (by omega) _ rfl
  · rw [List.getElem_map]; exact h3 _ (List.getElem_mem hk)

/-- A row of transactions of the call's own: its own block, each one's events in a block of their own, no two in one. -/
structure OwnTxs (w : World) (base : Nat) (t e : TypeId) (v : Value) (p : List (Gr.Tx × Value)) : Prop where
  row : w.ownsRow base t 4 v p.length (p.flatMap txC)
  ops : ∀ x ∈ p, w.ownsRow base e 4 x.2 x.1.ops.length (x.1.ops.flatMap evCells)
  apart : ∀ x ∈ p, x.2.ownBlock = none ∨ x.2.ownBlock ≠ v.ownBlock
  each : p.Pairwise fun x y => x.2.ownBlock = none ∨ x.2.ownBlock ≠ y.2.ownBlock
theorem OwnTxs.nil (w : World) (base : Nat) (t e : TypeId) : OwnTxs w base t e (.slice none 0 0) [] := ⟨World.ownsRow_nil _ _ _ _, fun _ hx => (List.not_mem_nil hx).elim, fun _ hx => (List.not_mem_nil hx).elim, List.Pairwise.nil⟩
theorem OwnTxs.lit (w : World) (base : Nat) (t e : TypeId) (hb : base ≤ w.heap.size) : OwnTxs (w.alloc (.cells #[] t)) base t e (.slice (some ⟨w.heap.size, 0, none⟩) 0 0) [] :=
  ⟨World.ownsRow_lit w #[] 0 hb (by simp [maxLen]) (by simp), fun _ hx => (List.not_mem_nil hx).elim, fun _ hx => (List.not_mem_nil hx).elim, List.Pairwise.nil⟩
theorem OwnTxs.below {w w' : World} {base : Nat} {t e : TypeId} {v : Value} {p : List (Gr.Tx × Value)} (h : OwnTxs w base t e v p) (hb : Below w.heap.size w w') : OwnTxs w' base t e v p :=
  ⟨own_below h.row hb, fun x hx => own_below (h.ops x hx) hb, h.apart, h.each⟩
theorem OwnTxs.drewN {w : World} {base : Nat} {t e : TypeId} {v : Value} {p : List (Gr.Tx × Value)} (h : OwnTxs w base t e v p) (k : Nat) : OwnTxs (w.drewN k) base t e v p := ⟨h.row, h.ops, h.apart, h.each⟩
theorem OwnTxs.txs {w : World} {base : Nat} {t e : TypeId} {v : Value} {p : List (Gr.Tx × Value)} (h : OwnTxs w base t e v p) : Txs w v (p.map (·.1)) := ⟨p, rfl, Sl.own h.row, fun x hx => Evs.own (h.ops x hx)⟩

theorem ne_fresh {w : World} {base size n : Nat} {e : TypeId} {v : Value} {xs : List Value} (h : w.ownsRow base e size v n xs) : v.ownBlock = none ∨ v.ownBlock ≠ some w.heap.size := by
  cases hv : v.ownBlock with
  | none => exact .inl rfl
  | some k =>
    refine .inr fun h' => ?_
    have := (h.lt k hv).2
    cases h'
    omega
/-- One transaction more, whose events are none. -/
theorem OwnTxs.snoc {w w' : World} {base : Nat} {t e : TypeId} {v v' : Value} {p : List (Gr.Tx × Value)} {x : Gr.Tx} (h : OwnTxs w base t e v p) (hx : x.ops = []) (hrow : w'.ownsRow base t 4 v' (p.length + 1) (p.flatMap txC ++ txC (x, .slice none 0 0))) (hg : w.grownBy w' v.ownBlock) (hv : v'.ownBlock = v.ownBlock ∨ v'.ownBlock = some w.heap.size) : OwnTxs w' base t e v' (p ++ [(x, .slice none 0 0)]) := by
  refine ⟨?_, ?_, ?_, ?_⟩
  · rw [List.length_append, List.flatMap_append]
    simpa using hrow
  · intro y hy
    rcases List.mem_append.1 hy with hy | hy
    · exact (h.ops y hy).kept hg (h.apart y hy)
    · rw [List.mem_singleton.1 hy]
      show w'.ownsRow base e 4 (.slice none 0 0) x.ops.length (x.ops.flatMap evCells)
      rw [hx]
      exact World.ownsRow_nil _ _ _ _
  · intro y hy
    rcases List.mem_append.1 hy with hy | hy
    · rcases hv with hv | hv
      · rw [hv]; exact h.apart y hy
      · rw [hv]; exact ne_fresh (h.ops y hy)
    · rw [List.mem_singleton.1 hy]
      exact .inl rfl
  · rw [List.pairwise_append]
    refine ⟨h.each, List.pairwise_singleton _ _, fun y hy z hz => ?_⟩
    rw [List.mem_singleton.1 hz]
    cases hy' : y.2.ownBlock with
    | none => exact .inl rfl
    | some k => exact .inr (fun h' => by cases h')
/-- Where the row's cells lie, once it has one. -/
theorem OwnTxs.form {w : World} {base : Nat} {t e : TypeId} {v : Value} {p : List (Gr.Tx × Value)} (h : OwnTxs w base t e v p) (k : Nat) (hk : k < p.length) :
    ∃ g c, v = .slice (some ⟨g, 0, none⟩) p.length c ∧ ∀ j, j < 4 → w.cell? ⟨g, k * 4 + j, none⟩ = (txC p[k])[j]? ∧ w.frozen? ⟨g, k * 4 + j, none⟩ = false := by
  rcases h.row.2 with ⟨_, h0⟩ | ⟨g, cap, cur, rfl, _⟩
  · omega
  · refine ⟨g, cap, rfl, fun j hj => ⟨?_, h.row.frozenAt _⟩⟩
    rw [h.row.cellAt _ (by omega), four_at txC_len p k hk j hj]
theorem each_at {p : List (Gr.Tx × Value)} (h : p.Pairwise fun x y => x.2.ownBlock = none ∨ x.2.ownBlock ≠ y.2.ownBlock) (i j : Nat) (hi : i < p.length) (hj : j < p.length) (hij : i ≠ j) : p[i].2.ownBlock = none ∨ p[i].2.ownBlock ≠ p[j].2.ownBlock := by
  rcases Nat.lt_or_gt_of_ne hij with h' | h'
  · exact List.pairwise_iff_getElem.1 h i j hi hj h'
  · rcases List.pairwise_iff_getElem.1 h j i hj hi h' with e | e
    · cases hb : p[i].2.ownBlock with
      | none => exact .inl rfl
      | some b => exact .inr (by rw [e]; simp)
    · exact .inr fun e' => e e'.symm
theorem mem_set_at {α : Type} {p : List α} {k : Nat} {y x : α} (hx : x ∈ p.set k y) : x = y ∨ ∃ i, ∃ hi : i < p.length, i ≠ k ∧ x = p[i] := by
  obtain ⟨i, hi, rfl⟩ := List.getElem_of_mem hx
  rw [List.length_set] at hi
  rw [List.getElem_set]
  by_cases h : k = i
  · rw [if_pos h]; exact .inl rfl
  · rw [if_neg h]; exact .inr ⟨i, hi, fun e => h e.symm, rfl⟩
/-- A cell of a transaction that is no slice is written. -/
theorem OwnTxs.put {w : World} {base : Nat} {t e : TypeId} {g c : Nat} {p : List (Gr.Tx × Value)} (h : OwnTxs w base t e (.slice (some ⟨g, 0, none⟩) p.length c) p) (k : Nat) (hk : k < p.length) (j : Nat) (hj : j < 4) (x : Gr.Tx) (u : Value) (hx : txC (x, p[k].2) = (txC p[k]).set j u) (ho : x.ops = p[k].1.ops) :
    OwnTxs (w.setCell ⟨g, k * 4 + j, none⟩ u) base t e (.slice (some ⟨g, 0, none⟩) p.length c) (p.set k (x, p[k].2)) := by
  obtain ⟨s1, s2⟩ := h.row.stored (k * 4 + j) u
  refine ⟨?_, ?_, ?_, ?_⟩
  · rw [four_set txC_len p k hk j hj _ u hx] at s1
    rw [List.length_set]
    exact s1
  · intro y hy
    rcases mem_set_at hy with rfl | ⟨i, hi, _, rfl⟩
    · show (w.setCell _ u).ownsRow base e 4 p[k].2 x.ops.length (x.ops.flatMap evCells)
      rw [ho]
      exact (h.ops _ (List.getElem_mem hk)).kept s2 (h.apart _ (List.getElem_mem hk))
    · exact (h.ops _ (List.getElem_mem hi)).kept s2 (h.apart _ (List.getElem_mem hi))
  · intro y hy
    rcases mem_set_at hy with rfl | ⟨i, hi, _, rfl⟩
    · exact h.apart p[k] (List.getElem_mem hk)
    · exact h.apart _ (List.getElem_mem hi)
  · rw [List.pairwise_iff_getElem]
    intro i j' hi hj' hij
    rw [List.length_set] at hi hj'
    have key : ∀ m (hm : m < p.length), ((p.set k (x, p[k].2))[m]'(by rw [List.length_set]; exact hm)).2 = p[m].2 := fun m hm => by
      rw [List.getElem_set]
      split
      · rename_i h'; subst h'; rfl
      · rfl
    rw [key i hi, key j' hj']
    exact each_at h.each i j' hi hj' (by omega)
/-- A transaction's events have grown (in their block, or in a new one), and their slice is laid into its cell. -/
theorem OwnTxs.grow {w w1 : World} {base : Nat} {t e : TypeId} {g c : Nat} {p : List (Gr.Tx × Value)} (h : OwnTxs w base t e (.slice (some ⟨g, 0, none⟩) p.length c) p) (k : Nat) (hk : k < p.length) (x : Gr.Tx) (u : Value)
    (hx : x.session = p[k].1.session ∧ x.done = p[k].1.done ∧ x.first = p[k].1.first) (hu : w1.ownsRow base e 4 u x.ops.length (x.ops.flatMap evCells)) (hg : w.grownBy w1 p[k].2.ownBlock) (hv : u.ownBlock = p[k].2.ownBlock ∨ u.ownBlock = some w.heap.size) :
    OwnTxs (w1.setCell ⟨g, k * 4 + 3, none⟩ u) base t e (.slice (some ⟨g, 0, none⟩) p.length c) (p.set k (x, u)) := by
  have hrow1 : w1.ownsRow base t 4 (.slice (some ⟨g, 0, none⟩) p.length c) p.length (p.flatMap txC) := by
    refine h.row.kept hg ?_
    rcases h.apart _ (List.getElem_mem hk) with e1 | e1
    · rw [e1]; exact .inr (by simp [Value.ownBlock])
    · exact .inr fun e2 => e1 e2.symm
  obtain ⟨s1, s2⟩ := hrow1.stored (k * 4 + 3) u
  have hug : u.ownBlock = none ∨ u.ownBlock ≠ some g := by
    rcases hv with hv | hv
    · rw [hv]; exact h.apart _ (List.getElem_mem hk)
    · rw [hv]
      refine .inr fun e1 => ?_
      have := (h.row.lt g rfl).2
      cases e1
      omega
  have hothers : ∀ i (hi : i < p.length), i ≠ k → p[i].2.ownBlock = none ∨ p[i].2.ownBlock ≠ u.ownBlock := fun i hi hik => by
    rcases hv with hv | hv
    · rw [hv]; exact each_at h.each i k hi hk hik
    · rw [hv]; exact ne_fresh (h.ops _ (List.getElem_mem hi))
  refine ⟨?_, ?_, ?_, ?_⟩
  · rw [four_set txC_len p k hk 3 (by omega) (x, u) u (by simp [txC, hx])] at s1
    rw [List.length_set]
    exact s1
  · intro y hy
    rcases mem_set_at hy with rfl | ⟨i, hi, hik, rfl⟩
    · exact hu.kept s2 hug
    · exact ((h.ops _ (List.getElem_mem hi)).kept hg (each_at h.each i k hi hk hik)).kept s2 (h.apart _ (List.getElem_mem hi))
  · intro y hy
    rcases mem_set_at hy with rfl | ⟨i, hi, _, rfl⟩
    · exact hug
    · exact h.apart _ (List.getElem_mem hi)
  · rw [List.pairwise_iff_getElem]
    intro i j hi hj hij
    rw [List.length_set] at hi hj
    rw [List.getElem_set, List.getElem_set]
    by_cases h1 : k = i
    · rw [if_pos h1, if_neg (by omega)]
      rcases hothers j hj (by omega) with e1 | e1
      · cases hb : u.ownBlock with
        | none => exact .inl rfl
        | some b => exact .inr (by rw [e1]; simp)
      · exact .inr fun e2 => e1 e2.symm
    · rw [if_neg h1]
      by_cases h2 : k = j
      · rw [if_pos h2]
        exact hothers i hi (by omega)
      · rw [if_neg h2]
        exact each_at h.each i j hi hj (by omega)

/-- Transactions, a place and an error: what a call hands back lies in memory of its own; what was there stays. -/
def RetTxs (w : World) (r : List Gr.Tx × Int × Int) (e : Ending) (w' : World) : Prop := ∃ v, e = .returned (.tuple #[v, .int .i64 r.2.1, .int .i64 r.2.2]) ∧ Txs w' v r.1 ∧ Below w.heap.size w w'
theorem RetTxs.mk {w w' : World} {r : List Gr.Tx × Int × Int} (v : Value) (n q : Int) (hn : r.2.1 = n) (hq : r.2.2 = q) (hs : Txs w' v r.1) (hb : Below w.heap.size w w') : RetTxs w r (.returned (.tuple #[v, .int .i64 n, .int .i64 q])) w' :=
  ⟨v, by rw [hn, hq], hs, hb⟩
end Go.Proofs.Ytahacjfeopjbaaa
/-
  A slice of transactions among the arguments: it reads as a list of transactions, each with its own slice of events.
  Conditions: none beyond those that each theorem states.
  (This program has not all of these functions: cells_tx, arg_txs are left out here.)
-/
set_option maxRecDepth 4000
namespace Go.Proofs.Ytahacjfeopjbaaa
open Go.ChangeShapes Go.WideShapes Go.ChangeAt Go.RowKit Go.Joins Go.Deep

section
variable {H : Type} {enc : TypeId × Value → H} {w : World} {base : Nat} {r : Reach} {b0 : Nat}
end
end Go.Proofs.Ytahacjfeopjbaaa
/-
  What group.errorOf and group.lastKind answer, for every input: Gr.errR, and the kind of the event that closes a transaction; what was in memory stays as it was.
  Conditions: none.
  (This program has not all of these functions: errorOf_at, lastKind_at are left out here.)
-/
set_option maxRecDepth 4000
namespace Go.Proofs.Ytahacjfeopjbaaa
open Go.RowKit

namespace Gr
end Gr

end Go.Proofs.Ytahacjfeopjbaaa
/-
  The map of a session's open transaction beside the row of transactions: that both agree with the transactions that have begun, and that they go on agreeing when one begins, gets an op, or is closed.
  Conditions: none beyond those that each theorem states.
  (This program has not all of these functions: GroupAt, GroupAt.len, GroupAt.later, GroupAt.row_stays, GroupAt.below_map, GroupAt.begin, GroupAt.close, GroupAt.op are left out here.)
-/
set_option maxRecDepth 4000
namespace Go.Proofs.Ytahacjfeopjbaaa
open Go.RowKit
open Go.Maps (Keyed int_keyed keyOf_int_mk IsMap)

/-- The map tells of each session whether a transaction is open, and where it stands. -/
structure Keeps (D : DataW Unit) (st : List (Gr.Tx × Bool)) : Prop where
  has : ∀ s, Maps.has D (.int .i64 s) = Gr.hasOpen st s
  place : ∀ s, Gr.hasOpen st s = true → ∃ j, ∃ h : j < st.length, Gr.mine s st[j] = true ∧ D.atKey (.int .i64 s) (.lit (.int .i64 0)) = .lit (.int .i64 (j : Int))
theorem Keeps.start : Keeps (.map []) [] := ⟨fun _ => rfl, fun s h => by simp [Gr.hasOpen] at h⟩
theorem key_lit (s : Int) : WideAt.IsKeyLit (.int .i64 s) := trivial
theorem key_ne {a b : Int} (h : a ≠ b) : (Lit.int .i64 a) ≠ .int .i64 b := fun e => by cases e; exact h rfl
theorem hasOpen_snoc (st : List (Gr.Tx × Bool)) (x : Gr.Tx × Bool) (s : Int) : Gr.hasOpen (st ++ [x]) s = (Gr.hasOpen st s || Gr.mine s x) := by simp [Gr.hasOpen]
theorem Keeps.put {D : DataW Unit} {st : List (Gr.Tx × Bool)} (h : Keeps D st) (hD : IsMap D) (s f : Int) (n : Nat) (hn : n = st.length) :
    Keeps (D.put (.int .i64 s) (.lit (.int .i64 (n : Int)))) (st ++ [(⟨s, false, f, []⟩, true)]) := by
  subst hn
  refine ⟨fun s' => ?_, fun s' hs => ?_⟩
  · rw [hasOpen_snoc]
    by_cases e : s' = s
    · subst e
      rw [Maps.has_put_same hD (key_lit _)]
      simp [Gr.mine]
    · have e2 : ¬ s = s' := fun h' => e h'.symm
      rw [Maps.has_put_other (key_ne e), h.has]
      simp [Gr.mine, e2]
  · by_cases e : s' = s
    · subst e
      refine ⟨st.length, by simp, by simp [Gr.mine], ?_⟩
      rw [Maps.atKey_put_same hD (key_lit _)]
    · rw [hasOpen_snoc] at hs
      have e2 : ¬ s = s' := fun h' => e h'.symm
      have hs' : Gr.hasOpen st s' = true := by simpa [Gr.mine, e2] using hs
      obtain ⟨j, hj, h1, h2⟩ := h.place s' hs'
      refine ⟨j, by simp; omega, by rw [List.getElem_append_left hj]; exact h1, ?_⟩
      rw [Maps.atKey_put_other (key_ne e), h2]
theorem mine_upd (s s' : Int) (f : Gr.Tx → Gr.Tx × Bool) (b : Bool) (hf : ∀ t, (f t).1.session = t.session ∧ (f t).2 = b) (x : Gr.Tx × Bool) : Gr.mine s' (if Gr.mine s x = true then f x.1 else x) = (Gr.mine s' x && (b || !decide (s' = s))) := by
  cases hm : Gr.mine s x with
  | true =>
    obtain ⟨h1, h2⟩ := (Gr.mine_iff s x).1 hm
    rw [if_pos rfl]
    simp only [Gr.mine, hf, h1, h2, Bool.and_true]
    by_cases e : s' = s
    · subst e; simp
    · have e2 : ¬ s = s' := fun h' => e h'.symm
      simp [e2]
  | false =>
    rw [if_neg (by simp)]
    by_cases e : s' = s
    · subst e; rw [hm]; simp
    · simp [e]
theorem upd_at (st : List (Gr.Tx × Bool)) (s : Int) (f : Gr.Tx → Gr.Tx × Bool) (j : Nat) (hj : j < st.length) : (Gr.upd st s f)[j]'(by rw [Gr.upd_len]; exact hj) = if Gr.mine s st[j] = true then f st[j].1 else st[j] := by simp [Gr.upd]
theorem hasOpen_upd (st : List (Gr.Tx × Bool)) (s s' : Int) (f : Gr.Tx → Gr.Tx × Bool) (b : Bool) (hf : ∀ t, (f t).1.session = t.session ∧ (f t).2 = b) : Gr.hasOpen (Gr.upd st s f) s' = (Gr.hasOpen st s' && (b || !decide (s' = s))) := by
  have e : ((Gr.mine s') ∘ fun x : Gr.Tx × Bool => if Gr.mine s x = true then f x.1 else x) = fun x => (Gr.mine s' x && (b || !decide (s' = s))) := by
    funext x
    exact mine_upd s s' f b hf x
  rw [Gr.hasOpen, Gr.upd, List.any_map, e, Gr.hasOpen]
  cases (b || !decide (s' = s)) <;> simp
/-- An op more: the map stays. -/
theorem Keeps.op {D : DataW Unit} {st : List (Gr.Tx × Bool)} (h : Keeps D st) (s : Int) (f : Gr.Tx → Gr.Tx × Bool) (hf : ∀ t, (f t).1.session = t.session ∧ (f t).2 = true) : Keeps D (Gr.upd st s f) := by
  refine ⟨fun s' => ?_, fun s' hs => ?_⟩
  · rw [hasOpen_upd st s s' f true hf, h.has]; simp
  · rw [hasOpen_upd st s s' f true hf] at hs
    obtain ⟨j, hj, h1, h2⟩ := h.place s' (by simpa using hs)
    refine ⟨j, by rw [Gr.upd_len]; exact hj, ?_, h2⟩
    rw [upd_at st s f j hj, mine_upd s s' f true hf, h1]
    rfl
/-- The open one is closed: its session is deleted. -/
theorem Keeps.del {D : DataW Unit} {st : List (Gr.Tx × Bool)} (h : Keeps D st) (s : Int) (f : Gr.Tx → Gr.Tx × Bool) (hf : ∀ t, (f t).1.session = t.session ∧ (f t).2 = false) : Keeps (D.del (.int .i64 s)) (Gr.upd st s f) := by
  refine ⟨fun s' => ?_, fun s' hs => ?_⟩
  · rw [hasOpen_upd st s s' f false hf]
    by_cases e : s' = s
    · subst e; rw [Maps.has_del_same]; simp
    · rw [Maps.has_del_other (key_ne e), h.has]; simp [e]
  · rw [hasOpen_upd st s s' f false hf] at hs
    have e : s' ≠ s := fun e => by subst e; simp at hs
    obtain ⟨j, hj, h1, h2⟩ := h.place s' (by simp [e] at hs; exact hs)
    refine ⟨j, by rw [Gr.upd_len]; exact hj, ?_, ?_⟩
    · rw [upd_at st s f j hj, mine_upd s s' f false hf, h1]; simp [e]
    · rw [Maps.atKey_del_other (key_ne e), h2]

theorem int_law : Keyed Try.prog 3 := int_keyed Try.underlying3
theorem int_zero (w : World) : (zeroValue 3).run Try.prog w = .ok (.int .i64 0) w := by kernel_rfl
theorem int_key {s : Int} (h : (Lit.int .i64 s).wf = true) : keyOf Try.prog 3 (.int .i64 s) = some (.int .i64 s) := keyOf_int_mk Try.underlying3 h
theorem int_elem {n : Nat} (h : n ≤ 4294967296) : plainElem (H := Unit) Try.prog 3 (.int .i64 (n : Int)) = some (.lit (.int .i64 (n : Int)), []) := plainElem_int Try.underlying3 (WalkArith.wf_i64 (by omega))

/-- A row of the call's own lies in no map's block. -/
theorem own_not_map {w : World} {base size n m b : Nat} {e k : TypeId} {v : Value} {xs : List Value} {R : Value → Option (DataW Unit × List MemPlace)} {P : Program} {D : DataW Unit} (h : w.ownsRow base e size v n xs) (hm : w.ownsMap P k R b m D) : v.ownBlock = none ∨ v.ownBlock ≠ some b := by
  obtain ⟨es, clock, hb, _⟩ := hm
  rcases h.2 with ⟨rfl, _⟩ | ⟨g, cap, cur, rfl, _, hg, _⟩
  · exact .inl rfl
  · refine .inr fun e => ?_
    cases e
    rw [hb] at hg
    cases hg
theorem own_not_map' {w : World} {base size n m b : Nat} {e k : TypeId} {v : Value} {xs : List Value} {R : Value → Option (DataW Unit × List MemPlace)} {P : Program} {D : DataW Unit} (h : w.ownsRow base e size v n xs) (hm : w.ownsMap P k R b m D) : some b ≠ v.ownBlock := by
  rcases own_not_map h hm with e | e
  · rw [e]; simp
  · exact fun e' => e e'.symm
theorem OwnTxs.kept {w w' : World} {base : Nat} {t e : TypeId} {v : Value} {p : List (Gr.Tx × Value)} {row : Option Nat} (h : OwnTxs w base t e v p) (hg : w.grownBy w' row) (hv : v.ownBlock = none ∨ v.ownBlock ≠ row) (hx : ∀ x ∈ p, x.2.ownBlock = none ∨ x.2.ownBlock ≠ row) : OwnTxs w' base t e v p :=
  ⟨h.row.kept hg hv, fun x hx' => (h.ops x hx').kept hg (hx x hx'), h.apart, h.each⟩

/-- 'v, ok := m[k]' where both are known. -/
theorem wpList_look {P : Program} (w : World) {ops : Array Oper} {rest : List Oper} {o : Oper} {a : Act} {Q : Exit → Act → World → Prop} (hg : o.guard = none) (m x : Operand) (t : TypeId) (hop : o.op = Op.lookup t m x true)
    (k e : TypeId) (K : Keyed P k) (ht : P.underlying t = some (.map k e)) (he : P.underlying e = some (.int .i64)) (hz : (zeroValue e).run P w = .ok (.int .i64 0) w) (b n : Nat) (D : DataW Unit)
    (hm : a.eval m = .map (some b)) (hown : w.ownsMap P k (plainElem P e) b n D) (key : Value) (kl : Lit) (hx : a.eval x = key) (hkey : keyOf P k key = some kl) (c : Int) (ok : Bool) (hat : D.atKey kl (.lit (.int .i64 0)) = .lit (.int .i64 c)) (hok : Maps.has D kl = ok)
    (hK : wpList P ops Q rest (a.put o.dst (.tuple #[.int .i64 c, .bool ok])) w) : wpList P ops Q (o :: rest) a w := by
  refine wpList_lookup_own_ok_int w hg m x t hop k e .i64 K ht he hz b n D hm hown key kl hx hkey fun c' hc _ => ?_
  rw [hat] at hc
  cases hc
  rw [hok]
  exact hK
end Go.Proofs.Ytahacjfeopjbaaa
/-
  What group.Group answers, for every row of events: Gr.groupR; what was in memory stays as it was.
  Conditions: a row has at most 2^32 elements; each event's session is a number of its kind.
  (This program has not all of these functions: gtx_info, GroupRel, group_at are left out here.)
-/
set_option maxRecDepth 4000
namespace Go.Proofs.Ytahacjfeopjbaaa
open Go.RowKit

end Go.Proofs.Ytahacjfeopjbaaa
/-
  What group.Events answers, for every row of transactions: Gr.eventsR; what was in memory stays as it was.
  Conditions: the events are at most 2^32.
  (This program has not all of these functions: EventsRel', events_at are left out here.)
-/
set_option maxRecDepth 4000
namespace Go.Proofs.Ytahacjfeopjbaaa
open Go.RowKit

namespace Gr
end Gr

/-- A variable that holds a transaction. -/
structure TxVar (w : World) (b : Nat) (t : Gr.Tx) (u : Value) : Prop where
  c0 : w.cell? ⟨b, 0, none⟩ = some (.int .i64 t.session)
  c1 : w.cell? ⟨b, 1, none⟩ = some (.bool t.done)
  c2 : w.cell? ⟨b, 2, none⟩ = some (.int .i64 t.first)
  c3 : w.cell? ⟨b, 3, none⟩ = some u
theorem TxVar.new (w : World) (t : Gr.Tx) (u : Value) (ty : TypeId) : TxVar (w.alloc (.cells #[.int .i64 t.session, .bool t.done, .int .i64 t.first, u] ty)) w.heap.size t u :=
  ⟨new_cell w _ _ 0 _ rfl, new_cell w _ _ 1 _ rfl, new_cell w _ _ 2 _ rfl, new_cell w _ _ 3 _ rfl⟩
theorem TxVar.grown {w w' : World} {b : Nat} {t : Gr.Tx} {u : Value} {row : Option Nat} (h : TxVar w b t u) (hg : w.grownBy w' row) (hne : some b ≠ row) : TxVar w' b t u :=
  ⟨hg.cell h.c0 hne, hg.cell h.c1 hne, hg.cell h.c2 hne, hg.cell h.c3 hne⟩
theorem TxVar.below {w w' : World} {b : Nat} {t : Gr.Tx} {u : Value} (h : TxVar w b t u) (hb : Below w.heap.size w w') : TxVar w' b t u :=
  h.grown (row := none) ⟨hb.os, hb.tape, hb.output, hb.size, fun k hk _ => hb.block k hk⟩ (by simp)

end Go.Proofs.Ytahacjfeopjbaaa
/-
  What the reference's last, One and Same of layer 5 answer, and the laws' Plain: the last transaction of a session; that two are the same, where they are; the same transactions, in a row of its own. What was in memory stays as it was.
  Conditions: a row has at most 2^32 elements.
  (This program has not all of these functions: rLast_at, rOne_at are left out here.)
-/
set_option maxRecDepth 4000
namespace Go.Proofs.Ytahacjfeopjbaaa
open Go.RowKit

end Go.Proofs.Ytahacjfeopjbaaa
/-
  What the reference's Same of layer 5 answers of two rows that are one, and the laws' Plain: the same transactions, in a row of its own. What was in memory stays as it was.
  Conditions: a row has at most 2^32 elements.
  (This program has not all of these functions: rSame5_at, gt_info, plain_at are left out here.)
-/
set_option maxRecDepth 4000
namespace Go.Proofs.Ytahacjfeopjbaaa
open Go.RowKit

theorem Txs.parts {w : World} {v : Value} {l : List Gr.Tx} (h : Txs w v l) :
    ∃ (p : List (Gr.Tx × Value)) (A : Option Addr) (c : Nat), p.map (·.1) = l ∧ v = .slice A p.length c ∧ (∀ x ∈ p, Evs w x.2 x.1.ops) ∧ ∀ (k : Nat) (hk : k < p.length), ∃ ad : Addr, A = some ad ∧ ad.block < w.heap.size ∧ TxIn w ad k p[k].1 p[k].2 := by
  obtain ⟨p, rfl, h2, h3⟩ := h
  obtain ⟨A, c, hv, hh⟩ := h2.form
  refine ⟨p, A, c, rfl, hv, h3, fun k hk => ?_⟩
  obtain ⟨ad, e, hb, hc⟩ := hh (by omega)
  have key : ∀ j (hj : j < 4) x, (txC p[k])[j]? = some x → w.cell? (ad.add (k * 4 + j)) = some x := fun j hj x hx => hc _ _ ((four_at txC_len p k hk j hj).trans hx)
  refine ⟨ad, e, hb, ⟨?_, ?_, ?_, ?_⟩⟩
  · exact key 0 (by omega) _ rfl
  · rw [add_next ad _ 1 (by omega)]; exact key 1 (by omega) _ rfl
  · rw [add_next ad _ 2 (by omega)]; exact key 2 (by omega) _ rfl
  · rw [add_next ad _ 3 (by omega)]; exact key 3 (by omega) _ rfl
theorem TxIn.on {w w' : World} {ad : Addr} {k : Nat} {t : Gr.Tx} {u : Value} (h : TxIn w ad k t u) (hlt : ad.block < w.heap.size) (hb : Below w.heap.size w w') :
    w'.cell? (ad.add (k * 4)) = some (.int .i64 t.session) ∧ w'.cell? ⟨(ad.add (k * 4)).block, (ad.add (k * 4)).off + 1, none⟩ = some (.bool t.done) ∧ w'.cell? ⟨(ad.add (k * 4)).block, (ad.add (k * 4)).off + 2, none⟩ = some (.int .i64 t.first) ∧ w'.cell? ⟨(ad.add (k * 4)).block, (ad.add (k * 4)).off + 3, none⟩ = some u :=
  let h' := h.below hlt hb
  ⟨h'.c0, h'.c1, h'.c2, h'.c3⟩
end Go.Proofs.Ytahacjfeopjbaaa
/-
  The reference's row of transactions beside its row of what is open: that both agree with the transactions that have begun, and go on agreeing when one begins, gets an op, or is closed; and what the reference's Events answers: Gr.eventsR. What was in memory stays as it was.
  Conditions: the events are at most 2^32.
  (This program has not all of these functions: RefAt, RefAt.len, RefAt.at, RefAt.later, RefAt.txs, RefAt.cell, RefAt.begin, RefAt.op, RefAt.close, rEvents_at are left out here.)
-/
set_option maxRecDepth 4000
namespace Go.Proofs.Ytahacjfeopjbaaa
open Go.RowKit

/-- Rows of different types lie in different blocks. -/
theorem own_types {w : World} {b1 b2 s1 s2 n1 n2 : Nat} {e1 e2 : TypeId} {v1 v2 : Value} {x1 x2 : List Value} (h1 : w.ownsRow b1 e1 s1 v1 n1 x1) (h2 : w.ownsRow b2 e2 s2 v2 n2 x2) (he : e1 ≠ e2) : v1.ownBlock = none ∨ v1.ownBlock ≠ v2.ownBlock := by
  rcases h1.2 with ⟨rfl, _⟩ | ⟨g1, c1, cur1, rfl, _, hg1, _⟩
  · exact .inl rfl
  · refine .inr fun e => ?_
    rcases h2.2 with ⟨rfl, _⟩ | ⟨g2, c2, cur2, rfl, _, hg2, _⟩
    · cases e
    · have e' : g1 = g2 := by simpa [Value.ownBlock] using e
      rw [e', hg2] at hg1
      cases hg1
      exact he rfl

end Go.Proofs.Ytahacjfeopjbaaa
/-
  What the reference's Group of layer 5 answers, for every row of events: Gr.groupR; what was in memory stays as it was.
  Conditions: a row has at most 2^32 elements.
  (This program has not all of these functions: RefRel, rGroup_at are left out here.)
-/
set_option maxRecDepth 4000
namespace Go.Proofs.Ytahacjfeopjbaaa
open Go.RowKit

namespace Gr
end Gr

end Go.Proofs.Ytahacjfeopjbaaa
