/-
  Plain facts on choices of whose write comes first (no Go in it): the edges that follow from them, what an order serves, that an order serves a history just if all edges of its own choices lead on in it, that what has an order has snapshots, and which choices must be.
  Conditions: none beyond those that each theorem states.
-/
import Derived.Test.YtahacjfeopjbaaaHiAll
import Derived.Test.YtahacjfeopjbaaaIxAll
set_option maxRecDepth 4000
namespace Go.Proofs.Ytahacjfeopjbaaa.Ch
open So (Txn Rises)
open Hi (Right)

/-- Transaction t reads key k from f; x writes k; x is ahead of y in one session. -/
def Reads (h : List Txn) (t : Nat) (k f : Int) : Prop := ∃ ht : t < h.length, (k, f) ∈ h[t].reads
def Wr (h : List Txn) (k : Int) (x : Nat) : Prop := Ix.writes h k x = true
def Sess (h : List Txn) (x y : Nat) : Prop := ∃ (hx : x < h.length) (hy : y < h.length), x < y ∧ h[x].session = h[y].session
theorem wr_lt {h : List Txn} {k : Int} {x : Nat} (hw : Wr h k x) : x < h.length := ((Ix.writes_iff h k x).1 hw).1
/-- Of a history that may be: nobody reads from themselves, and who is read from writes that key. -/
theorem reads_from {h : List Txn} (hr : Right h) {t : Nat} {k f : Int} (hd : Reads h t k f) : f = -1 ∨ ∃ a : Nat, f = (a : Int) ∧ a ≠ t ∧ Wr h k a := by
  obtain ⟨ht, hm⟩ := hd
  rcases (hr.2 t ht).froms _ hm with q | ⟨j, hj, e, hne, hw⟩
  · exact .inl q
  · exact .inr ⟨j, e, hne, (Ix.writes_iff h k j).2 ⟨hj, hw⟩⟩

/-! Edges, by a set of choices C: C k a b says that of key k a's write comes ahead of b's. -/
def Choices (h : List Txn) (C : Int → Nat → Nat → Prop) : Prop := ∀ k a b, C k a b → Wr h k a ∧ Wr h k b ∧ a ≠ b
def Dir (h : List Txn) (C : Int → Nat → Nat → Prop) (x y : Nat) : Prop := Sess h x y ∨ (∃ k, Reads h y k (x : Int)) ∨ ∃ k, C k x y
def Anti (h : List Txn) (C : Int → Nat → Nat → Prop) (x y : Nat) : Prop := x ≠ y ∧ ∃ k f, Reads h x k f ∧ Wr h k y ∧ (f = -1 ∨ ∃ a : Nat, f = (a : Int) ∧ C k a y)
/-- The edges at a level (si: snapshots). -/
def E (si : Bool) (h : List Txn) (C : Int → Nat → Nat → Prop) (x y : Nat) : Prop := Dir h C x y ∨ match si with
  | false => Anti h C x y
  | true => ∃ m, Dir h C x m ∧ Anti h C m y
section
variable {h : List Txn} {C D : Int → Nat → Nat → Prop}
theorem Dir.more (hs : ∀ k a b, C k a b → D k a b) {x y : Nat} (hd : Dir h C x y) : Dir h D x y := hd.imp id (Or.imp id fun ⟨k, q⟩ => ⟨k, hs _ _ _ q⟩)
theorem Anti.more (hs : ∀ k a b, C k a b → D k a b) {x y : Nat} (ha : Anti h C x y) : Anti h D x y := by
  obtain ⟨hne, k, f, h1, h2, h3⟩ := ha
  exact ⟨hne, k, f, h1, h2, h3.imp id fun ⟨a, e, q⟩ => ⟨a, e, hs _ _ _ q⟩⟩
/-- More choices, more edges. -/
theorem E.more {si : Bool} (hs : ∀ k a b, C k a b → D k a b) {x y : Nat} (he : E si h C x y) : E si h D x y := by
  refine he.imp (Dir.more hs) fun q => ?_
  cases si with
  | false => exact Anti.more hs q
  | true =>
    obtain ⟨m, q1, q2⟩ := q
    exact ⟨m, Dir.more hs q1, Anti.more hs q2⟩
/-- Does some way lead back? -/
def Cyc (si : Bool) (h : List Txn) (C : Int → Nat → Nat → Prop) : Prop := ∃ x, Relation.TransGen (E si h C) x x
theorem Cyc.more {si : Bool} (hs : ∀ k a b, C k a b → D k a b) (hc : Cyc si h C) : Cyc si h D := by
  obtain ⟨x, hx⟩ := hc
  have key : ∀ {u v}, Relation.TransGen (E si h C) u v → Relation.TransGen (E si h D) u v := fun {u v} q => by
    induction q with
    | single q => exact .single (q.more hs)
    | tail _ q ih => exact .tail ih (q.more hs)
  exact ⟨x, key hx⟩
theorem cyc_two {si : Bool} {x y : Nat} (h1 : Dir h C x y) (h2 : Dir h C y x) : Cyc si h C := ⟨x, .tail (.single (.inl h1)) (.inl h2)⟩
/-- A direct edge, and one behind it that leads back ahead: a cycle at either level. -/
theorem cyc_anti {si : Bool} {x y : Nat} (h1 : Dir h C x y) (h2 : Anti h C y x) : Cyc si h C := by
  cases si with
  | false => exact ⟨x, .tail (.single (.inl h1)) (.inr h2)⟩
  | true => exact ⟨x, .single (.inr ⟨y, h1, h2⟩)⟩

/-! Choices that must be: each is among all choices of all pairs from which no way leads back. -/
structure Whole (si : Bool) (h : List Txn) (C : Int → Nat → Nat → Prop) : Prop where
  all : ∀ k a b, Wr h k a → Wr h k b → a ≠ b → C k a b ∨ C k b a
  none : ¬ Cyc si h C
theorem Whole.two {si : Bool} (w : Whole si h C) {k : Int} {a b : Nat} (h1 : C k a b) : ∀ k', ¬ C k' b a := fun k' h2 => w.none (cyc_two (.inr (.inr ⟨k, h1⟩)) (.inr (.inr ⟨k', h2⟩)))
theorem must_axiom {si : Bool} (w : Whole si h C) {k : Int} {a b : Nat} (ha : Wr h k a) (hb : Wr h k b) (hne : a ≠ b) (hd : Sess h a b ∨ ∃ k', Reads h b k' (a : Int)) : C k a b := by
  rcases w.all k a b ha hb hne with q | q
  · exact q
  · exact absurd (cyc_two (hd.imp id .inl) (.inr (.inr ⟨k, q⟩))) w.none
theorem must_joined {si : Bool} (w : Whole si h C) {k : Int} {a b c : Nat} (ha : Wr h k a) (hb : Wr h k b) (hne : a ≠ b) (h1 : C k a c) (h2 : C k c b) : C k a b := by
  rcases w.all k a b ha hb hne with q | q
  · exact q
  · refine absurd ⟨a, ?_⟩ w.none
    exact .tail (.tail (.single (.inl (.inr (.inr ⟨k, h1⟩)))) (.inl (.inr (.inr ⟨k, h2⟩)))) (.inl (.inr (.inr ⟨k, q⟩)))
theorem must_seen {si : Bool} (w : Whole si h C) {k : Int} {a b i : Nat} (ha : Wr h k a) (hb : Wr h k b) (hne : a ≠ b) (hia : i ≠ a) (hr : Reads h i k (b : Int)) (hd : Sess h a i ∨ ∃ k', Reads h i k' (a : Int)) : C k a b := by
  rcases w.all k a b ha hb hne with q | q
  · exact q
  · exact absurd (cyc_anti (hd.imp id .inl) ⟨hia, k, b, hr, ha, .inr ⟨b, rfl, q⟩⟩) w.none
theorem must_forced {si : Bool} (w : Whole si h C) {k : Int} {a b : Nat} (ha : Wr h k a) (hb : Wr h k b) (hne : a ≠ b) {L : Int → Nat → Nat → Prop} (hL : ∀ k a b, L k a b → C k a b) (hc : Cyc si h fun k' x y => L k' x y ∨ k' = k ∧ x = b ∧ y = a) : C k a b := by
  rcases w.all k a b ha hb hne with q | q
  · exact q
  · refine absurd (hc.more fun k' x y e => ?_) w.none
    rcases e with e | ⟨rfl, rfl, rfl⟩
    · exact hL _ _ _ e
    · exact q
/-- No way to choose: at a pair of which both choices lead to none. -/
theorem none_both {si : Bool} {k : Int} {a b : Nat} (ha : Wr h k a) (hb : Wr h k b) (hne : a ≠ b) {L : Int → Nat → Nat → Prop} (h1 : ∀ C, Whole si h C → (∀ k a b, L k a b → C k a b) → ¬ C k a b) (h2 : ∀ C, Whole si h C → (∀ k a b, L k a b → C k a b) → ¬ C k b a) : ∀ C, Whole si h C → ¬ ∀ k a b, L k a b → C k a b := fun C w hL => by
  rcases w.all k a b ha hb hne with q | q
  · exact h1 C w hL q
  · exact h2 C w hL q
theorem none_cyc {si : Bool} {L : Int → Nat → Nat → Prop} (hc : Cyc si h L) : ∀ C, Whole si h C → ¬ ∀ k a b, L k a b → C k a b := fun _ w hL => w.none (hc.more hL)
end

/-! Orders of all transactions. -/
structure Perm (o : List Nat) (n : Nat) : Prop where
  len : o.length = n
  once : o.Nodup
  node : ∀ x ∈ o, x < n
theorem sub_len {l m : List Nat} (hl : l.Nodup) (h : ∀ x ∈ l, x ∈ m) : l.length ≤ m.length := by
  induction l generalizing m with
  | nil => exact Nat.zero_le _
  | cons a l ih =>
    have ha : a ∈ m := h a List.mem_cons_self
    have hm : (m.erase a).length = m.length - 1 := List.length_erase_of_mem ha
    have hpos : 0 < m.length := List.length_pos_of_mem ha
    have hn := List.nodup_cons.1 hl
    have := ih (m := m.erase a) hn.2 fun x hx => (List.mem_erase_of_ne (fun e => hn.1 (by rw [← e]; exact hx))).2 (h x (List.mem_cons_of_mem _ hx))
    simp only [List.length_cons]
    omega
theorem Perm.all {o : List Nat} {n : Nat} (p : Perm o n) {x : Nat} (hx : x < n) : x ∈ o := by
  rcases Classical.em (x ∈ o) with h | h
  · exact h
  · have := sub_len (m := List.range n) (List.nodup_cons.2 ⟨h, p.once⟩) fun y hy => by
      rcases List.mem_cons.1 hy with rfl | q
      · exact List.mem_range.2 hx
      · exact List.mem_range.2 (p.node y q)
    rw [List.length_range, List.length_cons, p.len] at this
    omega
/-- The place of x. -/
def pos (o : List Nat) (x : Nat) : Nat := o.idxOf x
theorem Perm.pos_lt {o : List Nat} {n : Nat} (p : Perm o n) {x : Nat} (hx : x < n) : pos o x < o.length := List.idxOf_lt_length_of_mem (p.all hx)
theorem Perm.at_pos {o : List Nat} {n : Nat} (p : Perm o n) {x : Nat} (hx : x < n) : o[pos o x]'(p.pos_lt hx) = x := List.getElem_idxOf (p.pos_lt hx)
theorem Perm.pos_at {o : List Nat} {n : Nat} (p : Perm o n) {i : Nat} (hi : i < o.length) : pos o o[i] = i := by
  have hx := p.node _ (List.getElem_mem hi)
  exact (List.getElem_inj p.once).1 (p.at_pos hx)
theorem Perm.pos_inj {o : List Nat} {n : Nat} (p : Perm o n) {x y : Nat} (hx : x < n) (hy : y < n) (h : pos o x = pos o y) : x = y := by
  have e := p.at_pos hx
  simp only [h] at e
  rw [p.at_pos hy] at e
  exact e.symm

/-- The last one ahead of place i that writes a key; -1: there is none. -/
def lastW (h : List Txn) (o : List Nat) (i : Nat) (k : Int) : Int := match (o.take i).reverse.find? (Ix.writes h k) with
  | some x => (x : Int)
  | none => -1
def lastTo (h : List Txn) (o : List Nat) (i : Nat) (k : Int) : Option Nat := (o.take i).reverse.find? (Ix.writes h k)
theorem lastTo_zero (h : List Txn) (o : List Nat) (k : Int) : lastTo h o 0 k = none := rfl
theorem lastTo_next {h : List Txn} {o : List Nat} {i : Nat} (hi : i < o.length) (k : Int) : lastTo h o (i + 1) k = if Ix.writes h k o[i] = true then some o[i] else lastTo h o i k := by
  rw [lastTo, List.take_succ_eq_append_getElem hi, List.reverse_append, List.reverse_singleton, List.singleton_append, List.find?_cons]
  split
  · rename_i q; rw [if_pos q]
  · rename_i q; rw [if_neg (by rw [q]; simp)]; rfl
theorem lastW_to (h : List Txn) (o : List Nat) (i : Nat) (k : Int) : lastW h o i k = match lastTo h o i k with
  | some x => (x : Int)
  | none => -1 := rfl
theorem lastTo_none {h : List Txn} {o : List Nat} (p : Perm o h.length) {i : Nat} (hi : i ≤ o.length) {k : Int} : lastTo h o i k = none ↔ ∀ y, Wr h k y → i ≤ pos o y := by
  induction i with
  | zero => exact ⟨fun _ _ _ => Nat.zero_le _, fun _ => rfl⟩
  | succ i ih =>
    have hi2 : i < o.length := hi
    rw [lastTo_next hi2]
    constructor
    · intro q y hy
      split at q
      · cases q
      · rename_i hw
        have := (ih (Nat.le_of_lt hi2)).1 q y hy
        rcases Nat.lt_or_ge i (pos o y) with c | c
        · exact c
        · exfalso
          have e : pos o y = i := by omega
          have e2 := p.at_pos (wr_lt hy)
          simp only [e] at e2
          exact hw (by rw [e2]; exact hy)
    · intro q
      have hw : ¬ Ix.writes h k o[i] = true := fun c => by
        have := q o[i] c
        rw [p.pos_at hi2] at this
        omega
      rw [if_neg hw]
      exact (ih (Nat.le_of_lt hi2)).2 fun y hy => by have := q y hy; omega
theorem lastTo_some {h : List Txn} {o : List Nat} (p : Perm o h.length) {i : Nat} (hi : i ≤ o.length) {k : Int} {x : Nat} : lastTo h o i k = some x ↔ Wr h k x ∧ pos o x < i ∧ ∀ y, Wr h k y → pos o y < i → pos o y ≤ pos o x := by
  induction i with
  | zero =>
    constructor
    · intro q; cases q
    · rintro ⟨_, q, _⟩; omega
  | succ i ih =>
    have hi2 : i < o.length := hi
    have hj := ih (Nat.le_of_lt hi2)
    rw [lastTo_next hi2]
    split
    · rename_i hw
      constructor
      · intro q
        cases q
        exact ⟨hw, by rw [p.pos_at hi2]; omega, fun y _ hy => by rw [p.pos_at hi2]; omega⟩
      · rintro ⟨h1, h2, h3⟩
        have := h3 o[i] hw (by rw [p.pos_at hi2]; omega)
        rw [p.pos_at hi2] at this
        have e : pos o x = i := by omega
        have e2 := p.at_pos (wr_lt h1)
        simp only [e] at e2
        rw [e2]
    · rename_i hw
      have hno : ∀ y, Wr h k y → pos o y ≠ i := fun y hy e => by
        have e2 := p.at_pos (wr_lt hy)
        simp only [e] at e2
        exact hw (by rw [e2]; exact hy)
      rw [hj]
      constructor
      · rintro ⟨h1, h2, h3⟩
        exact ⟨h1, by omega, fun y hy hlt => h3 y hy (by have := hno y hy; omega)⟩
      · rintro ⟨h1, h2, h3⟩
        exact ⟨h1, by have := hno x h1; omega, fun y hy hlt => h3 y hy (by omega)⟩

/-- An order shows that a history is serializable. -/
structure Served (h : List Txn) (o : List Nat) : Prop where
  sess : ∀ x y, Sess h x y → pos o x < pos o y
  reads : ∀ t k f, Reads h t k f → f = lastW h o (pos o t) k
/-- An order's own choices. -/
def OfO (h : List Txn) (o : List Nat) (k : Int) (a b : Nat) : Prop := Wr h k a ∧ Wr h k b ∧ pos o a < pos o b
theorem ofO_choices (h : List Txn) (o : List Nat) : Choices h (OfO h o) := fun _ a _ ⟨h1, h2, h3⟩ => ⟨h1, h2, fun e => by rw [e] at h3; exact Nat.lt_irrefl _ h3⟩
theorem served_on {h : List Txn} {o : List Nat} (p : Perm o h.length) (s : Served h o) {x y : Nat} (he : Dir h (OfO h o) x y ∨ Anti h (OfO h o) x y) : pos o x < pos o y := by
  rcases he with (q | ⟨k, q⟩ | ⟨_, _, _, q⟩) | ⟨hne, k, f, hd, hw, hf⟩
  · exact s.sess x y q
  · have hy := q.1
    have e := s.reads y k _ q
    rw [lastW_to] at e
    split at e
    · rename_i z hz
      obtain rfl : x = z := by omega
      exact ((lastTo_some p (Nat.le_of_lt (p.pos_lt hy))).1 hz).2.1
    · omega
  · exact q
  · have hx := hd.1
    have e := s.reads x k f hd
    rw [lastW_to] at e
    have hyl := wr_lt hw
    have hpos : pos o y ≠ pos o x := fun q => hne (p.pos_inj hx hyl q.symm)
    split at e
    · rename_i z hz
      obtain ⟨h1, h2, h3⟩ := (lastTo_some p (Nat.le_of_lt (p.pos_lt hx))).1 hz
      rcases hf with hf | ⟨a, ea, _, _, hlt⟩
      · exact absurd (hf.symm.trans e) (Int.ne_of_lt (Int.lt_of_lt_of_le (by decide) (Int.natCast_nonneg z)))
      · obtain rfl : a = z := by omega
        rcases Nat.lt_or_ge (pos o y) (pos o x) with c | c
        · have := h3 y hw c
          omega
        · omega
    · rename_i hz
      have := (lastTo_none p (Nat.le_of_lt (p.pos_lt hx))).1 hz y hw
      omega
/-- An order shows a history to be serializable just if all edges of its own choices lead on in it. -/
theorem served_iff {h : List Txn} (hr : Right h) {o : List Nat} (p : Perm o h.length) : Served h o ↔ ∀ x y, E false h (OfO h o) x y → pos o x < pos o y := by
  constructor
  · exact fun s x y he => served_on p s he
  · intro he
    refine ⟨fun x y q => he x y (.inl (.inl q)), fun t k f hd => ?_⟩
    have ht := hd.1
    have hlt := Nat.le_of_lt (p.pos_lt ht)
    rw [lastW_to]
    rcases reads_from hr hd with rfl | ⟨a, rfl, hat, hwa⟩
    · have hz : lastTo h o (pos o t) k = none := (lastTo_none p hlt).2 fun y hy => by
        rcases Nat.lt_or_ge (pos o y) (pos o t) with c | c
        · have hne : t ≠ y := fun e => by rw [e] at c; exact Nat.lt_irrefl _ c
          have := he t y (.inr ⟨hne, k, -1, hd, hy, .inl rfl⟩)
          omega
        · exact c
      rw [hz]
    · have hpa : pos o a < pos o t := he a t (.inl (.inr (.inl ⟨k, hd⟩)))
      have hz : lastTo h o (pos o t) k = some a := (lastTo_some p hlt).2 ⟨hwa, hpa, fun y hy hyt => by
        rcases Nat.lt_or_ge (pos o a) (pos o y) with c | c
        · have hne : t ≠ y := fun e => by rw [e] at hyt; exact Nat.lt_irrefl _ hyt
          have := he t y (.inr ⟨hne, k, a, hd, hy, .inr ⟨a, rfl, hwa, hy, c⟩⟩)
          omega
        · exact c⟩
      rw [hz]
/-- What has an order has no way back, by the order's own choices, at either level; and these choose all pairs. -/
theorem on_no_cyc {o : List Nat} {R : Nat → Nat → Prop} (hon : ∀ x y, R x y → pos o x < pos o y) : ¬ ∃ x, Relation.TransGen R x x := by
  rintro ⟨x, hx⟩
  have key : ∀ {u v}, Relation.TransGen R u v → pos o u < pos o v := fun {u v} q => by
    induction q with
    | single q => exact hon _ _ q
    | tail _ q ih => exact Nat.lt_trans ih (hon _ _ q)
  exact Nat.lt_irrefl _ (key hx)
theorem served_whole {h : List Txn} {o : List Nat} (p : Perm o h.length) (s : Served h o) (si : Bool) : Whole si h (OfO h o) := by
  refine ⟨fun k a b ha hb hne => ?_, on_no_cyc (o := o) fun x y he => ?_⟩
  · rcases Nat.lt_trichotomy (pos o a) (pos o b) with q | q | q
    · exact .inl ⟨ha, hb, q⟩
    · exact absurd (p.pos_inj (wr_lt ha) (wr_lt hb) q) hne
    · exact .inr ⟨hb, ha, q⟩
  · rcases he with q | q
    · exact served_on p s (.inl q)
    · cases si with
      | false => exact served_on p s (.inr q)
      | true =>
        obtain ⟨m, q1, q2⟩ := q
        exact Nat.lt_trans (served_on p s (.inl q1)) (served_on p s (.inr q2))
end Go.Proofs.Ytahacjfeopjbaaa.Ch
