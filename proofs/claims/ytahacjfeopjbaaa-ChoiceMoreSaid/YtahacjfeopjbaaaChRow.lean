/-
  Plain facts on choices as a row: when they may be, which edges they make, as graphs of bits; which pair is open; what an order chooses.
  Conditions: none beyond those that each theorem states.
-/
import Derived.Test.YtahacjfeopjbaaaKnAns
set_option maxRecDepth 4000
namespace Go.Proofs.Ytahacjfeopjbaaa
namespace Ch
open Gf So

def isC (l : List (Int × Int × Int)) (k : Int) (a b : Nat) : Prop := (k, (a : Int), (b : Int)) ∈ l
def oneB (h : List Txn) (c : Int × Int × Int) : Bool := decide (c.2.1 ≠ c.2.2) && (isN (h.length : Int) c.2.1 && (isN (h.length : Int) c.2.2 && (Ix.writes h c.1 c.2.1.toNat && Ix.writes h c.1 c.2.2.toNat)))
noncomputable def rightC (h : List Txn) (l : List (Int × Int × Int)) : Bool := Hi.rightB h && (decide (l.length ≤ 20000) && l.all (oneB h))
theorem oneB_iff {h : List Txn} {c : Int × Int × Int} : oneB h c = true ↔ ∃ a b : Nat, c = (c.1, (a : Int), (b : Int)) ∧ a ≠ b ∧ Wr h c.1 a ∧ Wr h c.1 b := by
  obtain ⟨k, x, y⟩ := c
  unfold oneB
  simp only [Bool.and_eq_true, decide_eq_true_iff]
  constructor
  · rintro ⟨h1, h2, h3, h4, h5⟩
    obtain ⟨a, rfl, _⟩ := isN_nat h2
    obtain ⟨b, rfl, _⟩ := isN_nat h3
    exact ⟨a, b, rfl, fun e => h1 (by rw [e]), h4, h5⟩
  · rintro ⟨a, b, e, hne, ha, hb⟩
    obtain ⟨rfl, rfl⟩ : x = (a : Int) ∧ y = (b : Int) := by simpa using e
    exact ⟨fun e => hne (by omega), isN_yes (wr_lt ha), isN_yes (wr_lt hb), ha, hb⟩
theorem rightC_iff {h : List Txn} {l : List (Int × Int × Int)} : rightC h l = true ↔ Hi.Right h ∧ l.length ≤ 20000 ∧ ∀ c ∈ l, oneB h c = true := by
  unfold rightC
  rw [Bool.and_eq_true, Bool.and_eq_true, decide_eq_true_iff, List.all_eq_true, Hi.rightB_iff]
theorem isC_choices {h : List Txn} {l : List (Int × Int × Int)} (hl : ∀ c ∈ l, oneB h c = true) : Choices h (isC l) := fun k a b q => by
  obtain ⟨x, y, e, hne, hx, hy⟩ := oneB_iff.1 (hl _ q)
  obtain ⟨h1, h2⟩ : (a : Int) = (x : Int) ∧ (b : Int) = (y : Int) := by simpa using e
  obtain rfl : a = x := by omega
  obtain rfl : b = y := by omega
  exact ⟨hx, hy, hne⟩
theorem all_spelled {h : List Txn} {l : List (Int × Int × Int)} (hl : ∀ c ∈ l, oneB h c = true) {c : Int × Int × Int} (hc : c ∈ l) : ∃ a b : Nat, c = (c.1, (a : Int), (b : Int)) ∧ isC l c.1 a b := by
  obtain ⟨a, b, e, _⟩ := oneB_iff.1 (hl c hc)
  exact ⟨a, b, e, by rw [isC, ← e]; exact hc⟩

/-! The graphs. -/
def wwB (l : List (Int × Int × Int)) (a b : Nat) : Bool := l.any fun c => decide (c.2.1 = (a : Int)) && decide (c.2.2 = (b : Int))
def wwR (h : List Txn) (l : List (Int × Int × Int)) : List Nat := build h.length (wwB l)
def rwB (h : List Txn) (l : List (Int × Int × Int)) (a b : Nat) : Bool := Kn.initB h a b || l.any fun c => decide (c.2.2 = (b : Int)) && (decide (a ≠ b) && (Ix.fromO h a c.1 == some c.2.1))
def rwR (h : List Txn) (l : List (Int × Int × Int)) : List Nat := build h.length (rwB h l)
def dirR (h : List Txn) (l : List (Int × Int × Int)) : List Nat := unionR h.length (Kn.pastR h) (wwR h l)
def fullR (si : Bool) (h : List Txn) (l : List (Int × Int × Int)) : List Nat := unionR h.length (dirR h l) (if si = true then composeR h.length (dirR h l) (rwR h l) else rwR h l)
section
variable {h : List Txn} {l : List (Int × Int × Int)}
theorem ww_ok (hr : Hi.Right h) : Ok h.length (wwR h l) := Gf.build_ok (Kn.len64 hr) _
theorem rw_ok (hr : Hi.Right h) : Ok h.length (rwR h l) := Gf.build_ok (Kn.len64 hr) _
theorem dir_ok (hr : Hi.Right h) : Ok h.length (dirR h l) := Gf.build_ok (Kn.len64 hr) _
theorem full_ok (si : Bool) (hr : Hi.Right h) : Ok h.length (fullR si h l) := Gf.build_ok (Kn.len64 hr) _
theorem wwB_iff {a b : Nat} : wwB l a b = true ↔ ∃ k, isC l k a b := by
  unfold wwB isC
  rw [List.any_eq_true]
  constructor
  · rintro ⟨⟨k, x, y⟩, hc, q⟩
    rw [Bool.and_eq_true, decide_eq_true_iff, decide_eq_true_iff] at q
    obtain ⟨rfl, rfl⟩ := q
    exact ⟨k, hc⟩
  · rintro ⟨k, hc⟩
    exact ⟨_, hc, by simp⟩
theorem ww_bit (hr : Hi.Right h) (hl : ∀ c ∈ l, oneB h c = true) {a b : Nat} : bit (wwR h l) a b = true ↔ ∃ k, isC l k a b := by
  rw [wwR, build_bit (Kn.len64 hr), Bool.and_eq_true, Bool.and_eq_true, decide_eq_true_iff, decide_eq_true_iff, wwB_iff]
  constructor
  · exact fun q => q.2.2
  · rintro ⟨k, q⟩
    obtain ⟨h1, h2, _⟩ := isC_choices hl k a b q
    exact ⟨wr_lt h1, wr_lt h2, k, q⟩
theorem rwB_iff (hr : Hi.Right h) (hl : ∀ c ∈ l, oneB h c = true) {a b : Nat} : rwB h l a b = true ↔ Anti h (isC l) a b := by
  unfold rwB
  rw [Bool.or_eq_true, Kn.initB_iff, List.any_eq_true]
  constructor
  · rintro (⟨hne, k, h1, h2⟩ | ⟨c, hc, q⟩)
    · exact ⟨hne, k, -1, h1, h2, .inl rfl⟩
    · rw [Bool.and_eq_true, Bool.and_eq_true, decide_eq_true_iff, decide_eq_true_iff, beq_iff_eq] at q
      obtain ⟨x, y, e, hi⟩ := all_spelled hl hc
      obtain ⟨k, u, v⟩ := c
      obtain ⟨rfl, rfl⟩ : u = (x : Int) ∧ v = (y : Int) := by simpa using e
      obtain ⟨q1, q2, q3⟩ := q
      obtain rfl : y = b := by
        have : (y : Int) = (b : Int) := q1
        omega
      exact ⟨q2, k, x, (Ix.from_iff hr).1 q3, (isC_choices hl _ _ _ hi).2.1, .inr ⟨x, rfl, hi⟩⟩
  · rintro ⟨hne, k, f, h1, h2, rfl | ⟨x, rfl, q⟩⟩
    · exact .inl ⟨hne, k, h1, h2⟩
    · refine .inr ⟨_, q, ?_⟩
      rw [Bool.and_eq_true, Bool.and_eq_true, decide_eq_true_iff, decide_eq_true_iff, beq_iff_eq]
      exact ⟨rfl, hne, (Ix.from_iff hr).2 h1⟩
theorem anti_lt {C : Int → Nat → Nat → Prop} {a b : Nat} (q : Anti h C a b) : a < h.length ∧ b < h.length := by
  obtain ⟨_, k, f, ⟨ha, _⟩, h2, _⟩ := q
  exact ⟨ha, wr_lt h2⟩
theorem rw_bit (hr : Hi.Right h) (hl : ∀ c ∈ l, oneB h c = true) {a b : Nat} : bit (rwR h l) a b = true ↔ Anti h (isC l) a b := by
  rw [rwR, build_bit (Kn.len64 hr), Bool.and_eq_true, Bool.and_eq_true, decide_eq_true_iff, decide_eq_true_iff, rwB_iff hr hl]
  exact ⟨fun q => q.2.2, fun q => ⟨(anti_lt q).1, (anti_lt q).2, q⟩⟩
theorem dir_bit (hr : Hi.Right h) (hl : ∀ c ∈ l, oneB h c = true) {a b : Nat} : bit (dirR h l) a b = true ↔ Dir h (isC l) a b := by
  rw [dirR, union_bit (Kn.past_ok hr) (ww_ok hr), Kn.past_bit hr, Bool.or_eq_true, Bool.or_eq_true, Kn.so_bit hr, Kn.wr_bit hr, ww_bit hr hl, or_assoc]
  rfl
theorem full_bit (si : Bool) (hr : Hi.Right h) (hl : ∀ c ∈ l, oneB h c = true) {a b : Nat} : bit (fullR si h l) a b = true ↔ E si h (isC l) a b := by
  unfold fullR E
  cases si with
  | false =>
    rw [if_neg (by simp), union_bit (dir_ok hr) (rw_ok hr), Bool.or_eq_true, dir_bit hr hl, rw_bit hr hl]
  | true =>
    have hc : Ok h.length (composeR h.length (dirR h l) (rwR h l)) := Gf.build_ok (Kn.len64 hr) _
    rw [if_pos rfl, union_bit (dir_ok hr) hc, Bool.or_eq_true, dir_bit hr hl, compose_bit (dir_ok hr) (rw_ok hr), List.any_eq_true]
    refine or_congr Iff.rfl ⟨fun ⟨m, _, q⟩ => ?_, fun ⟨m, q1, q2⟩ => ?_⟩
    · rw [Bool.and_eq_true, dir_bit hr hl, rw_bit hr hl] at q
      exact ⟨m, q.1, q.2⟩
    · refine ⟨m, List.mem_range.2 (anti_lt q2).1, ?_⟩
      rw [Bool.and_eq_true, dir_bit hr hl, rw_bit hr hl]
      exact ⟨q1, q2⟩
theorem full_cyc (si : Bool) (hr : Hi.Right h) (hl : ∀ c ∈ l, oneB h c = true) : Rc.cyclicR h.length (fullR si h l) = true ↔ Cyc si h (isC l) := by
  rw [Rc.cyclic_iff (full_ok si hr)]
  have key : ∀ {a b}, Rc.Leads (fullR si h l) a b ↔ Relation.TransGen (E si h (isC l)) a b := fun {a b} => by
    constructor
    · intro q
      induction q with
      | single q => exact .single ((full_bit si hr hl).1 q)
      | tail _ q ih => exact .tail ih ((full_bit si hr hl).1 q)
    · intro q
      induction q with
      | single q => exact .single ((full_bit si hr hl).2 q)
      | tail _ q ih => exact .tail ih ((full_bit si hr hl).2 q)
  exact ⟨fun ⟨x, q⟩ => ⟨x, key.1 q⟩, fun ⟨x, q⟩ => ⟨x, key.2 q⟩⟩
end

/-! What is open, and what an order chooses. -/
def toI (p : Nat × Nat × Nat) : Int × Int × Int := ((p.1 : Int), (p.2.1 : Int), (p.2.2 : Int))
def back (c : Int × Int × Int) : Int × Int × Int := (c.1, c.2.2, c.2.1)
theorem back_back (c : Int × Int × Int) : back (back c) = c := rfl
def openB (l : List (Int × Int × Int)) (p : Nat × Nat × Nat) : Bool := !l.contains (toI p) && !l.contains (back (toI p))
def openR (h : List Txn) (l : List (Int × Int × Int)) : Option (Nat × Nat × Nat) := (Ix.pairs h).find? (openB l)
def chooses (o : List Nat) (p : Nat × Nat × Nat) : Int × Int × Int := if pos o p.2.1 ≤ pos o p.2.2 then toI p else back (toI p)
def ofR (h : List Txn) (o : List Nat) : List (Int × Int × Int) := (Ix.pairs h).map (chooses o)
theorem openB_yes {l : List (Int × Int × Int)} {p : Nat × Nat × Nat} : openB l p = false ↔ toI p ∈ l ∨ back (toI p) ∈ l := by
  unfold openB
  rw [Bool.and_eq_false_iff, Bool.not_eq_false', Bool.not_eq_false', List.contains_iff_mem, List.contains_iff_mem]
theorem of_none (h : List Txn) (o : List Nat) : openR h (ofR h o) = none := by
  unfold openR
  rw [List.find?_eq_none]
  intro p hp
  rw [Bool.not_eq_true, openB_yes]
  have hm : chooses o p ∈ ofR h o := List.mem_map.2 ⟨p, hp, rfl⟩
  unfold chooses at hm
  split at hm
  · exact .inl hm
  · exact .inr hm
theorem of_one {h : List Txn} (o : List Nat) : ∀ c ∈ ofR h o, oneB h c = true := fun c hc => by
  obtain ⟨p, hp, rfl⟩ := List.mem_map.1 hc
  obtain ⟨_, hlt, h1, h2⟩ := Ix.mem_pairs hp
  have w1 : Wr h (p.1 : Int) p.2.1 := (Ix.writes_iff h _ _).2 (Ix.mem_writers.1 h1)
  have w2 : Wr h (p.1 : Int) p.2.2 := (Ix.writes_iff h _ _).2 (Ix.mem_writers.1 h2)
  rw [oneB_iff]
  unfold chooses
  split
  · exact ⟨p.2.1, p.2.2, rfl, Nat.ne_of_lt hlt, w1, w2⟩
  · exact ⟨p.2.2, p.2.1, rfl, (Nat.ne_of_lt hlt).symm, w2, w1⟩
end Ch
end Go.Proofs.Ytahacjfeopjbaaa
