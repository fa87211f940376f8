/-
  What the functions of layer 18 answer, of any history, any choices and any order; the live example.
  Conditions: none beyond those that each theorem states.
-/
import Derived.Test.YtahacjfeopjbaaaChRow
import Derived.Test.YtahacjfeopjbaaaChRefC
import Derived.Test.YtahacjfeopjbaaaChRefG
set_option maxRecDepth 4000
namespace Go.Proofs.Ytahacjfeopjbaaa
namespace Ch
open Gf So

noncomputable def nA (h : List Txn) (l : List (Int × Int × Int)) : Int := if rightC h l = true then (h.length : Int) else 0
noncomputable def wwA (h : List Txn) (l : List (Int × Int × Int)) : List Nat := if rightC h l = true then wwR h l else []
noncomputable def rwA (h : List Txn) (l : List (Int × Int × Int)) : List Nat := if rightC h l = true then rwR h l else []
noncomputable def openA (h : List Txn) (l : List (Int × Int × Int)) : Option (Nat × Nat × Nat) := if rightC h l = true then openR h l else none
theorem ans_yes {h : List Txn} {l : List (Int × Int × Int)} (hb : rightC h l = true) : nA h l = h.length ∧ wwA h l = wwR h l ∧ rwA h l = rwR h l ∧ openA h l = openR h l := by simp [nA, wwA, rwA, openA, hb]
theorem ans_no {h : List Txn} {l : List (Int × Int × Int)} (hb : rightC h l = false) : nA h l = 0 ∧ wwA h l = [] ∧ rwA h l = [] ∧ openA h l = none := by simp [nA, wwA, rwA, openA, hb]
theorem ww_len (h : List Txn) (l : List (Int × Int × Int)) : (wwR h l).length = h.length := Gf.build_len _ _
theorem rw_len (h : List Txn) (l : List (Int × Int × Int)) : (rwR h l).length = h.length := Gf.build_len _ _
theorem full_len (si : Bool) (h : List Txn) (l : List (Int × Int × Int)) : (fullR si h l).length = h.length := Gf.build_len _ _
/-- A level is Ser or Si. -/
def levB (level : Int) : Bool := decide (level = 0) || decide (level = 1)
theorem levB_iff {level : Int} : levB level = true ↔ level = 0 ∨ level = 1 := by rw [levB, Bool.or_eq_true, decide_eq_true_iff, decide_eq_true_iff]
/-- The choices of an order of numbers. -/
noncomputable def ofA (h : List Txn) (o : List Int) : List (Int × Int × Int) := if (Hi.rightB h && permB o h.length) = true then ofR h (o.map Int.toNat) else []
theorem ofA_no {h : List Txn} {o : List Int} (hb : (Hi.rightB h && permB o h.length) = false) : ofA h o = [] := by rw [ofA, hb]; rfl
theorem nums_to (o : List Nat) : (Bi.nums o).map Int.toNat = o := by
  rw [Bi.nums, List.map_map]
  exact (List.map_congr_left fun x _ => Int.toNat_natCast x).trans (List.map_id o)
theorem ofA_yes {h : List Txn} {o : List Nat} (hr : Hi.Right h) (p : Perm o h.length) : ofA h (Bi.nums o) = ofR h o := by
  rw [ofA, (Hi.rightB_iff _).2 hr, permB_iff.2 ⟨o, rfl, p⟩, nums_to]
  rfl
theorem pairs_few {h : List Txn} (hr : Hi.Right h) : (Ix.pairs h).length ≤ 20000 := by
  have := Ix.pairsTo_len (h := h) hr.1 16
  exact Nat.le_trans this (by decide)
theorem of_len {h : List Txn} (hr : Hi.Right h) (o : List Nat) : (ofR h o).length ≤ 20000 := by
  rw [ofR, List.length_map]
  exact pairs_few hr
theorem of_right {h : List Txn} (hr : Hi.Right h) (o : List Nat) : rightC h (ofR h o) = true := rightC_iff.2 ⟨hr, of_len hr o, of_one o⟩
/-- The place of a number of an order. -/
theorem place_pos {o : List Nat} {n x : Nat} (p : Perm o n) (hx : x < n) : placeI (Bi.nums o) (x : Int) = (pos o x : Int) := by
  have hl := p.pos_lt hx
  have hl2 : pos o x < (Bi.nums o).length := by rw [Bi.nums_len]; exact hl
  refine placeI_yes hl2 ?_ fun j hj hji => ?_
  · rw [Bi.nums_at o _ hl, p.at_pos hx]
  · have hj2 : j < o.length := by rw [Bi.nums_len] at hj; exact hj
    rw [Bi.nums_at o j hj2]
    intro e
    have := p.pos_at hj2
    rw [show o[j] = x by omega] at this
    omega
theorem in_twos {l : List Nat} (hl : l.Pairwise (· < ·)) {a b : Nat} (ha : a ∈ l) (hb : b ∈ l) (hab : a < b) : (a, b) ∈ Ix.twos l := by
  induction l with
  | nil => cases ha
  | cons x r ih =>
    rw [List.pairwise_cons] at hl
    rw [Ix.twos, List.mem_append, List.mem_map]
    rcases List.mem_cons.1 ha with e1 | h1
    · rcases List.mem_cons.1 hb with e2 | h2
      · omega
      · exact .inl ⟨b, h2, by rw [e1]⟩
    · rcases List.mem_cons.1 hb with e2 | h2
      · have := hl.1 a h1
        omega
      · exact .inr (ih hl.2 h1 h2)
theorem in_pairs {h : List Txn} {n a b : Nat} (hn : n < 16) (ha : a ∈ Ix.writers h (n : Int)) (hb : b ∈ Ix.writers h (n : Int)) (hab : a < b) : (n, a, b) ∈ Ix.pairs h :=
  List.mem_flatMap.2 ⟨n, List.mem_range.2 hn, List.mem_map.2 ⟨(a, b), in_twos (Ix.writers_rise h _) ha hb hab, rfl⟩⟩
theorem wr_key {h : List Txn} (hr : Hi.Right h) {k : Int} {a : Nat} (w : Wr h k a) : ∃ n : Nat, k = (n : Int) ∧ n < 16 := by
  by_cases hk : 0 ≤ k ∧ k < 16
  · exact ⟨k.toNat, by omega, by omega⟩
  · have hm : a ∈ Ix.writers h k := Ix.mem_writers.2 ((Ix.writes_iff h k a).1 w)
    rw [Ix.writers_none hr k hk] at hm
    cases hm
/-- What an order chooses, as a set of choices. -/
theorem isC_of {h : List Txn} (hr : Hi.Right h) {o : List Nat} (p : Perm o h.length) (k : Int) (a b : Nat) : isC (ofR h o) k a b ↔ OfO h o k a b := by
  constructor
  · intro q
    obtain ⟨pr, hp, e⟩ := List.mem_map.1 q
    obtain ⟨_, hlt, h1, h2⟩ := Ix.mem_pairs hp
    have w1 : Wr h (pr.1 : Int) pr.2.1 := (Ix.writes_iff h _ _).2 (Ix.mem_writers.1 h1)
    have w2 : Wr h (pr.1 : Int) pr.2.2 := (Ix.writes_iff h _ _).2 (Ix.mem_writers.1 h2)
    unfold chooses at e
    split at e
    · rename_i hle
      simp only [toI, Prod.mk.injEq] at e
      obtain ⟨rfl, e2, e3⟩ := e
      obtain rfl : pr.2.1 = a := by omega
      obtain rfl : pr.2.2 = b := by omega
      refine ⟨w1, w2, Nat.lt_of_le_of_ne hle fun q => ?_⟩
      have := p.pos_inj (wr_lt w1) (wr_lt w2) q
      omega
    · rename_i hle
      simp only [toI, back, Prod.mk.injEq] at e
      obtain ⟨rfl, e2, e3⟩ := e
      obtain rfl : pr.2.2 = a := by omega
      obtain rfl : pr.2.1 = b := by omega
      exact ⟨w2, w1, by omega⟩
  · rintro ⟨w1, w2, hlt⟩
    have hne : a ≠ b := fun e => by rw [e] at hlt; exact Nat.lt_irrefl _ hlt
    obtain ⟨n, rfl, hn⟩ := wr_key hr w1
    have m1 : a ∈ Ix.writers h (n : Int) := Ix.mem_writers.2 ((Ix.writes_iff h _ _).1 w1)
    have m2 : b ∈ Ix.writers h (n : Int) := Ix.mem_writers.2 ((Ix.writes_iff h _ _).1 w2)
    rcases Nat.lt_or_gt_of_ne hne with q | q
    · refine List.mem_map.2 ⟨(n, a, b), in_pairs hn m1 m2 q, ?_⟩
      rw [chooses, if_pos (Nat.le_of_lt hlt)]
      rfl
    · refine List.mem_map.2 ⟨(n, b, a), in_pairs hn m2 m1 q, ?_⟩
      rw [chooses, if_neg (by show ¬ pos o b ≤ pos o a; omega)]
      rfl
end Ch
end Go.Proofs.Ytahacjfeopjbaaa
