/-
  Several texts in one, each with its own first words: IxPlain, IxMem, IxReads, IxIter, IxWalkA, IxWalkB, IxWalkC, IxWalkD.
  Conditions: as each says.
-/
import Derived.Test.YtahacjfeopjbaaaHiAll
import Derived.Test.YtahacjfeopjbaaaSoAll
import Derived.RangeFuncNested
import Derived.RangeFuncCalls
import Derived.RangeFuncLeaves
import Derived.RangeFuncBox
import Derived.Shelf.Abstract
/-
  Plain facts on who writes and reads what in a history (no Go in it): the answers of layer 9, how many pairs there are and in which order they stand, and that each read is told once.
  Conditions: none beyond those that each theorem states.
-/
set_option maxRecDepth 4000
namespace Go.Proofs.Ytahacjfeopjbaaa.Ix
open So (Txn Rises)
open Hi (Right)

/-! The answers, over histories that may be. -/
def writes (h : List Txn) (key : Int) (t : Nat) : Bool := match h[t]? with
  | some x => decide (key ∈ x.writes)
  | none => false
/-- The numbers of those that write a key. -/
def writers (h : List Txn) (key : Int) : List Nat := (List.range h.length).filter (writes h key)
/-- From whom the transaction with number t reads a key. -/
def fromO (h : List Txn) (t : Nat) (key : Int) : Option Int := match h[t]? with
  | some x => (x.reads.find? fun y => y.1 == key).map (·.2)
  | none => none
def readers (h : List Txn) (key f : Int) : List Nat := (List.range h.length).filter fun t => fromO h t key == some f
def keys (h : List Txn) : List Nat := (List.range 16).filter fun (k : Nat) => !(writers h (k : Int)).isEmpty
/-- All two of a row, the one ahead first. -/
def twos : List Nat → List (Nat × Nat)
  | [] => []
  | a :: r => r.map (fun b => (a, b)) ++ twos r
def pairs (h : List Txn) : List (Nat × Nat × Nat) := (List.range 16).flatMap fun (k : Nat) => (twos (writers h (k : Int))).map fun ab => (k, ab.1, ab.2)

theorem writes_iff (h : List Txn) (key : Int) (t : Nat) : writes h key t = true ↔ ∃ ht : t < h.length, key ∈ h[t].writes := by
  unfold writes
  by_cases ht : t < h.length
  · rw [List.getElem?_eq_getElem ht]
    simp [ht]
  · rw [List.getElem?_eq_none (by omega)]
    simp [ht]
theorem mem_writers {h : List Txn} {key : Int} {t : Nat} : t ∈ writers h key ↔ ∃ ht : t < h.length, key ∈ h[t].writes := by
  unfold writers
  rw [List.mem_filter, List.mem_range, writes_iff]
  exact ⟨fun q => q.2, fun q => ⟨q.1, q⟩⟩
theorem range_rises (n : Nat) : (List.range n).Pairwise (· < ·) := List.pairwise_lt_range
theorem writers_rise (h : List Txn) (key : Int) : (writers h key).Pairwise (· < ·) := (range_rises _).filter _
theorem writers_len (h : List Txn) (key : Int) : (writers h key).length ≤ h.length := by
  have := List.length_filter_le (writes h key) (List.range h.length)
  rw [List.length_range] at this
  exact this
theorem writers_none {h : List Txn} (hr : Right h) (key : Int) (hk : ¬ (0 ≤ key ∧ key < 16)) : writers h key = [] := by
  rw [List.eq_nil_iff_forall_not_mem]
  intro t ht
  obtain ⟨hl, hm⟩ := mem_writers.1 ht
  exact hk ((hr.2 t hl).writes.1 key hm)
theorem readers_rise (h : List Txn) (key f : Int) : (readers h key f).Pairwise (· < ·) := (range_rises _).filter _
theorem keys_rise (h : List Txn) : (keys h).Pairwise (· < ·) := (range_rises _).filter _
theorem mem_keys {h : List Txn} {k : Nat} : k ∈ keys h ↔ k < 16 ∧ writers h (k : Int) ≠ [] := by
  unfold keys
  rw [List.mem_filter, List.mem_range, Bool.not_eq_true', ← Bool.not_eq_true, List.isEmpty_iff]

/-! All two of a row. -/
theorem twos_len (l : List Nat) : (twos l).length * 2 = l.length * (l.length - 1) := by
  induction l with
  | nil => rfl
  | cons a r ih =>
    rw [twos, List.length_append, List.length_map, List.length_cons, Nat.add_mul, ih, Nat.add_sub_cancel]
    cases r.length with
    | zero => rfl
    | succ n => rw [Nat.add_sub_cancel]; simp only [Nat.add_mul, Nat.mul_add]; omega
theorem mem_twos {l : List Nat} (hl : l.Pairwise (· < ·)) {p : Nat × Nat} (hp : p ∈ twos l) : p.1 ∈ l ∧ p.2 ∈ l ∧ p.1 < p.2 := by
  induction l with
  | nil => cases hp
  | cons a r ih =>
    rw [twos] at hp
    rw [List.pairwise_cons] at hl
    rcases List.mem_append.1 hp with q | q
    · obtain ⟨b, hb, rfl⟩ := List.mem_map.1 q
      exact ⟨List.mem_cons_self, List.mem_cons_of_mem _ hb, hl.1 b hb⟩
    · obtain ⟨h1, h2, h3⟩ := ih hl.2 q
      exact ⟨List.mem_cons_of_mem _ h1, List.mem_cons_of_mem _ h2, h3⟩
def lt2 (p q : Nat × Nat) : Prop := p.1 < q.1 ∨ p.1 = q.1 ∧ p.2 < q.2
theorem twos_rise {l : List Nat} (hl : l.Pairwise (· < ·)) : (twos l).Pairwise lt2 := by
  induction l with
  | nil => exact List.Pairwise.nil
  | cons a r ih =>
    rw [twos, List.pairwise_append]
    rw [List.pairwise_cons] at hl
    refine ⟨?_, ih hl.2, fun p hp q hq => ?_⟩
    · rw [List.pairwise_map]
      exact hl.2.imp fun h => .inr ⟨rfl, h⟩
    · obtain ⟨b, _, rfl⟩ := List.mem_map.1 hp
      exact .inl (hl.1 _ (mem_twos hl.2 hq).1)

/-! The pairs. -/
def lt3 (p q : Nat × Nat × Nat) : Prop := p.1 < q.1 ∨ p.1 = q.1 ∧ lt2 p.2 q.2
theorem flat_rise (g : Nat → List (Nat × Nat)) (hg : ∀ k, (g k).Pairwise lt2) : ∀ l : List Nat, l.Pairwise (· < ·) → (l.flatMap fun k => (g k).map fun ab => (k, ab.1, ab.2)).Pairwise lt3
  | [], _ => List.Pairwise.nil
  | k :: l, hl => by
    rw [List.pairwise_cons] at hl
    rw [List.flatMap_cons, List.pairwise_append]
    refine ⟨?_, flat_rise g hg l hl.2, fun p hp q hq => ?_⟩
    · rw [List.pairwise_map]
      exact (hg k).imp fun h => .inr ⟨rfl, h⟩
    · obtain ⟨x, _, rfl⟩ := List.mem_map.1 hp
      obtain ⟨j, hj, hq⟩ := List.mem_flatMap.1 hq
      obtain ⟨y, _, rfl⟩ := List.mem_map.1 hq
      exact .inl (hl.1 j hj)
theorem pairs_rise (h : List Txn) : (pairs h).Pairwise lt3 := flat_rise (fun k : Nat => twos (writers h (k : Int))) (fun k => twos_rise (writers_rise h (k : Int))) _ (range_rises 16)
theorem mem_pairs {h : List Txn} {p : Nat × Nat × Nat} (hp : p ∈ pairs h) : p.1 < 16 ∧ p.2.1 < p.2.2 ∧ p.2.1 ∈ writers h (p.1 : Int) ∧ p.2.2 ∈ writers h (p.1 : Int) := by
  obtain ⟨k, hk, hp⟩ := List.mem_flatMap.1 hp
  obtain ⟨ab, hab, rfl⟩ := List.mem_map.1 hp
  obtain ⟨h1, h2, h3⟩ := mem_twos (writers_rise h _) hab
  exact ⟨List.mem_range.1 hk, h3, h1, h2⟩
/-- So many pairs are there of the first k keys. -/
def manyTo (h : List Txn) (k : Nat) : Nat := ((List.range k).map fun (j : Nat) => (writers h (j : Int)).length * ((writers h (j : Int)).length - 1) / 2).sum
theorem pairs_len (h : List Txn) : (pairs h).length = manyTo h 16 := by
  unfold pairs manyTo
  rw [List.length_flatMap]
  congr 1
  refine List.map_congr_left fun k _ => ?_
  rw [List.length_map]
  have := twos_len (writers h (k : Int))
  omega
theorem manyTo_succ (h : List Txn) (k : Nat) : manyTo h (k + 1) = manyTo h k + (writers h (k : Int)).length * ((writers h (k : Int)).length - 1) / 2 := by
  unfold manyTo
  rw [List.range_succ, List.map_append, List.sum_append]
  simp

/-! Reads. -/
theorem keys_apart {l : List (Int × Int)} (h : (l.map (·.1)).Pairwise (· < ·)) {x y : Int × Int} (hx : x ∈ l) (hy : y ∈ l) (e : x.1 = y.1) : x = y := by
  induction l with
  | nil => cases hx
  | cons z r ih =>
    rw [List.map_cons, List.pairwise_cons] at h
    have far : ∀ w ∈ r, z.1 < w.1 := fun w hw => h.1 w.1 (List.mem_map_of_mem hw)
    rcases List.mem_cons.1 hx with q1 | q1
    · rcases List.mem_cons.1 hy with q2 | q2
      · rw [q1, q2]
      · have := far y q2
        rw [q1] at e
        omega
    · rcases List.mem_cons.1 hy with q2 | q2
      · have := far x q1
        rw [q2] at e
        omega
      · exact ih h.2 q1 q2
theorem from_iff {h : List Txn} (hr : Right h) {t : Nat} {key f : Int} : fromO h t key = some f ↔ ∃ ht : t < h.length, (key, f) ∈ h[t].reads := by
  unfold fromO
  by_cases ht : t < h.length
  · rw [List.getElem?_eq_getElem ht]
    simp only
    constructor
    · intro q
      obtain ⟨y, hy, rfl⟩ := Option.map_eq_some_iff.1 q
      have h1 := List.mem_of_find?_eq_some hy
      have h2 := List.find?_some hy
      refine ⟨ht, ?_⟩
      have e : y.1 = key := by simpa using h2
      rw [← e]
      exact h1
    · rintro ⟨_, hm⟩
      cases hq : h[t].reads.find? fun y => y.1 == key with
      | none =>
        have := List.find?_eq_none.1 hq _ hm
        simp at this
      | some y =>
        have h1 := List.mem_of_find?_eq_some hq
        have h2 : y.1 = key := by simpa using List.find?_some hq
        have := keys_apart (hr.2 t ht).reads.2 h1 hm h2
        rw [this]
        rfl
  · rw [List.getElem?_eq_none (by omega)]
    constructor
    · intro q; cases q
    · rintro ⟨q, _⟩; exact absurd q ht
theorem mem_readers {h : List Txn} (hr : Right h) {t : Nat} {key f : Int} : t ∈ readers h key f ↔ ∃ ht : t < h.length, (key, f) ∈ h[t].reads := by
  unfold readers
  rw [List.mem_filter, List.mem_range, beq_iff_eq, from_iff hr]
  exact ⟨fun q => q.2, fun q => ⟨q.1, q⟩⟩

/-! How many reads there are: told by key and From, and by transaction. -/
theorem sum_zero {α : Type} (l : List α) : (l.map fun _ => 0).sum = 0 := by
  induction l with
  | nil => rfl
  | cons a r ih => rw [List.map_cons, List.sum_cons, ih]
theorem sum_add {α : Type} (l : List α) (f g : α → Nat) : (l.map fun a => f a + g a).sum = (l.map f).sum + (l.map g).sum := by
  induction l with
  | nil => rfl
  | cons a r ih => rw [List.map_cons, List.sum_cons, ih, List.map_cons, List.sum_cons, List.map_cons, List.sum_cons]; omega
/-- Two sums, one inside the other, in either order. -/
theorem sum_swap {α β : Type} (l : List α) (m : List β) (f : α → β → Nat) : (l.map fun a => (m.map fun b => f a b).sum).sum = (m.map fun b => (l.map fun a => f a b).sum).sum := by
  induction l with
  | nil => rw [List.map_nil, List.sum_nil]; exact (sum_zero m).symm
  | cons a r ih =>
    rw [List.map_cons, List.sum_cons, ih, ← sum_add]
    rfl
theorem filter_sum {α : Type} (l : List α) (p : α → Bool) : (l.filter p).length = (l.map fun a => if p a = true then 1 else 0).sum := by
  induction l with
  | nil => rfl
  | cons a r ih =>
    rw [List.map_cons, List.sum_cons, List.filter_cons]
    by_cases h : p a = true
    · rw [if_pos h, if_pos h, List.length_cons, ih]; omega
    · rw [if_neg h, if_neg h, ih]; omega
/-- Just one of a row that has no two the same. -/
theorem sum_one {l : List Int} (hl : l.Pairwise (· < ·)) (x : Int) : (l.map fun a => if x == a then 1 else 0).sum = if x ∈ l then 1 else 0 := by
  induction l with
  | nil => rfl
  | cons a r ih =>
    rw [List.pairwise_cons] at hl
    rw [List.map_cons, List.sum_cons, ih hl.2]
    by_cases h1 : x = a
    · have h2 : x ∉ r := fun q => by have := hl.1 x q; omega
      rw [if_pos (by simpa using h1), if_neg h2, if_pos (by rw [h1]; exact List.mem_cons_self)]
    · by_cases h2 : x ∈ r
      · rw [if_neg (by simpa using h1), if_pos h2, if_pos (List.mem_cons_of_mem _ h2)]
      · rw [if_neg (by simpa using h1), if_neg h2, if_neg (by simp [h1, h2])]
/-- The numbers from -1 on. -/
def froms (n : Nat) : List Int := (List.range (n + 1)).map fun (j : Nat) => (j : Int) - 1
theorem froms_rise (n : Nat) : (froms n).Pairwise (· < ·) := by
  unfold froms
  rw [List.pairwise_map]
  exact (range_rises _).imp fun h => by omega
theorem mem_froms {n : Nat} {f : Int} : f ∈ froms n ↔ -1 ≤ f ∧ f < (n : Int) := by
  unfold froms
  rw [List.mem_map]
  constructor
  · rintro ⟨j, hj, rfl⟩
    have := List.mem_range.1 hj
    omega
  · rintro ⟨h1, h2⟩
    exact ⟨(f + 1).toNat, List.mem_range.2 (by omega), by omega⟩
theorem sum_ones {α : Type} (l : List α) (f : α → Nat) (h : ∀ a ∈ l, f a = 1) : (l.map f).sum = l.length := by
  induction l with
  | nil => rfl
  | cons a r ih => rw [List.map_cons, List.sum_cons, h a List.mem_cons_self, ih (fun b hb => h b (List.mem_cons_of_mem _ hb)), List.length_cons]; omega
theorem count_keys {l : List Int} (hl : Rises l) : ((List.range 16).map fun (k : Nat) => if (k : Int) ∈ l then 1 else 0).sum = l.length := by
  have e1 : ((List.range 16).map fun (k : Nat) => if (k : Int) ∈ l then 1 else 0) = (List.range 16).map fun (k : Nat) => (l.map fun a => if (k : Int) == a then 1 else 0).sum :=
    List.map_congr_left fun k _ => (sum_one hl.2 (k : Int)).symm
  rw [e1, sum_swap]
  refine sum_ones l _ fun a ha => ?_
  have hm : ((List.range 16).map fun (k : Nat) => (k : Int)).Pairwise (· < ·) := by
    rw [List.pairwise_map]
    exact (range_rises 16).imp fun h => by omega
  have e2 : ((List.range 16).map fun (k : Nat) => if (k : Int) == a then 1 else 0) = ((List.range 16).map fun (k : Nat) => (k : Int)).map fun x => if a == x then 1 else 0 := by
    rw [List.map_map]
    refine List.map_congr_left fun k _ => ?_
    show (if ((k : Int) == a) = true then 1 else 0) = if (a == (k : Int)) = true then 1 else 0
    rw [BEq.comm]
  rw [e2, sum_one hm a, if_pos]
  have := hl.1 a ha
  exact List.mem_map.2 ⟨a.toNat, List.mem_range.2 (by omega), by omega⟩
theorem from_key {h : List Txn} (hr : Right h) {t : Nat} (ht : t < h.length) (key : Int) : (fromO h t key).isSome = true ↔ key ∈ h[t].reads.map (·.1) := by
  rw [Option.isSome_iff_exists, List.mem_map]
  constructor
  · rintro ⟨f, q⟩
    obtain ⟨_, hm⟩ := (from_iff hr).1 q
    exact ⟨_, hm, rfl⟩
  · rintro ⟨⟨k, f⟩, hm, rfl⟩
    exact ⟨f, (from_iff hr).2 ⟨ht, hm⟩⟩
theorem from_range {h : List Txn} (hr : Right h) {t : Nat} {key f : Int} (q : fromO h t key = some f) : -1 ≤ f ∧ f < (h.length : Int) := by
  obtain ⟨ht, hm⟩ := (from_iff hr).1 q
  rcases (hr.2 t ht).froms _ hm with e | ⟨j, hj, e, _⟩
  · dsimp only at e; omega
  · dsimp only at e; omega
/-- Each read is told by Readers, once. -/
theorem reads_told {h : List Txn} (hr : Right h) : ((List.range 16).map fun (k : Nat) => ((froms h.length).map fun f => (readers h (k : Int) f).length).sum).sum = ((List.range h.length).map fun t => ((h[t]?).map fun x => x.reads.length).getD 0).sum := by
  have e1 : ∀ k : Nat, ((froms h.length).map fun f => (readers h (k : Int) f).length).sum = ((List.range h.length).map fun t => if (fromO h t (k : Int)).isSome = true then 1 else 0).sum := fun k => by
    have e2 : ((froms h.length).map fun f => (readers h (k : Int) f).length) = (froms h.length).map fun f => ((List.range h.length).map fun t => if (fromO h t (k : Int) == some f) = true then 1 else 0).sum :=
      List.map_congr_left fun f _ => filter_sum _ _
    rw [e2, sum_swap]
    refine congrArg List.sum (List.map_congr_left fun t _ => ?_)
    cases hq : fromO h t (k : Int) with
    | none =>
      refine Eq.trans ?_ (sum_zero (froms h.length))
      congr 1
    | some x =>
      have := sum_one (froms_rise h.length) x
      rw [if_pos (mem_froms.2 (from_range hr hq))] at this
      refine Eq.trans ?_ this
      congr 1
  have e3 : ((List.range 16).map fun (k : Nat) => ((froms h.length).map fun f => (readers h (k : Int) f).length).sum) = (List.range 16).map fun (k : Nat) => ((List.range h.length).map fun t => if (fromO h t (k : Int)).isSome = true then 1 else 0).sum :=
    List.map_congr_left fun k _ => e1 k
  rw [e3, sum_swap]
  refine congrArg List.sum (List.map_congr_left fun t ht => ?_)
  have ht' : t < h.length := List.mem_range.1 ht
  rw [List.getElem?_eq_getElem ht']
  show _ = h[t].reads.length
  have e4 := count_keys (hr.2 t ht').reads
  rw [List.length_map] at e4
  refine Eq.trans (congrArg List.sum (List.map_congr_left fun k _ => ?_)) e4
  by_cases q : (k : Int) ∈ h[t].reads.map (·.1)
  · rw [if_pos q, if_pos ((from_key hr ht' _).2 q)]
  · rw [if_neg q, if_neg (fun q' => q ((from_key hr ht' _).1 q'))]
end Go.Proofs.Ytahacjfeopjbaaa.Ix
/-
  Words for rows of choices in memory (a key and two numbers), and for rows of numbers that a history's transactions have: how they last, and element by element.
  Conditions: none beyond those that each theorem states.
-/
set_option maxRecDepth 4000
namespace Go.Proofs.Ytahacjfeopjbaaa
open Go.RowKit

/-- A row of natural numbers, as a row of integers. -/
def ints (l : List Nat) : List Int := l.map fun (n : Nat) => (n : Int)
theorem ints_len (l : List Nat) : (ints l).length = l.length := List.length_map _
theorem ints_nth (l : List Nat) (k : Nat) (hk : k < l.length) : (ints l)[k]'(by rw [ints_len]; exact hk) = (l[k] : Int) := List.getElem_map _
theorem ints_snoc (l : List Nat) (n : Nat) : ints (l ++ [n]) = ints l ++ [(n : Int)] := by simp [ints]

def chC (x : Nat × Nat × Nat) : List Value := [.int .i64 (x.1 : Int), .int .i64 (x.2.1 : Int), .int .i64 (x.2.2 : Int)]
theorem chC_len (x : Nat × Nat × Nat) : (chC x).length = 3 := rfl
theorem one_chC (x : Nat × Nat × Nat) : ∀ u ∈ chC x, u.oneCell' = true := by
  intro u hu
  simp only [chC, List.mem_cons, List.not_mem_nil, or_false] at hu
  rcases hu with rfl | rfl | rfl
  all_goals rfl
/-- The slice value v reads as the choices l. -/
def Chs (w : World) (v : Value) (l : List (Nat × Nat × Nat)) : Prop := Rows' 3 chC w v l
theorem Chs.below {w w' : World} {v : Value} {l : List (Nat × Nat × Nat)} (h : Chs w v l) (hb : Below w.heap.size w w') : Chs w' v l := Rows'.below h hb
theorem Chs.nil (w : World) (A : Option Addr) : Chs w (.slice A 0 0) [] := Rows'.nil w A
theorem Chs.none_ {w : World} {v : Value} {l : List (Nat × Nat × Nat)} (h : Chs w v l) (hl : l = []) : ∃ A c, v = .slice A 0 c := Rows'.none_ h hl
/-- Element k, as the walk spells its cells' places. -/
structure ChIn (w : World) (ad : Addr) (k : Nat) (x : Nat × Nat × Nat) : Prop where
  c0 : w.cell? (ad.add (k * 3)) = some (.int .i64 (x.1 : Int))
  c1 : w.cell? ⟨(ad.add (k * 3)).block, (ad.add (k * 3)).off + 1, none⟩ = some (.int .i64 (x.2.1 : Int))
  c2 : w.cell? ⟨(ad.add (k * 3)).block, (ad.add (k * 3)).off + 2, none⟩ = some (.int .i64 (x.2.2 : Int))
theorem ChIn.below {w w' : World} {ad : Addr} {k : Nat} {x : Nat × Nat × Nat} (h : ChIn w ad k x) (hlt : ad.block < w.heap.size) (hb : Below w.heap.size w w') : ChIn w' ad k x := by
  have e : ad.block = (ad.add (k * 3)).block := (add_block ad _).symm
  refine ⟨(hb.cell ?_).trans h.c0, (hb.cell ?_).trans h.c1, (hb.cell ?_).trans h.c2⟩
  all_goals exact e ▸ hlt
theorem Chs.spelled {w : World} {v : Value} {l : List (Nat × Nat × Nat)} (h : Chs w v l) : ∃ A c, v = .slice A l.length c ∧ ∀ (k : Nat) (hk : k < l.length), ∃ ad : Addr, A = some ad ∧ ad.block < w.heap.size ∧ ChIn w ad k l[k] := by
  obtain ⟨A, c, hv, hh⟩ := Rows'.form chC_len h
  refine ⟨A, c, hv, fun k hk => ?_⟩
  obtain ⟨ad, e, hb, hc⟩ := hh k hk
  refine ⟨ad, e, hb, hc 0 _ rfl, ?_, ?_⟩
  · rw [add_more ad _ 1 (by omega)]; exact hc 1 _ rfl
  · rw [add_more ad _ 2 (by omega)]; exact hc 2 _ rfl
/-- A cell, behind whatever leaves what was there. -/
theorem cell_stays {W W' : World} (hb : Below W.heap.size W W') {p : Addr} {v : Value} (h : W.cell? p = some v) : W'.cell? p = some v := (hb.cell (World.block_lt_of_cell? W p h)).trans h
/-- Rows that calls hand back lie in memory of their own; what was there stays. -/
def RetNums (w : World) (l : List Nat) (e : Ending) (w' : World) : Prop := ∃ v, e = .returned v ∧ Ns w' v (ints l) ∧ Below w.heap.size w w'
def RetChs (w : World) (l : List (Nat × Nat × Nat)) (e : Ending) (w' : World) : Prop := ∃ v, e = .returned v ∧ Chs w' v l ∧ Below w.heap.size w w'
end Go.Proofs.Ytahacjfeopjbaaa
/-
  Plain facts on all reads of a history, each with the number of the transaction that reads (no Go in it): who reads a key from somebody, and from whom somebody reads it, told by going through them.
  Conditions: none beyond those that each theorem states.
-/
set_option maxRecDepth 4000
namespace Go.Proofs.Ytahacjfeopjbaaa.Ix
open So (Txn Rises)
open Hi (Right)

/-- The reads of the transaction with number t, each with t. -/
def readsOf (h : List Txn) (t : Nat) : List (Nat × Int × Int) := match h[t]? with
  | some x => x.reads.map fun y => (t, y)
  | none => []
def readsTo (h : List Txn) (k : Nat) : List (Nat × Int × Int) := (List.range k).flatMap (readsOf h)
def all (h : List Txn) : List (Nat × Int × Int) := readsTo h h.length
theorem readsOf_at {h : List Txn} {k : Nat} (hk : k < h.length) : readsOf h k = h[k].reads.map fun y => (k, y) := by
  unfold readsOf
  rw [List.getElem?_eq_getElem hk]
theorem readsTo_succ (h : List Txn) (k : Nat) : readsTo h (k + 1) = readsTo h k ++ readsOf h k := by
  unfold readsTo
  rw [List.range_succ, List.flatMap_append]
  simp
theorem readsTo_front (h : List Txn) (k n : Nat) (hk : k ≤ n) : readsTo h k <+: readsTo h n := by
  induction n with
  | zero => rw [Nat.le_zero.1 hk]; exact List.prefix_refl _
  | succ n ih =>
    by_cases e : k = n + 1
    · rw [e]; exact List.prefix_refl _
    · rw [readsTo_succ]
      exact (ih (by omega)).trans (List.prefix_append _ _)
theorem part_front (h : List Txn) (k j : Nat) (hk : k < h.length) : readsTo h k ++ (readsOf h k).take j <+: all h := by
  refine List.IsPrefix.trans ?_ (readsTo_front h (k + 1) h.length hk)
  rw [readsTo_succ]
  exact List.prefix_append_right_inj _ |>.2 (List.take_prefix _ _)
theorem part_next (h : List Txn) (k j : Nat) (hk : k < h.length) (hj : j < h[k].reads.length) : readsTo h k ++ (readsOf h k).take (j + 1) = readsTo h k ++ (readsOf h k).take j ++ [(k, h[k].reads[j])] := by
  have hl : j < (readsOf h k).length := by rw [readsOf_at hk, List.length_map]; exact hj
  rw [List.take_succ_eq_append_getElem hl, List.append_assoc]
  congr 3
  simp [readsOf_at hk]
theorem part_less (h : List Txn) (k j : Nat) (hk : k < h.length) (hj : j < h[k].reads.length) : (readsTo h k ++ (readsOf h k).take j).length < (all h).length := by
  have := (part_front h k (j + 1) hk).length_le
  rw [part_next h k j hk hj, List.length_append] at this
  simp only [List.length_singleton] at this
  omega
theorem part_whole (h : List Txn) (k j : Nat) (hk : k < h.length) (hj : h[k].reads.length ≤ j) : readsTo h k ++ (readsOf h k).take j = readsTo h (k + 1) := by
  rw [readsTo_succ, List.take_of_length_le (by rw [readsOf_at hk, List.length_map]; exact hj)]

theorem mem_all {h : List Txn} {x : Nat × Int × Int} : x ∈ all h ↔ ∃ ht : x.1 < h.length, x.2 ∈ h[x.1].reads := by
  unfold all readsTo
  rw [List.mem_flatMap]
  constructor
  · rintro ⟨t, ht, hx⟩
    have ht' := List.mem_range.1 ht
    rw [readsOf_at ht'] at hx
    obtain ⟨y, hy, rfl⟩ := List.mem_map.1 hx
    exact ⟨ht', hy⟩
  · rintro ⟨ht, hx⟩
    refine ⟨x.1, List.mem_range.2 ht, ?_⟩
    rw [readsOf_at ht]
    exact List.mem_map.2 ⟨x.2, hx, rfl⟩
theorem all_len {h : List Txn} (hr : Right h) : (all h).length ≤ 512 := by
  have step : ∀ k, k ≤ h.length → (readsTo h k).length ≤ k * 16 := by
    intro k
    induction k with
    | zero => intro _; simp [readsTo]
    | succ k ih =>
      intro hk
      have h1 := ih (by omega)
      rw [readsTo_succ, List.length_append, readsOf_at (by omega), List.length_map]
      have h2 := count_keys (hr.2 k (by omega)).reads
      rw [List.length_map] at h2
      have h3 : ∀ l : List Nat, (l.map fun (k' : Nat) => if (k' : Int) ∈ h[k].reads.map (·.1) then 1 else 0).sum ≤ l.length := by
        intro l
        induction l with
        | nil => simp
        | cons a r ih => rw [List.map_cons, List.sum_cons, List.length_cons]; split <;> omega
      have h4 := h3 (List.range 16)
      rw [List.length_range] at h4
      omega
  have := step h.length (Nat.le_refl _)
  have := hr.1
  unfold all
  omega

/-! What is gathered in going through them. -/
def isRead (key f : Int) (x : Nat × Int × Int) : Bool := x.2.1 == key && x.2.2 == f
def gathered (key f : Int) (l : List (Nat × Int × Int)) : List Nat := (l.filter (isRead key f)).map (·.1)
theorem gathered_snoc (key f : Int) (l : List (Nat × Int × Int)) (x : Nat × Int × Int) : gathered key f (l ++ [x]) = if isRead key f x = true then gathered key f l ++ [x.1] else gathered key f l := by
  unfold gathered
  rw [List.filter_append, List.map_append]
  by_cases q : isRead key f x = true
  · rw [if_pos q]; simp [q]
  · rw [if_neg q]; simp [q]
theorem gathered_of {h : List Txn} (hr : Right h) (key f : Int) (t : Nat) (ht : t < h.length) : gathered key f (readsOf h t) = if fromO h t key == some f then [t] else [] := by
  rw [readsOf_at ht]
  have apart := (hr.2 t ht).reads.2
  have iff := @from_iff h hr t key f
  unfold gathered
  rw [List.filter_map, List.map_map]
  have e : ∀ l : List (Int × Int), (l.map (·.1)).Pairwise (· < ·) → (l.filter (isRead key f ∘ fun y => (t, y))).map (Prod.fst ∘ fun y => (t, y)) = if (key, f) ∈ l then [t] else [] := by
    intro l
    induction l with
    | nil => intro _; rfl
    | cons y r ih =>
      intro hp
      rw [List.map_cons, List.pairwise_cons] at hp
      rw [List.filter_cons]
      by_cases q : (isRead key f ∘ fun y => (t, y)) y = true
      · have hy : y = (key, f) := by
          obtain ⟨a, b⟩ := y
          simp [isRead] at q
          rw [q.1, q.2]
        have hn : (key, f) ∉ r := fun m => by
          have := hp.1 key (List.mem_map.2 ⟨_, m, rfl⟩)
          rw [hy] at this
          simp at this
        rw [if_pos q, List.map_cons, ih hp.2, if_neg hn, if_pos (by rw [hy]; exact List.mem_cons_self)]
        rfl
      · have hy : (key, f) ≠ y := fun e => q (by rw [← e]; simp [isRead])
        rw [if_neg q, ih hp.2]
        simp [hy]
  rw [e _ apart]
  by_cases q : fromO h t key = some f
  · obtain ⟨_, m⟩ := iff.1 q
    rw [if_pos m, if_pos (by simpa using q)]
  · have m : (key, f) ∉ h[t].reads := fun m => q (iff.2 ⟨ht, m⟩)
    rw [if_neg m, if_neg (by simpa using q)]
theorem gathered_all {h : List Txn} (hr : Right h) (key f : Int) : gathered key f (all h) = readers h key f := by
  have step : ∀ k, k ≤ h.length → gathered key f (readsTo h k) = (List.range k).filter fun t => fromO h t key == some f := by
    intro k
    induction k with
    | zero => intro _; rfl
    | succ k ih =>
      intro hk
      have app : ∀ a b, gathered key f (a ++ b) = gathered key f a ++ gathered key f b := fun a b => by unfold gathered; rw [List.filter_append, List.map_append]
      rw [readsTo_succ, app, ih (by omega), gathered_of hr key f k (by omega), List.range_succ, List.filter_append]
      congr 1
      by_cases q : fromO h k key == some f
      · rw [if_pos q]; simp [q]
      · rw [if_neg q]; simp [q]
  exact step _ (Nat.le_refl _)
/-- A read of t, of the key. -/
def isAt (t key : Int) (x : Nat × Int × Int) : Bool := (x.1 : Int) == t && x.2.1 == key
/-- From whom the transaction that is named by any integer reads a key. -/
def fromI (h : List Txn) (t key : Int) : Option Int := if 0 ≤ t then fromO h t.toNat key else none
theorem fromI_nat (h : List Txn) (t : Nat) (key : Int) : fromI h (t : Int) key = fromO h t key := by unfold fromI; simp
theorem from_none {h : List Txn} (hr : Right h) {t key : Int} (q : ∀ x ∈ all h, isAt t key x = false) : fromI h t key = none := by
  unfold fromI
  by_cases h0 : 0 ≤ t
  · rw [if_pos h0]
    cases e : fromO h t.toNat key with
    | none => rfl
    | some f =>
      obtain ⟨ht, m⟩ := (from_iff hr).1 e
      have := q (t.toNat, key, f) (mem_all.2 ⟨ht, m⟩)
      simp [isAt] at this
      omega
  · rw [if_neg h0]
theorem from_some {h : List Txn} (hr : Right h) {t key : Int} {x : Nat × Int × Int} (hx : x ∈ all h) (q : isAt t key x = true) : fromI h t key = some x.2.2 := by
  obtain ⟨n, k, f⟩ := x
  simp [isAt] at q
  obtain ⟨rfl, rfl⟩ := q
  obtain ⟨ht, m⟩ := mem_all.1 hx
  rw [fromI_nat]
  exact (from_iff hr).2 ⟨ht, m⟩
theorem fromI_out {h : List Txn} {t key : Int} (q : (h.length : Int) ≤ t ∨ t < 0) : fromI h t key = none := by
  unfold fromI
  by_cases h0 : 0 ≤ t
  · rw [if_pos h0]
    unfold fromO
    rw [List.getElem?_eq_none (by omega)]
  · rw [if_neg h0]

/-! Who writes a key, and all pairs, step by step. -/
def writersTo (h : List Txn) (key : Int) (k : Nat) : List Nat := (List.range k).filter (writes h key)
theorem writersTo_yes {h : List Txn} {key : Int} {k : Nat} (hk : k < h.length) (q : decide (key ∈ h[k].writes) = true) : writersTo h key (k + 1) = writersTo h key k ++ [k] := by
  have e : writes h key k = true := (writes_iff h key k).2 ⟨hk, of_decide_eq_true q⟩
  unfold writersTo
  rw [List.range_succ, List.filter_append]
  simp [e]
theorem writersTo_no {h : List Txn} {key : Int} {k : Nat} (hk : k < h.length) (q : decide (key ∈ h[k].writes) = false) : writersTo h key (k + 1) = writersTo h key k := by
  have e : writes h key k = false := by
    rw [← Bool.not_eq_true, writes_iff]
    rintro ⟨_, m⟩
    exact of_decide_eq_false q m
  unfold writersTo
  rw [List.range_succ, List.filter_append]
  simp [e]
theorem writersTo_all (h : List Txn) (key : Int) : writersTo h key h.length = writers h key := rfl
def keysTo (h : List Txn) (k : Nat) : List Nat := (List.range k).filter fun (k : Nat) => !(writers h (k : Int)).isEmpty
theorem keysTo_yes {h : List Txn} {k : Nat} (q : 0 < (writers h (k : Int)).length) : keysTo h (k + 1) = keysTo h k ++ [k] := by
  have e : (writers h (k : Int)).isEmpty = false := by
    rw [← Bool.not_eq_true, List.isEmpty_iff]
    intro e
    rw [e] at q
    simp at q
  unfold keysTo
  rw [List.range_succ, List.filter_append]
  simp [e]
theorem keysTo_no {h : List Txn} {k : Nat} (q : ¬ 0 < (writers h (k : Int)).length) : keysTo h (k + 1) = keysTo h k := by
  have e : (writers h (k : Int)).isEmpty = true := by
    rw [List.isEmpty_iff]
    exact List.length_eq_zero_iff.1 (by omega)
  unfold keysTo
  rw [List.range_succ, List.filter_append]
  simp [e]
theorem keysTo_len (h : List Txn) (k : Nat) : (keysTo h k).length ≤ k := by
  have := List.length_filter_le (fun (k : Nat) => !(writers h (k : Int)).isEmpty) (List.range k)
  rw [List.length_range] at this
  exact this
/-- All two of a row whose first one is among the first i. -/
def twosTo (l : List Nat) (i : Nat) : List (Nat × Nat) := (List.range i).flatMap fun a => (l.drop (a + 1)).map fun b => ((l[a]?).getD 0, b)
theorem twosTo_succ (l : List Nat) (i : Nat) (hi : i < l.length) : twosTo l (i + 1) = twosTo l i ++ (l.drop (i + 1)).map fun b => (l[i], b) := by
  unfold twosTo
  rw [List.range_succ, List.flatMap_append]
  simp [List.getElem?_eq_getElem hi]
theorem twosTo_all (l : List Nat) : twosTo l l.length = twos l := by
  induction l with
  | nil => rfl
  | cons a r ih =>
    rw [twos, ← ih]
    unfold twosTo
    rw [List.length_cons, List.range_succ_eq_map, List.flatMap_cons, List.flatMap_map]
    simp
def pairsTo (h : List Txn) (k : Nat) : List (Nat × Nat × Nat) := (List.range k).flatMap fun (k : Nat) => (twos (writers h (k : Int))).map fun ab => (k, ab.1, ab.2)
theorem pairsTo_succ (h : List Txn) (k : Nat) : pairsTo h (k + 1) = pairsTo h k ++ (twosTo (writers h (k : Int)) (writers h (k : Int)).length).map fun ab => (k, ab.1, ab.2) := by
  unfold pairsTo
  rw [List.range_succ, List.flatMap_append, twosTo_all]
  simp
/-- Those of the first k keys, and of this key those whose first one is among the first i of its writers l; and of the i-th so many. -/
def midTo (h : List Txn) (k : Nat) (l : List Nat) (i : Nat) : List (Nat × Nat × Nat) := pairsTo h k ++ (twosTo l i).map fun ab => (k, ab.1, ab.2)
def inTo (h : List Txn) (k : Nat) (l : List Nat) (i a j : Nat) : List (Nat × Nat × Nat) := midTo h k l i ++ ((l.drop (i + 1)).take j).map fun b => (k, a, b)
theorem midTo_zero (h : List Txn) (k : Nat) (l : List Nat) : midTo h k l 0 = pairsTo h k := by simp [midTo, twosTo]
theorem midTo_all (h : List Txn) (k : Nat) : midTo h k (writers h (k : Int)) (writers h (k : Int)).length = pairsTo h (k + 1) := (pairsTo_succ h k).symm
theorem inTo_zero (h : List Txn) (k : Nat) (l : List Nat) (i a : Nat) : inTo h k l i a 0 = midTo h k l i := by simp [inTo]
theorem inTo_all (h : List Txn) (k : Nat) (l : List Nat) (i : Nat) (hi : i < l.length) : inTo h k l i l[i] (l.length - (i + 1)) = midTo h k l (i + 1) := by
  unfold inTo midTo
  rw [twosTo_succ l i hi, List.map_append, List.map_map, List.append_assoc, List.take_of_length_le (by rw [List.length_drop]; omega)]
  rfl
theorem inTo_next (h : List Txn) (k : Nat) (l : List Nat) (i a j : Nat) (hj : j < (l.drop (i + 1)).length) : inTo h k l i a (j + 1) = inTo h k l i a j ++ [(k, a, (l.drop (i + 1))[j])] := by
  unfold inTo
  rw [List.take_succ_eq_append_getElem hj, List.map_append, List.append_assoc]
  rfl
theorem twosTo_len (l : List Nat) (i : Nat) (hl : l.length ≤ 32) (hi : i ≤ l.length) : (twosTo l i).length ≤ i * 32 := by
  induction i with
  | zero => simp [twosTo]
  | succ i ih =>
    have := ih (by omega)
    rw [twosTo_succ l i (by omega), List.length_append, List.length_map, List.length_drop]
    omega
theorem pairsTo_len {h : List Txn} (hl : h.length ≤ 32) (k : Nat) : (pairsTo h k).length ≤ k * 1024 := by
  induction k with
  | zero => simp [pairsTo]
  | succ k ih =>
    have h1 : (writers h (k : Int)).length ≤ 32 := Nat.le_trans (writers_len h _) hl
    have h2 := twosTo_len (writers h (k : Int)) _ h1 (Nat.le_refl _)
    rw [pairsTo_succ, List.length_append, List.length_map]
    omega
theorem inTo_len {h : List Txn} (hl : h.length ≤ 32) (k : Nat) (hk : k < 16) (l : List Nat) (h1 : l.length ≤ 32) (i a j : Nat) (hi : i < l.length) : (inTo h k l i a j).length ≤ 20000 := by
  have h2 := twosTo_len l i h1 (by omega)
  have h3 := pairsTo_len hl k
  unfold inTo midTo
  rw [List.length_append, List.length_append, List.length_map, List.length_map, List.length_take, List.length_drop]
  omega

/-! The answers over any history: what is not valid has none. -/
noncomputable def writersA (h : List Txn) (key : Int) : List Nat := if Hi.rightB h = true then writers h key else []
noncomputable def readersA (h : List Txn) (key f : Int) : List Nat := if Hi.rightB h = true then readers h key f else []
noncomputable def keysA (h : List Txn) : List Nat := if Hi.rightB h = true then keys h else []
noncomputable def pairsA (h : List Txn) : List (Nat × Nat × Nat) := if Hi.rightB h = true then pairs h else []
noncomputable def fromA (h : List Txn) (t key : Int) : Option Int := if Hi.rightB h = true then fromI h t key else none
theorem writersA_yes {h : List Txn} (q : Hi.rightB h = true) (key : Int) : writersA h key = writers h key := if_pos q
theorem readersA_yes {h : List Txn} (q : Hi.rightB h = true) (key f : Int) : readersA h key f = readers h key f := if_pos q
theorem keysA_yes {h : List Txn} (q : Hi.rightB h = true) : keysA h = keys h := if_pos q
theorem pairsA_yes {h : List Txn} (q : Hi.rightB h = true) : pairsA h = pairs h := if_pos q
theorem fromA_yes {h : List Txn} (q : Hi.rightB h = true) (t key : Int) : fromA h t key = fromI h t key := if_pos q
theorem writersA_no {h : List Txn} (q : Hi.rightB h = false) (key : Int) : writersA h key = [] := if_neg (by rw [q]; simp)
theorem readersA_no {h : List Txn} (q : Hi.rightB h = false) (key f : Int) : readersA h key f = [] := if_neg (by rw [q]; simp)
theorem keysA_no {h : List Txn} (q : Hi.rightB h = false) : keysA h = [] := if_neg (by rw [q]; simp)
theorem pairsA_no {h : List Txn} (q : Hi.rightB h = false) : pairsA h = [] := if_neg (by rw [q]; simp)
theorem fromA_no {h : List Txn} (q : Hi.rightB h = false) (t key : Int) : fromA h t key = none := if_neg (by rw [q]; simp)
/-- A number and whether there is one. -/
def numOf (o : Option Int) : Int := o.getD 0
/-- Rows that are short enough. -/
def Small (h : List Txn) : Prop := h.length ≤ 4294967296 ∧ ∀ t ∈ h, t.writes.length ≤ 4294967296 ∧ t.reads.length ≤ 4294967296
end Go.Proofs.Ytahacjfeopjbaaa.Ix
/-
  What index's iterator over all reads of a history hands out, one by one: the number of the transaction that reads, and the read.
  Conditions: a history has at most 2^32 transactions, each with at most 2^32 reads.
-/
set_option maxRecDepth 4000
namespace Go.Proofs.Ytahacjfeopjbaaa
open Go.RowKit

attribute [local go_sem] Oper.semAt_some

/-- The function value that is made of gf and lb hands out the reads l, to whatever keeps what lies below block m. -/
def HandsReads (gf : Nat) (lb : Array Value) (m : Nat) (l : List (Nat × Int × Int)) (w : World) : Prop :=
  SeqStopsK Fence.wide 2 Try.prog gf lb (fun x : Nat × Int × Int => #[.int .i64 (x.1 : Int), .agg #[.int .i64 x.2.1, .int .i64 x.2.2]]) (Below m) (fun ys => ys = l) (fun pre => pre <+: l) l.length w

set_option maxHeartbeats 1000000 in
theorem reads_hands (h : List So.Txn) (v : Value) (B : Nat) (w0 w : World) (hv : Txns w0 v h) (hb : Below w0.heap.size w0 w) (hl : h.length ≤ 4294967296) (ho : ∀ t ∈ h, t.reads.length ≤ 4294967296) (hB : B < w.heap.size) (hc : w.cell? ⟨B, 0, none⟩ = some v) :
    HandsReads 100 #[.pointer (some ⟨B, 0, none⟩)] w0.heap.size (Ix.all h) w := by
  intro lo J Jx W hW hJ _ hY h0
  have hc' := (hW.cell (p := ⟨B, 0, none⟩) hB).trans hc
  obtain ⟨A, c, rfl, hform⟩ := hv.spelled
  have HF := Lib.hid hform
  have HY := Lib.hid hY
  have HW := Lib.hid (hb.trans (hW.mono hb.size))
  have HA := Lib.hid hJ
  have HO := Lib.hid ho
  clear hform hv hY hW hc hJ ho hb
  show CallsIn Fence.wide 2 Try.prog 100 #[.func (.yield lo) #[] #[], .pointer (some ⟨B, 0, none⟩)] W _
  refine callsIn_of_wp Try.func100 rfl trivial ?_ rfl
  simp only [Try.ntmps100, List.size_toArray, List.length_cons, List.length_nil, Nat.reduceAdd, Nat.reduceSub, Array.replicate_succ, Array.replicate_zero, List.push_toArray, List.append_toArray, List.nil_append, List.cons_append]
  gi_wp2_with fail
  gi_loopw [10] (fun i wr => ∃ k : Nat, k ≤ h.length ∧ i = .int .i64 k ∧ Hid (J (Ix.readsTo h k) wr) ∧ Hid (Below w0.heap.size w0 wr)) (fun i _ => h.length - (intOf i).toNat)
  case atStart => exact ⟨0, Nat.zero_le _, rfl, h0, HW.out⟩
  case round =>
    obtain ⟨k, hk, rfl, HJ, HB⟩ := hrel
    by_cases hlt : k < h.length
    · obtain ⟨ad, x, y, rfl, hblk, hE, hx, hy⟩ := HF.out k hlt
      obtain ⟨e0, e1, e2⟩ := hE.below hblk HB.out
      have HN := Lib.hid (fun j hj => Ix.part_next h k j hlt hj)
      have HL := Lib.hid (fun j hj => Ix.part_less h k j hlt hj)
      have HP := Lib.hid (fun j => Ix.part_front h k j hlt)
      have HE := Lib.hid (fun j hj => Ix.part_whole h k j hlt hj)
      have hol := HO.out _ (List.getElem_mem hlt)
      generalize h[k] = t at *
      obtain ⟨s, ws, rs⟩ := t
      dsimp only at e0 hol hx hy HN HL HE
      obtain ⟨A1, c1, rfl, _⟩ := hx.spelled
      obtain ⟨A2, c2, rfl, hform2⟩ := hy.spelled
      have HF2 := Lib.hid hform2
      have HJ1 : Hid (J (Ix.readsTo h k ++ (Ix.readsOf h k).take 0) (wr.alloc (.cells #[.int .i64 s, .slice A1 ws.length c1, .slice A2 rs.length c2] 65))) := by
        rw [Hid, List.take_zero, List.append_nil]
        exact HA.out _ _ _ none HJ.out (World.grownBy_alloc wr _ none) none_row
      have HB1 := Lib.hid (HB.out.alloc HB.out.size (.cells #[.int .i64 s, .slice A1 ws.length c1, .slice A2 rs.length c2] 65))
      clear hE hx hy hform2 HJ
      gi_wp2_with fail
      generalize wr.alloc (.cells #[.int .i64 s, .slice A1 ws.length c1, .slice A2 rs.length c2] 65) = w1 at *
      gi_loopw [18] (fun i wq => ∃ j : Nat, j ≤ rs.length ∧ i = .int .i64 j ∧ Hid (J (Ix.readsTo h k ++ (Ix.readsOf h k).take j) wq) ∧ Hid (Below w0.heap.size w0 wq)) (fun i _ => rs.length - (intOf i).toNat)
      case atStart => exact ⟨0, Nat.zero_le _, rfl, HJ1, HB1⟩
      case round =>
        obtain ⟨j, hj, rfl, HJ2, HB2⟩ := hrel
        by_cases hlj : j < rs.length
        · obtain ⟨ad2, rfl, hblk2, hE2⟩ := HF2.out j hlj
          have HN2 := Lib.hid (HN.out j hlj)
          have HL2 := Lib.hid (HL.out j hlj)
          obtain ⟨d0, d1⟩ := hE2.below hblk2 HB2.out
          generalize rs[j] = y at *
          obtain ⟨a, b⟩ := y
          dsimp only at d0 d1
          have HJ3 := Lib.hid (HA.out _ _ _ none HJ2.out (World.grownBy_alloc wr (.cells #[.int .i64 a, .int .i64 b] 62) none) none_row)
          have HB3 := Lib.hid (HB2.out.alloc HB2.out.size (.cells #[.int .i64 a, .int .i64 b] 62))
          obtain ⟨fn, tmps, assign, body, hy, hR⟩ := HY.out _ (k, a, b) _ HJ3.out HL2.out
          have HR := Lib.hid hR
          clear hR hE2
          dsimp only at hy
          gi_wp2_with fail
          refine HR.out.mono ?_
          rintro e W3 (⟨rfl, hJ4, hk4⟩ | ⟨rfl, hJx4⟩)
          · have HJ4 : Hid (J (Ix.readsTo h k ++ (Ix.readsOf h k).take (j + 1)) W3) := by rw [Hid, HN2.out]; exact hJ4
            have HB4 := Lib.hid (HB3.out.trans hk4)
            clear hJ4 hk4 hy
            gi_wp2_with fail
            go_roundw
            case rel => exact ⟨j + 1, by omega, by go_num, HJ4, HB4⟩
            case measure => simp [intOf]; omega
          · have HX : Hid (Jx (Ix.readsTo h k ++ (Ix.readsOf h k).take (j + 1)) W3) := by rw [Hid, HN2.out]; exact hJx4
            clear hJx4 hy
            gi_wp2_with fail
            refine bodyPost_ret (results_none rfl _ _ _) rfl ?_
            exact ⟨⟨_, rfl⟩, .inr ⟨_, HP.out (j + 1), HX.out⟩⟩
        · have HJ5 : Hid (J (Ix.readsTo h (k + 1)) wr) := by rw [Hid, ← HE.out j (by omega)]; exact HJ2.out
          gi_wp2_with fail
          go_roundw
          case rel => exact ⟨k + 1, by omega, by go_num, HJ5, HB2⟩
          case measure => simp [intOf]; omega
    · obtain rfl : k = h.length := by omega
      gi_wp2_with fail
      go_end0
      exact ⟨⟨_, rfl⟩, .inl ⟨_, rfl, HJ.out⟩⟩

theorem ixReads_at (A : Option Addr) (n c : Nat) (w : World) : Calls Try.prog 92 #[.agg #[.slice A n c]] w fun e w' => e = .returned (.func (.func 100) #[] #[.pointer (some ⟨w.heap.size, 0, none⟩)]) ∧ w' = w.alloc (.cells #[.slice A n c] 24) := by
  have hmf : ∀ (fn : Fn) (first cap : Array Value) (w : World), (Instr.makeFunc fn first cap).run Try.prog w = .ok (.func fn first cap) w := fun _ _ _ _ => rfl
  go_enter Try.func92, Try.ntmps92
  go_wp2_with fail
  go_ret
  exact ⟨rfl, rfl⟩
end Go.Proofs.Ytahacjfeopjbaaa
/-
  What index's writersOf, Writers, Keys and Pairs answer: who writes a key, all keys that are written, all two writers of each key.
  Conditions: a history's rows have at most 2^32 elements each.
-/
set_option maxRecDepth 4000
namespace Go.Proofs.Ytahacjfeopjbaaa
open Go.RowKit

theorem ns_snoc {W : World} {base : Nat} {e : TypeId} {v : Value} {d : List Nat} {n : Nat} (h : W.ownsRow base e 1 v (d.length + 1) ((ints d).flatMap nC ++ nC (n : Int))) : W.ownsRow base e 1 v (d ++ [n]).length ((ints (d ++ [n])).flatMap nC) := by
  rw [ints_snoc, flat_snoc, List.length_append]
  exact h
theorem ns_own {W : World} {base : Nat} {e : TypeId} {v : Value} {d : List Nat} (h : W.ownsRow base e 1 v d.length ((ints d).flatMap nC)) : Ns W v (ints d) := by
  refine Rows'.own (base := base) (e := e) ?_
  rw [ints_len]
  exact h
/-- A row of numbers, as the walk spells it. -/
theorem nums_spelled {w : World} {v : Value} {l : List Nat} (h : Ns w v (ints l)) : ∃ A c, v = .slice A l.length c ∧ ∀ (k : Nat) (hk : k < l.length), ∃ ad : Addr, A = some ad ∧ ad.block < w.heap.size ∧ w.cell? (ad.add k) = some (.int .i64 (l[k] : Int)) := by
  obtain ⟨A, c, hv, hf⟩ := h.spelled
  rw [ints_len] at hv
  refine ⟨A, c, hv, fun k hk => ?_⟩
  have := hf k (by rw [ints_len]; exact hk)
  rw [ints_nth l k hk] at this
  exact this

/-- A row of numbers of the call's own. -/
def RetInts (w : World) (l : List Nat) (e : Ending) (w' : World) : Prop := ∃ v, e = .returned v ∧ w'.ownsRow w.heap.size 3 1 v l.length ((ints l).flatMap nC) ∧ Below w.heap.size w w'
set_option maxHeartbeats 1000000 in
theorem writersOf9_at (h : List So.Txn) (u : Value) (key : Int) (w : World) (hv : Txns w u h) (hs : Ix.Small h) : Calls Try.prog 73 #[.agg #[u], .int .i64 key] w (RetInts w (Ix.writers h key)) := by
  obtain ⟨i0, hi0, hz0, hz1, hz2⟩ := info_parts int_info
  have I0 := Lib.hid hi0
  have I1 := Lib.hid hz0
  have I2 := Lib.hid hz1
  have I3 := Lib.hid hz2
  clear hi0 hz0 hz1 hz2
  have HB0 := Lib.hid (alloc_below w (.cells #[u] 24))
  obtain ⟨A, c, rfl, hform⟩ := hv.spelled
  have HF := Lib.hid hform
  have hl := hs.1
  have HO := Lib.hid hs.2
  clear hform hv hs
  go_enter Try.func73, Try.ntmps73
  go_wp2_with fail
  go_loopw [5, 11] (fun v i wr => ∃ (k : Nat) (d : List Nat), k ≤ h.length ∧ i = .int .i64 k ∧ d.length ≤ k ∧ Hid (d = Ix.writersTo h key k) ∧ wr.ownsRow w.heap.size 3 1 v d.length ((ints d).flatMap nC) ∧ Hid (Below w.heap.size w wr)) (fun _ i _ => h.length - (intOf i).toNat)
  case atStart => exact ⟨0, [], Nat.zero_le _, rfl, Nat.le_refl _, rfl, World.ownsRow_nil _ _ _ _, HB0.out⟩
  case round =>
    obtain ⟨k, d, hk, rfl, hdl, HD, hown, HB⟩ := hrel
    have HW := Lib.hid hown
    obtain ⟨A', cp, rfl⟩ := own_form hown
    clear hown
    by_cases hlt : k < h.length
    · obtain ⟨ad, x, y, rfl, hblk, hE, hx, hy⟩ := HF.out k hlt
      obtain ⟨e0, e1, e2⟩ := hE.below hblk HB.out
      have HYes := Lib.hid (fun q => @Ix.writersTo_yes h key k hlt q)
      have HNo := Lib.hid (fun q => @Ix.writersTo_no h key k hlt q)
      have hol := (HO.out _ (List.getElem_mem hlt)).1
      generalize h[k] = t at *
      obtain ⟨s, ws, rs⟩ := t
      dsimp only at e0 hol hx hy HYes HNo
      obtain ⟨A1, c1, rfl, _⟩ := hx.spelled
      obtain ⟨A2, c2, rfl, _⟩ := hy.spelled
      have HX := Lib.hid ((hx.below HB.out).below (alloc_below wr (.cells #[.int .i64 s, .slice A1 ws.length c1, .slice A2 rs.length c2] 65)))
      have HB1 := Lib.hid (below_all HB.out (alloc_below wr (.cells #[.int .i64 s, .slice A1 ws.length c1, .slice A2 rs.length c2] 65)))
      have HW1 := Lib.hid (HW.out.alloc (.cells #[.int .i64 s, .slice A1 ws.length c1, .slice A2 rs.length c2] 65))
      clear hE hx hy HW HB
      go_wp2_with fail
      generalize wr.alloc (.cells #[.int .i64 s, .slice A1 ws.length c1, .slice A2 rs.length c2] 65) = w1 at *
      refine (intContains_at ws key _ _ HX.out hol).mono ?_
      rintro e w2 ⟨rfl, rfl⟩
      cases hg : decide (key ∈ ws) with
      | false =>
        have HD2 : Hid (d = Ix.writersTo h key (k + 1)) := by rw [Hid, HNo.out hg]; exact HD.out
        clear hg
        go_wp2_with fail
        go_roundw
        case rel => exact ⟨k + 1, d, by omega, by go_num, by omega, HD2, HW1.out, HB1⟩
        case measure => simp [intOf]; omega
      | true =>
        have HD2 : Hid (d ++ [k] = Ix.writersTo h key (k + 1)) := by rw [Hid, HYes.out hg, ← HD.out]
        have HW2 := Lib.hid (HW1.out.alloc (.cells #[.int .i64 (k : Int)] 3))
        have HB2 := Lib.hid (below_all HB1.out (alloc_below w1 (.cells #[.int .i64 (k : Int)] 3)))
        have HN := Lib.hid (new_nC w1 (k : Int) 3)
        clear hg
        go_wp2_with (at_builtin; refine wpList_append_own_at _ rfl _ _ 46 rfl w.heap.size 3 i0 _ 1 8 Try.underlying46 I0.out I1.out I2.out I3.out rfl (by decide) _ d.length _ rfl HW2.out ⟨w1.heap.size, 0, none⟩ 1 1 (nC (k : Int)) rfl rfl HN.out (one_nC _) (by simp only [maxLen]; omega) (by omega) HB2.out.size ?_; intro v2 w2 hown2 hgrow2 hnil2 hat2; have HO2 := Lib.hid hown2; have HB3 := Lib.hid (below_append HB2.out HB2.out.size HW2.out hgrow2); clear hown2 hgrow2 hnil2 hat2)
        go_roundw
        case rel => exact ⟨k + 1, d ++ [k], by omega, by go_num, by simp; omega, HD2, ns_snoc HO2.out, HB3⟩
        case measure => simp [intOf]; omega
    · obtain rfl : k = h.length := by omega
      go_wp2_with fail
      go_ret
      refine ⟨_, rfl, ?_, HB.out⟩
      rw [show Ix.writers h key = d from HD.out.symm]
      exact HW.out

theorem writers9_at (h : List So.Txn) (u : Value) (key : Int) (w : World) (hv : Txns w u h) (hs : Ix.Small h) : Calls Try.prog 67 #[.agg #[u], .int .i64 key] w (RetNums w (Ix.writersA h key)) := by
  have HB0 := Lib.hid (alloc_below w (.cells #[u] 24))
  have HV := Lib.hid hv
  have HS := Lib.hid hs
  obtain ⟨A, c, rfl, _⟩ := hv.spelled
  have c0 := (Boxed.new w 24 (.slice A h.length c)).cell
  have HC0 := Lib.hid c0
  clear hv hs
  have HY := Lib.hid (fun q => @Ix.writersA_yes h q key)
  have HN := Lib.hid (fun q => @Ix.writersA_no h q key)
  generalize Ix.writersA h key = wa at *
  go_enter Try.func67, Try.ntmps67
  go_wp2_with fail
  generalize w.alloc (.cells #[.slice A h.length c] 24) = w1 at *
  refine (hRight_at h _ w1 (HV.out.below HB0.out) HS.out.2).mono ?_
  rintro e w2 ⟨rfl, hb2⟩
  have HB2 := Lib.hid (below_all HB0.out hb2)
  have c2 := cell_stays hb2 c0
  cases hr : Hi.rightB h with
  | false =>
    have HR := Lib.hid (HN.out hr)
    clear hr hb2
    go_wp2_with fail
    go_ret
    exact ⟨_, rfl, by rw [HR.out]; exact Ns.nil _ _, HB2.out⟩
  | true =>
    have HR := Lib.hid (HY.out hr)
    clear hr hb2
    go_wp2_with fail
    refine (writersOf9_at h _ key w2 (HV.out.below HB2.out) HS.out).mono ?_
    rintro e w3 ⟨v3, rfl, ho3, hb3⟩
    have HV3 := Lib.hid (ns_own ho3)
    have HB3 := Lib.hid (below_all HB2.out hb3)
    obtain ⟨A3, n3, c3, rfl⟩ := own_any ho3
    clear ho3 hb3
    go_wp2_with fail
    go_ret
    exact ⟨_, rfl, by rw [HR.out]; exact HV3.out, HB3.out⟩

set_option maxHeartbeats 1000000 in
theorem keys9_own (h : List So.Txn) (u : Value) (w : World) (hv : Txns w u h) (hs : Ix.Small h) : Calls Try.prog 64 #[.agg #[u]] w (RetInts w (Ix.keysA h)) := by
  obtain ⟨i0, hi0, hz0, hz1, hz2⟩ := info_parts int_info
  have I0 := Lib.hid hi0
  have I1 := Lib.hid hz0
  have I2 := Lib.hid hz1
  have I3 := Lib.hid hz2
  clear hi0 hz0 hz1 hz2
  have HB0 := Lib.hid (alloc_below w (.cells #[u] 24))
  have HV := Lib.hid hv
  have HS := Lib.hid hs
  obtain ⟨A, c, rfl, _⟩ := hv.spelled
  have c0 := (Boxed.new w 24 (.slice A h.length c)).cell
  clear hv hs
  have HY := Lib.hid (fun q => @Ix.keysA_yes h q)
  have HN := Lib.hid (fun q => @Ix.keysA_no h q)
  generalize Ix.keysA h = ka at *
  go_enter Try.func64, Try.ntmps64
  go_wp2_with fail
  have hs1 : (w.alloc (.cells #[.slice A h.length c] 24)).heap.size = w.heap.size + 1 := by simp
  generalize w.alloc (.cells #[.slice A h.length c] 24) = w1 at *
  refine (hRight_at h _ w1 (HV.out.below HB0.out) HS.out.2).mono ?_
  rintro e w2 ⟨rfl, hb2⟩
  have HB2 := Lib.hid (below_all HB0.out hb2)
  have HC2 := Lib.hid (cell_stays hb2 c0)
  have HV2 := Lib.hid (HV.out.below HB2.out)
  have hle : w.heap.size ≤ w2.heap.size := HB2.out.size
  clear c0 hs1
  cases hr : Hi.rightB h with
  | false =>
    have HR := Lib.hid (HN.out hr)
    clear hr hb2 hle
    go_wp2_with fail
    go_ret
    exact ⟨_, rfl, by rw [HR.out]; exact World.ownsRow_nil _ _ _ _, HB2.out⟩
  | true =>
    have HR := Lib.hid (HY.out hr)
    have HLE := Lib.hid hle
    clear hr hb2 hle
    go_wp2_with fail
    go_loopw [3, 8] (fun v i wr => ∃ (k : Nat) (d : List Nat), k ≤ 16 ∧ i = .int .i64 k ∧ d.length ≤ k ∧ Hid (d = Ix.keysTo h k) ∧ wr.ownsRow w2.heap.size 3 1 v d.length ((ints d).flatMap nC) ∧ Hid (Below w2.heap.size w2 wr)) (fun _ i _ => 16 - (intOf i).toNat)
    case atStart => exact ⟨0, [], Nat.zero_le _, rfl, Nat.le_refl _, rfl, World.ownsRow_nil _ _ _ _, Below.refl _ _⟩
    case round =>
      obtain ⟨k, d, hk, rfl, hdl, HD, hown, HB⟩ := hrel
      have HW := Lib.hid hown
      obtain ⟨A', cp, rfl⟩ := own_form hown
      clear hown
      by_cases hlt : k < 16
      · have d0 : decide ((k : Int) < 16) = true := decide_eq_true (by omega)
        have c3 := cell_stays HB.out HC2.out
        have HYes := Lib.hid (fun q => @Ix.keysTo_yes h k q)
        have HNo := Lib.hid (fun q => @Ix.keysTo_no h k q)
        go_wp2_with fail
        refine (writersOf9_at h _ (k : Int) wr (HV2.out.below HB.out) HS.out).mono ?_
        rintro e w3 ⟨v3, rfl, ho3, hb3⟩
        have HW1 := Lib.hid (own_below HW.out hb3)
        have HB1 := Lib.hid (below_all HB.out hb3)
        obtain ⟨A3, cc3, rfl⟩ := own_form ho3
        clear ho3 hb3 HW HB c3
        generalize (Ix.writers h (k : Int)).length = m at *
        by_cases hm : 0 < m
        · have d1 : decide (0 < m) = true := decide_eq_true hm
          have HD2 : Hid (d ++ [k] = Ix.keysTo h (k + 1)) := by rw [Hid, HYes.out hm, ← HD.out]
          have HW2 := Lib.hid (HW1.out.alloc (.cells #[.int .i64 (k : Int)] 3))
          have HB2 := Lib.hid (below_all HB1.out (alloc_below w3 (.cells #[.int .i64 (k : Int)] 3)))
          have HN := Lib.hid (new_nC w3 (k : Int) 3)
          clear hm
          go_wp2_with (at_builtin; refine wpList_append_own_at _ rfl _ _ 46 rfl w2.heap.size 3 i0 _ 1 8 Try.underlying46 I0.out I1.out I2.out I3.out rfl (by decide) _ d.length _ rfl HW2.out ⟨w3.heap.size, 0, none⟩ 1 1 (nC (k : Int)) rfl rfl HN.out (one_nC _) (by simp only [maxLen]; omega) (by omega) HB2.out.size ?_; intro v4 w4 hown2 hgrow2 hnil2 hat2; have HO2 := Lib.hid hown2; have HB3 := Lib.hid (below_append HB2.out HB2.out.size HW2.out hgrow2); clear hown2 hgrow2 hnil2 hat2)
          go_roundw
          case rel => exact ⟨k + 1, d ++ [k], by omega, by go_num, by simp; omega, HD2, ns_snoc HO2.out, HB3⟩
          case measure => simp [intOf]; omega
        · have d1 : decide (0 < m) = false := decide_eq_false hm
          have HD2 : Hid (d = Ix.keysTo h (k + 1)) := by rw [Hid, HNo.out hm]; exact HD.out
          clear hm
          go_wp2_with fail
          go_roundw
          case rel => exact ⟨k + 1, d, by omega, by go_num, by omega, HD2, HW1.out, HB1⟩
          case measure => simp [intOf]; omega
      · have d0 : decide ((k : Int) < 16) = false := decide_eq_false (by omega)
        have hk16 : k = 16 := by omega
        have HK := Lib.hid hk16
        clear hk16
        go_wp2_with fail
        go_ret
        refine ⟨_, rfl, ?_, below_all HB2.out HB.out⟩
        have hdk : Ix.keys h = d := by rw [HD.out, HK.out]; rfl
        rw [HR.out, hdk]
        exact World.ownsRow.mono HW.out HLE.out
theorem keys9_at (h : List So.Txn) (u : Value) (w : World) (hv : Txns w u h) (hs : Ix.Small h) : Calls Try.prog 64 #[.agg #[u]] w (RetNums w (Ix.keysA h)) :=
  (keys9_own h u w hv hs).mono fun _ _ ⟨v, e, ho, hb⟩ => ⟨v, e, ns_own ho, hb⟩
end Go.Proofs.Ytahacjfeopjbaaa
/-
  What index's Pairs answers: all two writers of each key, in order.
  Conditions: a history's rows have at most 2^32 elements each.
-/
set_option maxRecDepth 4000
namespace Go.Proofs.Ytahacjfeopjbaaa
open Go.RowKit

theorem choice_info : (Try.prog.info? 38).map (fun i => (i.zero, i.size, i.bytes)) = some (some (.agg #[.int .i64 0, .int .i64 0, .int .i64 0]), 3, 24) := by kernel_rfl
theorem new_chC (w : World) (x : Nat × Nat × Nat) (e : TypeId) : ∀ j u, (chC x)[j]? = some u → (w.alloc (.cells #[.int .i64 (x.1 : Int), .int .i64 (x.2.1 : Int), .int .i64 (x.2.2 : Int)] e)).cell? ((⟨w.heap.size, 0, none⟩ : Addr).add j) = some u := new_row w (chC x) e
/-- What is behind the first m of a row of integers. -/
theorem Ns.drop {w : World} {A : Option Addr} {n c : Nat} {l : List Int} (h : Ns w (.slice A n c) l) (m : Nat) (hm : m ≤ l.length) : Ns w (.slice (if c = m then A else A.map (·.add (m * 1))) (n - m) (c - m)) (l.drop m) := by
  obtain ⟨h1, A1, c1, hv, hc, hz, hh⟩ := h
  cases hv
  have hlen : (l.drop m).length = l.length - m := List.length_drop
  refine ⟨by rw [flat_len nC_len], _, _, by rw [hlen], by rw [hlen]; omega, fun hn => ?_, fun h0 => ?_⟩
  · by_cases e : c = m
    · omega
    · rw [if_neg e] at hn
      have : A = none := by cases A with
        | none => rfl
        | some a => cases hn
      have := hz this
      omega
  · rw [hlen] at h0
    obtain ⟨ad, rfl, hb, hcell⟩ := hh (by omega)
    rw [if_neg (by omega)]
    refine ⟨ad.add (m * 1), rfl, by rw [add_block]; exact hb, fun j u hu => ?_⟩
    rw [Go.Deep.add_add]
    refine hcell _ _ ?_
    have hj := (List.getElem?_eq_some_iff.1 hu).1
    rw [flat_len nC_len, hlen] at hj
    have e2 : l.flatMap nC = (l.take m).flatMap nC ++ (l.drop m).flatMap nC := by rw [← List.flatMap_append, List.take_append_drop]
    have e3 : ((l.take m).flatMap nC).length = m * 1 := by rw [flat_len nC_len, List.length_take]; omega
    rw [e2, List.getElem?_append_right (by omega), e3, Nat.add_sub_cancel_left]
    exact hu
theorem ints_drop (l : List Nat) (m : Nat) : (ints l).drop m = ints (l.drop m) := by simp [ints]
theorem ints_tail (l : List Nat) (A : Option Addr) (c k : Nat) (hk : k < l.length) : ∃ (A' : Option Addr) (m c' : Nat), m = (l.drop (k + 1)).length ∧ (∀ W : World, (Instr.sliceAt 46 (.slice A l.length c) (some (.int .i64 ((k : Int) + 1))) none none).run Try.prog W = .ok (.slice A' m c') W) ∧
    ∀ W : World, Ns W (.slice A l.length c) (ints l) → Ns W (.slice A' m c') (ints (l.drop (k + 1))) := by
  refine ⟨if c = k + 1 then A else A.map (·.add ((k + 1) * 1)), l.length - (k + 1), c - (k + 1), (List.length_drop).symm, fun W => ?_, fun W h => ?_⟩
  · have hel : Try.prog.elem 46 = 3 := by kernel_rfl
    have hsz : (sizeOf 3).run Try.prog W = .ok 1 W := by kernel_rfl
    have hun : Try.prog.underlying 46 = some (.slice (Try.prog.elem 46)) := by rw [hel]; exact Try.underlying46
    have e : ((k : Int) + 1).toNat = k + 1 := by omega
    rw [run_sliceAt_slice W _ _ _ _ _ hun, run_slice_l W _ _ _ _ hun .i64 ((k : Int) + 1) (by omega) (by omega), hel, hsz, e]
    rfl
  · rw [← ints_drop]
    exact Ns.drop h (k + 1) (by rw [ints_len]; omega)
theorem chs_snoc {W : World} {base : Nat} {e : TypeId} {v : Value} {d : List (Nat × Nat × Nat)} {x : Nat × Nat × Nat} (h : W.ownsRow base e 3 v (d.length + 1) (d.flatMap chC ++ chC x)) : W.ownsRow base e 3 v (d ++ [x]).length ((d ++ [x]).flatMap chC) := Rows'.own_snoc h

/-- The same, with the row as one of the call's own. -/
def RetChOwn (w : World) (l : List (Nat × Nat × Nat)) (e : Ending) (w' : World) : Prop := ∃ v, e = .returned v ∧ w'.ownsRow w.heap.size 38 3 v l.length (l.flatMap chC) ∧ Below w.heap.size w w'

set_option maxHeartbeats 2000000 in
theorem pairs9_own (h : List So.Txn) (u : Value) (w : World) (hv : Txns w u h) (hs : Ix.Small h) : Calls Try.prog 38 #[.agg #[u]] w (RetChOwn w (Ix.pairsA h)) := by
  obtain ⟨i0, hi0, hz0, hz1, hz2⟩ := info_parts choice_info
  have I0 := Lib.hid hi0
  have I1 := Lib.hid hz0
  have I2 := Lib.hid hz1
  have I3 := Lib.hid hz2
  clear hi0 hz0 hz1 hz2
  have HB0 := Lib.hid (alloc_below w (.cells #[u] 24))
  have HV := Lib.hid hv
  have HS := Lib.hid hs
  obtain ⟨A, c, rfl, _⟩ := hv.spelled
  have c0 := (Boxed.new w 24 (.slice A h.length c)).cell
  clear hv hs
  have HY := Lib.hid (fun q => @Ix.pairsA_yes h q)
  have HN := Lib.hid (fun q => @Ix.pairsA_no h q)
  have HMANY := Lib.hid (fun q => (Hi.rightB_iff h).1 q)
  generalize Ix.pairsA h = pa at *
  go_enter Try.func38, Try.ntmps38
  go_wp2_with fail
  generalize w.alloc (.cells #[.slice A h.length c] 24) = w1 at *
  refine (hRight_at h _ w1 (HV.out.below HB0.out) HS.out.2).mono ?_
  rintro e w2 ⟨rfl, hb2⟩
  have HB2 := Lib.hid (below_all HB0.out hb2)
  have HC2 := Lib.hid (cell_stays hb2 c0)
  have HV2 := Lib.hid (HV.out.below HB2.out)
  clear c0
  cases hr : Hi.rightB h with
  | false =>
    have HR := Lib.hid (HN.out hr)
    clear hr hb2
    go_wp2_with fail
    go_ret
    exact ⟨_, rfl, by rw [HR.out]; exact World.ownsRow_nil _ _ _ _, HB2.out⟩
  | true =>
    have HR := Lib.hid (HY.out hr)
    have H32 := Lib.hid (HMANY.out hr).1
    clear hr hb2
    go_wp2_with fail
    go_loopw [3, 13] (fun v i wr => ∃ (k : Nat) (d : List (Nat × Nat × Nat)), k ≤ 16 ∧ i = .int .i64 k ∧ d.length ≤ 20000 ∧ Hid (d = Ix.pairsTo h k) ∧ wr.ownsRow w2.heap.size 38 3 v d.length (d.flatMap chC) ∧ Hid (Below w2.heap.size w2 wr)) (fun _ i _ => 16 - (intOf i).toNat)
    case atStart => exact ⟨0, [], Nat.zero_le _, rfl, Nat.zero_le _, rfl, World.ownsRow_nil _ _ _ _, Below.refl _ _⟩
    case round =>
      obtain ⟨k, d, hk, rfl, hdl, HD, hown, HB⟩ := hrel
      have HW := Lib.hid hown
      obtain ⟨A', cp, rfl⟩ := own_form hown
      clear hown
      by_cases hlt : k < 16
      · have d0 : decide ((k : Int) < 16) = true := decide_eq_true (by omega)
        have c3 := cell_stays HB.out HC2.out
        have hwl := Nat.le_trans (Ix.writers_len h (k : Int)) H32.out
        have HM0 := Lib.hid (Ix.midTo_zero h k (Ix.writers h (k : Int)))
        have HMA := Lib.hid (Ix.midTo_all h k)
        go_wp2_with fail
        refine (writersOf9_at h _ (k : Int) wr (HV2.out.below HB.out) HS.out).mono ?_
        rintro e w3 ⟨v3, rfl, ho3, hb3⟩
        have HW1 := Lib.hid (own_below HW.out hb3)
        have HB1 := Lib.hid (below_all HB.out hb3)
        have hsz3 : wr.heap.size ≤ w3.heap.size := hb3.size
        obtain ⟨A3, cc3, rfl⟩ := own_form ho3
        generalize wr.heap.size = B3 at ho3
        have HO3 := Lib.hid ho3
        clear ho3 hb3 HW HB c3 hsz3
        generalize Ix.writers h (k : Int) = l at *
        have HD0 : Hid (d = Ix.midTo h k l 0) := by rw [Hid, HM0.out]; exact HD.out
        have hk16 : (k : Int) < 16 := by omega
        go_wp2_with fail
        go_loopw [3, 21] (fun v i wq => ∃ (i' : Nat) (d : List (Nat × Nat × Nat)), i' ≤ l.length ∧ i = .int .i64 i' ∧ d.length ≤ 20000 ∧ Hid (d = Ix.midTo h k l i') ∧ wq.ownsRow w2.heap.size 38 3 v d.length (d.flatMap chC) ∧ Hid (wq.ownsRow B3 3 1 (.slice A3 l.length cc3) l.length ((ints l).flatMap nC)) ∧ Hid (Below w2.heap.size w2 wq)) (fun _ i _ => l.length - (intOf i).toNat)
        case atStart => exact ⟨0, d, Nat.zero_le _, rfl, hdl, HD0, HW1.out, HO3, HB1⟩
        case round =>
          clear HD0 HD HW1 HO3 HB1 hdl
          obtain ⟨i', d2, hi', rfl, hdl2, HD2, hown2, HO2, HBQ⟩ := hrel
          have HW2 := Lib.hid hown2
          obtain ⟨A5, cp5, rfl⟩ := own_form hown2
          clear hown2
          by_cases hlt2 : i' < l.length
          · obtain ⟨_, _, e3, hrow⟩ := nums_spelled (ns_own HO2.out)
            cases e3
            obtain ⟨ad, rfl, hblk, hcell⟩ := hrow i' hlt2
            clear hrow
            obtain ⟨A6, m, c6, hm, hst, hns⟩ := ints_tail l (some ad) cc3 i' hlt2
            have HNS := Lib.hid hns
            have HI0 := Lib.hid (Ix.inTo_zero h k l i' l[i'])
            have HIA := Lib.hid (Ix.inTo_all h k l i' hlt2)
            have HIN := Lib.hid (fun j hj => Ix.inTo_next h k l i' l[i'] j hj)
            have HIL := Lib.hid (fun j => Ix.inTo_len H32.out k hlt l hwl i' l[i'] j hlt2)
            have hm2 : m = l.length - (i' + 1) := by rw [hm, List.length_drop]
            generalize l[i'] = a at *
            have HD3 : Hid (d2 = Ix.inTo h k l i' a 0) := by rw [Hid, HI0.out]; exact HD2.out
            clear hns
            go_wp2_with fail
            go_loopw [3, 31] (fun v j wz => ∃ (j' : Nat) (d : List (Nat × Nat × Nat)), j' ≤ m ∧ j = .int .i64 j' ∧ d.length ≤ 20000 ∧ Hid (d = Ix.inTo h k l i' a j') ∧ wz.ownsRow w2.heap.size 38 3 v d.length (d.flatMap chC) ∧ Hid (wz.ownsRow B3 3 1 (.slice (some ad) l.length cc3) l.length ((ints l).flatMap nC)) ∧ Hid (Below w2.heap.size w2 wz)) (fun _ j _ => m - (intOf j).toNat)
            case atStart => exact ⟨0, d2, Nat.zero_le _, rfl, hdl2, HD3, HW2.out, HO2, HBQ⟩
            case round =>
              clear HD3 HD2 HW2 HO2 HBQ hdl2 hcell
              obtain ⟨j', d3, hj', rfl, hdl3, HD4, hown3, HO4, HBZ⟩ := hrel
              have HW4 := Lib.hid hown3
              obtain ⟨A7, cp7, rfl⟩ := own_form hown3
              clear hown3
              by_cases hlt3 : j' < m
              · have HNX := Lib.hid (HIN.out j' (by omega))
                obtain ⟨_, _, e6, hrow6⟩ := nums_spelled (HNS.out wr (ns_own HO4.out))
                simp only [Value.slice.injEq] at e6
                obtain ⟨rfl, -, -⟩ := e6
                obtain ⟨ad6, rfl, hblk6, hcell6⟩ := hrow6 j' (by omega)
                clear hrow6
                generalize (l.drop (i' + 1))[j'] = b at *
                have hdl5 := HIL.out (j' + 1)
                have HD5 : Hid (d3 ++ [(k, a, b)] = Ix.inTo h k l i' a (j' + 1)) := by rw [Hid, HNX.out, ← HD4.out]
                rw [← HD5.out, List.length_append] at hdl5
                have HW5 := Lib.hid (HW4.out.alloc (.cells #[.int .i64 (k : Int), .int .i64 (a : Int), .int .i64 (b : Int)] 38))
                have HO5 := Lib.hid (HO4.out.alloc (.cells #[.int .i64 (k : Int), .int .i64 (a : Int), .int .i64 (b : Int)] 38))
                have HB5 := Lib.hid (HBZ.out.alloc HBZ.out.size (.cells #[.int .i64 (k : Int), .int .i64 (a : Int), .int .i64 (b : Int)] 38))
                have HN5 := Lib.hid (new_chC wr (k, a, b) 38)
                have d6 : decide ((j' : Int) < (m : Int)) = true := decide_eq_true (by omega)
                go_wp2_with (at_builtin; refine wpList_append_own_at _ rfl _ _ 25 rfl w2.heap.size 38 i0 _ 3 24 Try.underlying25 I0.out I1.out I2.out I3.out rfl (by decide) _ d3.length _ rfl HW5.out ⟨wr.heap.size, 0, none⟩ 1 1 (chC (k, a, b)) rfl rfl HN5.out (one_chC _) (by simp only [maxLen]; omega) (by omega) HB5.out.size ?_; intro v7 w7 hown7 hgrow7 hnil7 hat7; have HO7 := Lib.hid (HO5.out.kept hgrow7 (own_types HO5.out HW5.out (by decide))); have HW7 := Lib.hid hown7; have HB7 := Lib.hid (below_append HB5.out HB5.out.size HW5.out hgrow7); clear hown7 hgrow7 hnil7 hat7)
                go_roundw
                case rel => exact ⟨j' + 1, d3 ++ [(k, a, b)], by omega, by go_num, by rw [List.length_append]; exact hdl5, HD5, chs_snoc HW7.out, HO7, HB7⟩
                case measure => simp [intOf]; omega
              · have d6 : decide ((j' : Int) < (m : Int)) = false := decide_eq_false (by omega)
                have hjm : j' = m := by omega
                have HD5 : Hid (d3 = Ix.midTo h k l (i' + 1)) := by rw [Hid, HD4.out, hjm, hm2]; exact HIA.out
                go_wp2_with fail
                go_roundw
                case rel => exact ⟨i' + 1, d3, by omega, by go_num, hdl3, HD5, HW4.out, HO4, HBZ⟩
                case measure => simp [intOf]; omega
          · have hil : i' = l.length := by omega
            have HD5 : Hid (d2 = Ix.pairsTo h (k + 1)) := by rw [Hid, HD2.out, hil]; exact HMA.out
            go_wp2_with fail
            go_roundw
            case rel => exact ⟨k + 1, d2, by omega, by go_num, hdl2, HD5, HW2.out, HBQ⟩
            case measure => simp [intOf]; omega
      · have d0 : decide ((k : Int) < 16) = false := decide_eq_false (by omega)
        have hk16 : k = 16 := by omega
        have HK := Lib.hid hk16
        clear hk16
        go_wp2_with fail
        go_ret
        refine ⟨_, rfl, ?_, below_all HB2.out HB.out⟩
        have hdk : Ix.pairs h = d := by rw [HD.out, HK.out]; rfl
        rw [HR.out, hdk]
        exact World.ownsRow.mono HW.out HB2.out.size
theorem pairs9_at (h : List So.Txn) (u : Value) (w : World) (hv : Txns w u h) (hs : Ix.Small h) : Calls Try.prog 38 #[.agg #[u]] w (RetChs w (Ix.pairsA h)) :=
  (pairs9_own h u w hv hs).mono fun _ _ ⟨v, e, ho, hb⟩ => ⟨v, e, Rows'.own ho, hb⟩
end Go.Proofs.Ytahacjfeopjbaaa
/-
  What index's Readers answers: who reads a key from somebody.
  Conditions: a history's rows have at most 2^32 elements each.
-/
set_option maxRecDepth 4000
namespace Go.Proofs.Ytahacjfeopjbaaa
open Go.RowKit

attribute [local go_sem] Oper.semAt_some

/-- A variable of two integers, in a block of its own. -/
def Boxed2 (W : World) (B : Nat) (t : TypeId) (x : Int × Int) : Prop := W.heap[B]? = some (.cells #[.int .i64 x.1, .int .i64 x.2] t (0, 0))
theorem Boxed2.lt {W : World} {B : Nat} {t : TypeId} {x : Int × Int} (h : Boxed2 W B t x) : B < W.heap.size := (Array.getElem?_eq_some_iff.1 h).1
theorem Boxed2.c0 {W : World} {B : Nat} {t : TypeId} {x : Int × Int} (h : Boxed2 W B t x) : W.cell? ⟨B, 0, none⟩ = some (.int .i64 x.1) := by simp [World.cell?, show W.heap[B]? = _ from h]
theorem Boxed2.c1 {W : World} {B : Nat} {t : TypeId} {x : Int × Int} (h : Boxed2 W B t x) : W.cell? ⟨B, 1, none⟩ = some (.int .i64 x.2) := by simp [World.cell?, show W.heap[B]? = _ from h]
theorem Boxed2.new (W : World) (t : TypeId) (x : Int × Int) : Boxed2 (W.alloc (.cells #[.int .i64 x.1, .int .i64 x.2] t)) W.heap.size t x := World.alloc_heap_new W _
theorem Boxed2.last {B : Nat} {X Y : World} {row : Option Nat} (hg : X.grownBy Y row) (hr : ∀ r, row = some r → B ≤ r ∧ ∃ o : Obj, X.heap[r]? = some o ∧ o.isCells = false) {b : Nat} {t : TypeId} {x : Int × Int} (h : Boxed2 X b t x) : Boxed2 Y b t x := by
  refine (hg.block b h.lt fun e => ?_).trans h
  obtain ⟨_, o, ho, hc⟩ := hr b e.symm
  rw [show X.heap[b]? = _ from h] at ho
  cases ho
  cases hc

/-- What Readers holds between two rounds: its row lies in a variable at block n. -/
def RdAt (w : World) (key f : Int) (n : Nat) (pre : List (Nat × Int × Int)) (W : World) : Prop :=
  (∃ v, Boxed W n 46 v ∧ W.ownsRow n 3 1 v (Ix.gathered key f pre).length ((ints (Ix.gathered key f pre)).flatMap nC) ∧ True) ∧ Boxed W (w.heap.size + 1) 3 (.int .i64 key) ∧ Boxed W (w.heap.size + 2) 3 (.int .i64 f) ∧ Below w.heap.size w W
theorem rdAt_own (w : World) (key f : Int) (n B : Nat) (hB : w.heap.size ≤ B) : OwnFrom B (RdAt w key f n) := fun s X Y row h hg hr =>
  ⟨holdsRow_own n n 46 3 1 (fun pre => (Ix.gathered key f pre).length) (fun pre => (ints (Ix.gathered key f pre)).flatMap nC) (fun _ _ => True) s X Y row h.1 hg (fun r e => (hr r e).2), boxes_last hg hr h.2.1, boxes_last hg hr h.2.2.1, below_last hg hr (Nat.le_refl _) hB h.2.2.2⟩
set_option maxRecDepth 100000 in
set_option maxHeartbeats 1000000 in
theorem readers9_at (h : List So.Txn) (u : Value) (key f : Int) (w : World) (hv : Txns w u h) (hs : Ix.Small h) : Calls Try.prog 66 #[.agg #[u], .int .i64 key, .int .i64 f] w (RetNums w (Ix.readersA h key f)) := by
  refine (callsIn_wide (n := 3)).1 ?_
  refine callsIn_of_wp_marks Try.func66 rfl trivial ?_ rfl
  simp only [Try.ntmps66, List.size_toArray, List.length_cons, List.length_nil, Nat.reduceAdd, Nat.reduceSub, Array.replicate_succ, Array.replicate_zero, List.push_toArray, List.append_toArray, List.nil_append, List.cons_append]
  obtain ⟨i0, hi0, hz0, hz1, hz2⟩ := info_parts int_info
  have I0 := Lib.hid hi0
  have I1 := Lib.hid hz0
  have I2 := Lib.hid hz1
  have I3 := Lib.hid hz2
  clear hi0 hz0 hz1 hz2
  have HV := Lib.hid hv
  have HS := Lib.hid hs
  obtain ⟨A, c, rfl, _⟩ := hv.spelled
  clear hv hs
  have HY := Lib.hid (fun q => @Ix.readersA_yes h q key f)
  have HN := Lib.hid (fun q => @Ix.readersA_no h q key f)
  have HRG := Lib.hid (fun q => (Hi.rightB_iff h).1 q)
  generalize Ix.readersA h key f = ra at *
  gi_wp2_with fail
  simp only [Nat.add_assoc, Nat.reduceAdd]
  have b0 := ((Boxed.new w 24 (.slice A h.length c)).alloc (.cells #[.int .i64 key] 3)).alloc (.cells #[.int .i64 f] 3)
  have b1 := (Boxed.new (w.alloc (.cells #[.slice A h.length c] 24)) 3 (.int .i64 key)).alloc (.cells #[.int .i64 f] 3)
  have b2 := Boxed.new ((w.alloc (.cells #[.slice A h.length c] 24)).alloc (.cells #[.int .i64 key] 3)) 3 (.int .i64 f)
  rw [World.size_alloc] at b1
  rw [World.size_alloc, World.size_alloc, Nat.add_assoc] at b2
  have hb0 : Below w.heap.size w (((w.alloc (.cells #[.slice A h.length c] 24)).alloc (.cells #[.int .i64 key] 3)).alloc (.cells #[.int .i64 f] 3)) := below_all (below_all (alloc_below _ _) (alloc_below _ _)) (alloc_below _ _)
  generalize (((w.alloc (.cells #[.slice A h.length c] 24)).alloc (.cells #[.int .i64 key] 3)).alloc (.cells #[.int .i64 f] 3)) = W0 at *
  refine ⟨trivial, ?_⟩
  refine (callsIn_wide.2 (hRight_at h _ W0 (HV.out.below hb0) HS.out.2)).mono ?_
  rintro e w2 ⟨rfl, hb2⟩
  have HB2 := Lib.hid (below_all hb0 hb2)
  have K1 := Lib.hid (Boxed.later b1 hb2)
  have K2 := Lib.hid (Boxed.later b2 hb2)
  have B0 := Boxed.later b0 hb2
  have c0 := B0.cell
  have c1 := (B0.alloc (.cells #[.slice none 0 0] 46)).cell
  have hsz : w.heap.size + 2 < w2.heap.size := K2.out.lt
  clear b0 b1 b2 hb0 hb2
  cases hr : Hi.rightB h with
  | false =>
    have HR := Lib.hid (HN.out hr)
    clear hr
    gi_wp2_with fail
    exact ⟨_, results_tmp rfl _ _ _, _, rfl, by rw [HR.out]; exact Ns.nil _ _, HB2.out⟩
  | true =>
    have HR := Lib.hid (HY.out hr)
    have HG := Lib.hid (HRG.out hr)
    clear hr
    gi_wp2_with fail
    refine ⟨trivial, ?_⟩
    refine (callsIn_wide.2 (ixReads_at A h.length c _)).mono ?_
    rintro e w4 ⟨rfl, rfl⟩
    gi_wp2_with fail
    have b7 := (Boxed.new w2 46 (.slice none 0 0)).alloc (.cells #[.slice A h.length c] 24)
    have b8 := Boxed.new (w2.alloc (.cells #[.slice none 0 0] 46)) 24 (.slice A h.length c)
    rw [World.size_alloc] at b8
    have hb4 : Below w2.heap.size w2 ((w2.alloc (.cells #[.slice none 0 0] 46)).alloc (.cells #[.slice A h.length c] 24)) := below_all (alloc_below _ _) (alloc_below _ _)
    have hsz4 : ((w2.alloc (.cells #[.slice none 0 0] 46)).alloc (.cells #[.slice A h.length c] 24)).heap.size = w2.heap.size + 2 := by simp
    generalize (w2.alloc (.cells #[.slice none 0 0] 46)).alloc (.cells #[.slice A h.length c] 24) = W4 at *
    have HH := reads_hands h (.slice A h.length c) (w2.heap.size + 1) w2 W4 (HV.out.below HB2.out) hb4 HS.out.1 (fun t ht => (HS.out.2 t ht).2) b8.lt b8.cell
    have h0 : RdAt w key f w2.heap.size [] W4 := ⟨⟨_, b7, World.ownsRow_nil _ _ _ _, trivial⟩, Boxed.later K1.out hb4, Boxed.later K2.out hb4, below_all HB2.out hb4⟩
    clear b7 b8 c0 c1 B0
    refine wpIn_rangeFunc_ownH rfl (by omega) (gf := 100) (lb := #[.pointer (some ⟨w2.heap.size + 1, 0, none⟩)]) rfl trivial (enters_of Try.func100 (by kernel_rfl) rfl) HH belowK_t (belowK_b (by omega)) (Below.refl _ _) (fun _ => rfl) (RdAt w key f w2.heap.size) (fun _ _ _ => False) (rdAt_own w key f _ _ (by omega)) (fun _ _ _ _ _ h _ _ => h) h0
      (fun x a' W => ∃ Bx, w2.heap.size < Bx ∧ Boxed2 W Bx 62 x.2 ∧ a' = { tmps := #[.agg #[.slice A h.length c], .int .i64 key, .int .i64 f, .pointer (some ⟨w.heap.size, 0, none⟩), .pointer (some ⟨w.heap.size + 1, 0, none⟩), .pointer (some ⟨w.heap.size + 2, 0, none⟩), .slice none 0 0, .pointer (some ⟨w2.heap.size, 0, none⟩), .int .i64 (x.1 : Int), .pointer (some ⟨Bx, 0, none⟩), .agg #[.slice A h.length c], .bool true, .bool false, .agg #[.slice A h.length c], .func (.func 100) #[] #[.pointer (some ⟨w2.heap.size + 1, 0, none⟩)], .int .i64 (x.1 : Int), .agg #[.int .i64 x.2.1, .int .i64 x.2.2], undef, undef, undef, undef, undef, undef, undef, undef, undef, undef, undef, undef, undef, undef, undef], defers := [] })
      (fun x a' s X Y row hx hg hr => by obtain ⟨Bx, h1, h2, h3⟩ := hx; exact ⟨Bx, h1, Boxed2.last hg hr h2, h3⟩) ?assign ?body ?done ?stop
    case assign =>
      rintro lo pre ⟨n, k, fr⟩ W K hI hK
      have hlt : w2.heap.size < W.heap.size := hI.1.elim fun v hv => hv.1.lt
      gi_wp2_with fail
      exact hK _ _ ((KeepsOthers.alloc _ _).from _) ((Below.refl _ W).alloc (by omega) _) (rdAt_own w key f _ w.heap.size (Nat.le_refl _) pre W _ none hI (World.grownBy_alloc W _ none) none_row) ⟨W.heap.size, hlt, Boxed2.new W _ (k, fr), rfl⟩
    case body =>
      rintro lo pre ⟨n, k, fr⟩ a' W hlo ⟨r, hr⟩ hI ⟨Bx, hBx, bX, rfl⟩ hlen
      have HI := Lib.hid hI
      obtain ⟨⟨v, hbx, hrow, -⟩, k1, k2, hB⟩ := hI
      have ck := k1.cell
      have cf := k2.cell
      have x0 := bX.c0
      have x1 := bX.c1
      have HSN := Lib.hid (Ix.gathered_snoc key f pre (n, k, fr))
      have hgl : (Ix.gathered key f pre).length ≤ 512 := by
        have h1 := Ix.all_len HG.out
        have h2 : (Ix.gathered key f pre).length ≤ pre.length := by
          unfold Ix.gathered
          rw [List.length_map]
          exact List.length_filter_le _ _
        omega
      dsimp only at x0 x1
      by_cases h1 : k = key
      · by_cases h2 : fr = f
        · subst h1
          subst h2
          have HGS : Hid (Ix.gathered k fr (pre ++ [(n, k, fr)]) = Ix.gathered k fr pre ++ [n]) := by rw [Hid, HSN.out, if_pos (by simp [Ix.isRead])]
          have HROW := Lib.hid hrow
          obtain ⟨A7, c7, rfl⟩ := own_form hrow
          have HBX := Lib.hid hbx
          have cb := hbx.cell
          have fb := hbx.frozen
          have hle : w2.heap.size ≤ W.heap.size := Nat.le_of_lt hbx.lt
          have K1' := Lib.hid k1
          have K2' := Lib.hid k2
          have HBB := Lib.hid hB
          clear hrow hbx k1 k2 hB bX hr
          gi_wp2_with (gi_at_builtin; refine wpListIn_append_own _ rfl _ _ 46 rfl w2.heap.size 3 i0 _ 1 8 Try.underlying46 I0.out I1.out I2.out I3.out rfl (by decide) _ _ _ rfl (HROW.out.alloc (.cells #[.int .i64 (n : Int)] 3)) ⟨W.heap.size, 0, none⟩ 1 1 (nC (n : Int)) rfl rfl (new_nC W (n : Int) 3) (one_nC _) (by simp only [maxLen]; omega) (by omega) (by simp; omega) ?_; intro v' w1 hown' hgrow _; obtain ⟨g', cap', rfl⟩ := ownsRow_succ hown'; obtain ⟨hv1, hv2, hr2, hk2, hb2⟩ := HBX.out.appended (by decide) HROW.out hle (Nat.le_refl _) hown' hgrow; have hc1 := hv1.cell; have hf1 := hv1.frozen)
          exact ⟨hk2.from _, hb2, ⟨_, hv2, by rw [HGS.out]; exact ns_snoc hr2, trivial⟩, (hb2.block _ (by omega)).trans K1'.out, (hb2.block _ (by omega)).trans K2'.out, HBB.out.trans (hb2.mono (by omega))⟩
        · have HGS : Hid (Ix.gathered key f (pre ++ [(n, k, fr)]) = Ix.gathered key f pre) := by rw [Hid, HSN.out, if_neg (by simp [Ix.isRead, h2])]
          have q2 : (fr == f) = false := beq_eq_false_iff_ne.2 h2
          subst h1
          clear hrow hbx k1 k2 hB bX hr h2
          gi_wp2_with fail
          exact ⟨(KeepsOthers.refl W).from _, Below.refl _ _, by rw [RdAt, HGS.out]; exact HI.out⟩
      · have HGS : Hid (Ix.gathered key f (pre ++ [(n, k, fr)]) = Ix.gathered key f pre) := by rw [Hid, HSN.out, if_neg (by simp [Ix.isRead, h1])]
        have q1 : (k == key) = false := beq_eq_false_iff_ne.2 h1
        clear hrow hbx k1 k2 hB bX hr h1
        gi_wp2_with fail
        exact ⟨(KeepsOthers.refl W).from _, Below.refl _ _, by rw [RdAt, HGS.out]; exact HI.out⟩
    case done =>
      rintro D ys W hD rfl ⟨⟨v, hbx, hrow, -⟩, k1, k2, hB⟩ hK
      have cb := hbx.cell
      have HROW := Lib.hid hrow
      have HBB := Lib.hid hB
      have HK := Lib.hid hK
      clear hrow hbx k1 k2 hB hK
      gi_wp2_with fail
      refine ⟨by simp, .inl ⟨_, _, rfl, run_takeDeferred HK.out, ?_⟩⟩
      refine ⟨_, results_tmp rfl _ _ _, v, rfl, ?_, HBB.out.trans (belowK_b (w := w) (Nat.le_refl _) W D _ _ (by omega) HK.out rfl rfl)⟩
      rw [HR.out, ← Ix.gathered_all HG.out]
      exact ns_own (ownsRow_putObj HROW.out _ HK.out rfl)
    case stop =>
      rintro D c pre W _ _ hF _
      exact hF.elim
end Go.Proofs.Ytahacjfeopjbaaa
/-
  What index's From answers: from whom a transaction reads a key.
  Conditions: a history's rows have at most 2^32 elements each.
  (This program has not all of these functions: results_from, from9_at are left out here.)
-/
set_option maxRecDepth 4000
namespace Go.Proofs.Ytahacjfeopjbaaa
open Go.RowKit

attribute [local go_sem] Oper.semAt_some

/-- A number and whether there is one. -/
def RetFrom (w : World) (o : Option Int) (e : Ending) (w' : World) : Prop := e = .returned (.tuple #[.int .i64 (Ix.numOf o), .bool o.isSome]) ∧ Below w.heap.size w w'
/-- What From holds between two rounds, and where it has found the read. -/
def FrAt (w : World) (t key : Int) (n : Nat) (pre : List (Nat × Int × Int)) (W : World) : Prop :=
  Boxed W (w.heap.size + 1) 3 (.int .i64 t) ∧ Boxed W (w.heap.size + 2) 3 (.int .i64 key) ∧ Boxed W (w.heap.size + 3) 3 (.int .i64 0) ∧ Boxed W (w.heap.size + 4) 4 (.bool false) ∧ (∀ x ∈ pre, Ix.isAt t key x = false) ∧ n ≤ W.heap.size ∧ Below w.heap.size w W
def FrOut (w : World) (t key : Int) (c : Code) (pre : List (Nat × Int × Int)) (W : World) : Prop :=
  c = .ret ∧ ∃ x ∈ pre, Ix.isAt t key x = true ∧ Boxed W (w.heap.size + 3) 3 (.int .i64 x.2.2) ∧ Boxed W (w.heap.size + 4) 4 (.bool true) ∧ Below w.heap.size w W
theorem frAt_own (w : World) (t key : Int) (n B : Nat) (hB : w.heap.size ≤ B) : OwnFrom B (FrAt w t key n) := fun _ _ _ _ h hg hr =>
  ⟨boxes_last hg hr h.1, boxes_last hg hr h.2.1, boxes_last hg hr h.2.2.1, boxes_last hg hr h.2.2.2.1, h.2.2.2.2.1, Nat.le_trans h.2.2.2.2.2.1 hg.size, below_last hg hr (Nat.le_refl _) hB h.2.2.2.2.2.2⟩
theorem frOut_own (w : World) (t key : Int) (B : Nat) (hB : w.heap.size ≤ B) (c : Code) : OwnFrom B (FrOut w t key c) := fun _ _ _ _ h hg hr => by
  obtain ⟨hc, x, hx, hq, k3, k4, hb⟩ := h
  exact ⟨hc, x, hx, hq, boxes_last hg hr k3, boxes_last hg hr k4, below_last hg hr (Nat.le_refl _) hB hb⟩

/-- Both result variables are written. -/
theorem put_both {W : World} {b : Nat} {u v : Value} (k3 : Boxed W (b + 3) 3 u) (k4 : Boxed W (b + 4) 4 v) (x y : Value) : Boxed ((W.setCell ⟨b + 3, 0, none⟩ x).setCell ⟨b + 4, 0, none⟩ y) (b + 3) 3 x ∧ Boxed ((W.setCell ⟨b + 3, 0, none⟩ x).setCell ⟨b + 4, 0, none⟩ y) (b + 4) 4 y :=
  ⟨(k3.set x).other (by omega) y, (k4.other (by omega) x).set y⟩
theorem below_both {w W : World} (h : Below w.heap.size w W) (x y : Value) : Below w.heap.size w ((W.setCell ⟨w.heap.size + 3, 0, none⟩ x).setCell ⟨w.heap.size + 4, 0, none⟩ y) :=
  (h.setCell (p := ⟨w.heap.size + 3, 0, none⟩) (by simp) x).setCell (p := ⟨w.heap.size + 4, 0, none⟩) (by simp) y
theorem keeps_both (W : World) (b : Nat) (x y : Value) : KeepsOthers W ((W.setCell ⟨b + 3, 0, none⟩ x).setCell ⟨b + 4, 0, none⟩ y) := (KeepsOthers.setCell _ _ _).trans (KeepsOthers.setCell _ _ _)

end Go.Proofs.Ytahacjfeopjbaaa
