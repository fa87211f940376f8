/-
  Several texts in one, each with its own first words: GfPlain, GfSteps, GfMem, GfFrame, GfWalkA, GfWalkB, GfWalkC, GfWalkD, GfWalkE, GfWalkF, GfWalkG, GfUse.
  Conditions: as each says.
-/
import Derived.Test.YtahacjfeopjbaaaBiAll
import Derived.Test.YtahacjfeopjbaaaStAll
import Derived.Test.YtahacjfeopjbaaaLow
import Derived.Laws.ResultCell
import Derived.Lib.SmallJoins
import Derived.Laws.Bits64b
import Derived.Laws.CopyOwn
/-
  Plain facts on graphs as rows of sets: what a graph is, its edges, unions, compositions and turns, bit by bit.
  Conditions: none beyond those that each theorem states.
-/
set_option maxRecDepth 4000
namespace Go.Proofs.Ytahacjfeopjbaaa
namespace Gf

/-- Has a row of sets an edge? -/
def bit (l : List Nat) (x y : Nat) : Bool := (l.getD x 0).testBit y
/-- A graph of n nodes. -/
def Ok (n : Nat) (l : List Nat) : Prop := n ≤ 64 ∧ l.length = n ∧ ∀ s ∈ l, s < 2 ^ n
theorem bit_at {l : List Nat} {x : Nat} (h : x < l.length) (y : Nat) : bit l x y = l[x].testBit y := by rw [bit, List.getD_eq_getElem?_getD, List.getElem?_eq_getElem h]; rfl
theorem bit_far {l : List Nat} {x : Nat} (h : l.length ≤ x) (y : Nat) : bit l x y = false := by rw [bit, List.getD_eq_getElem?_getD, List.getElem?_eq_none h]; simp
theorem Ok.small {n : Nat} {l : List Nat} (h : Ok n l) {s : Nat} (hs : s ∈ l) : s < 2 ^ 64 := Nat.lt_of_lt_of_le (h.2.2 s hs) (Nat.pow_le_pow_right (by decide) h.1)
theorem Ok.node {n : Nat} {l : List Nat} (h : Ok n l) {x y : Nat} (hb : bit l x y = true) : x < n ∧ y < n := by
  rcases Nat.lt_or_ge x l.length with hx | hx
  · refine ⟨by rw [← h.2.1]; exact hx, ?_⟩
    rcases Nat.lt_or_ge y n with hy | hy
    · exact hy
    · rw [bit_at hx, Nat.testBit_lt_two_pow (Nat.lt_of_lt_of_le (h.2.2 _ (List.getElem_mem hx)) (Nat.pow_le_pow_right (by decide) hy))] at hb
      cases hb
  · rw [bit_far hx] at hb
    cases hb
/-- Two graphs with the same edges are one. -/
theorem same {n : Nat} {l m : List Nat} (hl : Ok n l) (hm : Ok n m) (h : ∀ x y, x < n → y < n → bit l x y = bit m x y) : l = m := by
  apply List.ext_getElem
  · rw [hl.2.1, hm.2.1]
  · intro x hx hx'
    refine Bi.same (hl.small (List.getElem_mem hx)) (hm.small (List.getElem_mem hx')) fun y _ => ?_
    rw [← bit_at hx, ← bit_at hx']
    rcases Nat.lt_or_ge y n with hy | hy
    · exact h x y (by rw [← hl.2.1]; exact hx) hy
    · have e : ∀ k : List Nat, Ok n k → bit k x y = false := fun k hk => by
        cases hb : bit k x y with
        | false => rfl
        | true => have := (hk.node hb).2; omega
      rw [e l hl, e m hm]

/-- The set of the numbers below k for which p holds. -/
def setTo (p : Nat → Bool) (k : Nat) : Nat := (List.range k).foldl (fun s y => if p y = true then Bi.withN s (y : Int) else s) 0
theorem setTo_zero (p : Nat → Bool) : setTo p 0 = 0 := rfl
theorem setTo_next (p : Nat → Bool) (k : Nat) : setTo p (k + 1) = if p k = true then Bi.withN (setTo p k) (k : Int) else setTo p k := by
  rw [setTo, List.range_succ, List.foldl_append]
  rfl
theorem setTo_bit (p : Nat → Bool) (k j : Nat) (hk : k ≤ 64) : (setTo p k).testBit j = (decide (j < k) && p j) := by
  induction k with
  | zero => rw [setTo_zero, Nat.zero_testBit]; simp
  | succ k ih =>
    have hi := ih (by omega)
    rw [setTo_next]
    split
    · rename_i hp
      rw [Bi.with_bit, hi, Bi.ok_of k (by omega), Int.toNat_natCast, Bool.true_and]
      by_cases e : k = j
      · subst e
        simp [hp]
      · have e1 : decide (j < k + 1) = decide (j < k) := by
          by_cases q : j < k
          · rw [decide_eq_true q, decide_eq_true (by omega)]
          · rw [decide_eq_false q, decide_eq_false (by omega)]
        rw [e1, decide_eq_false e, Bool.or_false]
    · rename_i hp
      rw [hi]
      by_cases e : k = j
      · subst e
        have : p k = false := by cases h : p k with
          | false => rfl
          | true => exact absurd h hp
        simp [this]
      · have e1 : decide (j < k + 1) = decide (j < k) := by
          by_cases q : j < k
          · rw [decide_eq_true q, decide_eq_true (by omega)]
          · rw [decide_eq_false q, decide_eq_false (by omega)]
        rw [e1]
theorem setTo_lt (p : Nat → Bool) (k : Nat) (hk : k ≤ 64) : setTo p k < 2 ^ k :=
  Nat.lt_pow_two_of_testBit _ fun j hj => by rw [setTo_bit p k j hk, decide_eq_false (by omega)]; rfl

/-- The graph of n nodes in which x has an edge to y just if f says so. -/
def build (n : Nat) (f : Nat → Nat → Bool) : List Nat := (List.range n).map fun x => setTo (f x) n
theorem build_len (n : Nat) (f : Nat → Nat → Bool) : (build n f).length = n := by rw [build, List.length_map, List.length_range]
theorem build_ok {n : Nat} (hn : n ≤ 64) (f : Nat → Nat → Bool) : Ok n (build n f) := by
  refine ⟨hn, build_len n f, fun s hs => ?_⟩
  obtain ⟨x, _, rfl⟩ := List.mem_map.1 hs
  exact setTo_lt _ _ hn
theorem build_at {n : Nat} (f : Nat → Nat → Bool) {x : Nat} (hx : x < (build n f).length) : (build n f)[x] = setTo (f x) n := by simp [build]
theorem build_bit {n : Nat} (hn : n ≤ 64) (f : Nat → Nat → Bool) (x y : Nat) : bit (build n f) x y = (decide (x < n) && (decide (y < n) && f x y)) := by
  rcases Nat.lt_or_ge x n with hx | hx
  · rw [bit_at (by rw [build_len]; exact hx), build_at, setTo_bit _ _ _ hn, decide_eq_true hx, Bool.true_and]
  · rw [bit_far (by rw [build_len]; exact hx), decide_eq_false (by omega)]
    rfl
/-- What is right of a graph by its edges. -/
theorem build_is {n : Nat} {l : List Nat} (hl : Ok n l) {f : Nat → Nat → Bool} (h : ∀ x y, x < n → y < n → bit l x y = f x y) : l = build n f :=
  same hl (build_ok hl.1 f) fun x y hx hy => by rw [h x y hx hy, build_bit hl.1, decide_eq_true hx, decide_eq_true hy]; rfl

def unionR (n : Nat) (a b : List Nat) : List Nat := build n fun x y => bit a x y || bit b x y
def composeR (n : Nat) (a b : List Nat) : List Nat := build n fun x z => (List.range n).any fun y => bit a x y && bit b y z
def turnR (n : Nat) (g : List Nat) : List Nat := build n fun x y => bit g y x
def addR (l : List Nat) (x y : Nat) : List Nat := l.set x (Bi.withN (l.getD x 0) (y : Int))

theorem turn_bit {n : Nat} {g : List Nat} (h : Ok n g) (x y : Nat) : bit (turnR n g) x y = bit g y x := by
  rw [turnR, build_bit h.1]
  cases hb : bit g y x with
  | false => simp
  | true =>
    obtain ⟨h1, h2⟩ := h.node hb
    rw [decide_eq_true h1, decide_eq_true h2]
    rfl
theorem union_bit {n : Nat} {a b : List Nat} (ha : Ok n a) (hb : Ok n b) (x y : Nat) : bit (unionR n a b) x y = (bit a x y || bit b x y) := by
  rw [unionR, build_bit ha.1]
  cases h : (bit a x y || bit b x y) with
  | false => simp
  | true =>
    have : x < n ∧ y < n := by
      rw [Bool.or_eq_true] at h
      rcases h with h | h
      · exact ha.node h
      · exact hb.node h
    rw [decide_eq_true this.1, decide_eq_true this.2]
    rfl
theorem compose_bit {n : Nat} {a b : List Nat} (ha : Ok n a) (hb : Ok n b) (x z : Nat) : bit (composeR n a b) x z = (List.range n).any fun y => bit a x y && bit b y z := by
  rw [composeR, build_bit ha.1]
  cases h : (List.range n).any fun y => bit a x y && bit b y z with
  | false => simp
  | true =>
    rw [List.any_eq_true] at h
    obtain ⟨y, _, hy⟩ := h
    rw [Bool.and_eq_true] at hy
    rw [decide_eq_true (ha.node hy.1).1, decide_eq_true (hb.node hy.2).2]
    rfl
/-- A graph turned twice is the same. -/
theorem turn_turn {n : Nat} {g : List Nat} (h : Ok n g) : turnR n (turnR n g) = g :=
  (build_is h fun x y _ _ => (turn_bit h y x).symm).symm
/-- A composition turned is that of both turned, the other way round. -/
theorem turn_compose {n : Nat} {a b : List Nat} (ha : Ok n a) (hb : Ok n b) : turnR n (composeR n a b) = composeR n (turnR n b) (turnR n a) := by
  have hc : Ok n (composeR n a b) := build_ok ha.1 _
  refine same (build_ok ha.1 _) (build_ok ha.1 _) fun x y _ _ => ?_
  rw [turn_bit hc, compose_bit ha hb, compose_bit (show Ok n (turnR n b) from build_ok ha.1 _) (show Ok n (turnR n a) from build_ok ha.1 _)]
  congr 1
  funext z
  rw [turn_bit hb, turn_bit ha, Bool.and_comm]
theorem union_self {n : Nat} {a : List Nat} (ha : Ok n a) : unionR n a a = a := (build_is ha fun _ _ _ _ => (Bool.or_self _).symm).symm
theorem union_comm {n : Nat} (a b : List Nat) : unionR n a b = unionR n b a := by
  unfold unionR
  congr 1
  funext x y
  exact Bool.or_comm _ _

/-- Row by row: a union's row is both rows' join. -/
theorem union_row {n : Nat} {a b : List Nat} (ha : Ok n a) (hb : Ok n b) {x : Nat} (hx : x < n) : setTo (fun y => bit a x y || bit b x y) n = a.getD x 0 ||| b.getD x 0 := by
  have e : ∀ l : List Nat, Ok n l → l.getD x 0 < 2 ^ 64 := fun l hl => by
    have hxl : x < l.length := by rw [hl.2.1]; exact hx
    rw [List.getD_eq_getElem?_getD, List.getElem?_eq_getElem hxl]
    exact hl.small (List.getElem_mem hxl)
  refine Bi.same (Nat.lt_of_lt_of_le (setTo_lt _ _ ha.1) (Nat.pow_le_pow_right (by decide) ha.1)) (Nat.or_lt_two_pow (e a ha) (e b hb)) fun y _ => ?_
  rw [setTo_bit _ _ _ ha.1, Nat.testBit_or]
  show (decide (y < n) && (bit a x y || bit b x y)) = (bit a x y || bit b x y)
  cases h : (bit a x y || bit b x y) with
  | false => simp
  | true =>
    rw [Bool.or_eq_true] at h
    rw [decide_eq_true (by rcases h with h | h; exact (ha.node h).2; exact (hb.node h).2)]
    rfl
/-- A composition's row is the join of the rows of all to which there is an edge. -/
theorem compose_row {n : Nat} {a b : List Nat} (ha : Ok n a) (hb : Ok n b) {x : Nat} (hx : x < n) : setTo (fun z => (List.range n).any fun y => bit a x y && bit b y z) n = Bi.join ((Bi.list (a.getD x 0)).map fun y => b.getD y 0) := by
  have hrow : ∀ y, b.getD y 0 < 2 ^ 64 := fun y => by
    rcases Nat.lt_or_ge y b.length with h | h
    · rw [List.getD_eq_getElem?_getD, List.getElem?_eq_getElem h]; exact hb.small (List.getElem_mem h)
    · rw [List.getD_eq_getElem?_getD, List.getElem?_eq_none h]; exact Nat.two_pow_pos 64
  refine Bi.same (Nat.lt_of_lt_of_le (setTo_lt _ _ ha.1) (Nat.pow_le_pow_right (by decide) ha.1)) (Bi.join_lt fun s hs => ?_) fun z _ => ?_
  · obtain ⟨y, _, rfl⟩ := List.mem_map.1 hs
    exact hrow y
  · rw [setTo_bit _ _ _ ha.1, Bi.join_at, List.any_map]
    have hxa : x < a.length := by rw [ha.2.1]; exact hx
    rw [Bool.eq_iff_iff, Bool.and_eq_true, List.any_eq_true, List.any_eq_true]
    constructor
    · rintro ⟨_, y, hy, h⟩
      rw [Bool.and_eq_true] at h
      exact ⟨y, Bi.mem_list.2 ⟨Nat.lt_of_lt_of_le (ha.node h.1).2 ha.1, h.1⟩, h.2⟩
    · rintro ⟨y, hy, h⟩
      have h1 : bit a x y = true := (Bi.mem_list.1 hy).2
      have h2 : bit b y z = true := h
      exact ⟨decide_eq_true (hb.node h2).2, y, List.mem_range.2 (ha.node h1).2, by rw [h1, h2]; rfl⟩

/-- One edge more. -/
theorem add_len (l : List Nat) (x y : Nat) : (addR l x y).length = l.length := List.length_set
theorem add_bit {n : Nat} {l : List Nat} (h : Ok n l) {x y : Nat} (hx : x < n) (hy : y < n) (u v : Nat) : bit (addR l x y) u v = (bit l u v || (decide (u = x) && decide (v = y))) := by
  have hxl : x < l.length := by rw [h.2.1]; exact hx
  rcases Nat.lt_or_ge u l.length with hu | hu
  · rw [bit_at (by rw [add_len]; exact hu), bit_at hu]
    unfold addR
    rw [List.getElem_set]
    by_cases e : x = u
    · subst e
      rw [if_pos rfl, Bi.with_bit, Bi.ok_of y (Nat.lt_of_lt_of_le hy h.1), Int.toNat_natCast, List.getD_eq_getElem?_getD, List.getElem?_eq_getElem hxl, decide_eq_true rfl, Bool.true_and, Bool.true_and]
      have : decide (y = v) = decide (v = y) := by rw [Bool.eq_iff_iff, decide_eq_true_iff, decide_eq_true_iff]; exact eq_comm
      rw [this]
      rfl
    · rw [if_neg e, decide_eq_false (fun q => e q.symm), Bool.false_and, Bool.or_false]
  · rw [bit_far (by rw [add_len]; exact hu), bit_far hu, decide_eq_false (by omega)]
    rfl
theorem add_ok {n : Nat} {l : List Nat} (h : Ok n l) {x y : Nat} (hx : x < n) (hy : y < n) : Ok n (addR l x y) := by
  refine ⟨h.1, (add_len l x y).trans h.2.1, fun s hs => ?_⟩
  rcases List.mem_or_eq_of_mem_set hs with q | rfl
  · exact h.2.2 s q
  · have hxl : x < l.length := by rw [h.2.1]; exact hx
    refine Nat.lt_pow_two_of_testBit _ fun j hj => ?_
    rw [Bi.with_bit, List.getD_eq_getElem?_getD, List.getElem?_eq_getElem hxl]
    have h1 : l[x].testBit j = false := Nat.testBit_lt_two_pow (Nat.lt_of_lt_of_le (h.2.2 _ (List.getElem_mem hxl)) (Nat.pow_le_pow_right (by decide) hj))
    show (l[x].testBit j || _) = false
    rw [h1, Int.toNat_natCast, decide_eq_false (by omega), Bool.and_false]
    rfl
/-- A graph without edges. -/
def zeros (n : Nat) : List Nat := List.replicate n 0
theorem zeros_ok {n : Nat} (h : n ≤ 64) : Ok n (zeros n) := ⟨h, List.length_replicate, fun s hs => by rw [List.eq_of_mem_replicate hs]; exact Nat.two_pow_pos n⟩
theorem zeros_bit (n x y : Nat) : bit (zeros n) x y = false := by
  rcases Nat.lt_or_ge x (zeros n).length with h | h
  · have e : (zeros n)[x] = 0 := List.getElem_replicate _
    rw [bit_at h, e, Nat.zero_testBit]
  · exact bit_far h y

/-- All edges, by the first node and then by the second. -/
def edges (l : List Nat) : List (Nat × Nat) := (List.range l.length).flatMap fun x => (Bi.list (l.getD x 0)).map fun y => (x, y)
theorem mem_edges {n : Nat} {l : List Nat} (h : Ok n l) {e : Nat × Nat} : e ∈ edges l ↔ bit l e.1 e.2 = true := by
  obtain ⟨x, y⟩ := e
  rw [edges, List.mem_flatMap]
  constructor
  · rintro ⟨u, hu, he⟩
    obtain ⟨v, hv, e⟩ := List.mem_map.1 he
    cases e
    exact (Bi.mem_list.1 hv).2
  · intro hb
    obtain ⟨hx, hy⟩ := h.node hb
    exact ⟨x, List.mem_range.2 (by rw [h.2.1]; exact hx), List.mem_map.2 ⟨y, Bi.mem_list.2 ⟨Nat.lt_of_lt_of_le hy h.1, hb⟩, rfl⟩⟩
/-- The edges rise. -/
def Less (a b : Nat × Nat) : Prop := a.1 < b.1 ∨ a.1 = b.1 ∧ a.2 < b.2
theorem edges_rise (l : List Nat) : (edges l).Pairwise Less := by
  unfold edges
  rw [List.pairwise_flatMap]
  refine ⟨fun x _ => ?_, ?_⟩
  · rw [List.pairwise_map]
    exact (Bi.list_rise _).imp fun h => .inr ⟨rfl, h⟩
  · refine List.pairwise_lt_range.imp fun {x y} h => fun a ha b hb => ?_
    obtain ⟨_, _, rfl⟩ := List.mem_map.1 ha
    obtain ⟨_, _, rfl⟩ := List.mem_map.1 hb
    exact .inl h
/-- A graph made of edges. -/
def madeOf (n : Nat) (es : List (Nat × Nat)) : List Nat := es.foldl (fun l e => addR l e.1 e.2) (zeros n)
theorem made_next (n : Nat) (es : List (Nat × Nat)) (e : Nat × Nat) : madeOf n (es ++ [e]) = addR (madeOf n es) e.1 e.2 := by rw [madeOf, List.foldl_append]; rfl
theorem made_bit {n : Nat} (hn : n ≤ 64) (es : List (Nat × Nat)) (h : ∀ e ∈ es, e.1 < n ∧ e.2 < n) : Ok n (madeOf n es) ∧ ∀ x y, bit (madeOf n es) x y = decide ((x, y) ∈ es) := by
  suffices H : ∀ (es : List (Nat × Nat)) (l : List Nat), Ok n l → (∀ e ∈ es, e.1 < n ∧ e.2 < n) → Ok n (es.foldl (fun l e => addR l e.1 e.2) l) ∧ ∀ x y, bit (es.foldl (fun l e => addR l e.1 e.2) l) x y = (bit l x y || decide ((x, y) ∈ es)) by
    obtain ⟨h1, h2⟩ := H es (zeros n) (zeros_ok hn) h
    exact ⟨h1, fun x y => (h2 x y).trans (by rw [zeros_bit, Bool.false_or])⟩
  intro es
  induction es with
  | nil => exact fun l hl _ => ⟨hl, fun x y => by simp⟩
  | cons e es ih =>
    intro l hl hes
    obtain ⟨hx, hy⟩ := hes e List.mem_cons_self
    obtain ⟨h1, h2⟩ := ih (addR l e.1 e.2) (add_ok hl hx hy) fun q hq => hes q (List.mem_cons_of_mem _ hq)
    refine ⟨h1, fun x y => (h2 x y).trans ?_⟩
    rw [add_bit hl hx hy, Bool.or_assoc]
    congr 1
    rw [Bool.eq_iff_iff, Bool.or_eq_true, Bool.and_eq_true, decide_eq_true_iff, decide_eq_true_iff, decide_eq_true_iff, decide_eq_true_iff, List.mem_cons]
    constructor
    · rintro (⟨rfl, rfl⟩ | q)
      · exact .inl rfl
      · exact .inr q
    · rintro (rfl | q)
      · exact .inl ⟨rfl, rfl⟩
      · exact .inr q
/-- A graph is what its edges make. -/
theorem made_edges {n : Nat} {l : List Nat} (h : Ok n l) : madeOf n (edges l) = l := by
  obtain ⟨h1, h2⟩ := made_bit h.1 (edges l) fun e he => h.node ((mem_edges h).1 he)
  refine same h1 h fun x y _ _ => ?_
  rw [h2, Bool.eq_iff_iff, decide_eq_true_iff]
  exact mem_edges h
end Gf
end Go.Proofs.Ytahacjfeopjbaaa
/-
  Plain facts on graphs, step by step, as loops over rows and columns make them; and whether rows of sets are a graph.
  Conditions: none beyond those that each theorem states.
-/
set_option maxRecDepth 4000
namespace Go.Proofs.Ytahacjfeopjbaaa
namespace Gf

/-! Numbers put into a set, one after the other. -/
def putTo (p : Nat → Bool) (k s : Nat) : Nat := (List.range k).foldl (fun s y => if p y = true then Bi.withN s (y : Int) else s) s
theorem putTo_zero (p : Nat → Bool) (s : Nat) : putTo p 0 s = s := rfl
theorem putTo_yes {p : Nat → Bool} {k : Nat} (h : p k = true) (s : Nat) : putTo p (k + 1) s = Bi.withN (putTo p k s) (k : Int) := by
  rw [putTo, List.range_succ, List.foldl_append]
  exact if_pos h
theorem putTo_no {p : Nat → Bool} {k : Nat} (h : p k = false) (s : Nat) : putTo p (k + 1) s = putTo p k s := by
  rw [putTo, List.range_succ, List.foldl_append]
  exact if_neg (by rw [h]; simp)
theorem putTo_bit (p : Nat → Bool) (k s j : Nat) (hk : k ≤ 64) : (putTo p k s).testBit j = (s.testBit j || (decide (j < k) && p j)) := by
  induction k with
  | zero => rw [putTo_zero]; simp
  | succ k ih =>
    have hi := ih (by omega)
    have hlt : k ≠ j → decide (j < k + 1) = decide (j < k) := fun e => by
      by_cases q : j < k
      · rw [decide_eq_true q, decide_eq_true (by omega)]
      · rw [decide_eq_false q, decide_eq_false (by omega)]
    cases hp : p k with
    | true =>
      rw [putTo_yes hp, Bi.with_bit, hi, Bi.ok_of k (by omega), Int.toNat_natCast, Bool.true_and]
      by_cases e : k = j
      · subst e
        simp [hp]
      · rw [hlt e, decide_eq_false e, Bool.or_false]
    | false =>
      rw [putTo_no hp, hi]
      by_cases e : k = j
      · subst e
        simp [hp]
      · rw [hlt e]
theorem putTo_lt (p : Nat → Bool) (k : Nat) {s : Nat} (hs : s < 2 ^ 64) : putTo p k s < 2 ^ 64 := by
  induction k with
  | zero => exact hs
  | succ k ih =>
    cases hp : p k with
    | true => rw [putTo_yes hp]; exact Bi.with_lt ih _
    | false => rw [putTo_no hp]; exact ih
theorem setTo_put (p : Nat → Bool) (k : Nat) : setTo p k = putTo p k 0 := rfl

/-! Rows that are made one after the other: those ahead of x are whole, row x is s, the others are empty. -/
def rowsAt (n : Nat) (f : Nat → Nat → Bool) (x s : Nat) : List Nat := (List.range n).map fun u => if u < x then setTo (f u) n else if u = x then s else 0
theorem rowsAt_len (n : Nat) (f : Nat → Nat → Bool) (x s : Nat) : (rowsAt n f x s).length = n := by rw [rowsAt, List.length_map, List.length_range]
theorem rowsAt_get {n : Nat} (f : Nat → Nat → Bool) {x : Nat} (s : Nat) {u : Nat} (hu : u < (rowsAt n f x s).length) : (rowsAt n f x s)[u] = if u < x then setTo (f u) n else if u = x then s else 0 := by simp [rowsAt]
theorem rowsAt_zero (n : Nat) (f : Nat → Nat → Bool) : rowsAt n f 0 0 = zeros n := by
  apply List.ext_getElem
  · rw [rowsAt_len, zeros, List.length_replicate]
  · intro u h1 h2
    have e : (zeros n)[u] = 0 := List.getElem_replicate _
    rw [rowsAt_get, e, if_neg (by omega), ite_self]
theorem rowsAt_here {n : Nat} (f : Nat → Nat → Bool) {x : Nat} (hx : x < n) (s : Nat) : (rowsAt n f x s)[x]'(by rw [rowsAt_len]; exact hx) = s := by rw [rowsAt_get, if_neg (by omega), if_pos rfl]
theorem rowsAt_set {n : Nat} (f : Nat → Nat → Bool) (x s t : Nat) : (rowsAt n f x s).set x t = rowsAt n f x t := by
  apply List.ext_getElem
  · rw [List.length_set, rowsAt_len, rowsAt_len]
  · intro u h1 h2
    rw [List.getElem_set, rowsAt_get, rowsAt_get]
    by_cases e : x = u
    · subst e
      rw [if_pos rfl, if_neg (by omega), if_pos rfl]
    · rw [if_neg e]
      have : u ≠ x := fun q => e q.symm
      rw [if_neg this, if_neg this]
theorem rowsAt_next {n : Nat} (f : Nat → Nat → Bool) (x : Nat) : rowsAt n f x (setTo (f x) n) = rowsAt n f (x + 1) 0 := by
  apply List.ext_getElem
  · rw [rowsAt_len, rowsAt_len]
  · intro u h1 h2
    rw [rowsAt_get, rowsAt_get]
    by_cases e : u < x
    · rw [if_pos e, if_pos (by omega)]
    · by_cases q : u = x
      · subst q
        rw [if_neg e, if_pos rfl, if_pos (Nat.lt_succ_self _)]
      · rw [if_neg e, if_neg q, if_neg (by omega), ite_self]
theorem rowsAt_all (n : Nat) (f : Nat → Nat → Bool) (s : Nat) : rowsAt n f n s = build n f := by
  apply List.ext_getElem
  · rw [rowsAt_len, build_len]
  · intro u h1 h2
    rw [rowsAt_len] at h1
    rw [rowsAt_get, build_at, if_pos h1]
theorem rowsAt_lt {n : Nat} (hn : n ≤ 64) (f : Nat → Nat → Bool) (x : Nat) {s : Nat} (hs : s < 2 ^ 64) : ∀ y ∈ rowsAt n f x s, y < 2 ^ 64 := by
  intro y hy
  obtain ⟨u, _, rfl⟩ := List.mem_map.1 hy
  split
  · exact Nat.lt_of_lt_of_le (setTo_lt _ _ hn) (Nat.pow_le_pow_right (by decide) hn)
  · split
    · exact hs
    · exact Nat.two_pow_pos 64

/-! A composition's row, by the y in between. -/
def midTo (a b : List Nat) (n x y : Nat) : Nat := (List.range y).foldl (fun s y => if bit a x y = true then putTo (bit b y) n s else s) 0
theorem midTo_zero (a b : List Nat) (n x : Nat) : midTo a b n x 0 = 0 := rfl
theorem midTo_yes {a b : List Nat} {n x y : Nat} (h : bit a x y = true) : midTo a b n x (y + 1) = putTo (bit b y) n (midTo a b n x y) := by
  rw [midTo, List.range_succ, List.foldl_append]
  exact if_pos h
theorem midTo_no {a b : List Nat} {n x y : Nat} (h : bit a x y = false) : midTo a b n x (y + 1) = midTo a b n x y := by
  rw [midTo, List.range_succ, List.foldl_append]
  exact if_neg (by rw [h]; simp)
theorem midTo_lt (a b : List Nat) (n x y : Nat) : midTo a b n x y < 2 ^ 64 := by
  induction y with
  | zero => exact Nat.two_pow_pos 64
  | succ y ih =>
    cases h : bit a x y with
    | true => rw [midTo_yes h]; exact putTo_lt _ _ ih
    | false => rw [midTo_no h]; exact ih
theorem midTo_bit {n : Nat} (hn : n ≤ 64) (a b : List Nat) (x y j : Nat) : (midTo a b n x y).testBit j = (decide (j < n) && (List.range y).any fun y => bit a x y && bit b y j) := by
  induction y with
  | zero => rw [midTo_zero, Nat.zero_testBit]; simp
  | succ y ih =>
    rw [List.range_succ, List.any_append]
    simp only [List.any_cons, List.any_nil, Bool.or_false]
    cases h : bit a x y with
    | true => rw [midTo_yes h, putTo_bit _ _ _ _ hn, ih, Bool.true_and, ← Bool.and_or_distrib_left]
    | false => rw [midTo_no h, ih, Bool.false_and, Bool.or_false]
theorem midTo_all {n : Nat} (hn : n ≤ 64) (a b : List Nat) (x : Nat) : midTo a b n x n = setTo (fun z => (List.range n).any fun y => bit a x y && bit b y z) n :=
  Bi.same (midTo_lt _ _ _ _ _) (Nat.lt_of_lt_of_le (setTo_lt _ _ hn) (Nat.pow_le_pow_right (by decide) hn)) fun j _ => by rw [midTo_bit hn, setTo_bit _ _ _ hn]

/-! Whether rows of sets are a graph. -/
theorem row_lt {n s : Nat} (hs : s < 2 ^ 64) : s < 2 ^ n ↔ ∀ k, n ≤ k → k < 64 → s.testBit k = false := by
  constructor
  · exact fun h k hk _ => Nat.testBit_lt_two_pow (Nat.lt_of_lt_of_le h (Nat.pow_le_pow_right (by decide) hk))
  · intro h
    refine Nat.lt_pow_two_of_testBit _ fun k hk => ?_
    rcases Nat.lt_or_ge k 64 with q | q
    · exact h k hk q
    · exact Nat.testBit_lt_two_pow (Nat.lt_of_lt_of_le hs (Nat.pow_le_pow_right (by decide) q))
def okB (n : Int) (l : List Nat) : Bool := decide (0 ≤ n) && (decide (n ≤ 64) && (decide ((l.length : Int) = n) && l.all fun s => decide (s < 2 ^ n.toNat)))
theorem okB_iff {n : Int} {l : List Nat} : okB n l = true ↔ ∃ k : Nat, n = (k : Int) ∧ Ok k l := by
  simp only [okB, Bool.and_eq_true, decide_eq_true_iff, List.all_eq_true]
  constructor
  · rintro ⟨h0, h1, h2, h3⟩
    obtain ⟨k, rfl⟩ : ∃ k : Nat, n = (k : Int) := ⟨n.toNat, by omega⟩
    rw [Int.toNat_natCast] at h3
    exact ⟨k, rfl, by omega, by omega, h3⟩
  · rintro ⟨k, rfl, h1, h2, h3⟩
    rw [Int.toNat_natCast]
    exact ⟨by omega, by omega, by omega, h3⟩
theorem okB_nat (n : Nat) (l : List Nat) : okB (n : Int) l = true ↔ Ok n l := by
  rw [okB_iff]
  constructor
  · rintro ⟨k, h, hk⟩
    obtain rfl : n = k := by omega
    exact hk
  · exact fun h => ⟨n, rfl, h⟩
/-- A row with a number that is no node: no graph. -/
theorem okB_no {n k : Nat} {l : List Nat} {i : Nat} (hi : i < l.length) (hk : n ≤ k) (hb : l[i].testBit k = true) : okB (n : Int) l = false := by
  cases h : okB (n : Int) l with
  | false => rfl
  | true =>
    have := Nat.testBit_lt_two_pow (Nat.lt_of_lt_of_le (((okB_nat n l).1 h).2.2 _ (List.getElem_mem hi)) (Nat.pow_le_pow_right (by decide) hk))
    rw [this] at hb
    cases hb
/-- The first i rows have nodes alone. -/
def clearTo (n : Nat) (l : List Nat) (i : Nat) : Prop := ∀ s ∈ l.take i, s < 2 ^ n
theorem clearTo_zero (n : Nat) (l : List Nat) : clearTo n l 0 := fun _ h => by cases h
theorem clearTo_next {n : Nat} {l : List Nat} {i : Nat} (h : clearTo n l i) (hi : i < l.length) (hs : l[i] < 2 ^ n) : clearTo n l (i + 1) := by
  intro s h1
  rw [List.take_succ_eq_append_getElem hi] at h1
  rcases List.mem_append.1 h1 with q | q
  · exact h s q
  · rw [List.mem_singleton.1 q]; exact hs
theorem clearTo_all {n : Nat} {l : List Nat} (h : clearTo n l l.length) (hn : n ≤ 64) (hl : l.length = n) : Ok n l := ⟨hn, hl, fun s hs => h s (by rw [List.take_length]; exact hs)⟩
end Gf
end Go.Proofs.Ytahacjfeopjbaaa
/-
  Words for graphs in memory: a row of sets of the call's own, made and filled; what calls on graphs hand back.
  Conditions: none beyond those that each theorem states.
-/
set_option maxRecDepth 4000
namespace Go.Proofs.Ytahacjfeopjbaaa
open Go.RowKit

theorem gf_info : (Try.prog.info? 58).map (fun i => (i.zero, i.size, i.bytes)) = some (some (.int .u64 0), 1, 8) := by kernel_rfl
theorem gf_new (w : World) (n : Nat) (e : TypeId) : ∀ j u, (uC n)[j]? = some u → (w.alloc (.cells #[.int .u64 (n : Int)] e)).cell? ((⟨w.heap.size, 0, none⟩ : Addr).add j) = some u := new_row w (uC n) e
theorem gf_ones (l : List Nat) : ∀ u ∈ l.flatMap uC, u.oneCell' = true := by
  intro u hu
  obtain ⟨y, _, hy⟩ := List.mem_flatMap.1 hu
  exact one_uC y u hy
theorem uC_flat (l : List Nat) : (l.flatMap uC).length = l.length := by rw [flat_len uC_len, Nat.mul_one]
theorem uC_at (l : List Nat) (k : Nat) (hk : k < l.length) : (l.flatMap uC)[k]? = some (.int .u64 (l[k] : Int)) := by
  have := flat_at uC_len l k hk 0 (by omega)
  rw [Nat.mul_one, Nat.add_zero] at this
  rw [this]
  rfl
theorem uC_set (l : List Nat) (k : Nat) (hk : k < l.length) (x : Nat) : (l.flatMap uC).set k (.int .u64 (x : Int)) = (l.set k x).flatMap uC := by
  have := flat_set uC_len l k hk 0 (by omega) x (.int .u64 (x : Int)) rfl
  rw [Nat.mul_one, Nat.add_zero] at this
  exact this
theorem uC_zeros (n : Nat) : (Gf.zeros n).flatMap uC = List.replicate n (.int .u64 0) := by
  induction n with
  | zero => rfl
  | succ n ih =>
    rw [show Gf.zeros (n + 1) = 0 :: Gf.zeros n from List.replicate_succ, List.flatMap_cons, ih, List.replicate_succ]
    rfl

/-- A row of sets of the call's own. -/
def OwnU (w : World) (base : Nat) (v : Value) (l : List Nat) : Prop := w.ownsRow base 58 1 v l.length (l.flatMap uC)
section
variable {w w' : World} {base g c : Nat} {v : Value} {l : List Nat}
theorem OwnU.us (h : OwnU w base v l) : Us w v l := Rows'.own h
theorem OwnU.below (h : OwnU w base v l) (hb : Below w.heap.size w w') : OwnU w' base v l := own_below h hb
theorem OwnU.nil (w : World) (base : Nat) : OwnU w base (.slice none 0 0) [] := World.ownsRow_nil _ _ _ _
theorem OwnU.form (h : OwnU w base v l) : ∃ A c, v = .slice A l.length c := own_form h
theorem OwnU.cell (h : OwnU w base (.slice (some ⟨g, 0, none⟩) l.length c) l) (k : Nat) (hk : k < l.length) : w.cell? ⟨g, k, none⟩ = some (.int .u64 (l[k] : Int)) := by
  rw [World.ownsRow.cellAt h k (by omega), uC_at l k hk]
theorem OwnU.frozen (h : OwnU w base (.slice (some ⟨g, 0, none⟩) l.length c) l) (k : Nat) : w.frozen? ⟨g, k, none⟩ = false := by
  rcases h.2 with ⟨h', _⟩ | ⟨g', cap', cur, h', _, hg, _⟩
  · cases h'
  · cases h'
    exact frozen_of_row w g k cur _ hg
theorem OwnU.lt (h : OwnU w base (.slice (some ⟨g, 0, none⟩) l.length c) l) : base ≤ g ∧ g < w.heap.size := World.ownsRow.lt h g rfl
theorem OwnU.put (h : OwnU w base (.slice (some ⟨g, 0, none⟩) l.length c) l) (k : Nat) (hk : k < l.length) (x : Nat) : OwnU (w.setCell ⟨g, k, none⟩ (.int .u64 (x : Int))) base (.slice (some ⟨g, 0, none⟩) l.length c) (l.set k x) := by
  have := (World.ownsRow.stored h k (.int .u64 (x : Int))).1
  rw [uC_set l k hk x] at this
  unfold OwnU
  rw [List.length_set]
  exact this
/-- A row that is made. -/
theorem OwnU.made (w : World) (n : Nat) (hn : n ≤ maxLen) (hb : base ≤ w.heap.size) : OwnU (w.alloc (.cells (madeCells #[.int .u64 0] n) 58)) base (.slice (some ⟨w.heap.size, 0, none⟩) n n) (Gf.zeros n) := by
  have := World.ownsRow_lit (base := base) (e := 58) (size := 1) w (madeCells #[.int .u64 0] n) n hb hn (by rw [size_madeCells, Nat.mul_one])
  rw [toList_madeCells_one, ← uC_zeros] at this
  unfold OwnU
  rw [show (Gf.zeros n).length = n from List.length_replicate]
  exact this
end
/-- A row of sets that fills its block, at its head. -/
def RowU (W : World) (g : Nat) (l : List Nat) : Prop := W.heap[g]? = some (.cells (l.flatMap uC).toArray 58 (0, 0))
section
variable {W W' : World} {base g : Nat} {l : List Nat}
theorem RowU.own (h : RowU W g l) (hb : base ≤ g) (hl : l.length ≤ maxLen) : OwnU W base (.slice (some ⟨g, 0, none⟩) l.length l.length) l :=
  ⟨by rw [uC_flat, Nat.mul_one], .inr ⟨g, l.length, (l.flatMap uC).toArray, rfl, hb, h, Nat.le_refl _, hl, by rw [List.size_toArray, uC_flat, Nat.mul_one], by rw [Nat.mul_one]; exact List.take_of_length_le (by rw [uC_flat]; exact Nat.le_refl _)⟩⟩
theorem RowU.cell (h : RowU W g l) (k : Nat) (hk : k < l.length) : W.cell? ⟨g, k, none⟩ = some (.int .u64 (l[k] : Int)) := by
  rw [cell_of_row W g k _ _ (0, 0) h, List.getElem?_toArray, uC_at l k hk]
theorem RowU.frozen (h : RowU W g l) (k : Nat) : W.frozen? ⟨g, k, none⟩ = false := frozen_of_row W g k _ _ h
theorem RowU.lt (h : RowU W g l) : g < W.heap.size := (Array.getElem?_eq_some_iff.1 h).1
theorem RowU.put (h : RowU W g l) (k : Nat) (hk : k < l.length) (x : Nat) : RowU (W.setCell ⟨g, k, none⟩ (.int .u64 (x : Int))) g (l.set k x) := by
  have := heap_setCell_same W g k _ _ (.int .u64 (x : Int)) h
  rw [List.setIfInBounds_toArray, uC_set l k hk x] at this
  exact this
theorem RowU.later (h : RowU W g l) (hb : Below W.heap.size W W') : RowU W' g l := (hb.block g h.lt).trans h
theorem RowU.far (h : RowU W g l) (p : Addr) (hp : p.block ≠ g) (x : Value) : RowU (W.setCell p x) g l := (Below.heap_setCell W p x g (fun e => hp e.symm)).trans h
theorem RowU.made (W : World) (n : Nat) : RowU (W.alloc (.cells (madeCells #[.int .u64 0] n) 58)) W.heap.size (Gf.zeros n) := by
  have e : madeCells #[.int .u64 0] n = ((Gf.zeros n).flatMap uC).toArray := by
    apply Array.ext'
    rw [toList_madeCells_one, uC_zeros]
  rw [RowU, ← e]
  exact World.alloc_heap_new W _
end
theorem two_far {W : World} {b : Nat} {t : TypeId} {u0 u1 : Value} (h : Two W b t u0 u1) (p : Addr) (hp : p.block ≠ b) (x : Value) : Two (W.setCell p x) b t u0 u1 := (Below.heap_setCell W p x b (fun e => hp e.symm)).trans h
theorem two_put1 {W : World} {b : Nat} {t : TypeId} {u0 u1 x : Value} (h : Two W b t u0 u1) : Two (W.setCell ⟨b, 1, none⟩ x) b t u0 x := heap_setCell_same W b 1 _ t x h
theorem two_at {W W' : World} {b g : Nat} {t : TypeId} {u0 u1 : Value} (h : Two W b t u0 u1) (hb : Below g W W') (hg : b < g) : Two W' b t u0 u1 := (hb.block b hg).trans h
/-- 'make' of a row of sets. -/
theorem gf_make (w : World) (n : Nat) (hn : n ≤ 4294967296) : (Instr.makeSlice 28 (.int .i64 (n : Int)) (.int .i64 (n : Int))).run Try.prog w = .ok (.slice (some ⟨w.heap.size, 0, none⟩) n n) (w.alloc (.cells (madeCells #[.int .u64 0] n) 58)) := by
  obtain ⟨i, hi, hz, hs, hb⟩ := info_parts gf_info
  have := run_make (P := Try.prog) w 28 58 i _ Try.underlying28 hi hz .i64 .i64 (n : Int) (n : Int) (by omega) (Int.le_refl _) (by rw [hb]; omega) (by omega)
  rw [hs, Int.toNat_natCast, Nat.mul_one] at this
  exact this
/-- A graph and no error: its row is the call's own. -/
def RetG (w : World) (n : Int) (l : List Nat) (e : Ending) (w' : World) : Prop := ∃ v, e = .returned (.tuple #[.agg #[.int .i64 n, v], .int .i64 0]) ∧ OwnU w' w.heap.size v l ∧ Below w.heap.size w w'
/-- The zero graph and ErrArg. -/
def RetNoG (w : World) (e : Ending) (w' : World) : Prop := e = .returned (.tuple #[.agg #[.int .i64 0, .slice none 0 0], .int .i64 1]) ∧ Below w.heap.size w w'
/-- A graph alone, as the reference hands it back. -/
def RetR (w : World) (n : Int) (l : List Nat) (e : Ending) (w' : World) : Prop := ∃ v, e = .returned (.agg #[.int .i64 n, v]) ∧ OwnU w' w.heap.size v l ∧ Below w.heap.size w w'

theorem res_g {fn : Func} {p u : Tmp} (h : fn.results = #[.cell p 32, .tmp u]) (X : World) (b : Nat) (tmps : Array Value) (n q : Int) (A : Option Addr) (m c : Nat) (hp : tmps.getD p undef = .pointer (some ⟨b, 0, none⟩)) (hq : tmps.getD u undef = .int .i64 q) (h0 : X.cell? ⟨b, 0, none⟩ = some (.int .i64 n)) (h1 : X.cell? ⟨b, 1, none⟩ = some (.slice A m c)) :
    (results fn tmps).run Try.prog X = .ok (.tuple #[.agg #[.int .i64 n, .slice A m c], .int .i64 q]) X := by
  rw [results_cell_tmp h, hp, hq]
  simp [asAddr, go_sem, h0, h1]
theorem res_r {fn : Func} {p : Tmp} (h : fn.results = #[.cell p 30]) (X : World) (b : Nat) (tmps : Array Value) (n : Int) (A : Option Addr) (m c : Nat) (hp : tmps.getD p undef = .pointer (some ⟨b, 0, none⟩)) (h0 : X.cell? ⟨b, 0, none⟩ = some (.int .i64 n)) (h1 : X.cell? ⟨b, 1, none⟩ = some (.slice A m c)) :
    (results fn tmps).run Try.prog X = .ok (.agg #[.int .i64 n, .slice A m c]) X := by
  rw [Array.getD_eq_getD_getElem?] at hp
  simp [results, h, hp, asAddr, go_sem, h0, h1]

/-- The end of a call that hands back a graph: it is stored into the result's block. -/
theorem end_g {fn : Func} {p u : Tmp} (h : fn.results = #[.cell p 32, .tmp u]) {w X : World} {b g : Nat} {n : Int} {l : List Nat} {u0 u1 : Value} (hT : Two X b 32 u0 u1) (hR : RowU X g l) (hB : Below w.heap.size w X) (hb : w.heap.size ≤ b) (hbg : b < g) (hl : l.length ≤ maxLen) (m : Nat) (hm : m = l.length)
    (tmps : Array Value) (hp : tmps.getD p undef = .pointer (some ⟨b, 0, none⟩)) (hq : tmps.getD u undef = .int .i64 0) :
    bodyPost Try.prog fn (RetG w n l) Exit.ret { tmps := tmps, defers := [] } ((X.setCell ⟨b, 0, none⟩ (.int .i64 n)).setCell ⟨b, 1, none⟩ (.slice (some ⟨g, 0, none⟩) m m)) := by
  subst hm
  obtain ⟨p0, p1⟩ := (hT.put (x := .int .i64 n) (y := .slice (some ⟨g, 0, none⟩) l.length l.length)).cells
  exact bodyPost_ret (res_g h _ b _ n 0 _ _ _ hp hq p0 p1) rfl ⟨_, rfl, (((hR.far ⟨b, 0, none⟩ (Nat.ne_of_lt hbg) _).far ⟨b, 1, none⟩ (Nat.ne_of_lt hbg) _)).own (by omega) hl, (hB.setCell (p := ⟨b, 0, none⟩) hb _).setCell (p := ⟨b, 1, none⟩) hb _⟩
/-- The end of a call that says ErrArg. -/
theorem end_no {fn : Func} {p u : Tmp} (h : fn.results = #[.cell p 32, .tmp u]) {w X : World} {b : Nat} {u0 u1 : Value} (hT : Two X b 32 u0 u1) (hB : Below w.heap.size w X) (hb : w.heap.size ≤ b)
    (tmps : Array Value) (hp : tmps.getD p undef = .pointer (some ⟨b, 0, none⟩)) (hq : tmps.getD u undef = .int .i64 1) :
    bodyPost Try.prog fn (RetNoG w) Exit.ret { tmps := tmps, defers := [] } ((X.setCell ⟨b, 0, none⟩ (.int .i64 0)).setCell ⟨b, 1, none⟩ (.slice none 0 0)) := by
  obtain ⟨p0, p1⟩ := (hT.put (x := .int .i64 0) (y := .slice none 0 0)).cells
  exact bodyPost_ret (res_g h _ b _ 0 1 none 0 0 hp hq p0 p1) rfl ⟨rfl, (hB.setCell (p := ⟨b, 0, none⟩) hb _).setCell (p := ⟨b, 1, none⟩) hb _⟩

/-- Two graphs in variables. -/
theorem gl_two (w : World) (n m : Int) (u v : Value) {W : World} (h : W = (w.alloc (.cells #[.int .i64 n, u] 32)).alloc (.cells #[.int .i64 m, v] 32)) :
    Two W w.heap.size 32 (.int .i64 n) u ∧ Two W (w.heap.size + 1) 32 (.int .i64 m) v ∧ Below w.heap.size w W := by
  subst h
  have b1 := alloc_below w (.cells #[.int .i64 n, u] 32)
  have b2 := alloc_below (w.alloc (.cells #[.int .i64 n, u] 32)) (.cells #[.int .i64 m, v] 32)
  have t1 := Two.new (w.alloc (.cells #[.int .i64 n, u] 32)) 32 (.int .i64 m) v
  rw [World.size_alloc] at t1
  exact ⟨(Two.new w 32 (.int .i64 n) u).later b2, t1, below_all b1 b2⟩

/-- A slice that reads as a row. -/
theorem us_form {w : World} {v : Value} {l : List Nat} (h : Us w v l) : ∃ A c, v = .slice A l.length c := by
  obtain ⟨A, c, e, -⟩ := h.spelled
  exact ⟨A, c, e⟩

namespace Gf
/-- The set of the first n numbers. -/
theorem full_bit (n k : Nat) : (2 ^ n - 1).testBit k = decide (k < n) := Nat.testBit_two_pow_sub_one n k
theorem full_lt {n : Nat} (h : n ≤ 64) : 2 ^ n - 1 < 2 ^ 64 := Nat.lt_of_lt_of_le (Nat.sub_lt (Nat.two_pow_pos n) (by decide)) (Nat.pow_le_pow_right (by decide) h)
theorem sub_full {n s : Nat} (hs : s < 2 ^ 64) : Bi.sub s (2 ^ n - 1) = decide (s < 2 ^ n) := by
  rw [Bool.eq_iff_iff, decide_eq_true_iff, row_lt hs]
  show (Bi.list s).all (2 ^ n - 1).testBit = true ↔ _
  rw [List.all_eq_true]
  constructor
  · intro h k hk h64
    cases hb : s.testBit k with
    | false => rfl
    | true =>
      have := h k (Bi.mem_list.2 ⟨h64, hb⟩)
      rw [full_bit, decide_eq_true_iff] at this
      omega
  · intro h k hk
    obtain ⟨h64, hb⟩ := Bi.mem_list.1 hk
    rw [full_bit, decide_eq_true_iff]
    rcases Nat.lt_or_ge k n with q | q
    · exact q
    · rw [h k q h64] at hb
      cases hb
/-- Whether a number of whatever sign is a node. -/
def isN (n a : Int) : Bool := decide (0 ≤ a) && decide (a < n)
theorem isN_nat {n : Nat} {a : Int} (h : isN (n : Int) a = true) : ∃ k : Nat, a = (k : Int) ∧ k < n := by
  rw [isN, Bool.and_eq_true, decide_eq_true_iff, decide_eq_true_iff] at h
  exact ⟨a.toNat, by omega, by omega⟩
theorem isN_yes {n k : Nat} (h : k < n) : isN (n : Int) (k : Int) = true := by
  rw [isN, decide_eq_true (by omega), decide_eq_true (by omega)]
  rfl
theorem setTo_lt64 (p : Nat → Bool) (k : Nat) : setTo p k < 2 ^ 64 := by
  rw [setTo_put]
  exact putTo_lt _ _ (Nat.two_pow_pos 64)
/-- Whether a graph has an edge. -/
def hasR (n : Int) (l : List Nat) (a b : Int) : Bool := okB n l && (isN n a && (isN n b && bit l a.toNat b.toNat))
end Gf
end Go.Proofs.Ytahacjfeopjbaaa
/-
  A graph among the arguments: a number, and a row of sets.
  Conditions: none beyond those that each theorem states.
-/
set_option maxRecDepth 4000
namespace Go.Proofs.Ytahacjfeopjbaaa
open Go.ChangeShapes Go.WideShapes Go.ChangeAt Go.RowKit Go.Joins Go.Deep

section
variable {H : Type} {enc : TypeId × Value → H} {w : World} {base : Nat} {r : Reach} {b0 : Nat}
theorem gf_set {fuel : Nat} {cs : List Value} {x : DataW H × List MemPlace} (h : DataW.trod enc Try.prog w base (fun _ => true) true fuel 58 cs = some x) : ∃ y : Nat, cs = uC y ∧ y < 18446744073709551616 := by
  obtain ⟨z, e, _, hw⟩ := DataW.trod_int Try.underlying58 h
  obtain ⟨m, rfl, hm⟩ := u64_wf hw
  exact ⟨m, e, hm⟩
theorem arg_graph {v : Value} {d : DataW H} {ps : List MemPlace} (hval : Value.okWide Try.prog w r b0 32 v) (h : DataW.Trod enc Try.prog w base (fun _ => true) true 32 v d ps) : ∃ (n : Int) (u : Value) (l : List Nat), v = .agg #[.int .i64 n, u] ∧ Us w u l ∧ ∀ x ∈ l, x < 18446744073709551616 := by
  obtain ⟨cs, rfl, hsz⟩ := okWide_struct Try.underlying32 hval
  obtain ⟨fuel, hf⟩ := h
  obtain ⟨xs, n, _, _, hlen, hl, hg⟩ := DataW.trod_struct Try.underlying32 hf
  have hc : cs.toList.length = 2 := hlen.trans (by kernel_rfl)
  obtain ⟨cl⟩ := cs
  match cl, hc with
  | [c0, c1], _ =>
    have ci : Try.prog.cellsOf 3 = 1 := by kernel_rfl
    have cu : Try.prog.cellsOf 28 = 1 := by kernel_rfl
    have g0 : DataW.trod enc Try.prog w base (fun _ => true) true n 3 (([c0, c1].drop 0).take (Try.prog.cellsOf 3)) = xs[0]? := hg 0 _ rfl
    have g1 : DataW.trod enc Try.prog w base (fun _ => true) true n 28 (([c0, c1].drop 1).take (Try.prog.cellsOf 28)) = xs[1]? := hg 1 _ rfl
    simp only [ci, cu, List.drop_zero, List.drop_succ_cons, List.take_succ_cons, List.take_zero] at g0 g1
    have hx : xs.length = 2 := hl
    rw [List.getElem?_eq_getElem (by omega)] at g0 g1
    obtain ⟨z0, e0, _⟩ := DataW.trod_int Try.underlying3 g0
    obtain ⟨A1, m1, c1', e1, l, h1, _, h3⟩ := cells_rows uC_len (by omega) (fun y : Nat => y < 18446744073709551616) (by kernel_rfl) Try.underlying28 (fun _ _ _ h => gf_set h) g1
    cases e0
    cases e1
    exact ⟨z0, _, l, rfl, h1, h3⟩
end
end Go.Proofs.Ytahacjfeopjbaaa
/-
  What graph's functions that make nothing answer: mayCount, nodesOf, isNode, Right, match, Has.
  Conditions: rows hold sets below 2^64.
-/
set_option maxRecDepth 4000
namespace Go.Proofs.Ytahacjfeopjbaaa
open Go.RowKit

theorem gfMay_at (n : Int) (w : World) : Calls Try.prog 60 #[.int .i64 n] w fun e w' => e = .returned (.bool (decide (0 ≤ n) && decide (n ≤ 64))) ∧ w' = w := by
  by_cases h0 : 0 ≤ n
  · have d0 : decide (0 ≤ n) = true := decide_eq_true h0
    rw [d0]
    go_enter Try.func60, Try.ntmps60
    go_wp2
    go_ret
    exact ⟨rfl, rfl⟩
  · have d0 : decide (0 ≤ n) = false := decide_eq_false h0
    rw [d0]
    go_enter Try.func60, Try.ntmps60
    go_wp2
    go_ret
    exact ⟨rfl, rfl⟩

theorem gfNodes_at (n : Nat) (hn : n ≤ 64) (w : World) : Calls Try.prog 87 #[.int .i64 n] w fun e w' => e = .returned (.int .u64 (2 ^ n - 1 : Nat)) ∧ w' = w := by
  have key : IntKind.u64.wrap (IntKind.u64.wrap ((2 : Int) ^ n) - 1) = ((2 ^ n - 1 : Nat) : Int) := by
    have h1 : (2 : Int) ^ n = ((2 ^ n : Nat) : Int) := by simp
    have h2 : 2 ^ n ≤ 2 ^ 64 := Nat.pow_le_pow_right (by decide) hn
    have h3 := Nat.two_pow_pos n
    rw [h1, IntKind.wrap_u64, IntKind.wrap_u64]
    generalize 2 ^ n = p at *
    omega
  go_enter Try.func87, Try.ntmps87
  go_wp2
  go_ret
  exact ⟨rfl, rfl⟩

theorem gfNode_at (n : Int) (v : Value) (a : Int) (w : World) : Calls Try.prog 56 #[.agg #[.int .i64 n, v], .int .i64 a] w (RetBool w (Gf.isN n a)) := by
  have HB := Lib.hid (alloc_below w (.cells #[.int .i64 n, v] 32))
  by_cases h0 : 0 ≤ a
  · have d0 : decide (0 ≤ a) = true := decide_eq_true h0
    have hr : Gf.isN n a = decide (a < n) := by rw [Gf.isN, d0]; rfl
    rw [hr]
    go_enter Try.func56, Try.ntmps56
    go_wp2
    go_ret
    exact ⟨rfl, HB.out⟩
  · have d0 : decide (0 ≤ a) = false := decide_eq_false h0
    have hr : Gf.isN n a = false := by rw [Gf.isN, d0]; rfl
    rw [hr]
    go_enter Try.func56, Try.ntmps56
    go_wp2
    go_ret
    exact ⟨rfl, HB.out⟩

set_option maxHeartbeats 1000000 in
theorem gfRight_at (n : Int) (v : Value) (l : List Nat) (w : World) (hv : Us w v l) (hs : ∀ x ∈ l, x < 18446744073709551616) : Calls Try.prog 54 #[.agg #[.int .i64 n, v]] w (RetBool w (Gf.okB n l)) := by
  have HB := Lib.hid (alloc_below w (.cells #[.int .i64 n, v] 32))
  obtain ⟨A, c, rfl, hf⟩ := (hv.below HB.out).spelled
  have HF := Lib.hid hf
  have HS := Lib.hid hs
  clear hf hv hs
  cases hm : (decide (0 ≤ n) && decide (n ≤ 64)) with
  | false =>
    have HR : Hid (Gf.okB n l = false) := by
      rw [Hid, Gf.okB, ← Bool.and_assoc, hm]
      rfl
    go_enter Try.func54, Try.ntmps54
    go_wp2_with fail
    refine (gfMay_at n _).mono ?_
    rintro e w1 ⟨rfl, rfl⟩
    rw [hm]
    go_wp2_with fail
    go_ret
    exact ⟨ret_bool HR.out.symm, HB.out⟩
  | true =>
    obtain ⟨k, rfl, hk⟩ : ∃ k : Nat, n = (k : Int) ∧ k ≤ 64 := by
      rw [Bool.and_eq_true, decide_eq_true_iff, decide_eq_true_iff] at hm
      exact ⟨n.toNat, by omega, by omega⟩
    by_cases hlen : l.length = k
    · subst hlen
      have hq : (((l.length : Nat) : Int) != (l.length : Int)) = false := by simp
      have HNo := Lib.hid (fun i (hi : i < l.length) (h : ¬ l[i] < 2 ^ l.length) => show Gf.okB (l.length : Int) l = false by
        rw [← Bool.not_eq_true, Gf.okB_nat]
        exact fun h2 => h (h2.2.2 _ (List.getElem_mem hi)))
      have HYes := Lib.hid (fun (h : Gf.clearTo l.length l l.length) => show Gf.okB (l.length : Int) l = true from (Gf.okB_nat l.length l).2 (Gf.clearTo_all h hk rfl))
      have HFull := Lib.hid (Gf.full_lt hk)
      have HSub := Lib.hid (fun s (h : s < 18446744073709551616) => @Gf.sub_full l.length s h)
      have HNx := Lib.hid (fun i => @Gf.clearTo_next l.length l i)
      have HZ := Lib.hid (Gf.clearTo_zero l.length l)
      go_enter Try.func54, Try.ntmps54
      go_wp2_with fail
      refine (gfMay_at (l.length : Int) _).mono ?_
      rintro e w1 ⟨rfl, rfl⟩
      rw [hm]
      go_wp2_with fail
      refine (gfNodes_at l.length hk _).mono ?_
      rintro e w1 ⟨rfl, rfl⟩
      generalize Gf.okB (l.length : Int) l = r at *
      generalize 2 ^ l.length - 1 = full at *
      go_wp2_with fail
      generalize w.alloc (.cells #[.int .i64 (l.length : Int), .slice A l.length c] 32) = W at *
      go_loopw [24] (fun i wr => ∃ j : Nat, j ≤ l.length ∧ i = .int .i64 j ∧ Hid (Gf.clearTo l.length l j) ∧ wr = W) (fun i _ => l.length - (intOf i).toNat)
      case atStart => exact ⟨0, Nat.zero_le _, rfl, HZ.out, rfl⟩
      case round =>
        obtain ⟨j, hj, rfl, HC, rfl⟩ := hrel
        by_cases hlt : j < l.length
        · obtain ⟨ad, rfl, hblk, hE⟩ := HF.out j hlt
          have hx := HS.out _ (List.getElem_mem hlt)
          have hsub := HSub.out _ hx
          have HN1 := Lib.hid (HNo.out j hlt)
          have HN2 := Lib.hid (HNx.out j HC.out hlt)
          have hfull := HFull.out
          generalize l[j]'hlt = x at *
          cases hd : decide (x < 2 ^ l.length) with
          | false =>
            have HR := Lib.hid (HN1.out (of_decide_eq_false hd))
            rw [hd] at hsub
            clear hd
            go_wp2_with fail
            refine (biSub_at x full _ hx hfull).mono ?_
            rintro e w1 ⟨rfl, rfl⟩
            rw [hsub]
            go_wp2_with fail
            go_ret
            exact ⟨ret_bool HR.out.symm, HB.out⟩
          | true =>
            have HC2 := Lib.hid (HN2.out (of_decide_eq_true hd))
            rw [hd] at hsub
            clear hd
            go_wp2_with fail
            refine (biSub_at x full _ hx hfull).mono ?_
            rintro e w1 ⟨rfl, rfl⟩
            rw [hsub]
            go_wp2_with fail
            go_roundw
            case rel => exact ⟨j + 1, by omega, by go_num, HC2, trivial⟩
            case measure => simp [intOf]; omega
        · obtain rfl : j = l.length := by omega
          have HR := Lib.hid (HYes.out HC.out)
          go_wp2_with fail
          go_ret
          exact ⟨ret_bool HR.out.symm, HB.out⟩
    · have hq : (((l.length : Nat) : Int) != (k : Int)) = true := by rw [bne_iff_ne]; omega
      have HR : Hid (Gf.okB (k : Int) l = false) := by
        rw [Hid, ← Bool.not_eq_true, Gf.okB_nat]
        exact fun h => hlen h.2.1
      go_enter Try.func54, Try.ntmps54
      go_wp2_with fail
      refine (gfMay_at (k : Int) _).mono ?_
      rintro e w1 ⟨rfl, rfl⟩
      rw [hm]
      go_wp2_with fail
      go_ret
      exact ⟨ret_bool HR.out.symm, HB.out⟩
end Go.Proofs.Ytahacjfeopjbaaa
/-
  What graph's match, Has, New and Add answer.
  Conditions: rows hold sets below 2^64.
-/
set_option maxRecDepth 4000
namespace Go.Proofs.Ytahacjfeopjbaaa
open Go.RowKit

namespace Gf
/-- Whether two graphs match. -/
def matchR (n m : Int) (a b : List Nat) : Bool := okB n a && (okB m b && (n == m))
theorem match_iff {n m : Int} {a b : List Nat} : matchR n m a b = true ↔ ∃ k : Nat, n = (k : Int) ∧ m = (k : Int) ∧ Ok k a ∧ Ok k b := by
  rw [matchR, Bool.and_eq_true, Bool.and_eq_true, okB_iff, okB_iff, beq_iff_eq]
  constructor
  · rintro ⟨⟨k, rfl, h1⟩, ⟨j, rfl, h2⟩, h3⟩
    obtain rfl : k = j := by omega
    exact ⟨k, rfl, rfl, h1, h2⟩
  · rintro ⟨k, rfl, rfl, h1, h2⟩
    exact ⟨⟨k, rfl, h1⟩, ⟨k, rfl, h2⟩, rfl⟩
end Gf

set_option maxHeartbeats 1000000 in
theorem gfMatch_at (n m : Int) (u v : Value) (a b : List Nat) (w : World) (hu : Us w u a) (hv : Us w v b) (ha : ∀ x ∈ a, x < 18446744073709551616) (hb : ∀ x ∈ b, x < 18446744073709551616) : Calls Try.prog 71 #[.agg #[.int .i64 n, u], .agg #[.int .i64 m, v]] w (RetBool w (Gf.matchR n m a b)) := by
  have HA := Lib.hid ha
  have HB := Lib.hid hb
  have HU := Lib.hid hu
  have HV := Lib.hid hv
  obtain ⟨A, c, rfl, -⟩ := hu.spelled
  obtain ⟨A', c', rfl, -⟩ := hv.spelled
  have T0 := Lib.hid ((Two.new w 32 (.int .i64 n) (.slice A a.length c)).later (alloc_below _ (.cells #[.int .i64 m, .slice A' b.length c'] 32)))
  have T1 := Lib.hid (Two.new (w.alloc (.cells #[.int .i64 n, .slice A a.length c] 32)) 32 (.int .i64 m) (.slice A' b.length c'))
  rw [World.size_alloc] at T1
  have BW := Lib.hid (below_all (alloc_below w (.cells #[.int .i64 n, .slice A a.length c] 32)) (alloc_below _ (.cells #[.int .i64 m, .slice A' b.length c'] 32)))
  clear ha hb hu hv
  have HR := Lib.hid (show Gf.matchR n m a b = (Gf.okB n a && (Gf.okB m b && (n == m))) from rfl)
  have F1 := Lib.hid (fun w h => gfRight_at n (.slice A a.length c) a w h HA.out)
  have F2 := Lib.hid (fun w h => gfRight_at m (.slice A' b.length c') b w h HB.out)
  generalize Gf.matchR n m a b = r at *
  generalize Gf.okB n a = p at *
  generalize Gf.okB m b = q at *
  go_enter Try.func71, Try.ntmps71
  go_wp2_with fail
  generalize (w.alloc (.cells #[.int .i64 n, .slice A a.length c] 32)).alloc (.cells #[.int .i64 m, .slice A' b.length c'] 32) = W at *
  refine (F1.out _ (HU.out.below BW.out)).mono ?_
  rintro e w1 ⟨rfl, hb1⟩
  have B1 := Lib.hid (below_all BW.out hb1)
  have T10 := Lib.hid (T0.out.later hb1)
  have T11 := Lib.hid (T1.out.later hb1)
  clear hb1 T0 T1
  cases p with
  | false =>
    go_wp2_with fail
    go_ret
    exact ⟨ret_bool HR.out.symm, B1.out⟩
  | true =>
    have c0 := T11.out.cells.1
    have c1 := T11.out.cells.2
    go_wp2_with fail
    refine (F2.out _ (HV.out.below B1.out)).mono ?_
    rintro e w2 ⟨rfl, hb2⟩
    have B2 := Lib.hid (below_all B1.out hb2)
    have d0 := (T10.out.later hb2).cells.1
    have d2 := (T11.out.later hb2).cells.1
    clear hb2 T10 T11 c0 c1
    cases q with
    | false =>
      go_wp2_with fail
      go_ret
      exact ⟨ret_bool HR.out.symm, B2.out⟩
    | true =>
      go_wp2_with fail
      go_ret
      exact ⟨ret_bool HR.out.symm, B2.out⟩

/-- No graph, or no edge. -/
theorem Gf.has_no {n : Int} {l : List Nat} {a b : Int} (h : (Gf.okB n l && Gf.isN n a) = false) : Gf.hasR n l a b = false := by
  rw [Gf.hasR, ← Bool.and_assoc, h]
  rfl
theorem Gf.has_at {n : Nat} {l : List Nat} {a : Nat} {b : Int} (h : Gf.Ok n l) (ha : a < n) (hal : a < l.length) : Gf.hasR (n : Int) l (a : Int) b = Bi.has l[a] b := by
  rw [Gf.hasR, (Gf.okB_nat n l).2 h, Gf.isN_yes ha, Bool.true_and, Bool.true_and, Int.toNat_natCast, Gf.bit_at hal]
  cases hq : Gf.isN (n : Int) b with
  | true =>
    obtain ⟨k, rfl, hk⟩ := Gf.isN_nat hq
    rw [Bool.true_and, Int.toNat_natCast, Bi.has_nat _ k (Nat.lt_of_lt_of_le hk h.1)]
  | false =>
    rw [Bool.false_and]
    cases hb : Bi.ok b with
    | false => rw [Bi.has_no hb]
    | true =>
      obtain ⟨k, rfl, hk⟩ := Bi.ok_nat hb
      rw [Bi.has_nat _ k hk]
      have hkn : n ≤ k := by
        rcases Nat.lt_or_ge k n with h1 | h1
        · rw [Gf.isN_yes h1] at hq; cases hq
        · exact h1
      exact (Nat.testBit_lt_two_pow (Nat.lt_of_lt_of_le (h.2.2 _ (List.getElem_mem hal)) (Nat.pow_le_pow_right (by decide) hkn))).symm

set_option maxHeartbeats 1000000 in
theorem gfHas_at (n : Int) (v : Value) (l : List Nat) (a b : Int) (w : World) (hv : Us w v l) (hs : ∀ x ∈ l, x < 18446744073709551616) : Calls Try.prog 27 #[.agg #[.int .i64 n, v], .int .i64 a, .int .i64 b] w (RetBool w (Gf.hasR n l a b)) := by
  have HS := Lib.hid hs
  have HV := Lib.hid hv
  obtain ⟨A, c, rfl, hf⟩ := hv.spelled
  have HF := Lib.hid hf
  have T0 := Lib.hid (Two.new w 32 (.int .i64 n) (.slice A l.length c))
  have BW := Lib.hid (alloc_below w (.cells #[.int .i64 n, .slice A l.length c] 32))
  have F1 := Lib.hid (fun w h => gfRight_at n (.slice A l.length c) l w h HS.out)
  have F2 := Lib.hid (fun w => gfNode_at n (.slice A l.length c) a w)
  clear hs hv hf
  cases hp : Gf.okB n l with
  | false =>
    have HR : Hid (Gf.hasR n l a b = false) := Gf.has_no (by rw [hp]; rfl)
    rw [hp] at F1
    generalize Gf.hasR n l a b = r at *
    go_enter Try.func27, Try.ntmps27
    go_wp2_with fail
    generalize w.alloc (.cells #[.int .i64 n, .slice A l.length c] 32) = W at *
    refine (F1.out _ (HV.out.below BW.out)).mono ?_
    rintro e w1 ⟨rfl, hb1⟩
    have B1 := Lib.hid (below_all BW.out hb1)
    clear hb1
    go_wp2_with fail
    go_ret
    exact ⟨ret_bool HR.out.symm, B1.out⟩
  | true =>
    rw [hp] at F1
    cases hq : Gf.isN n a with
    | false =>
      have HR : Hid (Gf.hasR n l a b = false) := Gf.has_no (by rw [hq, Bool.and_false])
      rw [hq] at F2
      generalize Gf.hasR n l a b = r at *
      go_enter Try.func27, Try.ntmps27
      go_wp2_with fail
      generalize w.alloc (.cells #[.int .i64 n, .slice A l.length c] 32) = W at *
      refine (F1.out _ (HV.out.below BW.out)).mono ?_
      rintro e w1 ⟨rfl, hb1⟩
      have B1 := Lib.hid (below_all BW.out hb1)
      have c0 := (T0.out.later hb1).cells.1
      have c1 := (T0.out.later hb1).cells.2
      clear hb1
      go_wp2_with fail
      refine (F2.out _).mono ?_
      rintro e w2 ⟨rfl, hb2⟩
      have B2 := Lib.hid (below_all B1.out hb2)
      clear hb2 c0 c1
      go_wp2_with fail
      go_ret
      exact ⟨ret_bool HR.out.symm, B2.out⟩
    | true =>
      obtain ⟨N, rfl, hok⟩ := Gf.okB_iff.1 hp
      obtain ⟨k, rfl, hk⟩ := Gf.isN_nat hq
      have hlt : k < l.length := by rw [hok.2.1]; exact hk
      obtain ⟨ad, rfl, hblk, hE⟩ := HF.out k hlt
      have hx := HS.out _ (List.getElem_mem hlt)
      have HR := Lib.hid (Gf.has_at (b := b) hok hk hlt)
      have EB := Lib.hid (fun (w' : World) (h : Below w.heap.size w w') => (h.cell (by rw [add_block]; exact hblk)).trans hE)
      rw [hq] at F2
      clear hp hq hok hE
      generalize l[k]'hlt = x at *
      generalize Gf.hasR N l k b = r at *
      go_enter Try.func27, Try.ntmps27
      go_wp2_with fail
      generalize w.alloc (.cells #[.int .i64 N, .slice (some ad) l.length c] 32) = W at *
      refine (F1.out _ (HV.out.below BW.out)).mono ?_
      rintro e w1 ⟨rfl, hb1⟩
      have B1 := Lib.hid (below_all BW.out hb1)
      have T1 := Lib.hid (T0.out.later hb1)
      have c0 := T1.out.cells.1
      have c1 := T1.out.cells.2
      clear hb1
      go_wp2_with fail
      refine (F2.out _).mono ?_
      rintro e w2 ⟨rfl, hb2⟩
      have B2 := Lib.hid (below_all B1.out hb2)
      have d1 := (T1.out.later hb2).cells.2
      have hE2 := EB.out _ B2.out
      clear hb2 c0 c1
      go_wp2_with fail
      refine (biHas_at x b _ hx).mono ?_
      rintro e w3 ⟨rfl, rfl⟩
      go_wp2_with fail
      go_ret
      exact ⟨ret_bool HR.out.symm, B2.out⟩
end Go.Proofs.Ytahacjfeopjbaaa
/-
  What graph's New and Add answer.
  Conditions: rows hold sets below 2^64.
-/
set_option maxRecDepth 4000
namespace Go.Proofs.Ytahacjfeopjbaaa
open Go.RowKit

theorem gfNew_no (n : Int) (h : (decide (0 ≤ n) && decide (n ≤ 64)) = false) (w : World) : Calls Try.prog 30 #[.int .i64 n] w (RetNoG w) := by
  go_enter Try.func30, Try.ntmps30
  go_wp2_with fail
  refine (gfMay_at n _).mono ?_
  rintro e w1 ⟨rfl, rfl⟩
  rw [h]
  go_wp2_with fail
  obtain ⟨p0, p1⟩ := (Two.new w 32 (.int .i64 0) (.slice none 0 0)).cells
  exact bodyPost_ret (res_g rfl _ w.heap.size _ 0 1 none 0 0 rfl rfl p0 p1) rfl ⟨rfl, alloc_below _ _⟩
theorem gfNew_at (n : Nat) (hn : n ≤ 64) (w : World) : Calls Try.prog 30 #[.int .i64 n] w (RetG w n (Gf.zeros n)) := by
  have h : (decide (0 ≤ (n : Int)) && decide ((n : Int) ≤ 64)) = true := by rw [decide_eq_true (by omega), decide_eq_true (by omega)]; rfl
  have hmk := fun w => gf_make w n (by omega)
  have hz : (Gf.zeros n).length = n := List.length_replicate
  go_enter Try.func30, Try.ntmps30
  go_wp2_with fail
  refine (gfMay_at n _).mono ?_
  rintro e w1 ⟨rfl, rfl⟩
  rw [h]
  go_wp2_with fail
  have T := Two.new w 32 (.int .i64 n) (.slice (some ⟨w.heap.size + 1, 0, none⟩) n n)
  have B := alloc_below w (.cells #[.int .i64 n, .slice (some ⟨w.heap.size + 1, 0, none⟩) n n] 32)
  have hs : (w.alloc (.cells #[.int .i64 n, .slice (some ⟨w.heap.size + 1, 0, none⟩) n n] 32)).heap.size = w.heap.size + 1 := World.size_alloc _ _
  generalize w.alloc (.cells #[.int .i64 n, .slice (some ⟨w.heap.size + 1, 0, none⟩) n n] 32) = W at *
  have R := (RowU.made W n).own (base := w.heap.size) (by omega) (by simp only [maxLen]; omega)
  have B2 := alloc_below W (.cells (madeCells #[.int .u64 0] n) 58)
  obtain ⟨p0, p1⟩ := (T.later B2).cells
  rw [hs, hz] at R
  exact bodyPost_ret (res_g rfl _ w.heap.size _ n 0 _ n n rfl rfl p0 p1) rfl ⟨_, rfl, R, below_all B B2⟩

/-- Whether an edge may be added. -/
def Gf.addB (n : Int) (l : List Nat) (a b : Int) : Bool := okB n l && (isN n a && isN n b)

set_option maxHeartbeats 1000000 in
theorem gfAdd_no (n : Int) (v : Value) (l : List Nat) (a b : Int) (w : World) (hv : Us w v l) (hs : ∀ x ∈ l, x < 18446744073709551616) (hno : Gf.addB n l a b = false) : Calls Try.prog 61 #[.agg #[.int .i64 n, v], .int .i64 a, .int .i64 b] w (RetNoG w) := by
  have HV := Lib.hid hv
  obtain ⟨A, c, rfl, -⟩ := hv.spelled
  have T0 := Lib.hid ((Two.new w 32 (.int .i64 n) (.slice A l.length c)).later (alloc_below _ (.cells #[.int .i64 0, .slice none 0 0] 32)))
  have T1 := Lib.hid (Two.new (w.alloc (.cells #[.int .i64 n, .slice A l.length c] 32)) 32 (.int .i64 0) (.slice none 0 0))
  rw [World.size_alloc] at T1
  have BW := Lib.hid (below_all (alloc_below w (.cells #[.int .i64 n, .slice A l.length c] 32)) (alloc_below _ (.cells #[.int .i64 0, .slice none 0 0] 32)))
  have F1 := Lib.hid (fun w h => gfRight_at n (.slice A l.length c) l w h hs)
  have F2 := Lib.hid (fun w => gfNode_at n (.slice A l.length c) a w)
  have F3 := Lib.hid (fun w => gfNode_at n (.slice A l.length c) b w)
  have hno' : (Gf.okB n l && (Gf.isN n a && Gf.isN n b)) = false := hno
  have HE := Lib.hid (fun (X : World) (tmps : Array Value) (hb : Below w.heap.size w X) (hT : Two X (w.heap.size + 1) 32 (.int .i64 0) (.slice none 0 0)) (hp : tmps.getD 6 undef = .pointer (some ⟨w.heap.size + 1, 0, none⟩)) (hq : tmps.getD 7 undef = .int .i64 1) =>
    show bodyPost Try.prog Try.f61 (RetNoG w) Exit.ret { tmps := tmps, defers := [] } ((X.setCell ⟨w.heap.size + 1, 0, none⟩ (.int .i64 0)).setCell ⟨w.heap.size + 1, 1, none⟩ (.slice none 0 0)) by
      obtain ⟨p0, p1⟩ := (hT.put (x := .int .i64 0) (y := .slice none 0 0)).cells
      exact bodyPost_ret (res_g rfl _ (w.heap.size + 1) _ 0 1 none 0 0 hp hq p0 p1) rfl ⟨rfl, (hb.setCell (p := ⟨w.heap.size + 1, 0, none⟩) (Nat.le_succ _) _).setCell (p := ⟨w.heap.size + 1, 1, none⟩) (Nat.le_succ _) _⟩)
  clear hs hv hno
  generalize Gf.okB n l = p at *
  generalize Gf.isN n a = q at *
  generalize Gf.isN n b = q2 at *
  cases p with
  | false =>
    clear hno'
    go_enter Try.func61, Try.ntmps61
    go_wp2_with fail
    generalize (w.alloc (.cells #[.int .i64 n, .slice A l.length c] 32)).alloc (.cells #[.int .i64 0, .slice none 0 0] 32) = W at *
    refine (F1.out _ (HV.out.below BW.out)).mono ?_
    rintro e w1 ⟨rfl, hb1⟩
    have B1 := Lib.hid (below_all BW.out hb1)
    have TR := Lib.hid (T1.out.later hb1)
    obtain ⟨r0, r1⟩ := TR.out.cells
    have f0 := TR.out.frozen 0
    have f1 := TR.out.frozen 1
    clear hb1
    go_wp2_with fail
    exact HE.out _ _ B1.out TR.out rfl rfl
  | true =>
    cases q with
    | false =>
      clear hno'
      go_enter Try.func61, Try.ntmps61
      go_wp2_with fail
      generalize (w.alloc (.cells #[.int .i64 n, .slice A l.length c] 32)).alloc (.cells #[.int .i64 0, .slice none 0 0] 32) = W at *
      refine (F1.out _ (HV.out.below BW.out)).mono ?_
      rintro e w1 ⟨rfl, hb1⟩
      have B1 := Lib.hid (below_all BW.out hb1)
      have TR1 := Lib.hid (T1.out.later hb1)
      obtain ⟨c0, c1⟩ := (T0.out.later hb1).cells
      clear hb1
      go_wp2_with fail
      refine (F2.out _).mono ?_
      rintro e w2 ⟨rfl, hb2⟩
      have B2 := Lib.hid (below_all B1.out hb2)
      have TR := Lib.hid (TR1.out.later hb2)
      obtain ⟨r0, r1⟩ := TR.out.cells
      have f0 := TR.out.frozen 0
      have f1 := TR.out.frozen 1
      clear hb2 c0 c1
      go_wp2_with fail
      exact HE.out _ _ B2.out TR.out rfl rfl
    | true =>
      obtain rfl : q2 = false := by simpa using hno'
      clear hno'
      go_enter Try.func61, Try.ntmps61
      go_wp2_with fail
      generalize (w.alloc (.cells #[.int .i64 n, .slice A l.length c] 32)).alloc (.cells #[.int .i64 0, .slice none 0 0] 32) = W at *
      refine (F1.out _ (HV.out.below BW.out)).mono ?_
      rintro e w1 ⟨rfl, hb1⟩
      have B1 := Lib.hid (below_all BW.out hb1)
      have TR1 := Lib.hid (T1.out.later hb1)
      have TA1 := Lib.hid (T0.out.later hb1)
      obtain ⟨c0, c1⟩ := TA1.out.cells
      clear hb1
      go_wp2_with fail
      refine (F2.out _).mono ?_
      rintro e w2 ⟨rfl, hb2⟩
      have B2 := Lib.hid (below_all B1.out hb2)
      have TR2 := Lib.hid (TR1.out.later hb2)
      obtain ⟨d0, d1⟩ := (TA1.out.later hb2).cells
      clear hb2 c0 c1
      go_wp2_with fail
      refine (F3.out _).mono ?_
      rintro e w3 ⟨rfl, hb3⟩
      have B3 := Lib.hid (below_all B2.out hb3)
      have TR := Lib.hid (TR2.out.later hb3)
      obtain ⟨r0, r1⟩ := TR.out.cells
      have f0 := TR.out.frozen 0
      have f1 := TR.out.frozen 1
      clear hb3 d0 d1
      go_wp2_with fail
      exact HE.out _ _ B3.out TR.out rfl rfl

theorem gf_size : (Try.prog.info? 58).map (·.size) = some 1 := by kernel_rfl
set_option maxHeartbeats 2000000 in
theorem gfAdd_at (n : Nat) (v : Value) (l : List Nat) (a b : Nat) (w : World) (hv : Us w v l) (hok : Gf.Ok n l) (ha : a < n) (hb : b < n) : Calls Try.prog 61 #[.agg #[.int .i64 n, v], .int .i64 a, .int .i64 b] w (RetG w n (Gf.addR l a b)) := by
  obtain rfl : l.length = n := hok.2.1
  have HV := Lib.hid hv
  obtain ⟨A, c, rfl, hf⟩ := hv.spelled
  have hal : a < l.length := ha
  obtain ⟨ad, rfl, hblk, -⟩ := hf a hal
  have T0 := Lib.hid ((Two.new w 32 (.int .i64 l.length) (.slice (some ad) l.length c)).later (alloc_below _ (.cells #[.int .i64 0, .slice none 0 0] 32)))
  have T1 := Lib.hid (Two.new (w.alloc (.cells #[.int .i64 l.length, .slice (some ad) l.length c] 32)) 32 (.int .i64 0) (.slice none 0 0))
  rw [World.size_alloc] at T1
  have BW := Lib.hid (below_all (alloc_below w (.cells #[.int .i64 l.length, .slice (some ad) l.length c] 32)) (alloc_below _ (.cells #[.int .i64 0, .slice none 0 0] 32)))
  have hs : ∀ x ∈ l, x < 18446744073709551616 := fun x hx => hok.small hx
  have F1 := Lib.hid (fun w h => gfRight_at l.length (.slice (some ad) l.length c) l w h hs)
  have F2 := Lib.hid (fun w => gfNode_at l.length (.slice (some ad) l.length c) a w)
  have F3 := Lib.hid (fun w => gfNode_at l.length (.slice (some ad) l.length c) b w)
  have hokB := (Gf.okB_nat l.length l).2 hok
  rw [hokB] at F1
  rw [Gf.isN_yes ha] at F2
  rw [Gf.isN_yes hb] at F3
  have hx := hs _ (List.getElem_mem hal)
  have HAdd : Hid (Gf.addR l a b = l.set a (Bi.withN (l[a]'hal) (b : Int))) := by
    rw [Hid, Gf.addR, List.getD_eq_getElem?_getD, List.getElem?_eq_getElem hal]
    rfl
  have F4 := Lib.hid (fun w => biWith_at (l[a]'hal) b w hx)
  have hmk := fun w => gf_make w l.length (Nat.le_trans hok.1 (by decide))
  have hn64 := hok.1
  have HZ := Lib.hid (show (Gf.zeros l.length).length = l.length from List.length_replicate)
  have HC := Lib.hid (show splice ((Gf.zeros l.length).flatMap uC) 0 (l.flatMap uC) = l.flatMap uC by
    rw [splice, List.take_zero, List.nil_append, List.drop_of_length_le (by rw [uC_flat, uC_flat, HZ.out]; omega), List.append_nil])
  have HL := Lib.hid (uC_flat l)
  have HLZ := Lib.hid (uC_flat (Gf.zeros l.length))
  have HON := Lib.hid (gf_ones l)
  obtain ⟨q, hq⟩ : ∃ q, q = Bi.withN (l[a]'hal) (b : Int) := ⟨_, rfl⟩
  rw [← hq] at F4 HAdd
  clear hs hv hf hok hokB hx hq
  go_enter Try.func61, Try.ntmps61
  go_wp2_with fail
  generalize (w.alloc (.cells #[.int .i64 l.length, .slice (some ad) l.length c] 32)).alloc (.cells #[.int .i64 0, .slice none 0 0] 32) = W at *
  refine (F1.out _ (HV.out.below BW.out)).mono ?_
  rintro e w1 ⟨rfl, hb1⟩
  have B1 := Lib.hid (below_all BW.out hb1)
  have TR1 := Lib.hid (T1.out.later hb1)
  have TA1 := Lib.hid (T0.out.later hb1)
  obtain ⟨c0, c1⟩ := TA1.out.cells
  clear hb1
  go_wp2_with fail
  refine (F2.out _).mono ?_
  rintro e w2 ⟨rfl, hb2⟩
  have B2 := Lib.hid (below_all B1.out hb2)
  have TR2 := Lib.hid (TR1.out.later hb2)
  have TA2 := Lib.hid (TA1.out.later hb2)
  obtain ⟨d0, d1⟩ := TA2.out.cells
  clear hb2 c0 c1
  go_wp2_with fail
  refine (F3.out _).mono ?_
  rintro e w3 ⟨rfl, hb3⟩
  have B3 := Lib.hid (below_all B2.out hb3)
  have TR3 := Lib.hid (TR2.out.later hb3)
  have TA3 := Lib.hid (TA2.out.later hb3)
  obtain ⟨c0, c1⟩ := TA3.out.cells
  clear hb3 d0 d1
  go_upto_region 4 with fail
  have B4 := Lib.hid (below_all B3.out (alloc_below w3 (.cells (madeCells #[.int .u64 0] l.length) 58)))
  have TR4 := Lib.hid (TR3.out.later (alloc_below w3 (.cells (madeCells #[.int .u64 0] l.length) 58)))
  have TA4 := Lib.hid (TA3.out.later (alloc_below w3 (.cells (madeCells #[.int .u64 0] l.length) 58)))
  have R4 := Lib.hid (RowU.made w3 l.length)
  have hg := TR3.out.lt
  generalize w3.alloc (.cells (madeCells #[.int .u64 0] l.length) 58) = w4 at *
  generalize w3.heap.size = g at *
  clear c0 c1
  obtain ⟨c0, c1⟩ := TA4.out.cells
  have S4 : Hid (∀ j u, (l.flatMap uC)[j]? = some u → w4.cell? (ad.add j) = some u) := by
    obtain ⟨_, A0, c0', e0, _, _, hh⟩ := HV.out.below B4.out
    cases e0
    obtain ⟨ad', e1, _, h2⟩ := hh (by omega)
    cases e1
    exact h2
  go_upto_region 5 with (refine wpList_copy_splice rfl (.tmp 28) (.tmp 30) 28 28 rfl 58 Try.underlying28 gf_size _ _ _ _ _ _ rfl rfl g 0 ((Gf.zeros l.length).flatMap uC) 58 R4.out (l.flatMap uC) (by rw [HL.out]; exact (Nat.min_self _).symm) (fun _ => ⟨rfl, ad, rfl, S4.out⟩) (by rw [HL.out, HLZ.out, HZ.out]; omega) HON.out g w4 (Below.refl g w4) (Nat.le_refl g) ?_; intro w5 HG5 hB5; rw [HC.out] at HG5; have HB5 := Lib.hid hB5; clear hB5)
  have R5 : Hid (RowU w5 g l) := HG5.out
  have TR5 := Lib.hid (two_at TR4.out HB5.out hg)
  have TA5 := Lib.hid (two_at TA4.out HB5.out (by omega))
  have B5 := Lib.hid (B4.out.trans (HB5.out.mono (by omega)))
  have e5 := R5.out.cell a hal
  have f5 := R5.out.frozen a
  have TR6 := Lib.hid (two_far TR5.out ⟨g, a, none⟩ (by show g ≠ w.heap.size + 1; omega) (.int .u64 q))
  have TA6 := Lib.hid (two_far TA5.out ⟨g, a, none⟩ (by show g ≠ w.heap.size; omega) (.int .u64 q))
  have R6 := Lib.hid (R5.out.put a hal q)
  have B6 := Lib.hid (B5.out.setCell (p := ⟨g, a, none⟩) (by show w.heap.size ≤ g; omega) (.int .u64 q))
  generalize l[a]'hal = x at *
  clear HG5 HB5 R5 TR5 TA5 B5 c0 c1 TR4 TA4 R4 S4
  go_wp2_with fail
  refine (F4.out _).mono ?_
  rintro e w6 ⟨rfl, rfl⟩
  go_upto_region 6 with fail
  generalize World.setCell _ ⟨g, a, none⟩ (.int .u64 (q : Int)) = X at *
  obtain ⟨r0, r1⟩ := TR6.out.cells
  have g0 := TR6.out.frozen 0
  have g1 := TR6.out.frozen 1
  have a0 := TA6.out.cells.1
  have HL2 := Lib.hid (show (l.set a q).length = l.length from List.length_set)
  clear e5 f5
  go_wp2_with fail
  rw [HAdd.out]
  exact end_g (p := 6) (u := 7) rfl TR6.out R6.out B6.out (Nat.le_succ _) hg (by rw [HL2.out]; simp only [maxLen]; omega) _ HL2.out.symm _ rfl rfl

/-- Whatever Add answers, in one form. -/
theorem gfAdd_any (n : Int) (v : Value) (l : List Nat) (a b : Int) (w : World) (hv : Us w v l) (hs : ∀ x ∈ l, x < 18446744073709551616) : Calls Try.prog 61 #[.agg #[.int .i64 n, v], .int .i64 a, .int .i64 b] w fun e w' =>
    ∃ (nx ex : Int) (lx : List Nat) (vx : Value), e = .returned (.tuple #[.agg #[.int .i64 nx, vx], .int .i64 ex]) ∧ Us w' vx lx ∧ Below w.heap.size w w' ∧ ((Gf.addB n l a b = true ∧ nx = n ∧ ex = 0 ∧ lx = Gf.addR l a.toNat b.toNat) ∨ (Gf.addB n l a b = false ∧ nx = 0 ∧ ex = 1 ∧ lx = [])) := by
  cases h : Gf.addB n l a b with
  | false =>
    refine (gfAdd_no n v l a b w hv hs h).mono ?_
    rintro e w' ⟨rfl, hb⟩
    exact ⟨0, 1, [], _, rfl, Us.nil _ _, hb, .inr ⟨rfl, rfl, rfl, rfl⟩⟩
  | true =>
    have h' : (Gf.okB n l && (Gf.isN n a && Gf.isN n b)) = true := h
    rw [Bool.and_eq_true, Bool.and_eq_true] at h'
    obtain ⟨k, rfl, hok⟩ := Gf.okB_iff.1 h'.1
    obtain ⟨x, rfl, hx⟩ := Gf.isN_nat h'.2.1
    obtain ⟨y, rfl, hy⟩ := Gf.isN_nat h'.2.2
    refine (gfAdd_at k v l x y w hv hok hx hy).mono ?_
    rintro e w' ⟨v', rfl, ho, hb⟩
    exact ⟨k, 0, _, v', rfl, ho.us, hb, .inl ⟨rfl, rfl, rfl, by rw [Int.toNat_natCast, Int.toNat_natCast]⟩⟩
end Go.Proofs.Ytahacjfeopjbaaa
/-
  What graph's Union answers; words for a call on two graphs that fills a row of its own.
  Conditions: rows hold sets below 2^64.
-/
set_option maxRecDepth 4000
namespace Go.Proofs.Ytahacjfeopjbaaa
open Go.RowKit

/-- A call on two graphs: their variables, the result's, and the row that is filled. -/
structure Both (w W : World) (g : Nat) (n : Nat) (u v : Value) (r : List Nat) : Prop where
  one : Two W w.heap.size 32 (.int .i64 (n : Int)) u
  other : Two W (w.heap.size + 1) 32 (.int .i64 (n : Int)) v
  res : Two W (w.heap.size + 1 + 1) 32 (.int .i64 0) (.slice none 0 0)
  row : RowU W g r
  far : w.heap.size + 1 + 1 < g
  below : Below w.heap.size w W
section
variable {w W W' : World} {g n : Nat} {u v : Value} {r : List Nat}
theorem Both.later (h : Both w W g n u v r) (hb : Below W.heap.size W W') : Both w W' g n u v r :=
  ⟨h.one.later hb, h.other.later hb, h.res.later hb, h.row.later hb, h.far, below_all h.below hb⟩
theorem Both.drew (h : Both w W g n u v r) : Both w W.drew g n u v r := h.later (Below.refl _ W).drew
theorem Both.drewN (h : Both w W g n u v r) (k : Nat) : Both w (W.drewN k) g n u v r := h.later (drewN_below W k)
theorem Both.put (h : Both w W g n u v r) (k : Nat) (hk : k < r.length) (x : Nat) : Both w (W.setCell ⟨g, k, none⟩ (.int .u64 (x : Int))) g n u v (r.set k x) :=
  ⟨two_far h.one _ (by have := h.far; show g ≠ _; omega) _, two_far h.other _ (by have := h.far; show g ≠ _; omega) _, two_far h.res _ (by have := h.far; show g ≠ _; omega) _, h.row.put k hk x, h.far, h.below.setCell (p := ⟨g, k, none⟩) (by have := h.far; show w.heap.size ≤ g; omega) _⟩
theorem Both.done {fn : Func} {p q : Tmp} (hf : fn.results = #[.cell p 32, .tmp q]) (h : Both w W g n u v r) (hl : r.length ≤ maxLen) (m : Nat) (hm : m = r.length) (tmps : Array Value) (hp : tmps.getD p undef = .pointer (some ⟨w.heap.size + 1 + 1, 0, none⟩)) (hq : tmps.getD q undef = .int .i64 0) :
    bodyPost Try.prog fn (RetG w n r) Exit.ret { tmps := tmps, defers := [] } ((W.setCell ⟨w.heap.size + 1 + 1, 0, none⟩ (.int .i64 n)).setCell ⟨w.heap.size + 1 + 1, 1, none⟩ (.slice (some ⟨g, 0, none⟩) m m)) :=
  end_g hf h.res h.row h.below (by omega) h.far hl m hm tmps hp hq
end
/-- The world at the first call: the two graphs and the result lie in variables. -/
theorem gf_two (w : World) (n m : Int) (u v : Value) {W : World} (h : W = ((w.alloc (.cells #[.int .i64 n, u] 32)).alloc (.cells #[.int .i64 m, v] 32)).alloc (.cells #[.int .i64 0, .slice none 0 0] 32)) :
    Two W w.heap.size 32 (.int .i64 n) u ∧ Two W (w.heap.size + 1) 32 (.int .i64 m) v ∧ Two W (w.heap.size + 1 + 1) 32 (.int .i64 0) (.slice none 0 0) ∧ Below w.heap.size w W := by
  subst h
  have b1 := alloc_below w (.cells #[.int .i64 n, u] 32)
  have b2 := alloc_below (w.alloc (.cells #[.int .i64 n, u] 32)) (.cells #[.int .i64 m, v] 32)
  have b3 := alloc_below ((w.alloc (.cells #[.int .i64 n, u] 32)).alloc (.cells #[.int .i64 m, v] 32)) (.cells #[.int .i64 0, .slice none 0 0] 32)
  have t1 := Two.new (w.alloc (.cells #[.int .i64 n, u] 32)) 32 (.int .i64 m) v
  have t2 := Two.new ((w.alloc (.cells #[.int .i64 n, u] 32)).alloc (.cells #[.int .i64 m, v] 32)) 32 (.int .i64 0) (.slice none 0 0)
  rw [World.size_alloc] at t1
  rw [World.size_alloc, World.size_alloc] at t2
  exact ⟨((Two.new w 32 (.int .i64 n) u).later b2).later b3, t1.later b3, t2, below_all (below_all b1 b2) b3⟩

namespace Gf
theorem join_row {n : Nat} {a b : List Nat} (ha : Ok n a) (hb : Ok n b) {x : Nat} (h1 : x < a.length) (h2 : x < b.length) : Bi.join [a[x], b[x]] = setTo (fun y => bit a x y || bit b x y) n := by
  rw [union_row ha hb (by rw [← ha.2.1]; exact h1), List.getD_eq_getElem?_getD, List.getElem?_eq_getElem h1, List.getD_eq_getElem?_getD, List.getElem?_eq_getElem h2, Bi.join_two]
  rfl
end Gf

set_option maxHeartbeats 1000000 in
theorem gfUnion_no (n m : Int) (u v : Value) (a b : List Nat) (w : World) (hu : Us w u a) (hv : Us w v b) (ha : ∀ x ∈ a, x < 18446744073709551616) (hb : ∀ x ∈ b, x < 18446744073709551616) (hno : Gf.matchR n m a b = false) : Calls Try.prog 68 #[.agg #[.int .i64 n, u], .agg #[.int .i64 m, v]] w (RetNoG w) := by
  have HU := Lib.hid hu
  have HV := Lib.hid hv
  obtain ⟨A, c, rfl, -⟩ := hu.spelled
  obtain ⟨A', c', rfl, -⟩ := hv.spelled
  have F1 := Lib.hid (fun w h1 h2 => gfMatch_at n m (.slice A a.length c) (.slice A' b.length c') a b w h1 h2 ha hb)
  rw [hno] at F1
  clear ha hb hu hv hno
  go_enter Try.func68, Try.ntmps68
  go_wp2_with fail
  obtain ⟨t0, t1, t2, bw⟩ := gf_two w n m (.slice A a.length c) (.slice A' b.length c') rfl
  have T2 := Lib.hid t2
  have BW := Lib.hid bw
  clear t0 t1 t2 bw
  generalize ((w.alloc (.cells #[.int .i64 n, .slice A a.length c] 32)).alloc (.cells #[.int .i64 m, .slice A' b.length c'] 32)).alloc (.cells #[.int .i64 0, .slice none 0 0] 32) = W at *
  refine (F1.out _ (HU.out.below BW.out) (HV.out.below BW.out)).mono ?_
  rintro e w1 ⟨rfl, hb1⟩
  have B1 := Lib.hid (below_all BW.out hb1)
  have TR := Lib.hid (T2.out.later hb1)
  obtain ⟨r0, r1⟩ := TR.out.cells
  have f0 := TR.out.frozen 0
  have f1 := TR.out.frozen 1
  clear hb1
  go_wp2_with fail
  exact end_no (p := 4) (u := 5) rfl TR.out B1.out (by omega) _ rfl rfl

set_option maxHeartbeats 1000000 in
theorem gfUnion_at (n : Nat) (u v : Value) (a b : List Nat) (w : World) (hu : Us w u a) (hv : Us w v b) (ha : Gf.Ok n a) (hb : Gf.Ok n b) : Calls Try.prog 68 #[.agg #[.int .i64 n, u], .agg #[.int .i64 n, v]] w (RetG w n (Gf.unionR n a b)) := by
  have HU := Lib.hid hu
  have HV := Lib.hid hv
  obtain ⟨A, c, rfl, hfa⟩ := hu.spelled
  obtain ⟨A', c', rfl, hfb⟩ := hv.spelled
  have HFA := Lib.hid hfa
  have HFB := Lib.hid hfb
  have F1 := Lib.hid (fun w h1 h2 => gfMatch_at n n (.slice A a.length c) (.slice A' b.length c') a b w h1 h2 (fun x hx => ha.small hx) (fun x hx => hb.small hx))
  rw [Gf.match_iff.2 ⟨n, rfl, rfl, ha, hb⟩] at F1
  have HLA := Lib.hid ha.2.1
  have HLB := Lib.hid hb.2.1
  have HSA := Lib.hid (fun x (h : x < a.length) => ha.small (List.getElem_mem h))
  have HSB := Lib.hid (fun x (h : x < b.length) => hb.small (List.getElem_mem h))
  have HJ := Lib.hid (fun x h1 h2 => @Gf.join_row n a b ha hb x h1 h2)
  have hn64 := ha.1
  have hmk := fun w => gf_make w n (Nat.le_trans ha.1 (by decide))
  have HZ := Lib.hid (Gf.rowsAt_zero n fun x y => Gf.bit a x y || Gf.bit b x y)
  have HE := Lib.hid (show Gf.rowsAt n (fun x y => Gf.bit a x y || Gf.bit b x y) n 0 = Gf.unionR n a b from Gf.rowsAt_all n _ 0)
  have HN := Lib.hid (fun x => @Gf.rowsAt_next n (fun x y => Gf.bit a x y || Gf.bit b x y) x)
  have HST := Lib.hid (fun x s t => @Gf.rowsAt_set n (fun x y => Gf.bit a x y || Gf.bit b x y) x s t)
  have HRL := Lib.hid (fun x s => Gf.rowsAt_len n (fun x y => Gf.bit a x y || Gf.bit b x y) x s)
  generalize (fun x y => Gf.bit a x y || Gf.bit b x y) = f at *
  clear hu hv hfa hfb ha hb
  go_enter Try.func68, Try.ntmps68
  go_wp2_with fail
  obtain ⟨t0, t1, t2, bw⟩ := gf_two w n n (.slice A a.length c) (.slice A' b.length c') rfl
  have T0 := Lib.hid t0
  have T1 := Lib.hid t1
  have T2 := Lib.hid t2
  have BW := Lib.hid bw
  clear t0 t1 t2 bw
  generalize ((w.alloc (.cells #[.int .i64 n, .slice A a.length c] 32)).alloc (.cells #[.int .i64 n, .slice A' b.length c'] 32)).alloc (.cells #[.int .i64 0, .slice none 0 0] 32) = W at *
  refine (F1.out _ (HU.out.below BW.out) (HV.out.below BW.out)).mono ?_
  rintro e w1 ⟨rfl, hb1⟩
  have B1 := Lib.hid (below_all BW.out hb1)
  have T10 := Lib.hid (T0.out.later hb1)
  have T11 := Lib.hid (T1.out.later hb1)
  have T12 := Lib.hid (T2.out.later hb1)
  obtain ⟨c0, c1⟩ := T10.out.cells
  clear hb1 T0 T1 T2
  go_upto_region 4 with fail
  have HB : Hid (Both w (w1.alloc (.cells (madeCells #[.int .u64 0] n) 58)) w1.heap.size n (.slice A a.length c) (.slice A' b.length c') (Gf.rowsAt n f 0 0)) := by
    have b2 := alloc_below w1 (.cells (madeCells #[.int .u64 0] n) 58)
    exact ⟨T10.out.later b2, T11.out.later b2, T12.out.later b2, by rw [HZ.out]; exact RowU.made w1 n, T12.out.lt, below_all B1.out b2⟩
  generalize w1.alloc (.cells (madeCells #[.int .u64 0] n) 58) = w2 at *
  generalize w1.heap.size = g at *
  clear c0 c1 T10 T11 T12
  go_wp2_with fail
  go_loopw [18] (fun i wr => ∃ x : Nat, x ≤ n ∧ i = .int .i64 x ∧ Hid (Both w wr g n (.slice A a.length c) (.slice A' b.length c') (Gf.rowsAt n f x 0))) (fun i _ => n - (intOf i).toNat)
  case atStart => exact ⟨0, Nat.zero_le _, rfl, HB.out⟩
  case round =>
    clear HB
    obtain ⟨x, hx, rfl, HB⟩ := hrel
    obtain ⟨c0, c1⟩ := HB.out.one.cells
    obtain ⟨d0, d1⟩ := HB.out.other.cells
    by_cases hlt : x < n
    · have hxa : x < a.length := by have := HLA.out; omega
      have hxb : x < b.length := by have := HLB.out; omega
      obtain ⟨ada, rfl, hba, ha0⟩ := HFA.out x hxa
      obtain ⟨adb, rfl, hbb, hb0⟩ := HFB.out x hxb
      have ha1 := (HB.out.below.cell (by rw [add_block]; exact hba)).trans ha0
      have hb1 := (HB.out.below.cell (by rw [add_block]; exact hbb)).trans hb0
      have sa := HSA.out x hxa
      have sb := HSB.out x hxb
      have hj := HJ.out x hxa hxb
      have hxr : x < (Gf.rowsAt n f x 0).length := by rw [HRL.out]; exact hlt
      have hold := Gf.rowsAt_here f hlt 0
      have HKA := (fun (W' : World) r (h : Both w W' g n (.slice (some ada) a.length c) (.slice (some adb) b.length c') r) => (⟨h.one.cells.2, h.other.cells.2, (h.below.cell (by rw [add_block]; exact hba)).trans ha0, (h.below.cell (by rw [add_block]; exact hbb)).trans hb0⟩ : W'.cell? ⟨w.heap.size, 1, none⟩ = some (.slice (some ada) a.length c) ∧ W'.cell? ⟨w.heap.size + 1, 1, none⟩ = some (.slice (some adb) b.length c') ∧ W'.cell? (ada.add x) = some (.int .u64 (a[x] : Int)) ∧ W'.cell? (adb.add x) = some (.int .u64 (b[x] : Int))))
      clear ha0 hb0
      generalize a[x]'hxa = p at *
      generalize b[x]'hxb = q at *
      have HJ2 := Lib.hid hj
      clear hj
      go_wp2_with fail
      have HB3 := Lib.hid ((HB.out.later (alloc_below wr (.cells #[.int .u64 (p : Int), .int .u64 (q : Int)] 58))).drew)
      have L3 := Lib.hid (show Us (wr.alloc (.cells #[.int .u64 (p : Int), .int .u64 (q : Int)] 58)).drew (.slice (some ⟨wr.heap.size, 0, none⟩) 2 2) [p, q] from (lit_rows uC_len wr 58 [p, q] (by simp [maxLen])).below (Below.refl _ _).drew)
      have e3 := HB3.out.row.cell x hxr
      have f3 := HB3.out.row.frozen x
      have HB4 := Lib.hid (HB3.out.put x hxr (Bi.join [p, q]))
      rw [HJ2.out, HST.out, HN.out] at HB4
      rw [← HJ2.out] at HB4
      have F3 := Lib.hid (fun w h => biJoin_at [p, q] (.slice (some ⟨wr.heap.size, 0, none⟩) 2 2) w h (by simp) (by
        intro y hy
        simp only [List.mem_cons, List.not_mem_nil, or_false] at hy
        rcases hy with rfl | rfl
        · exact sa
        · exact sb))
      generalize Bi.join [p, q] = t at *
      have HB0 := Lib.hid HB.out.drew
      have HK : Hid (∀ (W' : World) r, Both w W' g n (.slice (some ada) a.length c) (.slice (some adb) b.length c') r → W'.cell? ⟨w.heap.size, 1, none⟩ = some (.slice (some ada) a.length c) ∧ W'.cell? ⟨w.heap.size + 1, 1, none⟩ = some (.slice (some adb) b.length c') ∧ W'.cell? (ada.add x) = some (.int .u64 (p : Int)) ∧ W'.cell? (adb.add x) = some (.int .u64 (q : Int))) := HKA
      clear HKA
      go_region_held3 (fun w' => w'.cell? ⟨w.heap.size, 1, none⟩ = some (.slice (some ada) a.length c) ∧ w'.cell? ⟨w.heap.size + 1, 1, none⟩ = some (.slice (some adb) b.length c') ∧ w'.cell? (ada.add x) = some (.int .u64 (p : Int)) ∧ w'.cell? (adb.add x) = some (.int .u64 (q : Int)))
        (first | (exact HK.out _ _ HB0.out) | (exact HK.out _ _ HB3.out) | (exact HK.out _ _ HB4.out) | (exact ⟨c1, d1, ha1, hb1⟩))
        (first | (go_at_call 72; (with_reducible refine (F3.out _ L3.out).mono ?_); rintro e w4 ⟨rfl, rfl⟩))
      go_wp2_with fail
      go_roundw
      case rel => exact ⟨x + 1, by omega, by go_num, HB4.out⟩
      case measure => simp [intOf]; omega
    · obtain rfl : x = n := by omega
      obtain ⟨r0, r1⟩ := HB.out.res.cells
      have f0 := HB.out.res.frozen 0
      have f1 := HB.out.res.frozen 1
      go_wp2_with fail
      rw [← HE.out]
      exact HB.out.done (p := 4) (q := 5) rfl (by rw [HRL.out]; simp only [maxLen]; omega) _ (HRL.out _ _).symm _ rfl rfl
end Go.Proofs.Ytahacjfeopjbaaa
/-
  What graph's Compose answers.
  Conditions: rows hold sets below 2^64.
-/
set_option maxRecDepth 4000
namespace Go.Proofs.Ytahacjfeopjbaaa
open Go.RowKit

namespace Gf
/-- A composition's row behind the first k nodes in between. -/
def accTo (b : List Nat) (L : List Nat) (k : Nat) : Nat := Bi.join ((L.take k).map fun y => b.getD y 0)
theorem accTo_zero (b L : List Nat) : accTo b L 0 = 0 := rfl
theorem accTo_next {b L : List Nat} {k : Nat} (hk : k < L.length) (hy : L[k] < b.length) : Bi.join [accTo b L k, b[L[k]]] = accTo b L (k + 1) := by
  unfold accTo
  rw [List.take_succ_eq_append_getElem hk, List.map_append, List.map_cons, List.map_nil, Bi.join_snoc, Bi.join_two, List.getD_eq_getElem?_getD, List.getElem?_eq_getElem hy]
  rfl
theorem accTo_lt {n : Nat} {b : List Nat} (hb : Ok n b) (L : List Nat) (k : Nat) : accTo b L k < 2 ^ 64 := by
  refine Bi.join_lt fun s hs => ?_
  obtain ⟨y, _, rfl⟩ := List.mem_map.1 hs
  rcases Nat.lt_or_ge y b.length with h | h
  · rw [List.getD_eq_getElem?_getD, List.getElem?_eq_getElem h]; exact hb.small (List.getElem_mem h)
  · rw [List.getD_eq_getElem?_getD, List.getElem?_eq_none h]; exact Nat.two_pow_pos 64
theorem accTo_all {n : Nat} {a b : List Nat} (ha : Ok n a) (hb : Ok n b) {x : Nat} (hx : x < a.length) : accTo b (Bi.list a[x]) (Bi.list a[x]).length = setTo (fun z => (List.range n).any fun y => bit a x y && bit b y z) n := by
  rw [accTo, List.take_length, compose_row ha hb (by rw [← ha.2.1]; exact hx), List.getD_eq_getElem?_getD, List.getElem?_eq_getElem hx]
  rfl
theorem list_node {n : Nat} {a : List Nat} (ha : Ok n a) {x : Nat} (hx : x < a.length) {k : Nat} (hk : k < (Bi.list a[x]).length) : (Bi.list a[x])[k] < n := by
  have h := (Bi.mem_list.1 (List.getElem_mem hk)).2
  rw [← bit_at hx] at h
  exact (ha.node h).2
end Gf

set_option maxHeartbeats 1000000 in
theorem gfCompose_no (n m : Int) (u v : Value) (a b : List Nat) (w : World) (hu : Us w u a) (hv : Us w v b) (ha : ∀ x ∈ a, x < 18446744073709551616) (hb : ∀ x ∈ b, x < 18446744073709551616) (hno : Gf.matchR n m a b = false) : Calls Try.prog 36 #[.agg #[.int .i64 n, u], .agg #[.int .i64 m, v]] w (RetNoG w) := by
  have HU := Lib.hid hu
  have HV := Lib.hid hv
  obtain ⟨A, c, rfl, -⟩ := hu.spelled
  obtain ⟨A', c', rfl, -⟩ := hv.spelled
  have F1 := Lib.hid (fun w h1 h2 => gfMatch_at n m (.slice A a.length c) (.slice A' b.length c') a b w h1 h2 ha hb)
  rw [hno] at F1
  clear ha hb hu hv hno
  go_enter Try.func36, Try.ntmps36
  go_wp2_with fail
  obtain ⟨t0, t1, t2, bw⟩ := gf_two w n m (.slice A a.length c) (.slice A' b.length c') rfl
  have T2 := Lib.hid t2
  have BW := Lib.hid bw
  clear t0 t1 t2 bw
  generalize ((w.alloc (.cells #[.int .i64 n, .slice A a.length c] 32)).alloc (.cells #[.int .i64 m, .slice A' b.length c'] 32)).alloc (.cells #[.int .i64 0, .slice none 0 0] 32) = W at *
  refine (F1.out _ (HU.out.below BW.out) (HV.out.below BW.out)).mono ?_
  rintro e w1 ⟨rfl, hb1⟩
  have B1 := Lib.hid (below_all BW.out hb1)
  have TR := Lib.hid (T2.out.later hb1)
  obtain ⟨r0, r1⟩ := TR.out.cells
  have f0 := TR.out.frozen 0
  have f1 := TR.out.frozen 1
  clear hb1
  go_wp2_with fail
  exact end_no (p := 4) (u := 5) rfl TR.out B1.out (by omega) _ rfl rfl

set_option maxHeartbeats 2000000 in
theorem gfCompose_at (n : Nat) (u v : Value) (a b : List Nat) (w : World) (hu : Us w u a) (hv : Us w v b) (ha : Gf.Ok n a) (hb : Gf.Ok n b) : Calls Try.prog 36 #[.agg #[.int .i64 n, u], .agg #[.int .i64 n, v]] w (RetG w n (Gf.composeR n a b)) := by
  have HU := Lib.hid hu
  have HV := Lib.hid hv
  obtain ⟨A, c, rfl, hfa⟩ := hu.spelled
  obtain ⟨A', c', rfl, hfb⟩ := hv.spelled
  have HFA := Lib.hid hfa
  have HFB := Lib.hid hfb
  have F1 := Lib.hid (fun w h1 h2 => gfMatch_at n n (.slice A a.length c) (.slice A' b.length c') a b w h1 h2 (fun x hx => ha.small hx) (fun x hx => hb.small hx))
  rw [Gf.match_iff.2 ⟨n, rfl, rfl, ha, hb⟩] at F1
  have HLA := Lib.hid ha.2.1
  have HLB := Lib.hid hb.2.1
  have HSA := Lib.hid (fun x (h : x < a.length) => ha.small (List.getElem_mem h))
  have HSB := Lib.hid (fun x (h : x < b.length) => hb.small (List.getElem_mem h))
  have HJ := Lib.hid (fun x h1 => @Gf.accTo_all n a b ha hb x h1)
  have HND := Lib.hid (fun x (h1 : x < a.length) k (h2 : k < (Bi.list a[x]).length) => Gf.list_node ha h1 h2)
  have HAC := Lib.hid (fun L k => Gf.accTo_lt hb L k)
  have HAN := Lib.hid (fun L k h1 h2 => @Gf.accTo_next b L k h1 h2)
  have HAZ := Lib.hid (fun L => Gf.accTo_zero b L)
  have hn64 := ha.1
  have hmk := fun w => gf_make w n (Nat.le_trans ha.1 (by decide))
  have HLL := Lib.hid (fun s => Bi.list_len s)
  obtain ⟨f, hf⟩ : ∃ f : Nat → Nat → Bool, f = fun x z => (List.range n).any fun y => Gf.bit a x y && Gf.bit b y z := ⟨_, rfl⟩
  have HJ' : Hid (∀ x (h : x < a.length), Gf.accTo b (Bi.list a[x]) (Bi.list a[x]).length = Gf.setTo (f x) n) := fun x h => by rw [hf]; exact HJ.out x h
  have HE : Hid (Gf.rowsAt n f n 0 = Gf.composeR n a b) := by rw [hf]; exact Gf.rowsAt_all n _ 0
  have HZ := Lib.hid (Gf.rowsAt_zero n f)
  have HN : Hid (∀ x, Gf.rowsAt n f x (Gf.setTo (f x) n) = Gf.rowsAt n f (x + 1) 0) := fun x => Gf.rowsAt_next f x
  have HST := Lib.hid (fun x s t => @Gf.rowsAt_set n f x s t)
  have HRL := Lib.hid (fun x s => Gf.rowsAt_len n f x s)
  have HRH := Lib.hid (fun x (h : x < n) s => Gf.rowsAt_here f h s)
  clear hu hv hfa hfb ha hb hf HJ
  go_enter Try.func36, Try.ntmps36
  go_wp2_with fail
  obtain ⟨t0, t1, t2, bw⟩ := gf_two w n n (.slice A a.length c) (.slice A' b.length c') rfl
  have T0 := Lib.hid t0
  have T1 := Lib.hid t1
  have T2 := Lib.hid t2
  have BW := Lib.hid bw
  clear t0 t1 t2 bw
  generalize ((w.alloc (.cells #[.int .i64 n, .slice A a.length c] 32)).alloc (.cells #[.int .i64 n, .slice A' b.length c'] 32)).alloc (.cells #[.int .i64 0, .slice none 0 0] 32) = W at *
  refine (F1.out _ (HU.out.below BW.out) (HV.out.below BW.out)).mono ?_
  rintro e w1 ⟨rfl, hb1⟩
  have B1 := Lib.hid (below_all BW.out hb1)
  have T10 := Lib.hid (T0.out.later hb1)
  have T11 := Lib.hid (T1.out.later hb1)
  have T12 := Lib.hid (T2.out.later hb1)
  obtain ⟨c0, c1⟩ := T10.out.cells
  clear hb1 T0 T1 T2
  go_upto_region 4 with fail
  have HB : Hid (Both w (w1.alloc (.cells (madeCells #[.int .u64 0] n) 58)) w1.heap.size n (.slice A a.length c) (.slice A' b.length c') (Gf.rowsAt n f 0 0)) := by
    have b2 := alloc_below w1 (.cells (madeCells #[.int .u64 0] n) 58)
    exact ⟨T10.out.later b2, T11.out.later b2, T12.out.later b2, by rw [HZ.out]; exact RowU.made w1 n, T12.out.lt, below_all B1.out b2⟩
  generalize w1.alloc (.cells (madeCells #[.int .u64 0] n) 58) = w2 at *
  generalize w1.heap.size = g at *
  clear c0 c1 T10 T11 T12
  obtain ⟨c0, c1⟩ := HB.out.one.cells
  go_wp2_with fail
  clear c0 c1
  go_loopw [22] (fun i wr => ∃ x : Nat, x ≤ n ∧ i = .int .i64 x ∧ Hid (Both w wr g n (.slice A a.length c) (.slice A' b.length c') (Gf.rowsAt n f x 0))) (fun i _ => n - (intOf i).toNat)
  case atStart => exact ⟨0, Nat.zero_le _, rfl, HB.out⟩
  case round =>
    clear HB
    obtain ⟨x, hx, rfl, HB⟩ := hrel
    by_cases hlt : x < n
    · have hxa : x < a.length := by have := HLA.out; omega
      obtain ⟨ada, rfl, hba, ha0⟩ := HFA.out x hxa
      have ha1 := (HB.out.below.cell (by rw [add_block]; exact hba)).trans ha0
      have sa := HSA.out x hxa
      have HJ2 := Lib.hid (HJ'.out x hxa)
      have HND2 := Lib.hid (HND.out x hxa)
      have hga := Lib.hid HB.out.row.lt
      generalize a[x]'hxa = p at *
      clear ha0
      go_wp2_with fail
      refine (biList_at p wr sa).mono ?_
      rintro e w3 ⟨v3, rfl, ho3, hb3⟩
      obtain ⟨AL, cL, rfl⟩ := own_form ho3
      have HB3 := Lib.hid (HB.out.later hb3)
      have HO3 := Lib.hid ho3
      have hl64 := HLL.out p
      clear ho3 hb3 HB ha1
      rw [← HAZ.out (Bi.list p)] at HB3
      generalize Bi.list p = L at *
      generalize wr.heap.size = base at *
      go_wp2_with fail
      go_loopw [30] (fun i wq => ∃ k : Nat, k ≤ L.length ∧ i = .int .i64 k ∧ Hid (Both w wq g n (.slice (some ada) a.length c) (.slice A' b.length c') (Gf.rowsAt n f x (Gf.accTo b L k))) ∧ Hid (wq.ownsRow base 3 1 (.slice AL L.length cL) L.length ((Bi.nums L).flatMap nC))) (fun i _ => L.length - (intOf i).toNat)
      case atStart => exact ⟨0, Nat.zero_le _, rfl, HB3.out, HO3.out⟩
      case round =>
        clear HB3 HO3
        obtain ⟨k, hk, rfl, HB, HO⟩ := hrel
        by_cases hkl : k < L.length
        · obtain ⟨AL', cL', hv4, hfl⟩ := (nums_own HO.out).nums
          cases hv4
          obtain ⟨adl, rfl, hbl, hl0⟩ := hfl k hkl
          have hyn := HND2.out k hkl
          have hyb : L[k]'hkl < b.length := by have := HLB.out; omega
          obtain ⟨adb, rfl, hbb, hb0⟩ := HFB.out _ hyb
          have hb1 := (HB.out.below.cell (by rw [add_block]; exact hbb)).trans hb0
          have sb := HSB.out _ hyb
          have sacc := HAC.out L k
          have HA2 := Lib.hid (HAN.out L k hkl hyb)
          generalize L[k]'hkl = y at *
          have hxr : x < (Gf.rowsAt n f x (Gf.accTo b L k)).length := by rw [HRL.out]; exact hlt
          have hold := HB.out.row.cell x hxr
          rw [HRH.out x hlt] at hold
          obtain ⟨d0, d1⟩ := HB.out.other.cells
          generalize b[y]'hyb = q at *
          have HB3 := Lib.hid ((HB.out.later (alloc_below wr (.cells #[.int .u64 (Gf.accTo b L k : Int), .int .u64 (q : Int)] 58))).drew)
          have L3 := Lib.hid (show Us (wr.alloc (.cells #[.int .u64 (Gf.accTo b L k : Int), .int .u64 (q : Int)] 58)).drew (.slice (some ⟨wr.heap.size, 0, none⟩) 2 2) [Gf.accTo b L k, q] from (lit_rows uC_len wr 58 [Gf.accTo b L k, q] (by simp [maxLen])).below (Below.refl _ _).drew)
          have HO3 := Lib.hid (own_below HO.out (below_all (alloc_below wr (.cells #[.int .u64 (Gf.accTo b L k : Int), .int .u64 (q : Int)] 58)) (Below.refl _ _).drew))
          have e3 := HB3.out.row.cell x hxr
          have f3 := HB3.out.row.frozen x
          have HB4 := Lib.hid (HB3.out.put x hxr (Bi.join [Gf.accTo b L k, q]))
          have HO4 := Lib.hid (own_setCell HO3.out hga.out (o := x) (x := .int .u64 (Bi.join [Gf.accTo b L k, q] : Int)))
          rw [HST.out] at HB4
          have F3 := Lib.hid (fun w h => biJoin_at [Gf.accTo b L k, q] (.slice (some ⟨wr.heap.size, 0, none⟩) 2 2) w h (by simp) (by
            intro y hy
            simp only [List.mem_cons, List.not_mem_nil, or_false] at hy
            rcases hy with rfl | rfl
            · exact sacc
            · exact sb))
          clear hfl hb0
          generalize Bi.join [Gf.accTo b L k, q] = t at *
          generalize Gf.accTo b L k = z at *
          go_wp2_with fail
          go_region_law (go_simp; go_at_call 72; refine (F3.out _ L3.out).mono ?_; rintro e w4 ⟨rfl, rfl⟩)
          all_goals
            go_wp2_with fail
            go_roundw
            case rel => exact ⟨k + 1, by omega, by go_num, by rw [Hid, ← HA2.out]; exact HB4.out, HO4.out⟩
            case measure => simp [intOf]; omega
        · have hkn : k = L.length := by omega
          subst hkn
          have HB5 := HB
          rw [HJ2.out, HN.out] at HB5
          go_wp2_with fail
          go_roundw
          case rel => exact ⟨x + 1, by omega, by go_num, HB5.out⟩
          case measure => simp [intOf]; omega
    · have hna : ¬ x < a.length := by have := HLA.out; omega
      have hxn : x = n := by omega
      subst hxn
      obtain ⟨c0, c1⟩ := HB.out.one.cells
      obtain ⟨r0, r1⟩ := HB.out.res.cells
      have f0 := HB.out.res.frozen 0
      have f1 := HB.out.res.frozen 1
      go_wp2_with fail
      rw [← HE.out]
      exact HB.out.done (p := 4) (q := 5) rfl (by rw [HRL.out]; simp only [maxLen]; omega) _ (HRL.out _ _).symm _ rfl rfl
end Go.Proofs.Ytahacjfeopjbaaa
/-
  What graph's Turn answers; words for a call on one graph that fills a row of its own.
  Conditions: rows hold sets below 2^64.
  (This program has not all of these functions: gfTurn_no, gfTurn_at, gfTurn_any are left out here.)
-/
set_option maxRecDepth 4000
namespace Go.Proofs.Ytahacjfeopjbaaa
open Go.RowKit

namespace Gf
/-- The rows of a turned graph behind x rows, and the nodes d of row x. -/
def turnTo (n : Nat) (l : List Nat) (x : Nat) (d : List Nat) : List Nat := (List.range n).map fun y => if y ∈ d then Bi.withN (setTo (fun u => bit l u y) x) (x : Int) else setTo (fun u => bit l u y) x
theorem turnTo_len (n : Nat) (l : List Nat) (x : Nat) (d : List Nat) : (turnTo n l x d).length = n := by rw [turnTo, List.length_map, List.length_range]
theorem turnTo_get {n : Nat} (l : List Nat) (x : Nat) (d : List Nat) {y : Nat} (hy : y < (turnTo n l x d).length) : (turnTo n l x d)[y] = if y ∈ d then Bi.withN (setTo (fun u => bit l u y) x) (x : Int) else setTo (fun u => bit l u y) x := by simp [turnTo]
theorem turnTo_zero (n : Nat) (l : List Nat) : turnTo n l 0 [] = zeros n := by
  apply List.ext_getElem
  · rw [turnTo_len, zeros, List.length_replicate]
  · intro u h1 h2
    have e : (zeros n)[u] = 0 := List.getElem_replicate _
    rw [turnTo_get, e, if_neg List.not_mem_nil, setTo_zero]
theorem turnTo_set {n : Nat} (l : List Nat) (x : Nat) (d : List Nat) {y : Nat} (hy : y < (turnTo n l x d).length) (hd : y ∉ d) : (turnTo n l x d).set y (Bi.withN ((turnTo n l x d)[y]) (x : Int)) = turnTo n l x (d ++ [y]) := by
  have hz : Bi.withN ((turnTo n l x d)[y]) (x : Int) = Bi.withN (setTo (fun u => bit l u y) x) (x : Int) := by rw [turnTo_get, if_neg hd]
  rw [hz]
  apply List.ext_getElem
  · rw [List.length_set, turnTo_len, turnTo_len]
  · intro u h1 h2
    rw [List.getElem_set, turnTo_get, turnTo_get]
    by_cases e : y = u
    · subst e
      rw [if_pos rfl, if_pos (List.mem_append.2 (.inr List.mem_cons_self))]
    · rw [if_neg e]
      have : u ∈ d ++ [y] ↔ u ∈ d := by
        rw [List.mem_append, List.mem_singleton]
        exact ⟨fun h => h.elim id (fun h => absurd h.symm e), .inl⟩
      by_cases q : u ∈ d
      · rw [if_pos q, if_pos (this.2 q)]
      · rw [if_neg q, if_neg (fun h => q (this.1 h))]
theorem turnTo_next {n : Nat} {l : List Nat} (h : Ok n l) {x : Nat} (hx : x < l.length) : turnTo n l x (Bi.list l[x]) = turnTo n l (x + 1) [] := by
  apply List.ext_getElem
  · rw [turnTo_len, turnTo_len]
  · intro y h1 h2
    rw [turnTo_len] at h1
    rw [turnTo_get, turnTo_get, if_neg List.not_mem_nil, setTo_next]
    have : y ∈ Bi.list l[x] ↔ bit l x y = true := by
      rw [Bi.mem_list, bit_at hx]
      exact ⟨fun q => q.2, fun q => ⟨Nat.lt_of_lt_of_le h1 h.1, q⟩⟩
    by_cases q : y ∈ Bi.list l[x]
    · rw [if_pos q, if_pos (this.1 q)]
    · rw [if_neg q, if_neg (fun z => q (this.2 z))]
theorem turnTo_all (n : Nat) (l : List Nat) : turnTo n l n [] = turnR n l := by
  apply List.ext_getElem
  · rw [turnTo_len, turnR, build_len]
  · intro y h1 h2
    rw [turnTo_get, if_neg List.not_mem_nil]
    exact (build_at (fun x y => bit l y x) (x := y) (by rw [turnTo_len] at h1; rw [build_len]; exact h1)).symm
theorem turnTo_lt {n : Nat} (l : List Nat) (x : Nat) (d : List Nat) {y : Nat} (hy : y < (turnTo n l x d).length) : (turnTo n l x d)[y] < 2 ^ 64 := by
  rw [turnTo_get]
  split
  · exact Bi.with_lt (setTo_lt64 _ _) _
  · exact setTo_lt64 _ _
theorem rise_take {L : List Nat} (h : L.Pairwise (· < ·)) {k : Nat} (hk : k < L.length) : L[k] ∉ L.take k := by
  intro hm
  obtain ⟨i, hi, e⟩ := List.getElem_of_mem hm
  rw [List.length_take] at hi
  rw [List.getElem_take] at e
  have := List.pairwise_iff_getElem.1 h i k (by omega) hk (by omega)
  omega
end Gf

/-- A call on one graph: its variable, the result's, and the row that is filled. -/
structure Lone (w W : World) (g : Nat) (n : Nat) (u : Value) (r : List Nat) : Prop where
  one : Two W w.heap.size 32 (.int .i64 (n : Int)) u
  res : Two W (w.heap.size + 1) 32 (.int .i64 0) (.slice none 0 0)
  row : RowU W g r
  far : w.heap.size + 1 < g
  below : Below w.heap.size w W
section
variable {w W W' : World} {g n : Nat} {u : Value} {r : List Nat}
theorem Lone.later (h : Lone w W g n u r) (hb : Below W.heap.size W W') : Lone w W' g n u r :=
  ⟨h.one.later hb, h.res.later hb, h.row.later hb, h.far, below_all h.below hb⟩
theorem Lone.put (h : Lone w W g n u r) (k : Nat) (hk : k < r.length) (x : Nat) : Lone w (W.setCell ⟨g, k, none⟩ (.int .u64 (x : Int))) g n u (r.set k x) :=
  ⟨two_far h.one _ (by have := h.far; show g ≠ _; omega) _, two_far h.res _ (by have := h.far; show g ≠ _; omega) _, h.row.put k hk x, h.far, h.below.setCell (p := ⟨g, k, none⟩) (by have := h.far; show w.heap.size ≤ g; omega) _⟩
theorem Lone.done {fn : Func} {p q : Tmp} (hf : fn.results = #[.cell p 32, .tmp q]) (h : Lone w W g n u r) (hl : r.length ≤ maxLen) (m : Nat) (hm : m = r.length) (tmps : Array Value) (hp : tmps.getD p undef = .pointer (some ⟨w.heap.size + 1, 0, none⟩)) (hq : tmps.getD q undef = .int .i64 0) :
    bodyPost Try.prog fn (RetG w n r) Exit.ret { tmps := tmps, defers := [] } ((W.setCell ⟨w.heap.size + 1, 0, none⟩ (.int .i64 n)).setCell ⟨w.heap.size + 1, 1, none⟩ (.slice (some ⟨g, 0, none⟩) m m)) :=
  end_g hf h.res h.row h.below (by omega) h.far hl m hm tmps hp hq
end
/-- The world at the first call: the graph and the result lie in variables. -/
theorem gf_one (w : World) (n : Int) (u : Value) {W : World} (h : W = (w.alloc (.cells #[.int .i64 n, u] 32)).alloc (.cells #[.int .i64 0, .slice none 0 0] 32)) :
    Two W w.heap.size 32 (.int .i64 n) u ∧ Two W (w.heap.size + 1) 32 (.int .i64 0) (.slice none 0 0) ∧ Below w.heap.size w W := by
  subst h
  have b1 := alloc_below w (.cells #[.int .i64 n, u] 32)
  have b2 := alloc_below (w.alloc (.cells #[.int .i64 n, u] 32)) (.cells #[.int .i64 0, .slice none 0 0] 32)
  have t1 := Two.new (w.alloc (.cells #[.int .i64 n, u] 32)) 32 (.int .i64 0) (.slice none 0 0)
  rw [World.size_alloc] at t1
  exact ⟨(Two.new w 32 (.int .i64 n) u).later b2, t1, below_all b1 b2⟩

end Go.Proofs.Ytahacjfeopjbaaa
/-
  What graph's Edges answers.
  Conditions: rows hold sets below 2^64.
-/
set_option maxRecDepth 4000
namespace Go.Proofs.Ytahacjfeopjbaaa
open Go.RowKit

namespace Gf
/-- Edges as pairs of integers. -/
def eI (l : List (Nat × Nat)) : List (Int × Int) := l.map fun e => ((e.1 : Int), (e.2 : Int))
theorem eI_len (l : List (Nat × Nat)) : (eI l).length = l.length := List.length_map _
theorem eI_at (l : List (Nat × Nat)) (k : Nat) (hk : k < (eI l).length) : (eI l)[k] = (((l[k]'(by rw [← eI_len]; exact hk)).1 : Int), ((l[k]'(by rw [← eI_len]; exact hk)).2 : Int)) := List.getElem_map _
theorem eI_snoc (l : List (Nat × Nat)) (x y : Nat) : eI (l ++ [(x, y)]) = eI l ++ [((x : Int), (y : Int))] := by simp [eI]
/-- The edges of the first x rows, and those of row x to the nodes d. -/
def edgesTo (l : List Nat) (x : Nat) (d : List Nat) : List (Nat × Nat) := ((List.range x).flatMap fun u => (Bi.list (l.getD u 0)).map fun y => (u, y)) ++ d.map fun y => (x, y)
theorem edgesTo_zero (l : List Nat) : edgesTo l 0 [] = [] := rfl
theorem edgesTo_snoc (l : List Nat) (x : Nat) (d : List Nat) (y : Nat) : edgesTo l x (d ++ [y]) = edgesTo l x d ++ [(x, y)] := by simp [edgesTo]
theorem edgesTo_next {l : List Nat} {x : Nat} (hx : x < l.length) : edgesTo l x (Bi.list l[x]) = edgesTo l (x + 1) [] := by
  unfold edgesTo
  rw [List.range_succ, List.flatMap_append, List.map_nil, List.append_nil, List.flatMap_cons, List.flatMap_nil, List.append_nil, List.getD_eq_getElem?_getD, List.getElem?_eq_getElem hx]
  rfl
theorem edgesTo_all (l : List Nat) : edgesTo l l.length [] = edges l := by
  unfold edgesTo edges
  rw [List.map_nil, List.append_nil]
theorem edgesTo_len (l : List Nat) (x : Nat) (d : List Nat) : (edgesTo l x d).length ≤ x * 64 + d.length := by
  unfold edgesTo
  rw [List.length_append, List.length_map]
  refine Nat.add_le_add_right ?_ _
  induction x with
  | zero => simp
  | succ x ih =>
    rw [List.range_succ, List.flatMap_append, List.length_append, List.flatMap_cons, List.flatMap_nil, List.append_nil, List.length_map]
    have := Bi.list_len (l.getD x 0)
    omega
end Gf
theorem ed_info : (Try.prog.info? 91).map (fun i => (i.zero, i.size, i.bytes)) = some (some (.agg #[.int .i64 0, .int .i64 0]), 2, 16) := by kernel_rfl
theorem ed_new (w : World) (y : Int × Int) (e : TypeId) : ∀ j u, (itC y)[j]? = some u → (w.alloc (.cells #[.int .i64 y.1, .int .i64 y.2] e)).cell? ((⟨w.heap.size, 0, none⟩ : Addr).add j) = some u := new_row w (itC y) e
/-- A row of edges of the call's own. -/
def OwnE (w : World) (base : Nat) (v : Value) (l : List (Nat × Nat)) : Prop := w.ownsRow base 91 2 v l.length ((Gf.eI l).flatMap itC)
theorem OwnE.its {w : World} {base : Nat} {v : Value} {l : List (Nat × Nat)} (h : OwnE w base v l) : Its w v (Gf.eI l) := Rows'.own (base := base) (e := 91) (by rw [Gf.eI_len]; exact h)
theorem OwnE.more {w : World} {base : Nat} {v : Value} {l : List (Nat × Nat)} {x y : Nat} (h : w.ownsRow base 91 2 v (l.length + 1) ((Gf.eI l).flatMap itC ++ itC ((x : Int), (y : Int)))) : OwnE w base v (l ++ [(x, y)]) := by
  unfold OwnE
  rw [Gf.eI_snoc, flat_snoc, List.length_append]
  exact h
/-- Edges that a call hands back. -/
def RetE (w : World) (l : List (Nat × Nat)) (e : Ending) (w' : World) : Prop := ∃ v, e = .returned v ∧ OwnE w' w.heap.size v l ∧ Below w.heap.size w w'

set_option maxHeartbeats 1000000 in
theorem gfEdges_no (n : Int) (u : Value) (a : List Nat) (w : World) (hu : Us w u a) (ha : ∀ x ∈ a, x < 18446744073709551616) (hno : Gf.okB n a = false) : Calls Try.prog 26 #[.agg #[.int .i64 n, u]] w fun e w' => e = .returned (.slice none 0 0) ∧ Below w.heap.size w w' := by
  have HU := Lib.hid hu
  have BW := Lib.hid (alloc_below w (.cells #[.int .i64 n, u] 32))
  obtain ⟨A, c, rfl, -⟩ := hu.spelled
  have F1 := Lib.hid (fun w h1 => gfRight_at n (.slice A a.length c) a w h1 ha)
  rw [hno] at F1
  clear ha hu hno
  go_enter Try.func26, Try.ntmps26
  go_wp2_with fail
  generalize w.alloc (.cells #[.int .i64 n, .slice A a.length c] 32) = W at *
  refine (F1.out _ (HU.out.below BW.out)).mono ?_
  rintro e w1 ⟨rfl, hb1⟩
  have B1 := Lib.hid (below_all BW.out hb1)
  clear hb1
  go_wp2_with fail
  go_ret
  exact ⟨rfl, B1.out⟩

set_option maxHeartbeats 2000000 in
theorem gfEdges_at (n : Nat) (u : Value) (a : List Nat) (w : World) (hu : Us w u a) (ha : Gf.Ok n a) : Calls Try.prog 26 #[.agg #[.int .i64 n, u]] w (RetE w (Gf.edges a)) := by
  obtain ⟨i0, hi0, hz0, hz1, hz2⟩ := info_parts ed_info
  have I0 := Lib.hid hi0
  have I1 := Lib.hid hz0
  have I2 := Lib.hid hz1
  have I3 := Lib.hid hz2
  clear hi0 hz0 hz1 hz2
  have HU := Lib.hid hu
  have BW := Lib.hid (alloc_below w (.cells #[.int .i64 n, u] 32))
  have T0 := Lib.hid (Two.new w 32 (.int .i64 n) u)
  obtain ⟨A, c, rfl, hfa⟩ := hu.spelled
  have HFA := Lib.hid hfa
  have F1 := Lib.hid (fun w h1 => gfRight_at n (.slice A a.length c) a w h1 (fun x hx => ha.small hx))
  rw [(Gf.okB_nat n a).2 ha] at F1
  have hla : a.length ≤ 64 := by rw [ha.2.1]; exact ha.1
  have HSA := Lib.hid (fun x (h : x < a.length) => ha.small (List.getElem_mem h))
  have HN : Hid (∀ x (h : x < a.length), Gf.edgesTo a x (Bi.list a[x]) = Gf.edgesTo a (x + 1) []) := fun x h => Gf.edgesTo_next h
  have HZ := Lib.hid (Gf.edgesTo_zero a)
  have HE := Lib.hid (Gf.edgesTo_all a)
  have HSN := Lib.hid (fun x d y => Gf.edgesTo_snoc a x d y)
  have HEL := Lib.hid (fun x d => Gf.edgesTo_len a x d)
  have HLL := Lib.hid (fun s => Bi.list_len s)
  clear hu hfa ha
  go_enter Try.func26, Try.ntmps26
  go_wp2_with fail
  generalize w.alloc (.cells #[.int .i64 n, .slice A a.length c] 32) = W at *
  refine (F1.out _ (HU.out.below BW.out)).mono ?_
  rintro e w1 ⟨rfl, hb1⟩
  have B1 := Lib.hid (below_all BW.out hb1)
  obtain ⟨c0, c1⟩ := (T0.out.later hb1).cells
  clear hb1 T0
  go_wp2_with fail
  clear c0 c1
  go_loopw [3, 14] (fun v i wr => ∃ (x : Nat) (d : List (Nat × Nat)), x ≤ a.length ∧ i = .int .i64 x ∧ Hid (d = Gf.edgesTo a x []) ∧ Hid (OwnE wr w.heap.size v d) ∧ Hid (Below w.heap.size w wr)) (fun _ i _ => a.length - (intOf i).toNat)
  case atStart => exact ⟨0, [], Nat.zero_le _, rfl, HZ.out.symm, World.ownsRow_nil _ _ _ _, B1.out⟩
  case round =>
    obtain ⟨x, d, hx, rfl, HD, HO, HB⟩ := hrel
    obtain ⟨AV, cV, hv⟩ := own_form HO.out
    subst hv
    by_cases hxa : x < a.length
    · obtain ⟨ada, rfl, hba, ha0⟩ := HFA.out x hxa
      have ha1 := (HB.out.cell (by rw [add_block]; exact hba)).trans ha0
      have sa := HSA.out x hxa
      have HN2 := Lib.hid (HN.out x hxa)
      generalize a[x]'hxa = p at *
      clear ha0
      go_wp2_with fail
      refine (biList_at p wr sa).mono ?_
      rintro e w3 ⟨v3, rfl, ho3, hb3⟩
      obtain ⟨AL, cL, rfl⟩ := own_form ho3
      have HB3 := Lib.hid (below_all HB.out hb3)
      have HO3 : Hid (OwnE w3 w.heap.size (.slice AV d.length cV) d) := own_below HO.out hb3
      have HL3 := Lib.hid ho3
      have HSZ := Lib.hid HB.out.size
      have hl64 := HLL.out p
      clear ho3 hb3 HB HO ha1 sa
      generalize Bi.list p = L at *
      rw [← List.take_zero (l := L)] at HD
      generalize hbs : wr.heap.size = base at *
      have HSZ2 := Lib.hid (show w.heap.size ≤ base from HSZ.out)
      go_wp2_with fail
      go_loopw [3, 22] (fun v i wq => ∃ (k : Nat) (d : List (Nat × Nat)), k ≤ L.length ∧ i = .int .i64 k ∧ Hid (d = Gf.edgesTo a x (L.take k)) ∧ Hid (OwnE wq w.heap.size v d) ∧ Hid (wq.ownsRow base 3 1 (.slice AL L.length cL) L.length ((Bi.nums L).flatMap nC)) ∧ Hid (Below w.heap.size w wq)) (fun _ i _ => L.length - (intOf i).toNat)
      case atStart => exact ⟨0, d, Nat.zero_le _, rfl, HD, HO3.out, HL3.out, HB3.out⟩
      case round =>
        clear HD HO3 HB3 HL3
        obtain ⟨k, d, hk, rfl, HD, HO, HL, HB⟩ := hrel
        obtain ⟨AV, cV, hv⟩ := own_form HO.out
        subst hv
        by_cases hkl : k < L.length
        · obtain ⟨AL', cL', hv4, hfl⟩ := (nums_own HL.out).nums
          cases hv4
          obtain ⟨adl, rfl, hbl, hl0⟩ := hfl k hkl
          have hdl : d.length ≤ 4224 := by
            have h1 := HEL.out x (L.take k)
            rw [← HD.out, List.length_take] at h1
            omega
          have HD2 : Hid (d ++ [(x, L[k]'hkl)] = Gf.edgesTo a x (L.take (k + 1))) := by
            rw [Hid, List.take_succ_eq_append_getElem hkl, HSN.out, ← HD.out]
          generalize L[k]'hkl = y at *
          have HW2 := Lib.hid (show (wr.alloc (.cells #[.int .i64 (x : Int), .int .i64 (y : Int)] 91)).ownsRow w.heap.size 91 2 (.slice AV d.length cV) d.length ((Gf.eI d).flatMap itC) from own_below HO.out (alloc_below wr (.cells #[.int .i64 (x : Int), .int .i64 (y : Int)] 91)))
          have HL2 := Lib.hid (own_below HL.out (alloc_below wr (.cells #[.int .i64 (x : Int), .int .i64 (y : Int)] 91)))
          have HB2 := Lib.hid (below_all HB.out (alloc_below wr (.cells #[.int .i64 (x : Int), .int .i64 (y : Int)] 91)))
          have HNW := Lib.hid (ed_new wr ((x : Int), (y : Int)) 91)
          clear hfl
          go_wp2_with (at_builtin; refine wpList_append_own_at _ rfl _ _ 54 rfl w.heap.size 91 i0 _ 2 16 Try.underlying54 I0.out I1.out I2.out I3.out rfl (by decide) _ d.length _ rfl HW2.out ⟨wr.heap.size, 0, none⟩ 1 1 (itC ((x : Int), (y : Int))) rfl rfl HNW.out (one_its _) (by simp only [maxLen]; omega) (by omega) HB2.out.size ?_; intro v2 w3 hown2 hgrow2 hnil2 hat2; have HO2 := Lib.hid (OwnE.more hown2); have HB3 := Lib.hid (below_append HB2.out HB2.out.size HW2.out hgrow2); have HL3 := Lib.hid (HL2.out.kept hgrow2 (own_types HL2.out HW2.out (by decide))); clear hown2 hgrow2 hnil2 hat2)
          go_roundw
          case rel => exact ⟨k + 1, d ++ [(x, y)], by omega, by go_num, HD2, HO2.out, HL3.out, HB3.out⟩
          case measure => simp [intOf]; omega
        · have hkn : k = L.length := by omega
          subst hkn
          have HD5 := HD
          rw [List.take_length, HN2.out] at HD5
          go_wp2_with fail
          go_roundw
          case rel => exact ⟨x + 1, d, by omega, by go_num, HD5, HO.out, HB.out⟩
          case measure => simp [intOf]; omega
    · have hxn : x = a.length := by omega
      subst hxn
      go_wp2_with fail
      go_ret
      exact ⟨_, rfl, by rw [← HE.out, ← HD.out]; exact HO.out, HB.out⟩

/-- An edge among a row of edges, as the walk spells its cells' places. -/
theorem ed_spelled {w : World} {v : Value} {l : List (Nat × Nat)} (h : Its w v (Gf.eI l)) : ∃ A c, v = .slice A l.length c ∧ ∀ (k : Nat) (hk : k < l.length), ∃ ad : Addr, A = some ad ∧ ad.block < w.heap.size ∧ ItIn w ad k ((l[k].1 : Int), (l[k].2 : Int)) := by
  obtain ⟨A, c, hv, hh⟩ := h.spelled
  rw [Gf.eI_len] at hv
  refine ⟨A, c, hv, fun k hk => ?_⟩
  have := hh k (by rw [Gf.eI_len]; exact hk)
  rw [Gf.eI_at] at this
  exact this
end Go.Proofs.Ytahacjfeopjbaaa
/-
  Small words for laws over graphs: a row whose length is known, one of its places, an edge that may be added.
  Conditions: none beyond those that each theorem states.
-/
set_option maxRecDepth 4000
namespace Go.Proofs.Ytahacjfeopjbaaa
open Go.RowKit

/-- An edge that may be added: a graph, and two of its nodes. -/
theorem Gf.add_cases {n : Int} {l : List Nat} {a b : Int} (h : Gf.addB n l a b = true) : ∃ k x y : Nat, n = (k : Int) ∧ a = (x : Int) ∧ b = (y : Int) ∧ Gf.Ok k l ∧ x < k ∧ y < k := by
  have h' : (Gf.okB n l && (Gf.isN n a && Gf.isN n b)) = true := h
  rw [Bool.and_eq_true, Bool.and_eq_true] at h'
  obtain ⟨k, rfl, hok⟩ := Gf.okB_iff.1 h'.1
  obtain ⟨x, rfl, hx⟩ := Gf.isN_nat h'.2.1
  obtain ⟨y, rfl, hy⟩ := Gf.isN_nat h'.2.2
  exact ⟨k, x, y, rfl, rfl, rfl, hok, hx, hy⟩
/-- A row of the call's own whose length is known. -/
theorem own_is {W : World} {base k : Nat} {v : Value} {l : List Nat} (h : OwnU W base v l) (hl : l.length = k) : ∃ A c, v = .slice A k c ∧ Us W (.slice A k c) l := by
  obtain ⟨A, c, e⟩ := h.form
  rw [hl] at e
  subst e
  exact ⟨A, c, rfl, h.us⟩
/-- A row whose length is known; one of its places. -/
theorem us_is {W : World} {k : Nat} {v : Value} {l : List Nat} (h : Us W v l) (hl : l.length = k) : ∃ A c, v = .slice A k c ∧ Us W (.slice A k c) l := by
  obtain ⟨A, c, e⟩ := us_form h
  rw [hl] at e
  subst e
  exact ⟨A, c, rfl, h⟩
theorem us_at {W : World} {A : Option Addr} {k c : Nat} {l : List Nat} (h : Us W (.slice A k c) l) (x : Nat) (hx : x < l.length) : ∃ ad : Addr, A = some ad ∧ ad.block < W.heap.size ∧ W.cell? (ad.add x) = some (.int .u64 (l[x] : Int)) := by
  obtain ⟨A', c', e, hf⟩ := h.spelled
  cases e
  exact hf x hx
/-- A row of numbers of the call's own whose length is known; one of its places. -/
theorem ints_is {W : World} {base k : Nat} {v : Value} {l : List Nat} (h : W.ownsRow base 3 1 v l.length ((Bi.nums l).flatMap nC)) (hl : l.length = k) : ∃ A c, v = .slice A k c ∧ Ns W (.slice A k c) (Bi.nums l) := by
  obtain ⟨A, c, e⟩ := own_form h
  have hn := nums_own h
  rw [hl] at e
  subst e
  exact ⟨A, c, rfl, hn⟩
theorem ints_at {W : World} {A : Option Addr} {k c : Nat} {l : List Nat} (h : Ns W (.slice A k c) (Bi.nums l)) (x : Nat) (hx : x < l.length) : ∃ ad : Addr, A = some ad ∧ ad.block < W.heap.size ∧ W.cell? (ad.add x) = some (.int .i64 (l[x] : Int)) := by
  obtain ⟨A', c', e, hf⟩ := h.nums
  cases e
  exact hf x hx
theorem Gf.hasR_nat {k : Nat} {l : List Nat} (h : Gf.Ok k l) {x y : Nat} (hx : x < k) (hy : y < k) : Gf.hasR (k : Int) l (x : Int) (y : Int) = Gf.bit l x y := by
  rw [Gf.hasR, (Gf.okB_nat k l).2 h, Gf.isN_yes hx, Gf.isN_yes hy, Int.toNat_natCast, Int.toNat_natCast]
  rfl
end Go.Proofs.Ytahacjfeopjbaaa
