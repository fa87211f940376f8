/-
  Several texts in one, each with its own first words: GfPlain, GfSteps.
  Conditions: as each says.
-/
import Derived.Test.YtcpiaddohiokkaaBiAll
/-
  Plain facts on graphs as rows of sets: what a graph is, its edges, unions, compositions and turns, bit by bit.
  Conditions: none beyond those that each theorem states.
-/
set_option maxRecDepth 4000
namespace Go.Proofs.Ytcpiaddohiokkaa
namespace Gf

/-- Has a row of sets an edge? -/
def bit (l : List Nat) (x y : Nat) : Bool := (l.getD x 0).testBit y
/-- A graph of n nodes. -/
def Ok (n : Nat) (l : List Nat) : Prop := n ≤ 64 ∧ l.length = n ∧ ∀ s ∈ l, s < 2 ^ n
theorem bit_at {l : List Nat} {x : Nat} (h : x < l.length) (y : Nat) : bit l x y = l[x].testBit y := by rw [bit, List.getD_eq_getElem?_getD, List.getElem?_eq_getElem h]; rfl
theorem bit_far {l : List Nat} {x : Nat} (h : l.length ≤ x) (y : Nat) : bit l x y = false := by rw [bit, List.getD_eq_getElem?_getD, List.getElem?_eq_none h]; simp
theorem Ok.small {n : Nat} {l : List Nat} (h : Ok n l) {s : Nat} (hs : s ∈ l) : s < 2 ^ 64 := Nat.lt_of_lt_of_le (h.2.2 s hs) (Nat.pow_le_pow_right (by decide) h.1)
theorem Ok.node {n : Nat} {l : List Nat} (h : Ok n l) {x y : Nat} (hb : bit l x y = true) : x < n ∧ y < n := by
  rcases Nat.lt_or_ge x l.length with hx | hx
  · refine ⟨by rw [← h.2.1]; exact hx, ?_⟩
    rcases Nat.lt_or_ge y n with hy | hy
    · exact hy
    · rw [bit_at hx, Nat.testBit_lt_two_pow (Nat.lt_of_lt_of_le (h.2.2 _ (List.getElem_mem hx)) (Nat.pow_le_pow_right (by decide) hy))] at hb
      cases hb
  · rw [bit_far hx] at hb
    cases hb
/-- Two graphs with the same edges are one. -/
theorem same {n : Nat} {l m : List Nat} (hl : Ok n l) (hm : Ok n m) (h : ∀ x y, x < n → y < n → bit l x y = bit m x y) : l = m := by
  apply List.ext_getElem
  · rw [hl.2.1, hm.2.1]
  · intro x hx hx'
    refine Bi.same (hl.small (List.getElem_mem hx)) (hm.small (List.getElem_mem hx')) fun y _ => ?_
    rw [← bit_at hx, ← bit_at hx']
    rcases Nat.lt_or_ge y n with hy | hy
    · exact h x y (by rw [← hl.2.1]; exact hx) hy
    · have e : ∀ k : List Nat, Ok n k → bit k x y = false := fun k hk => by
        cases hb : bit k x y with
        | false => rfl
        | true => have := (hk.node hb).2; omega
      rw [e l hl, e m hm]

/-- The set of the numbers below k for which p holds. -/
def setTo (p : Nat → Bool) (k : Nat) : Nat := (List.range k).foldl (fun s y => if p y = true then Bi.withN s (y : Int) else s) 0
theorem setTo_zero (p : Nat → Bool) : setTo p 0 = 0 := rfl
theorem setTo_next (p : Nat → Bool) (k : Nat) : setTo p (k + 1) = if p k = true then Bi.withN (setTo p k) (k : Int) else setTo p k := by
  rw [setTo, List.range_succ, List.foldl_append]
  rfl
theorem setTo_bit (p : Nat → Bool) (k j : Nat) (hk : k ≤ 64) : (setTo p k).testBit j = (decide (j < k) && p j) := by
  induction k with
  | zero => rw [setTo_zero, Nat.zero_testBit]; simp
  | succ k ih =>
    have hi := ih (by omega)
    rw [setTo_next]
    split
    · rename_i hp
      rw [Bi.with_bit, hi, Bi.ok_of k (by omega), Int.toNat_natCast, Bool.true_and]
      by_cases e : k = j
      · subst e
        simp [hp]
      · have e1 : decide (j < k + 1) = decide (j < k) := by
          by_cases q : j < k
          · rw [decide_eq_true q, decide_eq_true (by omega)]
          · rw [decide_eq_false q, decide_eq_false (by omega)]
        rw [e1, decide_eq_false e, Bool.or_false]
    · rename_i hp
      rw [hi]
      by_cases e : k = j
      · subst e
        have : p k = false := by cases h : p k with
          | false => rfl
          | true => exact absurd h hp
        simp [this]
      · have e1 : decide (j < k + 1) = decide (j < k) := by
          by_cases q : j < k
          · rw [decide_eq_true q, decide_eq_true (by omega)]
          · rw [decide_eq_false q, decide_eq_false (by omega)]
        rw [e1]
theorem setTo_lt (p : Nat → Bool) (k : Nat) (hk : k ≤ 64) : setTo p k < 2 ^ k :=
  Nat.lt_pow_two_of_testBit _ fun j hj => by rw [setTo_bit p k j hk, decide_eq_false (by omega)]; rfl

/-- The graph of n nodes in which x has an edge to y just if f says so. -/
def build (n : Nat) (f : Nat → Nat → Bool) : List Nat := (List.range n).map fun x => setTo (f x) n
theorem build_len (n : Nat) (f : Nat → Nat → Bool) : (build n f).length = n := by rw [build, List.length_map, List.length_range]
theorem build_ok {n : Nat} (hn : n ≤ 64) (f : Nat → Nat → Bool) : Ok n (build n f) := by
  refine ⟨hn, build_len n f, fun s hs => ?_⟩
  obtain ⟨x, _, rfl⟩ := List.mem_map.1 hs
  exact setTo_lt _ _ hn
theorem build_at {n : Nat} (f : Nat → Nat → Bool) {x : Nat} (hx : x < (build n f).length) : (build n f)[x] = setTo (f x) n := by simp [build]
theorem build_bit {n : Nat} (hn : n ≤ 64) (f : Nat → Nat → Bool) (x y : Nat) : bit (build n f) x y = (decide (x < n) && (decide (y < n) && f x y)) := by
  rcases Nat.lt_or_ge x n with hx | hx
  · rw [bit_at (by rw [build_len]; exact hx), build_at, setTo_bit _ _ _ hn, decide_eq_true hx, Bool.true_and]
  · rw [bit_far (by rw [build_len]; exact hx), decide_eq_false (by omega)]
    rfl
/-- What is right of a graph by its edges. -/
theorem build_is {n : Nat} {l : List Nat} (hl : Ok n l) {f : Nat → Nat → Bool} (h : ∀ x y, x < n → y < n → bit l x y = f x y) : l = build n f :=
  same hl (build_ok hl.1 f) fun x y hx hy => by rw [h x y hx hy, build_bit hl.1, decide_eq_true hx, decide_eq_true hy]; rfl

def unionR (n : Nat) (a b : List Nat) : List Nat := build n fun x y => bit a x y || bit b x y
def composeR (n : Nat) (a b : List Nat) : List Nat := build n fun x z => (List.range n).any fun y => bit a x y && bit b y z
def turnR (n : Nat) (g : List Nat) : List Nat := build n fun x y => bit g y x
def addR (l : List Nat) (x y : Nat) : List Nat := l.set x (Bi.withN (l.getD x 0) (y : Int))

theorem turn_bit {n : Nat} {g : List Nat} (h : Ok n g) (x y : Nat) : bit (turnR n g) x y = bit g y x := by
  rw [turnR, build_bit h.1]
  cases hb : bit g y x with
  | false => simp
  | true =>
    obtain ⟨h1, h2⟩ := h.node hb
    rw [decide_eq_true h1, decide_eq_true h2]
    rfl
theorem union_bit {n : Nat} {a b : List Nat} (ha : Ok n a) (hb : Ok n b) (x y : Nat) : bit (unionR n a b) x y = (bit a x y || bit b x y) := by
  rw [unionR, build_bit ha.1]
  cases h : (bit a x y || bit b x y) with
  | false => simp
  | true =>
    have : x < n ∧ y < n := by
      rw [Bool.or_eq_true] at h
      rcases h with h | h
      · exact ha.node h
      · exact hb.node h
    rw [decide_eq_true this.1, decide_eq_true this.2]
    rfl
theorem compose_bit {n : Nat} {a b : List Nat} (ha : Ok n a) (hb : Ok n b) (x z : Nat) : bit (composeR n a b) x z = (List.range n).any fun y => bit a x y && bit b y z := by
  rw [composeR, build_bit ha.1]
  cases h : (List.range n).any fun y => bit a x y && bit b y z with
  | false => simp
  | true =>
    rw [List.any_eq_true] at h
    obtain ⟨y, _, hy⟩ := h
    rw [Bool.and_eq_true] at hy
    rw [decide_eq_true (ha.node hy.1).1, decide_eq_true (hb.node hy.2).2]
    rfl
/-- A graph turned twice is the same. -/
theorem turn_turn {n : Nat} {g : List Nat} (h : Ok n g) : turnR n (turnR n g) = g :=
  (build_is h fun x y _ _ => (turn_bit h y x).symm).symm
/-- A composition turned is that of both turned, the other way round. -/
theorem turn_compose {n : Nat} {a b : List Nat} (ha : Ok n a) (hb : Ok n b) : turnR n (composeR n a b) = composeR n (turnR n b) (turnR n a) := by
  have hc : Ok n (composeR n a b) := build_ok ha.1 _
  refine same (build_ok ha.1 _) (build_ok ha.1 _) fun x y _ _ => ?_
  rw [turn_bit hc, compose_bit ha hb, compose_bit (show Ok n (turnR n b) from build_ok ha.1 _) (show Ok n (turnR n a) from build_ok ha.1 _)]
  congr 1
  funext z
  rw [turn_bit hb, turn_bit ha, Bool.and_comm]
theorem union_self {n : Nat} {a : List Nat} (ha : Ok n a) : unionR n a a = a := (build_is ha fun _ _ _ _ => (Bool.or_self _).symm).symm
theorem union_comm {n : Nat} (a b : List Nat) : unionR n a b = unionR n b a := by
  unfold unionR
  congr 1
  funext x y
  exact Bool.or_comm _ _

/-- Row by row: a union's row is both rows' join. -/
theorem union_row {n : Nat} {a b : List Nat} (ha : Ok n a) (hb : Ok n b) {x : Nat} (hx : x < n) : setTo (fun y => bit a x y || bit b x y) n = a.getD x 0 ||| b.getD x 0 := by
  have e : ∀ l : List Nat, Ok n l → l.getD x 0 < 2 ^ 64 := fun l hl => by
    have hxl : x < l.length := by rw [hl.2.1]; exact hx
    rw [List.getD_eq_getElem?_getD, List.getElem?_eq_getElem hxl]
    exact hl.small (List.getElem_mem hxl)
  refine Bi.same (Nat.lt_of_lt_of_le (setTo_lt _ _ ha.1) (Nat.pow_le_pow_right (by decide) ha.1)) (Nat.or_lt_two_pow (e a ha) (e b hb)) fun y _ => ?_
  rw [setTo_bit _ _ _ ha.1, Nat.testBit_or]
  show (decide (y < n) && (bit a x y || bit b x y)) = (bit a x y || bit b x y)
  cases h : (bit a x y || bit b x y) with
  | false => simp
  | true =>
    rw [Bool.or_eq_true] at h
    rw [decide_eq_true (by rcases h with h | h; exact (ha.node h).2; exact (hb.node h).2)]
    rfl
/-- A composition's row is the join of the rows of all to which there is an edge. -/
theorem compose_row {n : Nat} {a b : List Nat} (ha : Ok n a) (hb : Ok n b) {x : Nat} (hx : x < n) : setTo (fun z => (List.range n).any fun y => bit a x y && bit b y z) n = Bi.join ((Bi.list (a.getD x 0)).map fun y => b.getD y 0) := by
  have hrow : ∀ y, b.getD y 0 < 2 ^ 64 := fun y => by
    rcases Nat.lt_or_ge y b.length with h | h
    · rw [List.getD_eq_getElem?_getD, List.getElem?_eq_getElem h]; exact hb.small (List.getElem_mem h)
    · rw [List.getD_eq_getElem?_getD, List.getElem?_eq_none h]; exact Nat.two_pow_pos 64
  refine Bi.same (Nat.lt_of_lt_of_le (setTo_lt _ _ ha.1) (Nat.pow_le_pow_right (by decide) ha.1)) (Bi.join_lt fun s hs => ?_) fun z _ => ?_
  · obtain ⟨y, _, rfl⟩ := List.mem_map.1 hs
    exact hrow y
  · rw [setTo_bit _ _ _ ha.1, Bi.join_at, List.any_map]
    have hxa : x < a.length := by rw [ha.2.1]; exact hx
    rw [Bool.eq_iff_iff, Bool.and_eq_true, List.any_eq_true, List.any_eq_true]
    constructor
    · rintro ⟨_, y, hy, h⟩
      rw [Bool.and_eq_true] at h
      exact ⟨y, Bi.mem_list.2 ⟨Nat.lt_of_lt_of_le (ha.node h.1).2 ha.1, h.1⟩, h.2⟩
    · rintro ⟨y, hy, h⟩
      have h1 : bit a x y = true := (Bi.mem_list.1 hy).2
      have h2 : bit b y z = true := h
      exact ⟨decide_eq_true (hb.node h2).2, y, List.mem_range.2 (ha.node h1).2, by rw [h1, h2]; rfl⟩

/-- One edge more. -/
theorem add_len (l : List Nat) (x y : Nat) : (addR l x y).length = l.length := List.length_set
theorem add_bit {n : Nat} {l : List Nat} (h : Ok n l) {x y : Nat} (hx : x < n) (hy : y < n) (u v : Nat) : bit (addR l x y) u v = (bit l u v || (decide (u = x) && decide (v = y))) := by
  have hxl : x < l.length := by rw [h.2.1]; exact hx
  rcases Nat.lt_or_ge u l.length with hu | hu
  · rw [bit_at (by rw [add_len]; exact hu), bit_at hu]
    unfold addR
    rw [List.getElem_set]
    by_cases e : x = u
    · subst e
      rw [if_pos rfl, Bi.with_bit, Bi.ok_of y (Nat.lt_of_lt_of_le hy h.1), Int.toNat_natCast, List.getD_eq_getElem?_getD, List.getElem?_eq_getElem hxl, decide_eq_true rfl, Bool.true_and, Bool.true_and]
      have : decide (y = v) = decide (v = y) := by rw [Bool.eq_iff_iff, decide_eq_true_iff, decide_eq_true_iff]; exact eq_comm
      rw [this]
      rfl
    · rw [if_neg e, decide_eq_false (fun q => e q.symm), Bool.false_and, Bool.or_false]
  · rw [bit_far (by rw [add_len]; exact hu), bit_far hu, decide_eq_false (by omega)]
    rfl
theorem add_ok {n : Nat} {l : List Nat} (h : Ok n l) {x y : Nat} (hx : x < n) (hy : y < n) : Ok n (addR l x y) := by
  refine ⟨h.1, (add_len l x y).trans h.2.1, fun s hs => ?_⟩
  rcases List.mem_or_eq_of_mem_set hs with q | rfl
  · exact h.2.2 s q
  · have hxl : x < l.length := by rw [h.2.1]; exact hx
    refine Nat.lt_pow_two_of_testBit _ fun j hj => ?_
    rw [Bi.with_bit, List.getD_eq_getElem?_getD, List.getElem?_eq_getElem hxl]
    have h1 : l[x].testBit j = false := Nat.testBit_lt_two_pow (Nat.lt_of_lt_of_le (h.2.2 _ (List.getElem_mem hxl)) (Nat.pow_le_pow_right (by decide) hj))
    show (l[x].testBit j || _) = false
    rw [h1, Int.toNat_natCast, decide_eq_false (by omega), Bool.and_false]
    rfl
/-- A graph without edges. -/
def zeros (n : Nat) : List Nat := List.replicate n 0
theorem zeros_ok {n : Nat} (h : n ≤ 64) : Ok n (zeros n) := ⟨h, List.length_replicate, fun s hs => by rw [List.eq_of_mem_replicate hs]; exact Nat.two_pow_pos n⟩
theorem zeros_bit (n x y : Nat) : bit (zeros n) x y = false := by
  rcases Nat.lt_or_ge x (zeros n).length with h | h
  · have e : (zeros n)[x] = 0 := List.getElem_replicate _
    rw [bit_at h, e, Nat.zero_testBit]
  · exact bit_far h y

/-- All edges, by the first node and then by the second. -/
def edges (l : List Nat) : List (Nat × Nat) := (List.range l.length).flatMap fun x => (Bi.list (l.getD x 0)).map fun y => (x, y)
theorem mem_edges {n : Nat} {l : List Nat} (h : Ok n l) {e : Nat × Nat} : e ∈ edges l ↔ bit l e.1 e.2 = true := by
  obtain ⟨x, y⟩ := e
  rw [edges, List.mem_flatMap]
  constructor
  · rintro ⟨u, hu, he⟩
    obtain ⟨v, hv, e⟩ := List.mem_map.1 he
    cases e
    exact (Bi.mem_list.1 hv).2
  · intro hb
    obtain ⟨hx, hy⟩ := h.node hb
    exact ⟨x, List.mem_range.2 (by rw [h.2.1]; exact hx), List.mem_map.2 ⟨y, Bi.mem_list.2 ⟨Nat.lt_of_lt_of_le hy h.1, hb⟩, rfl⟩⟩
/-- The edges rise. -/
def Less (a b : Nat × Nat) : Prop := a.1 < b.1 ∨ a.1 = b.1 ∧ a.2 < b.2
theorem edges_rise (l : List Nat) : (edges l).Pairwise Less := by
  unfold edges
  rw [List.pairwise_flatMap]
  refine ⟨fun x _ => ?_, ?_⟩
  · rw [List.pairwise_map]
    exact (Bi.list_rise _).imp fun h => .inr ⟨rfl, h⟩
  · refine List.pairwise_lt_range.imp fun {x y} h => fun a ha b hb => ?_
    obtain ⟨_, _, rfl⟩ := List.mem_map.1 ha
    obtain ⟨_, _, rfl⟩ := List.mem_map.1 hb
    exact .inl h
/-- A graph made of edges. -/
def madeOf (n : Nat) (es : List (Nat × Nat)) : List Nat := es.foldl (fun l e => addR l e.1 e.2) (zeros n)
theorem made_next (n : Nat) (es : List (Nat × Nat)) (e : Nat × Nat) : madeOf n (es ++ [e]) = addR (madeOf n es) e.1 e.2 := by rw [madeOf, List.foldl_append]; rfl
theorem made_bit {n : Nat} (hn : n ≤ 64) (es : List (Nat × Nat)) (h : ∀ e ∈ es, e.1 < n ∧ e.2 < n) : Ok n (madeOf n es) ∧ ∀ x y, bit (madeOf n es) x y = decide ((x, y) ∈ es) := by
  suffices H : ∀ (es : List (Nat × Nat)) (l : List Nat), Ok n l → (∀ e ∈ es, e.1 < n ∧ e.2 < n) → Ok n (es.foldl (fun l e => addR l e.1 e.2) l) ∧ ∀ x y, bit (es.foldl (fun l e => addR l e.1 e.2) l) x y = (bit l x y || decide ((x, y) ∈ es)) by
    obtain ⟨h1, h2⟩ := H es (zeros n) (zeros_ok hn) h
    exact ⟨h1, fun x y => (h2 x y).trans (by rw [zeros_bit, Bool.false_or])⟩
  intro es
  induction es with
  | nil => exact fun l hl _ => ⟨hl, fun x y => by simp⟩
  | cons e es ih =>
    intro l hl hes
    obtain ⟨hx, hy⟩ := hes e List.mem_cons_self
    obtain ⟨h1, h2⟩ := ih (addR l e.1 e.2) (add_ok hl hx hy) fun q hq => hes q (List.mem_cons_of_mem _ hq)
    refine ⟨h1, fun x y => (h2 x y).trans ?_⟩
    rw [add_bit hl hx hy, Bool.or_assoc]
    congr 1
    rw [Bool.eq_iff_iff, Bool.or_eq_true, Bool.and_eq_true, decide_eq_true_iff, decide_eq_true_iff, decide_eq_true_iff, decide_eq_true_iff, List.mem_cons]
    constructor
    · rintro (⟨rfl, rfl⟩ | q)
      · exact .inl rfl
      · exact .inr q
    · rintro (rfl | q)
      · exact .inl ⟨rfl, rfl⟩
      · exact .inr q
/-- A graph is what its edges make. -/
theorem made_edges {n : Nat} {l : List Nat} (h : Ok n l) : madeOf n (edges l) = l := by
  obtain ⟨h1, h2⟩ := made_bit h.1 (edges l) fun e he => h.node ((mem_edges h).1 he)
  refine same h1 h fun x y _ _ => ?_
  rw [h2, Bool.eq_iff_iff, decide_eq_true_iff]
  exact mem_edges h
end Gf
end Go.Proofs.Ytcpiaddohiokkaa
/-
  Plain facts on graphs, step by step, as loops over rows and columns make them; and whether rows of sets are a graph.
  Conditions: none beyond those that each theorem states.
-/
set_option maxRecDepth 4000
namespace Go.Proofs.Ytcpiaddohiokkaa
namespace Gf

/-! Numbers put into a set, one after the other. -/
def putTo (p : Nat → Bool) (k s : Nat) : Nat := (List.range k).foldl (fun s y => if p y = true then Bi.withN s (y : Int) else s) s
theorem putTo_zero (p : Nat → Bool) (s : Nat) : putTo p 0 s = s := rfl
theorem putTo_yes {p : Nat → Bool} {k : Nat} (h : p k = true) (s : Nat) : putTo p (k + 1) s = Bi.withN (putTo p k s) (k : Int) := by
  rw [putTo, List.range_succ, List.foldl_append]
  exact if_pos h
theorem putTo_no {p : Nat → Bool} {k : Nat} (h : p k = false) (s : Nat) : putTo p (k + 1) s = putTo p k s := by
  rw [putTo, List.range_succ, List.foldl_append]
  exact if_neg (by rw [h]; simp)
theorem putTo_bit (p : Nat → Bool) (k s j : Nat) (hk : k ≤ 64) : (putTo p k s).testBit j = (s.testBit j || (decide (j < k) && p j)) := by
  induction k with
  | zero => rw [putTo_zero]; simp
  | succ k ih =>
    have hi := ih (by omega)
    have hlt : k ≠ j → decide (j < k + 1) = decide (j < k) := fun e => by
      by_cases q : j < k
      · rw [decide_eq_true q, decide_eq_true (by omega)]
      · rw [decide_eq_false q, decide_eq_false (by omega)]
    cases hp : p k with
    | true =>
      rw [putTo_yes hp, Bi.with_bit, hi, Bi.ok_of k (by omega), Int.toNat_natCast, Bool.true_and]
      by_cases e : k = j
      · subst e
        simp [hp]
      · rw [hlt e, decide_eq_false e, Bool.or_false]
    | false =>
      rw [putTo_no hp, hi]
      by_cases e : k = j
      · subst e
        simp [hp]
      · rw [hlt e]
theorem putTo_lt (p : Nat → Bool) (k : Nat) {s : Nat} (hs : s < 2 ^ 64) : putTo p k s < 2 ^ 64 := by
  induction k with
  | zero => exact hs
  | succ k ih =>
    cases hp : p k with
    | true => rw [putTo_yes hp]; exact Bi.with_lt ih _
    | false => rw [putTo_no hp]; exact ih
theorem setTo_put (p : Nat → Bool) (k : Nat) : setTo p k = putTo p k 0 := rfl

/-! Rows that are made one after the other: those ahead of x are whole, row x is s, the others are empty. -/
def rowsAt (n : Nat) (f : Nat → Nat → Bool) (x s : Nat) : List Nat := (List.range n).map fun u => if u < x then setTo (f u) n else if u = x then s else 0
theorem rowsAt_len (n : Nat) (f : Nat → Nat → Bool) (x s : Nat) : (rowsAt n f x s).length = n := by rw [rowsAt, List.length_map, List.length_range]
theorem rowsAt_get {n : Nat} (f : Nat → Nat → Bool) {x : Nat} (s : Nat) {u : Nat} (hu : u < (rowsAt n f x s).length) : (rowsAt n f x s)[u] = if u < x then setTo (f u) n else if u = x then s else 0 := by simp [rowsAt]
theorem rowsAt_zero (n : Nat) (f : Nat → Nat → Bool) : rowsAt n f 0 0 = zeros n := by
  apply List.ext_getElem
  · rw [rowsAt_len, zeros, List.length_replicate]
  · intro u h1 h2
    have e : (zeros n)[u] = 0 := List.getElem_replicate _
    rw [rowsAt_get, e, if_neg (by omega), ite_self]
theorem rowsAt_here {n : Nat} (f : Nat → Nat → Bool) {x : Nat} (hx : x < n) (s : Nat) : (rowsAt n f x s)[x]'(by rw [rowsAt_len]; exact hx) = s := by rw [rowsAt_get, if_neg (by omega), if_pos rfl]
theorem rowsAt_set {n : Nat} (f : Nat → Nat → Bool) (x s t : Nat) : (rowsAt n f x s).set x t = rowsAt n f x t := by
  apply List.ext_getElem
  · rw [List.length_set, rowsAt_len, rowsAt_len]
  · intro u h1 h2
    rw [List.getElem_set, rowsAt_get, rowsAt_get]
    by_cases e : x = u
    · subst e
      rw [if_pos rfl, if_neg (by omega), if_pos rfl]
    · rw [if_neg e]
      have : u ≠ x := fun q => e q.symm
      rw [if_neg this, if_neg this]
theorem rowsAt_next {n : Nat} (f : Nat → Nat → Bool) (x : Nat) : rowsAt n f x (setTo (f x) n) = rowsAt n f (x + 1) 0 := by
  apply List.ext_getElem
  · rw [rowsAt_len, rowsAt_len]
  · intro u h1 h2
    rw [rowsAt_get, rowsAt_get]
    by_cases e : u < x
    · rw [if_pos e, if_pos (by omega)]
    · by_cases q : u = x
      · subst q
        rw [if_neg e, if_pos rfl, if_pos (Nat.lt_succ_self _)]
      · rw [if_neg e, if_neg q, if_neg (by omega), ite_self]
theorem rowsAt_all (n : Nat) (f : Nat → Nat → Bool) (s : Nat) : rowsAt n f n s = build n f := by
  apply List.ext_getElem
  · rw [rowsAt_len, build_len]
  · intro u h1 h2
    rw [rowsAt_len] at h1
    rw [rowsAt_get, build_at, if_pos h1]
theorem rowsAt_lt {n : Nat} (hn : n ≤ 64) (f : Nat → Nat → Bool) (x : Nat) {s : Nat} (hs : s < 2 ^ 64) : ∀ y ∈ rowsAt n f x s, y < 2 ^ 64 := by
  intro y hy
  obtain ⟨u, _, rfl⟩ := List.mem_map.1 hy
  split
  · exact Nat.lt_of_lt_of_le (setTo_lt _ _ hn) (Nat.pow_le_pow_right (by decide) hn)
  · split
    · exact hs
    · exact Nat.two_pow_pos 64

/-! A composition's row, by the y in between. -/
def midTo (a b : List Nat) (n x y : Nat) : Nat := (List.range y).foldl (fun s y => if bit a x y = true then putTo (bit b y) n s else s) 0
theorem midTo_zero (a b : List Nat) (n x : Nat) : midTo a b n x 0 = 0 := rfl
theorem midTo_yes {a b : List Nat} {n x y : Nat} (h : bit a x y = true) : midTo a b n x (y + 1) = putTo (bit b y) n (midTo a b n x y) := by
  rw [midTo, List.range_succ, List.foldl_append]
  exact if_pos h
theorem midTo_no {a b : List Nat} {n x y : Nat} (h : bit a x y = false) : midTo a b n x (y + 1) = midTo a b n x y := by
  rw [midTo, List.range_succ, List.foldl_append]
  exact if_neg (by rw [h]; simp)
theorem midTo_lt (a b : List Nat) (n x y : Nat) : midTo a b n x y < 2 ^ 64 := by
  induction y with
  | zero => exact Nat.two_pow_pos 64
  | succ y ih =>
    cases h : bit a x y with
    | true => rw [midTo_yes h]; exact putTo_lt _ _ ih
    | false => rw [midTo_no h]; exact ih
theorem midTo_bit {n : Nat} (hn : n ≤ 64) (a b : List Nat) (x y j : Nat) : (midTo a b n x y).testBit j = (decide (j < n) && (List.range y).any fun y => bit a x y && bit b y j) := by
  induction y with
  | zero => rw [midTo_zero, Nat.zero_testBit]; simp
  | succ y ih =>
    rw [List.range_succ, List.any_append]
    simp only [List.any_cons, List.any_nil, Bool.or_false]
    cases h : bit a x y with
    | true => rw [midTo_yes h, putTo_bit _ _ _ _ hn, ih, Bool.true_and, ← Bool.and_or_distrib_left]
    | false => rw [midTo_no h, ih, Bool.false_and, Bool.or_false]
theorem midTo_all {n : Nat} (hn : n ≤ 64) (a b : List Nat) (x : Nat) : midTo a b n x n = setTo (fun z => (List.range n).any fun y => bit a x y && bit b y z) n :=
  Bi.same (midTo_lt _ _ _ _ _) (Nat.lt_of_lt_of_le (setTo_lt _ _ hn) (Nat.pow_le_pow_right (by decide) hn)) fun j _ => by rw [midTo_bit hn, setTo_bit _ _ _ hn]

/-! Whether rows of sets are a graph. -/
theorem row_lt {n s : Nat} (hs : s < 2 ^ 64) : s < 2 ^ n ↔ ∀ k, n ≤ k → k < 64 → s.testBit k = false := by
  constructor
  · exact fun h k hk _ => Nat.testBit_lt_two_pow (Nat.lt_of_lt_of_le h (Nat.pow_le_pow_right (by decide) hk))
  · intro h
    refine Nat.lt_pow_two_of_testBit _ fun k hk => ?_
    rcases Nat.lt_or_ge k 64 with q | q
    · exact h k hk q
    · exact Nat.testBit_lt_two_pow (Nat.lt_of_lt_of_le hs (Nat.pow_le_pow_right (by decide) q))
def okB (n : Int) (l : List Nat) : Bool := decide (0 ≤ n) && (decide (n ≤ 64) && (decide ((l.length : Int) = n) && l.all fun s => decide (s < 2 ^ n.toNat)))
theorem okB_iff {n : Int} {l : List Nat} : okB n l = true ↔ ∃ k : Nat, n = (k : Int) ∧ Ok k l := by
  simp only [okB, Bool.and_eq_true, decide_eq_true_iff, List.all_eq_true]
  constructor
  · rintro ⟨h0, h1, h2, h3⟩
    obtain ⟨k, rfl⟩ : ∃ k : Nat, n = (k : Int) := ⟨n.toNat, by omega⟩
    rw [Int.toNat_natCast] at h3
    exact ⟨k, rfl, by omega, by omega, h3⟩
  · rintro ⟨k, rfl, h1, h2, h3⟩
    rw [Int.toNat_natCast]
    exact ⟨by omega, by omega, by omega, h3⟩
theorem okB_nat (n : Nat) (l : List Nat) : okB (n : Int) l = true ↔ Ok n l := by
  rw [okB_iff]
  constructor
  · rintro ⟨k, h, hk⟩
    obtain rfl : n = k := by omega
    exact hk
  · exact fun h => ⟨n, rfl, h⟩
/-- A row with a number that is no node: no graph. -/
theorem okB_no {n k : Nat} {l : List Nat} {i : Nat} (hi : i < l.length) (hk : n ≤ k) (hb : l[i].testBit k = true) : okB (n : Int) l = false := by
  cases h : okB (n : Int) l with
  | false => rfl
  | true =>
    have := Nat.testBit_lt_two_pow (Nat.lt_of_lt_of_le (((okB_nat n l).1 h).2.2 _ (List.getElem_mem hi)) (Nat.pow_le_pow_right (by decide) hk))
    rw [this] at hb
    cases hb
/-- The first i rows have nodes alone. -/
def clearTo (n : Nat) (l : List Nat) (i : Nat) : Prop := ∀ s ∈ l.take i, s < 2 ^ n
theorem clearTo_zero (n : Nat) (l : List Nat) : clearTo n l 0 := fun _ h => by cases h
theorem clearTo_next {n : Nat} {l : List Nat} {i : Nat} (h : clearTo n l i) (hi : i < l.length) (hs : l[i] < 2 ^ n) : clearTo n l (i + 1) := by
  intro s h1
  rw [List.take_succ_eq_append_getElem hi] at h1
  rcases List.mem_append.1 h1 with q | q
  · exact h s q
  · rw [List.mem_singleton.1 q]; exact hs
theorem clearTo_all {n : Nat} {l : List Nat} (h : clearTo n l l.length) (hn : n ≤ 64) (hl : l.length = n) : Ok n l := ⟨hn, hl, fun s hs => h s (by rw [List.take_length]; exact hs)⟩
end Gf
end Go.Proofs.Ytcpiaddohiokkaa
