/-
  Plain facts on the search that finds the components: nodes that wait, the ranks at which they were met, the least ranks to which they are known to lead; what of that holds in the midst of the search, step by step, and what it comes to.
  Conditions: none beyond those that each theorem states.
-/
import Derived.Test.YtgapcjgmmlffmaaDoorScPlain
set_option maxRecDepth 4000
namespace Go.Proofs.YtgapcjgmmlffmaaDoor
namespace Sc
open Gf Rc To Cy

/-- A search through a graph: when each node was met, the least rank to which each is known to lead, how many were met, those that wait for a component, and the components that are done. -/
structure Wk where
  rank : Nat → Nat
  low : Nat → Nat
  met : Nat
  loose : List Nat
  comps : List (List Nat)
def upd (f : Nat → Nat) (x v : Nat) (y : Nat) : Nat := if y = x then v else f y
theorem upd_same (f : Nat → Nat) (x v : Nat) : upd f x v x = v := if_pos rfl
theorem upd_other (f : Nat → Nat) {x y : Nat} (v : Nat) (h : y ≠ x) : upd f x v y = f y := if_neg h
def Wk.meet (s : Wk) (y : Nat) : Wk := ⟨upd s.rank y (s.met + 1), upd s.low y (s.met + 1), s.met + 1, s.loose ++ [y], s.comps⟩
def Wk.lower (s : Wk) (x v : Nat) : Wk := ⟨s.rank, upd s.low x v, s.met, s.loose, s.comps⟩
/-- Those of C are a component, A is left. -/
def Wk.fin (s : Wk) (n : Nat) (A C c : List Nat) : Wk := ⟨s.rank, fun y => if y ∈ C then n + 1 else s.low y, s.met, A, s.comps ++ [c]⟩
def Wk.start : Wk := ⟨fun _ => 0, fun _ => 0, 0, [], []⟩

/-- A way of none or more edges. -/
def Gets (ends : Nat → List Nat) (x y : Nat) : Prop := x = y ∨ Relation.TransGen (fun u v => v ∈ ends u) x y
section
variable {ends : Nat → List Nat} {x y z : Nat}
theorem Gets.refl (x : Nat) : Gets ends x x := .inl rfl
theorem Gets.edge (h : y ∈ ends x) : Gets ends x y := .inr (.single h)
theorem Gets.then (h : Gets ends x y) (h' : Gets ends y z) : Gets ends x z := by
  rcases h with rfl | h
  · exact h'
  · rcases h' with rfl | h'
    · exact .inr h
    · exact .inr (Relation.TransGen.trans h h')
/-- What holds at the begin of a way, and goes on along each edge, holds at its end. -/
theorem Gets.keeps {P : Nat → Prop} (h : Gets ends x y) (h0 : P x) (hs : ∀ u v, P u → v ∈ ends u → P v) : P y := by
  rcases h with rfl | h
  · exact h0
  · induction h with
    | single e => exact hs _ _ h0 e
    | tail _ e ih => exact hs _ _ ih e
end

section
variable (n : Nat) (ends : Nat → List Nat) (t : Nat → Nat → Bool)
/-- The class of x. -/
def cls (x : Nat) : List Nat := (List.range n).filter (t x)
/-- Of nodes that lie one above the other, each leads on to the one above it, and is known to lead as low as all between. -/
def Linked (s : Wk) : List (Nat × Nat) → Prop
  | [] => True
  | [_] => True
  | p :: q :: r => ((ends q.1)[q.2]? = some p.1 ∧ ∀ y ∈ s.loose, s.rank q.1 ≤ s.rank y → s.rank y < s.rank p.1 → s.low q.1 ≤ s.low y) ∧ Linked s (q :: r)
/-- A search in its midst; G is the nodes whose edges are being followed, the last one first, each with how many of its edges are done. -/
structure Hunt (s : Wk) (G : List (Nat × Nat)) : Prop where
  node : ∀ x ∈ s.loose, x < n
  lo : ∀ x, x < n → s.rank x ≤ s.met
  cnt : s.met = ((List.range n).filter fun x => decide (s.rank x ≠ 0)).length
  ord : s.loose.Pairwise fun x y => s.rank x < s.rank y
  seen : ∀ x, x < n → (s.rank x ≠ 0 ↔ x ∈ s.loose ∨ ∃ c ∈ s.comps, x ∈ c)
  apart : ∀ x ∈ s.loose, ∀ c ∈ s.comps, x ∉ c
  done : ∀ c ∈ s.comps, (∃ x, x < n ∧ c = cls n t x) ∧ ∀ x ∈ c, s.low x = n + 1 ∧ ∀ z ∈ ends x, ∃ d ∈ s.comps, z ∈ d
  once : s.comps.Nodup
  low_le : ∀ x ∈ s.loose, s.low x ≤ s.rank x
  low_is : ∀ x ∈ s.loose, ∃ z ∈ s.loose, s.rank z = s.low x ∧ Gets ends x z
  gray : ∀ p ∈ G, p.1 ∈ s.loose ∧ (∀ j, j < p.2 → ∀ z, (ends p.1)[j]? = some z → s.rank z ≠ 0 ∧ (z ∈ s.loose → s.low p.1 ≤ s.rank z)) ∧ ∀ y ∈ s.loose, s.rank p.1 ≤ s.rank y → Gets ends p.1 y
  gord : G.Pairwise fun p q => s.rank q.1 < s.rank p.1
  black : ∀ x ∈ s.loose, (∀ p ∈ G, p.1 ≠ x) → s.low x < s.rank x ∧ ∀ z ∈ ends x, s.rank z ≠ 0 ∧ (z ∈ s.loose → s.low x ≤ s.rank z)
  link : Linked ends s G
  top : ∀ p r, G = p :: r → ∀ u ∈ s.loose, s.rank p.1 ≤ s.rank u → s.low p.1 ≤ s.low u ∨ ∃ c, (ends p.1)[p.2]? = some c ∧ s.rank c ≠ 0 ∧ s.low c ≤ s.low u
  bot : ∀ y ∈ s.loose, ∃ p ∈ G, s.rank p.1 ≤ s.rank y
end

section
variable {n : Nat} {ends : Nat → List Nat} {t : Nat → Nat → Bool} {s s' : Wk} {G r : List (Nat × Nat)} {x y d k : Nat}
/-- What is linked stays so, where what lies below the one on top has turned in nothing. -/
theorem Linked.turn {q : Nat × Nat} (h : Linked ends s (q :: r)) (hg : (q :: r).Pairwise fun p q => s.rank q.1 < s.rank p.1) (hall : ∀ u ∈ s'.loose, s'.rank u < s.rank q.1 → u ∈ s.loose ∧ s'.rank u = s.rank u ∧ s'.low u = s.low u)
    (hq : s'.rank q.1 = s.rank q.1) (hrr : ∀ p ∈ r, s'.rank p.1 = s.rank p.1 ∧ s'.low p.1 = s.low p.1) (k : Nat) : Linked ends s' ((q.1, k) :: r) := by
  induction r generalizing q k with
  | nil => trivial
  | cons p r ih =>
    obtain ⟨⟨h1, h2⟩, h3⟩ := h
    have hgp : s.rank p.1 < s.rank q.1 := (List.pairwise_cons.1 hg).1 p (List.mem_cons_self)
    obtain ⟨e1, e2⟩ := hrr p List.mem_cons_self
    refine ⟨⟨h1, fun y hy a b => ?_⟩, ?_⟩
    · dsimp only at b
      rw [e1] at a
      rw [hq] at b
      obtain ⟨c1, c2, c3⟩ := hall y hy b
      rw [e2, c3]
      exact h2 y c1 (by omega) (by omega)
    · exact ih h3 (List.pairwise_cons.1 hg).2 (fun u hu q => hall u hu (by omega)) e1 (fun z hz => hrr z (List.mem_cons_of_mem _ hz)) p.2
theorem Hunt.met_le (h : Hunt n ends t s G) : s.met ≤ n := by
  rw [h.cnt]
  have := List.length_filter_le (fun x => decide (s.rank x ≠ 0)) (List.range n)
  rw [List.length_range] at this
  exact this
theorem Hunt.rank_one (h : Hunt n ends t s G) (hx : x ∈ s.loose) : s.rank x ≠ 0 := (h.seen x (h.node x hx)).2 (.inl hx)
theorem Hunt.nodup (h : Hunt n ends t s G) : s.loose.Nodup := h.ord.imp fun hab e => by rw [e] at hab; exact Nat.lt_irrefl _ hab
theorem Hunt.inj (h : Hunt n ends t s G) (hx : x ∈ s.loose) (hy : y ∈ s.loose) (e : s.rank x = s.rank y) : x = y := by
  obtain ⟨i, hi, rfl⟩ := List.getElem_of_mem hx
  obtain ⟨j, hj, rfl⟩ := List.getElem_of_mem hy
  rcases Nat.lt_trichotomy i j with q | q | q
  · have := List.pairwise_iff_getElem.1 h.ord i j hi hj q; omega
  · subst q; rfl
  · have := List.pairwise_iff_getElem.1 h.ord j i hj hi q; omega
theorem Hunt.below (h : Hunt n ends t s ((x, d) :: r)) {p : Nat × Nat} (hp : p ∈ r) : s.rank p.1 < s.rank x := (List.pairwise_cons.1 h.gord).1 p hp
theorem Hunt.low_top (h : Hunt n ends t s G) (hx : x ∈ s.loose) : s.low x ≤ n := Nat.le_trans (h.low_le x hx) (Nat.le_trans (h.lo x (h.node x hx)) h.met_le)
theorem Hunt.none_left (h : Hunt n ends t s []) : s.loose = [] := List.eq_nil_iff_forall_not_mem.2 fun y hy => by
  obtain ⟨p, hp, _⟩ := h.bot y hy
  cases hp
theorem Hunt.gray_len (h : Hunt n ends t s G) : (G.map (·.1)).Nodup ∧ ∀ v ∈ G.map (·.1), v < n := by
  constructor
  · rw [List.Nodup, List.pairwise_map]
    exact h.gord.imp fun hab e => by rw [e] at hab; exact Nat.lt_irrefl _ hab
  · intro v hv
    obtain ⟨p, hp, rfl⟩ := List.mem_map.1 hv
    exact h.node _ (h.gray p hp).1
theorem Hunt.start (n : Nat) (ends : Nat → List Nat) (t : Nat → Nat → Bool) : Hunt n ends t Wk.start [] where
  node := fun _ h => by cases h
  lo := fun _ _ => Nat.le_refl _
  cnt := by
    have : ((List.range n).filter fun x => decide (Wk.start.rank x ≠ 0)) = [] := List.filter_eq_nil_iff.2 fun u _ => by simp [Wk.start]
    rw [this]
    rfl
  ord := List.Pairwise.nil
  seen := fun x _ => by simp [Wk.start]
  apart := fun _ h => by cases h
  done := fun _ h => by cases h
  once := List.nodup_nil
  low_le := fun _ h => by cases h
  low_is := fun _ h => by cases h
  gray := fun _ h => by cases h
  gord := List.Pairwise.nil
  black := fun _ h => by cases h
  link := trivial
  top := fun _ _ h => by cases h
  bot := fun _ h => by cases h

theorem cnt_more {f g : Nat → Nat} (n : Nat) (hy : y < n) (hf : f y = 0) (hg : g y ≠ 0) (he : ∀ u, u ≠ y → g u = f u) :
    ((List.range n).filter fun x => decide (g x ≠ 0)).length = ((List.range n).filter fun x => decide (f x ≠ 0)).length + 1 := by
  induction n with
  | zero => omega
  | succ n ih =>
    rw [List.range_succ, List.filter_append, List.filter_append, List.length_append, List.length_append]
    rcases Nat.lt_or_ge y n with q | q
    · rw [ih q]
      have : g n = f n := he n (by omega)
      simp only [List.filter_cons, List.filter_nil, this]
      omega
    · obtain rfl : y = n := by omega
      have e1 : (List.range y).filter (fun x => decide (g x ≠ 0)) = (List.range y).filter fun x => decide (f x ≠ 0) := List.filter_congr fun u hu => by
        rw [he u (by have := List.mem_range.1 hu; omega)]
      rw [e1, List.filter_cons_of_pos (by simpa using hg), List.filter_cons_of_neg (by simpa using hf)]
      rfl

/-- A node is met. -/
theorem Hunt.meet (h : Hunt n ends t s G) (hy : y < n) (h0 : s.rank y = 0) (hl : ∀ p r, G = p :: r → (ends p.1)[p.2]? = some y) : Hunt n ends t (s.meet y) ((y, 0) :: G) := by
  have hnew : ∀ u ∈ s.loose, u ≠ y := fun u hu e => h.rank_one hu (by rw [e]; exact h0)
  have hrk : ∀ u, u ≠ y → (s.meet y).rank u = s.rank u := fun u hu => upd_other _ _ hu
  have hlw : ∀ u, u ≠ y → (s.meet y).low u = s.low u := fun u hu => upd_other _ _ hu
  have hry : (s.meet y).rank y = s.met + 1 := upd_same _ _ _
  have hly : (s.meet y).low y = s.met + 1 := upd_same _ _ _
  have hmem : ∀ u, u ∈ (s.meet y).loose ↔ u ∈ s.loose ∨ u = y := fun u => by simp [Wk.meet]
  have hlo : ∀ u ∈ s.loose, s.rank u ≤ s.met := fun u hu => h.lo u (h.node u hu)
  have hg1 : ∀ p ∈ G, p.1 ≠ y := fun p hp => hnew _ (h.gray p hp).1
  refine ⟨?_, ?_, ?_, ?_, ?_, ?_, ?_, h.once, ?_, ?_, ?_, ?_, ?_, ?_, ?_, ?_⟩
  · intro u hu
    rcases (hmem u).1 hu with q | rfl
    · exact h.node u q
    · exact hy
  · intro u hu
    show _ ≤ s.met + 1
    by_cases e : u = y
    · rw [e, hry]; exact Nat.le_refl _
    · rw [hrk u e]; have := h.lo u hu; omega
  · show s.met + 1 = _
    rw [cnt_more n hy h0 (by rw [hry]; omega) hrk, ← h.cnt]
  · show (s.loose ++ [y]).Pairwise _
    rw [List.pairwise_append]
    refine ⟨h.ord.imp_of_mem fun ha hb hab => ?_, List.pairwise_singleton _ _, fun u hu v hv => ?_⟩
    · rw [hrk _ (hnew _ ha), hrk _ (hnew _ hb)]; exact hab
    · rw [List.mem_singleton.1 hv, hry, hrk u (hnew u hu)]
      have := hlo u hu; omega
  · intro u hu
    by_cases e : u = y
    · subst e
      refine ⟨fun _ => .inl ((hmem u).2 (.inr rfl)), fun _ => by rw [hry]; omega⟩
    · rw [hrk u e, h.seen u hu, hmem u]
      constructor
      · rintro (q | q)
        · exact .inl (.inl q)
        · exact .inr q
      · rintro ((q | q) | q)
        · exact .inl q
        · exact absurd q e
        · exact .inr q
  · intro u hu c hc hm
    rcases (hmem u).1 hu with q | rfl
    · exact h.apart u q c hc hm
    · exact (h.seen u hy).2 (.inr ⟨c, hc, hm⟩) h0
  · intro c hc
    obtain ⟨h1, h2⟩ := h.done c hc
    refine ⟨h1, fun u hu => ?_⟩
    have hne : u ≠ y := fun e => by
      subst e
      exact (h.seen u hy).2 (.inr ⟨c, hc, hu⟩) h0
    rw [hlw u hne]
    exact h2 u hu
  · intro u hu
    rcases (hmem u).1 hu with q | rfl
    · rw [hrk u (hnew u q), hlw u (hnew u q)]; exact h.low_le u q
    · rw [hry, hly]; exact Nat.le_refl _
  · intro u hu
    rcases (hmem u).1 hu with q | rfl
    · obtain ⟨z, hz, e1, e2⟩ := h.low_is u q
      exact ⟨z, (hmem z).2 (.inl hz), by rw [hrk z (hnew z hz), hlw u (hnew u q)]; exact e1, e2⟩
    · exact ⟨u, hu, by rw [hry, hly], Gets.refl u⟩
  · intro p hpp
    rcases List.mem_cons.1 hpp with rfl | hp
    · refine ⟨(hmem _).2 (.inr rfl), fun j hj => absurd hj (Nat.not_lt_zero j), fun u hu hru => ?_⟩
      rcases (hmem u).1 hu with q | rfl
      · dsimp only at hru
        rw [hry, hrk u (hnew u q)] at hru
        have := hlo u q; omega
      · exact Gets.refl u
    · obtain ⟨g1, g2, g3⟩ := h.gray p hp
      have hpy := hg1 p hp
      refine ⟨(hmem _).2 (.inl g1), fun j hj z hz => ?_, fun u hu hru => ?_⟩
      · obtain ⟨a, b⟩ := g2 j hj z hz
        have hzy : z ≠ y := fun e => a (by rw [e]; exact h0)
        rw [hrk z hzy, hlw _ hpy]
        refine ⟨a, fun hz' => b (((hmem z).1 hz').resolve_right hzy)⟩
      · rcases (hmem u).1 hu with q | rfl
        · rw [hrk _ hpy, hrk u (hnew u q)] at hru
          exact g3 u q hru
        · clear hpp
          match G, hp, hl with
          | q :: r, hq, hl =>
            have he : u ∈ ends q.1 := List.mem_of_getElem? (hl q r rfl)
            refine Gets.then (y := q.1) ?_ (Gets.edge he)
            refine g3 q.1 (h.gray q List.mem_cons_self).1 ?_
            rcases List.mem_cons.1 hq with rfl | hq'
            · exact Nat.le_refl _
            · exact Nat.le_of_lt ((List.pairwise_cons.1 h.gord).1 p hq')
  · refine List.pairwise_cons.2 ⟨fun p hp => ?_, h.gord.imp_of_mem fun ha hb hab => ?_⟩
    · dsimp only
      rw [hry, hrk _ (hg1 p hp)]
      have := hlo _ (h.gray p hp).1; omega
    · rw [hrk _ (hg1 _ ha), hrk _ (hg1 _ hb)]; exact hab
  · intro u hu hn
    rcases (hmem u).1 hu with q | rfl
    · obtain ⟨a, b⟩ := h.black u q fun p hp => hn p (List.mem_cons_of_mem _ hp)
      rw [hrk u (hnew u q), hlw u (hnew u q)]
      refine ⟨a, fun z hz => ?_⟩
      obtain ⟨b1, b2⟩ := b z hz
      have hzy : z ≠ y := fun e => b1 (by rw [e]; exact h0)
      rw [hrk z hzy]
      exact ⟨b1, fun hz' => b2 (((hmem z).1 hz').resolve_right hzy)⟩
    · exact absurd rfl (hn (u, 0) List.mem_cons_self)
  · match G, h, hl, hg1 with
    | [], _, _, _ => trivial
    | q :: r, h, hl, hg1 =>
      have hqy := hg1 q List.mem_cons_self
      refine ⟨⟨hl q r rfl, fun u hu a b => ?_⟩, ?_⟩
      · rcases (hmem u).1 hu with e | rfl
        · rw [hrk _ hqy, hrk u (hnew u e)] at a
          rw [hlw _ hqy, hlw u (hnew u e)]
          rcases h.top q r rfl u e a with w | ⟨c, hc, hc0, _⟩
          · exact w
          · rw [hl q r rfl] at hc
            cases hc
            exact absurd h0 hc0
        · dsimp only at b
          omega
      · have hq0 := hlo _ (h.gray q List.mem_cons_self).1
        refine h.link.turn (q := q) h.gord (fun u hu a => ?_) (hrk _ hqy) (fun p hp => ?_) q.2
        · rcases (hmem u).1 hu with e | rfl
          · exact ⟨e, hrk u (hnew u e), hlw u (hnew u e)⟩
          · omega
        · have := hg1 p (List.mem_cons_of_mem _ hp)
          exact ⟨hrk _ this, hlw _ this⟩
  · intro p r' e u hu hru
    cases e
    dsimp only at hru ⊢
    rcases (hmem u).1 hu with q | rfl
    · rw [hry, hrk u (hnew u q)] at hru
      have := hlo u q; omega
    · exact .inl (Nat.le_refl _)
  · intro u hu
    rcases (hmem u).1 hu with q | rfl
    · obtain ⟨p, hp, a⟩ := h.bot u q
      exact ⟨p, List.mem_cons_of_mem _ hp, by rw [hrk _ (hg1 p hp), hrk u (hnew u q)]; exact a⟩
    · exact ⟨(u, 0), List.mem_cons_self, Nat.le_refl _⟩

/-- An edge is done whose end was met before. -/
theorem Hunt.step (h : Hunt n ends t s ((x, d) :: r)) (hE : ∀ u v, v ∈ ends u → v < n) (hy : (ends x)[d]? = some y) (h0 : s.rank y ≠ 0) : Hunt n ends t (s.lower x (min (s.low x) (s.low y))) ((x, d + 1) :: r) := by
  have hx : x ∈ s.loose := (h.gray (x, d) List.mem_cons_self).1
  have hyn : y < n := hE _ _ (List.mem_of_getElem? hy)
  have hlw : ∀ u, u ≠ x → (s.lower x (min (s.low x) (s.low y))).low u = s.low u := fun u hu => upd_other _ _ hu
  have hlx : (s.lower x (min (s.low x) (s.low y))).low x = min (s.low x) (s.low y) := upd_same _ _ _
  have hle : ∀ u, (s.lower x (min (s.low x) (s.low y))).low u ≤ s.low u := fun u => by
    by_cases e : u = x
    · rw [e, hlx]; exact Nat.min_le_left _ _
    · rw [hlw u e]; exact Nat.le_refl _
  have hlow : s.low x ≤ n := h.low_top hx
  have hcase : y ∈ s.loose ∨ s.low y = n + 1 := by
    rcases (h.seen y hyn).1 h0 with q | ⟨c, hc, hm⟩
    · exact .inl q
    · exact .inr ((h.done c hc).2 y hm).1
  have hrx : ∀ p ∈ r, p.1 ≠ x := fun p hp e => by have := h.below hp; rw [e] at this; exact Nat.lt_irrefl _ this
  refine ⟨h.node, h.lo, h.cnt, h.ord, h.seen, h.apart, fun c hc => ?_, h.once, fun u hu => ?_, fun u hu => ?_, fun p hpp => ?_, ?_, fun u hu hn => ?_, ?_, ?_, fun u hu => ?_⟩
  · obtain ⟨h1, h2⟩ := h.done c hc
    refine ⟨h1, fun u hu => ?_⟩
    have hne : u ≠ x := fun e => h.apart x hx c hc (by rw [← e]; exact hu)
    rw [hlw u hne]
    exact h2 u hu
  · exact Nat.le_trans (hle u) (h.low_le u hu)
  · by_cases e : u = x
    · subst e
      rw [hlx]
      rcases hcase with q | q
      · rcases Nat.le_total (s.low u) (s.low y) with a | a
        · rw [Nat.min_eq_left a]; exact h.low_is u hu
        · rw [Nat.min_eq_right a]
          obtain ⟨z, hz, e1, e2⟩ := h.low_is y q
          exact ⟨z, hz, e1, (Gets.edge (List.mem_of_getElem? hy)).then e2⟩
      · rw [Nat.min_eq_left (by omega)]; exact h.low_is u hu
    · rw [hlw u e]; exact h.low_is u hu
  · have hold : ∀ k, (p.1, k) ∈ ((x, d) :: r) → (p.1 = x → p.2 = d + 1) → (p.1 ≠ x → p.2 = k) → p.1 ∈ s.loose ∧ (∀ j, j < p.2 → ∀ z, (ends p.1)[j]? = some z → s.rank z ≠ 0 ∧ (z ∈ s.loose → (s.lower x (min (s.low x) (s.low y))).low p.1 ≤ s.rank z)) ∧ ∀ u ∈ s.loose, s.rank p.1 ≤ s.rank u → Gets ends p.1 u := by
      intro k hk e1 e2
      obtain ⟨g1, g2, g3⟩ := h.gray _ hk
      refine ⟨g1, fun j hj z hz => ?_, g3⟩
      by_cases e : p.1 = x
      · rw [e] at hz ⊢
        have hj2 : j < d + 1 := by rw [← e1 e]; exact hj
        rcases Nat.lt_or_ge j d with q | q
        · obtain ⟨a, b⟩ := (h.gray (x, d) List.mem_cons_self).2.1 j q z hz
          exact ⟨a, fun hz' => Nat.le_trans (hle x) (b hz')⟩
        · obtain rfl : j = d := by omega
          rw [hy] at hz
          cases hz
          refine ⟨h0, fun hz' => ?_⟩
          rw [hlx]
          exact Nat.le_trans (Nat.min_le_right _ _) (h.low_le y hz')
      · obtain ⟨a, b⟩ := g2 j (by dsimp only; rw [← e2 e]; exact hj) z hz
        exact ⟨a, fun hz' => Nat.le_trans (hle _) (b hz')⟩
    rcases List.mem_cons.1 hpp with rfl | hp
    · exact hold d List.mem_cons_self (fun _ => rfl) (fun e => absurd rfl e)
    · exact hold p.2 (List.mem_cons_of_mem _ hp) (fun e => absurd e (hrx p hp)) (fun _ => rfl)
  · exact List.pairwise_cons.2 ⟨(List.pairwise_cons.1 h.gord).1, (List.pairwise_cons.1 h.gord).2⟩
  · have hux : u ≠ x := fun e => hn _ List.mem_cons_self e.symm
    obtain ⟨a, b⟩ := h.black u hu fun p hp => by
      rcases List.mem_cons.1 hp with rfl | hp
      · exact fun e => hux e.symm
      · exact hn p (List.mem_cons_of_mem _ hp)
    rw [hlw u hux]
    exact ⟨a, b⟩
  · refine h.link.turn (s' := s.lower x (min (s.low x) (s.low y))) (q := (x, d)) h.gord (fun u hu a => ⟨hu, rfl, hlw u fun e => ?_⟩) rfl (fun p hp => ⟨rfl, hlw _ (hrx p hp)⟩) (d + 1)
    rw [e] at a
    exact Nat.lt_irrefl _ a
  · intro p r' e u hu hru
    cases e
    dsimp only at hru ⊢
    refine .inl ?_
    rw [hlx]
    by_cases e : u = x
    · rw [e, hlx]; exact Nat.le_refl _
    · rw [hlw u e]
      rcases h.top (x, d) r rfl u hu hru with w | ⟨c, hc, _, w⟩
      · exact Nat.le_trans (Nat.min_le_left _ _) w
      · dsimp only at hc
        rw [hy] at hc
        cases hc
        exact Nat.le_trans (Nat.min_le_right _ _) w
  · obtain ⟨p, hp, a⟩ := h.bot u hu
    rcases List.mem_cons.1 hp with rfl | hp
    · exact ⟨(x, d + 1), List.mem_cons_self, a⟩
    · exact ⟨p, List.mem_cons_of_mem _ hp, a⟩

/-- A node all whose edges are done leads to one that was met ahead of it: it waits for that one's component. -/
theorem Hunt.leave (h : Hunt n ends t s ((x, d) :: r)) (hd : (ends x)[d]? = none) (hne : s.low x ≠ s.rank x) : Hunt n ends t s r := by
  have hx : x ∈ s.loose := (h.gray (x, d) List.mem_cons_self).1
  have hlt : s.low x < s.rank x := Nat.lt_of_le_of_ne (h.low_le x hx) hne
  refine ⟨h.node, h.lo, h.cnt, h.ord, h.seen, h.apart, h.done, h.once, h.low_le, h.low_is, fun p hp => h.gray p (List.mem_cons_of_mem _ hp), (List.pairwise_cons.1 h.gord).2, fun u hu hn => ?_, ?_, fun q r' e u hu hru => ?_, fun u hu => ?_⟩
  · by_cases e : u = x
    · subst e
      refine ⟨hlt, fun z hz => ?_⟩
      obtain ⟨j, hj⟩ := List.mem_iff_getElem?.1 hz
      have hjd : j < d := by
        have h1 := List.getElem?_eq_none_iff.1 hd
        have h2 := (List.getElem?_eq_some_iff.1 hj).1
        omega
      exact (h.gray (u, d) List.mem_cons_self).2.1 j hjd z hj
    · exact h.black u hu fun p hp => by
        rcases List.mem_cons.1 hp with rfl | hp
        · exact fun e' => e e'.symm
        · exact hn p hp
  · cases r with
    | nil => trivial
    | cons q r => exact h.link.2
  · subst e
    obtain ⟨⟨l1, l2⟩, _⟩ := h.link
    rcases Nat.lt_or_ge (s.rank u) (s.rank x) with a | a
    · exact .inl (l2 u hu hru a)
    · refine .inr ⟨x, l1, h.rank_one hx, ?_⟩
      rcases h.top (x, d) (q :: r') rfl u hu a with w | ⟨c, hc, _⟩
      · exact w
      · dsimp only at hc; rw [hd] at hc; cases hc
  · obtain ⟨p, hp, a⟩ := h.bot u hu
    rcases List.mem_cons.1 hp with rfl | hp
    · obtain ⟨z, hz, e1, _⟩ := h.low_is x hx
      obtain ⟨p, hp, b⟩ := h.bot z hz
      rcases List.mem_cons.1 hp with rfl | hp
      · dsimp only at b; omega
      · exact ⟨p, hp, by dsimp only at a; have := h.below hp; omega⟩
    · exact ⟨p, hp, a⟩

/-- A node all whose edges are done leads to none that was met ahead of it and waits: it, and those met behind it, are a component. -/
theorem Hunt.class (h : Hunt n ends t s ((x, d) :: r)) (ht : ∀ u v, t u v = true ↔ Gets ends u v ∧ Gets ends v u) (hE : ∀ u v, v ∈ ends u → v < n) (hd : (ends x)[d]? = none) (he : s.low x = s.rank x) (u : Nat) : u ∈ cls n t x ↔ u ∈ s.loose ∧ s.rank x ≤ s.rank u := by
  have hx : x ∈ s.loose := (h.gray (x, d) List.mem_cons_self).1
  have htop : ∀ u ∈ s.loose, s.rank x ≤ s.rank u → s.rank x ≤ s.low u := fun u hu a => by
    rcases h.top (x, d) r rfl u hu a with w | ⟨c, hc, _⟩
    · dsimp only at w; omega
    · dsimp only at hc; rw [hd] at hc; cases hc
  have hdone : ∀ v w, (∃ c ∈ s.comps, v ∈ c) → Gets ends v w → ∃ c ∈ s.comps, w ∈ c := fun v w hv hw => hw.keeps (P := fun v => ∃ c ∈ s.comps, v ∈ c) hv fun a b ⟨c, hc, hm⟩ hb => ((h.done c hc).2 a hm).2 b hb
  rw [cls, List.mem_filter, List.mem_range, ht]
  constructor
  · rintro ⟨hu, h1, h2⟩
    have key : (u ∈ s.loose ∧ s.rank x ≤ s.rank u) ∨ ∃ c ∈ s.comps, u ∈ c := by
      refine h1.keeps (P := fun u => (u ∈ s.loose ∧ s.rank x ≤ s.rank u) ∨ ∃ c ∈ s.comps, u ∈ c) (.inl ⟨hx, Nat.le_refl _⟩) fun a b ha hb => ?_
      rcases ha with ⟨ha, hra⟩ | ⟨c, hc, hm⟩
      · have hstep : s.rank b ≠ 0 ∧ (b ∈ s.loose → s.low a ≤ s.rank b) := by
          by_cases e : a = x
          · subst e
            obtain ⟨j, hj⟩ := List.mem_iff_getElem?.1 hb
            have hjd : j < d := by
              have h1 := List.getElem?_eq_none_iff.1 hd
              have h2 := (List.getElem?_eq_some_iff.1 hj).1
              omega
            exact (h.gray (a, d) List.mem_cons_self).2.1 j hjd b hj
          · refine (h.black a ha fun p hp e' => ?_).2 b hb
            rcases List.mem_cons.1 hp with rfl | hp
            · exact e e'.symm
            · have := h.below hp
              rw [e'] at this
              omega
        rcases (h.seen b (hE _ _ hb)).1 hstep.1 with q | q
        · exact .inl ⟨q, by have := htop a ha hra; have := hstep.2 q; omega⟩
        · exact .inr q
      · exact .inr (((h.done c hc).2 a hm).2 b hb)
    rcases key with q | q
    · exact q
    · obtain ⟨c, hc, hm⟩ := hdone u x q h2
      exact absurd hm (h.apart x hx c hc)
  · rintro ⟨hu, hr⟩
    refine ⟨h.node u hu, (h.gray (x, d) List.mem_cons_self).2.2 u hu hr, ?_⟩
    have key : ∀ m u, s.rank u ≤ m → u ∈ s.loose → s.rank x ≤ s.rank u → Gets ends u x := by
      intro m
      induction m with
      | zero => intro u a hu _; exact absurd (Nat.le_zero.1 a) (h.rank_one hu)
      | succ m ih =>
        intro u a hu hr
        by_cases e : u = x
        · subst e; exact Gets.refl u
        · have hb := (h.black u hu fun p hp e' => by
            rcases List.mem_cons.1 hp with rfl | hp
            · exact e e'.symm
            · have := h.below hp
              rw [e'] at this
              omega).1
          obtain ⟨z, hz, e1, e2⟩ := h.low_is u hu
          have := htop u hu hr
          exact e2.then (ih z (by omega) hz (by omega))
    exact key _ u (Nat.le_refl _) hu hr
/-- The component is taken off. -/
theorem Hunt.finish (h : Hunt n ends t s ((x, d) :: r)) (ht : ∀ u v, t u v = true ↔ Gets ends u v ∧ Gets ends v u) (hE : ∀ u v, v ∈ ends u → v < n) (hd : (ends x)[d]? = none) (he : s.low x = s.rank x) {A B : List Nat} (hl : s.loose = A ++ x :: B) :
    Hunt n ends t (s.fin n A (x :: B) (cls n t x)) r ∧ ∀ u, u ∈ cls n t x ↔ u ∈ x :: B := by
  have hx : x ∈ s.loose := (h.gray (x, d) List.mem_cons_self).1
  have hord := h.ord
  rw [hl, List.pairwise_append] at hord
  obtain ⟨o1, o2, o3⟩ := hord
  have hmem : ∀ u, u ∈ s.loose ↔ u ∈ A ∨ u ∈ x :: B := fun u => by rw [hl, List.mem_append]
  have hA : ∀ u ∈ A, s.rank u < s.rank x := fun u hu => o3 u hu x List.mem_cons_self
  have hC : ∀ u ∈ x :: B, s.rank x ≤ s.rank u := fun u hu => by
    rcases List.mem_cons.1 hu with rfl | hu
    · exact Nat.le_refl _
    · exact Nat.le_of_lt ((List.pairwise_cons.1 o2).1 u hu)
  have hAC : ∀ u ∈ A, u ∉ x :: B := fun u hu hc => by have := hA u hu; have := hC u hc; omega
  have hcls : ∀ u, u ∈ cls n t x ↔ u ∈ x :: B := fun u => by
    rw [h.class ht hE hd he, hmem]
    exact ⟨fun ⟨a, b⟩ => a.resolve_left fun q => by have := hA u q; omega, fun q => ⟨.inr q, hC u q⟩⟩
  have hlA : ∀ u ∈ A, (s.fin n A (x :: B) (cls n t x)).low u = s.low u := fun u hu => if_neg (hAC u hu)
  have hlC : ∀ u ∈ x :: B, (s.fin n A (x :: B) (cls n t x)).low u = n + 1 := fun u hu => if_pos hu
  have hin : ∀ p ∈ r, p.1 ∈ A := fun p hp => ((hmem _).1 (h.gray p (List.mem_cons_of_mem _ hp)).1).resolve_right fun q => by have := hC _ q; have := h.below hp; omega
  have hsub : ∀ u ∈ A, u ∈ s.loose := fun u hu => (hmem u).2 (.inl hu)
  have hcm : ∀ c, c ∈ (s.fin n A (x :: B) (cls n t x)).comps ↔ c ∈ s.comps ∨ c = cls n t x := fun c => by simp [Wk.fin]
  refine ⟨⟨fun u hu => h.node u (hsub u hu), h.lo, h.cnt, o1, fun u hu => ?_, fun u hu c hc => ?_, fun c hc => ?_, ?_, fun u hu => ?_, fun u hu => ?_, fun p hp => ?_, (List.pairwise_cons.1 h.gord).2, fun u hu hn => ?_, ?_, fun q r' e u hu hru => ?_, fun u hu => ?_⟩, hcls⟩
  · show s.rank u ≠ 0 ↔ u ∈ A ∨ _
    rw [h.seen u hu, hmem]
    constructor
    · rintro ((q | q) | ⟨c, hc, hm⟩)
      · exact .inl q
      · exact .inr ⟨_, (hcm _).2 (.inr rfl), (hcls u).2 q⟩
      · exact .inr ⟨c, (hcm _).2 (.inl hc), hm⟩
    · rintro (q | ⟨c, hc, hm⟩)
      · exact .inl (.inl q)
      · rcases (hcm c).1 hc with hc | rfl
        · exact .inr ⟨c, hc, hm⟩
        · exact .inl (.inr ((hcls u).1 hm))
  · intro hm
    rcases (hcm c).1 hc with hc | rfl
    · exact h.apart u (hsub u hu) c hc hm
    · exact hAC u hu ((hcls u).1 hm)
  · rcases (hcm c).1 hc with hc | rfl
    · obtain ⟨h1, h2⟩ := h.done c hc
      refine ⟨h1, fun u hu => ⟨?_, fun z hz => ?_⟩⟩
      · show (if u ∈ x :: B then n + 1 else s.low u) = n + 1
        split
        · rfl
        · exact (h2 u hu).1
      · obtain ⟨c', hc', hm⟩ := (h2 u hu).2 z hz
        exact ⟨c', (hcm _).2 (.inl hc'), hm⟩
    · refine ⟨⟨x, h.node x hx, rfl⟩, fun u hu => ⟨hlC u ((hcls u).1 hu), fun z hz => ?_⟩⟩
      have hu' := (h.class ht hE hd he u).1 hu
      have hstep : s.rank z ≠ 0 ∧ (z ∈ s.loose → s.rank x ≤ s.rank z) := by
        by_cases e : u = x
        · subst e
          obtain ⟨j, hj⟩ := List.mem_iff_getElem?.1 hz
          have hjd : j < d := by
            have h1 := List.getElem?_eq_none_iff.1 hd
            have h2 := (List.getElem?_eq_some_iff.1 hj).1
            omega
          obtain ⟨a, b⟩ := (h.gray (u, d) List.mem_cons_self).2.1 j hjd z hj
          exact ⟨a, fun q => by have := b q; dsimp only at this; omega⟩
        · obtain ⟨a, b⟩ := (h.black u hu'.1 fun p hp e' => by
            rcases List.mem_cons.1 hp with rfl | hp
            · exact e e'.symm
            · have := h.below hp
              rw [e'] at this
              omega).2 z hz
          refine ⟨a, fun q => ?_⟩
          have := b q
          rcases h.top (x, d) r rfl u hu'.1 hu'.2 with w | ⟨c, hc, _⟩
          · dsimp only at w; omega
          · dsimp only at hc; rw [hd] at hc; cases hc
      rcases (h.seen z (hE _ _ hz)).1 hstep.1 with q | ⟨c, hc, hm⟩
      · exact ⟨_, (hcm _).2 (.inr rfl), (h.class ht hE hd he z).2 ⟨q, hstep.2 q⟩⟩
      · exact ⟨c, (hcm _).2 (.inl hc), hm⟩
  · show (s.comps ++ [cls n t x]).Nodup
    rw [List.nodup_append]
    refine ⟨h.once, List.pairwise_singleton _ _, fun a ha b hb e => ?_⟩
    rw [List.mem_singleton.1 hb] at e
    exact h.apart x hx a ha (by rw [e]; exact (hcls x).2 List.mem_cons_self)
  · rw [hlA u hu]; exact h.low_le u (hsub u hu)
  · rw [hlA u hu]
    obtain ⟨z, hz, e1, e2⟩ := h.low_is u (hsub u hu)
    refine ⟨z, ((hmem z).1 hz).resolve_right fun q => ?_, e1, e2⟩
    have := hC z q
    have := hA u hu
    have := h.low_le u (hsub u hu)
    omega
  · obtain ⟨g1, g2, g3⟩ := h.gray p (List.mem_cons_of_mem _ hp)
    refine ⟨hin p hp, fun j hj z hz => ?_, fun u hu => g3 u (hsub u hu)⟩
    obtain ⟨a, b⟩ := g2 j hj z hz
    rw [hlA _ (hin p hp)]
    exact ⟨a, fun hz' => b (hsub z hz')⟩
  · obtain ⟨a, b⟩ := h.black u (hsub u hu) fun p hp => by
      rcases List.mem_cons.1 hp with rfl | hp
      · exact fun e => hAC u hu (by rw [← e]; exact List.mem_cons_self)
      · exact hn p hp
    rw [hlA u hu]
    exact ⟨a, fun z hz => ⟨(b z hz).1, fun hz' => (b z hz).2 (hsub z hz')⟩⟩
  · cases r with
    | nil => trivial
    | cons q r => exact h.link.2.turn (s' := s.fin n A (x :: B) (cls n t x)) (List.pairwise_cons.1 h.gord).2 (fun u hu _ => ⟨hsub u hu, rfl, hlA u hu⟩) rfl (fun p hp => ⟨rfl, hlA _ (hin p (List.mem_cons_of_mem _ hp))⟩) q.2
  · subst e
    obtain ⟨⟨_, l2⟩, _⟩ := h.link
    refine .inl ?_
    rw [hlA u hu, hlA _ (hin q List.mem_cons_self)]
    exact l2 u (hsub u hu) hru (hA u hu)
  · obtain ⟨p, hp, a⟩ := h.bot u (hsub u hu)
    rcases List.mem_cons.1 hp with rfl | hp
    · have := hA u hu
      dsimp only at a
      omega
    · exact ⟨p, hp, a⟩
end

/-! The components as a search leaves them, and in order. -/
section
variable {t : Nat → Nat → Bool} {n x y : Nat}
theorem cls_head (h : Eqv t) (hx : x < n) : (cls n t x).headD 0 = lead t x := by
  obtain ⟨h1, h2, h3⟩ := lead_is h x
  have : (cls n t x).head? = some (lead t x) := by
    rw [cls, List.head?_filter]
    exact first_is (by omega) h2 h3
  rw [List.headD_eq_head?_getD, this]
  rfl
theorem cls_same (h : Eqv t) (hxy : t x y = true) : cls n t x = cls n t y := List.filter_congr fun u _ => by
  rw [Bool.eq_iff_iff]
  exact ⟨fun q => h.trans _ _ _ (h.symm _ _ hxy) q, fun q => h.trans _ _ _ hxy q⟩
theorem comps_cls (t : Nat → Nat → Bool) (n : Nat) : comps t n = (leads t n).map (cls n t) := rfl
theorem leads_mem {v : Nat} : v ∈ leads t n ↔ v < n ∧ isL t v = true := by rw [leads, List.mem_filter, List.mem_range]
theorem comps_mem_iff (h : Eqv t) {c : List Nat} : c ∈ comps t n ↔ ∃ x, x < n ∧ c = cls n t x := by
  rw [comps_cls, List.mem_map]
  constructor
  · rintro ⟨v, hv, rfl⟩
    exact ⟨v, (leads_mem.1 hv).1, rfl⟩
  · rintro ⟨x, hx, rfl⟩
    have h1 := (lead_is h x).1
    exact ⟨lead t x, leads_mem.2 ⟨by omega, isL_lead h x⟩, (cls_same h (lead_is h x).2.1).symm⟩
theorem cls_lead (h : Eqv t) (hx : x < n) (hy : y < n) (e : (cls n t x).headD 0 = (cls n t y).headD 0) : cls n t x = cls n t y := by
  rw [cls_head h hx, cls_head h hy, lead_iff h] at e
  exact cls_same h e
theorem comps_order (h : Eqv t) : (comps t n).Pairwise fun a b => a.headD 0 < b.headD 0 := by
  rw [comps_cls, List.pairwise_map]
  refine (leads_rise n).imp_of_mem fun {a b} ha hb hab => ?_
  obtain ⟨a1, a2⟩ := leads_mem.1 ha
  obtain ⟨b1, b2⟩ := leads_mem.1 hb
  have e1 : lead t a = a := of_decide_eq_true a2
  have e2 : lead t b = b := of_decide_eq_true b2
  rw [cls_head h a1, cls_head h b1, e1, e2]
  exact hab
/-- Classes that are all of them, each once, in the order of their first numbers. -/
theorem comps_is (h : Eqv t) {cs : List (List Nat)} (hL : ∀ c ∈ cs, ∃ x, x < n ∧ c = cls n t x) (hall : ∀ x, x < n → ∃ c ∈ cs, x ∈ c) (hn : cs.Nodup) (hs : cs.Pairwise fun a b => a.headD 0 ≤ b.headD 0) : cs = comps t n := by
  refine List.Perm.eq_of_pairwise (le := fun a b => a.headD 0 ≤ b.headD 0) (fun a b ha hb e1 e2 => ?_) hs ((comps_order h).imp fun q => Nat.le_of_lt q) ?_
  · obtain ⟨x, hx, rfl⟩ := hL a ha
    obtain ⟨y, hy, rfl⟩ := (comps_mem_iff h).1 hb
    exact cls_lead h hx hy (Nat.le_antisymm e1 e2)
  · refine (List.perm_ext_iff_of_nodup hn ((comps_order h).imp fun q e => by rw [e] at q; exact Nat.lt_irrefl _ q)).2 fun c => ?_
    rw [comps_mem_iff h]
    refine ⟨hL c, ?_⟩
    rintro ⟨x, hx, rfl⟩
    obtain ⟨c, hc, hm⟩ := hall x hx
    obtain ⟨y, hy, rfl⟩ := hL c hc
    have : t y x = true := (List.mem_filter.1 hm).2
    rw [← cls_same h this]
    exact hc
/-- Two classes of one search have other first numbers. -/
theorem heads_apart (h : Eqv t) {cs : List (List Nat)} (hL : ∀ c ∈ cs, ∃ x, x < n ∧ c = cls n t x) (hn : cs.Nodup) (i j : Nat) (hi : i < cs.length) (hj : j < cs.length) (e : cs[i].headD 0 = cs[j].headD 0) : i = j := by
  obtain ⟨x, hx, ex⟩ := hL _ (List.getElem_mem hi)
  obtain ⟨y, hy, ey⟩ := hL _ (List.getElem_mem hj)
  rw [ex, ey] at e
  have := cls_lead h hx hy e
  rw [← ex, ← ey] at this
  exact (List.getElem_inj hn).1 this
/-- A class has its own number, so it has a first one, and that is below n. -/
theorem cls_first (h : Eqv t) (hx : x < n) : ∃ v r, cls n t x = v :: r ∧ v < n := by
  have hm : x ∈ cls n t x := List.mem_filter.2 ⟨List.mem_range.2 hx, h.refl x⟩
  cases e : cls n t x with
  | nil => rw [e] at hm; cases hm
  | cons v r => exact ⟨v, r, rfl, List.mem_range.1 (List.mem_filter.1 (show v ∈ cls n t x by rw [e]; exact List.mem_cons_self)).1⟩
theorem cls_len (n : Nat) (t : Nat → Nat → Bool) (x : Nat) : (cls n t x).length ≤ n := by
  have := List.length_filter_le (t x) (List.range n)
  rw [List.length_range] at this
  exact this
theorem cls_rise (n : Nat) (t : Nat → Nat → Bool) (x : Nat) : (cls n t x).Pairwise (· < ·) := List.pairwise_lt_range.filter _
/-- Numbers that increase, and the same numbers sorted: one list. -/
theorem sorted_is {l m : List Int} (hl : l.Nodup) (hm : m.Pairwise (· < ·)) (he : ∀ v, v ∈ l ↔ v ∈ m) : l.mergeSort (fun x y => decide (x ≤ y)) = m := by
  have hmn : m.Nodup := hm.imp fun q e => by rw [e] at q; exact Int.lt_irrefl _ q
  refine List.Perm.eq_of_pairwise (le := fun a b => a ≤ b) (fun a b _ _ e1 e2 => Int.le_antisymm e1 e2) ?_ (hm.imp fun q => Int.le_of_lt q) ((List.mergeSort_perm l _).trans ((List.perm_ext_iff_of_nodup hl hmn).2 he))
  exact (List.pairwise_mergeSort (le := fun x y => decide (x ≤ y)) (fun a b c q1 q2 => by simp at *; omega) (fun a b => by simp; omega) l).imp fun q => of_decide_eq_true q
end
section
variable {n : Nat} {l : List Nat}
/-- Where the edges of x lead, of all edges given. -/
def endsTo (es : List (Nat × Nat)) (x : Nat) : List Nat := (es.filter fun e => decide (e.1 = x)).map (·.2)
theorem endsTo_nil (x : Nat) : endsTo [] x = [] := rfl
theorem endsTo_same (es : List (Nat × Nat)) (x y : Nat) : endsTo (es ++ [(x, y)]) x = endsTo es x ++ [y] := by simp [endsTo]
theorem endsTo_other (es : List (Nat × Nat)) {x y u : Nat} (h : u ≠ x) : endsTo (es ++ [(x, y)]) u = endsTo es u := by
  have : ¬ x = u := fun e => h e.symm
  simp [endsTo, this]
theorem endsTo_len (es : List (Nat × Nat)) (x : Nat) : (endsTo es x).length ≤ es.length := by
  rw [endsTo, List.length_map]
  exact List.length_filter_le _ _
def endsOf (l : List Nat) : Nat → List Nat := endsTo (edges l)
theorem ends_mem (h : Ok n l) {x y : Nat} : y ∈ endsOf l x ↔ bit l x y = true := by
  rw [endsOf, endsTo, List.mem_map]
  constructor
  · rintro ⟨e, he, rfl⟩
    obtain ⟨h1, h2⟩ := List.mem_filter.1 he
    rw [← of_decide_eq_true h2]
    exact (mem_edges h).1 h1
  · intro hb
    exact ⟨(x, y), List.mem_filter.2 ⟨(mem_edges h).2 hb, by simp⟩, rfl⟩
theorem gets_iff (h : Ok n l) {x y : Nat} : Gets (endsOf l) x y ↔ x = y ∨ Leads l x y := by
  have e : (fun u v => v ∈ endsOf l u) = fun u v => bit l u v = true := by
    funext u v
    exact propext (ends_mem h)
  rw [Gets, Leads, e]
theorem tog_gets (h : Ok n l) (x y : Nat) : tog n l x y = true ↔ Gets (endsOf l) x y ∧ Gets (endsOf l) y x := by
  rw [tog_iff h, gets_iff h, gets_iff h]
  constructor
  · rintro (rfl | ⟨a, b⟩)
    · exact ⟨.inl rfl, .inl rfl⟩
    · exact ⟨.inr a, .inr b⟩
  · rintro ⟨rfl | a, b⟩
    · exact .inl rfl
    · rcases b with rfl | b
      · exact .inl rfl
      · exact .inr ⟨a, b⟩
theorem ends_lt (h : Ok n l) (x y : Nat) (hy : y ∈ endsOf l x) : y < n := (h.node ((ends_mem h).1 hy)).2
end
end Sc
end Go.Proofs.YtgapcjgmmlffmaaDoor
