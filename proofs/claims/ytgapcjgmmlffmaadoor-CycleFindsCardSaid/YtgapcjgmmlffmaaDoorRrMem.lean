/-
  Words for rows of rows of numbers in memory: a slice of slices that reads as a list of lists; such rows of the call's own, how they last and grow.
  Conditions: none beyond those that each theorem states.
-/
import Derived.Test.YtgapcjgmmlffmaaDoorBiAll
import Derived.Test.YtgapcjgmmlffmaaDoorGrAll
set_option maxRecDepth 4000
namespace Go.Proofs.YtgapcjgmmlffmaaDoor
open Go.RowKit

def rrC (x : List Nat × Value) : List Value := [x.2]
theorem rrC_len (x : List Nat × Value) : (rrC x).length = 1 := rfl
theorem one_rrC (l : List Nat) (A : Option Addr) (n c : Nat) : ∀ u ∈ rrC (l, .slice A n c), u.oneCell' = true := by
  intro u hu
  rw [List.mem_singleton.1 hu]
  rfl
theorem rrC_flat (p : List (List Nat × Value)) : (p.flatMap rrC).length = p.length := by rw [flat_len rrC_len, Nat.mul_one]
theorem rrC_at (p : List (List Nat × Value)) (k : Nat) (hk : k < p.length) : (p.flatMap rrC)[k]? = some p[k].2 := by
  have := flat_at rrC_len p k hk 0 (by omega)
  rw [Nat.mul_one, Nat.add_zero] at this
  rw [this]
  rfl
theorem rrC_set (p : List (List Nat × Value)) (k : Nat) (hk : k < p.length) (x : List Nat × Value) : (p.flatMap rrC).set k x.2 = (p.set k x).flatMap rrC := by
  have := flat_set rrC_len p k hk 0 (by omega) x x.2 rfl
  rw [Nat.mul_one, Nat.add_zero] at this
  exact this

/-- The slice value v reads as the rows l. -/
def Rrs (w : World) (v : Value) (l : List (List Nat)) : Prop := ∃ p : List (List Nat × Value), p.map (·.1) = l ∧ Sl w 1 v p.length (p.flatMap rrC) ∧ ∀ x ∈ p, Ns w x.2 (Bi.nums x.1)
theorem Rrs.below {w w' : World} {v : Value} {l : List (List Nat)} (h : Rrs w v l) (hb : Below w.heap.size w w') : Rrs w' v l := by
  obtain ⟨p, h1, h2, h3⟩ := h
  exact ⟨p, h1, h2.below hb, fun x hx => (h3 x hx).below hb⟩
theorem Rrs.nil (w : World) (A : Option Addr) : Rrs w (.slice A 0 0) [] := ⟨[], rfl, Sl.nil w 1 A, fun x hx => by cases hx⟩
/-- Element k, and its row. -/
theorem Rrs.spelled {w : World} {v : Value} {l : List (List Nat)} (h : Rrs w v l) : ∃ A c, v = .slice A l.length c ∧ ∀ (k : Nat) (hk : k < l.length), ∃ (ad : Addr) (B : Option Addr) (d : Nat), A = some ad ∧ ad.block < w.heap.size ∧ w.cell? (ad.add k) = some (.slice B l[k].length d) ∧ Ns w (.slice B l[k].length d) (Bi.nums l[k]) := by
  obtain ⟨p, rfl, h2, h3⟩ := h
  obtain ⟨A, c, hv, hh⟩ := h2.form
  refine ⟨A, c, by rw [List.length_map]; exact hv, fun k hk => ?_⟩
  rw [List.length_map] at hk
  obtain ⟨ad, e, hb, hc⟩ := hh (by omega)
  have h4 := h3 _ (List.getElem_mem hk)
  obtain ⟨B, d, hB, -⟩ := h4.nums
  refine ⟨ad, B, d, e, hb, ?_, ?_⟩
  · rw [List.getElem_map, ← hB]
    exact hc k _ (rrC_at p k hk)
  · rw [List.getElem_map, ← hB]
    exact h4

/-- A row of rows of the call's own: its own block, each row in a block of its own, no two in one. -/
structure OwnRR (w : World) (base : Nat) (v : Value) (p : List (List Nat × Value)) : Prop where
  row : w.ownsRow base 26 1 v p.length (p.flatMap rrC)
  ins : ∀ x ∈ p, w.ownsRow base 3 1 x.2 x.1.length ((Bi.nums x.1).flatMap nC)
  each : p.Pairwise fun x y => x.2.ownBlock = none ∨ x.2.ownBlock ≠ y.2.ownBlock
section
variable {w w' w1 : World} {base g c : Nat} {v v' u : Value} {p : List (List Nat × Value)}
theorem OwnRR.nil (w : World) (base : Nat) : OwnRR w base (.slice none 0 0) [] := ⟨World.ownsRow_nil _ _ _ _, fun _ hx => (List.not_mem_nil hx).elim, List.Pairwise.nil⟩
theorem OwnRR.below (h : OwnRR w base v p) (hb : Below w.heap.size w w') : OwnRR w' base v p := ⟨own_below h.row hb, fun x hx => own_below (h.ins x hx) hb, h.each⟩
theorem OwnRR.rrs (h : OwnRR w base v p) : Rrs w v (p.map (·.1)) := ⟨p, rfl, Sl.own h.row, fun x hx => nums_own (h.ins x hx)⟩
theorem OwnRR.form (h : OwnRR w base v p) : ∃ A c, v = .slice A p.length c := own_form h.row
theorem OwnRR.apart (h : OwnRR w base v p) {x : List Nat × Value} (hx : x ∈ p) : x.2.ownBlock = none ∨ x.2.ownBlock ≠ v.ownBlock := own_types (h.ins x hx) h.row (by decide)
theorem rr_each {p : List (List Nat × Value)} (h : p.Pairwise fun x y => x.2.ownBlock = none ∨ x.2.ownBlock ≠ y.2.ownBlock) (i j : Nat) (hi : i < p.length) (hj : j < p.length) (hij : i ≠ j) : p[i].2.ownBlock = none ∨ p[i].2.ownBlock ≠ p[j].2.ownBlock := by
  rcases Nat.lt_or_gt_of_ne hij with h' | h'
  · exact List.pairwise_iff_getElem.1 h i j hi hj h'
  · rcases List.pairwise_iff_getElem.1 h j i hj hi h' with e | e
    · cases hb : p[i].2.ownBlock with
      | none => exact .inl rfl
      | some b => exact .inr (by rw [e]; simp)
    · exact .inr fun e' => e e'.symm
/-- One row more, empty. -/
theorem OwnRR.snoc (h : OwnRR w base v p) (hrow : w'.ownsRow base 26 1 v' (p.length + 1) (p.flatMap rrC ++ rrC ([], .slice none 0 0))) (hg : w.grownBy w' v.ownBlock) : OwnRR w' base v' (p ++ [([], .slice none 0 0)]) := by
  refine ⟨?_, ?_, ?_⟩
  · rw [List.length_append, List.flatMap_append]
    simpa using hrow
  · intro y hy
    rcases List.mem_append.1 hy with hy | hy
    · exact (h.ins y hy).kept hg (h.apart hy)
    · rw [List.mem_singleton.1 hy]
      exact World.ownsRow_nil _ _ _ _
  · rw [List.pairwise_append]
    refine ⟨h.each, List.pairwise_singleton _ _, fun y hy z hz => ?_⟩
    rw [List.mem_singleton.1 hz]
    cases hy' : y.2.ownBlock with
    | none => exact .inl rfl
    | some k => exact .inr (fun h' => by cases h')
/-- Where the row of rows lies, once it has one. -/
theorem OwnRR.at (h : OwnRR w base v p) (k : Nat) (hk : k < p.length) : ∃ g c, v = .slice (some ⟨g, 0, none⟩) p.length c ∧ w.cell? ⟨g, k, none⟩ = some p[k].2 ∧ w.frozen? ⟨g, k, none⟩ = false ∧ base ≤ g := by
  rcases h.row.2 with ⟨_, h0⟩ | ⟨g, cap, cur, rfl, hb, _⟩
  · omega
  · exact ⟨g, cap, rfl, by rw [h.row.cellAt _ (by omega), rrC_at p k hk], h.row.frozenAt _, hb⟩
/-- A row has grown (in its block, or in a new one), and its slice is laid into its cell. -/
theorem OwnRR.grow (h : OwnRR w base (.slice (some ⟨g, 0, none⟩) p.length c) p) (k : Nat) (hk : k < p.length) (x : List Nat)
    (hu : w1.ownsRow base 3 1 u x.length ((Bi.nums x).flatMap nC)) (hg : w.grownBy w1 p[k].2.ownBlock) (hv : u.ownBlock = p[k].2.ownBlock ∨ u.ownBlock = some w.heap.size) :
    OwnRR (w1.setCell ⟨g, k, none⟩ u) base (.slice (some ⟨g, 0, none⟩) p.length c) (p.set k (x, u)) := by
  have hrow1 : w1.ownsRow base 26 1 (.slice (some ⟨g, 0, none⟩) p.length c) p.length (p.flatMap rrC) := by
    refine h.row.kept hg ?_
    rcases h.apart (List.getElem_mem hk) with e1 | e1
    · rw [e1]; exact .inr (by simp [Value.ownBlock])
    · exact .inr fun e2 => e1 e2.symm
  obtain ⟨s1, s2⟩ := hrow1.stored k u
  have hug : u.ownBlock = none ∨ u.ownBlock ≠ some g := own_types hu hrow1 (by decide)
  have hothers : ∀ i (hi : i < p.length), i ≠ k → p[i].2.ownBlock = none ∨ p[i].2.ownBlock ≠ u.ownBlock := fun i hi hik => by
    rcases hv with hv | hv
    · rw [hv]; exact rr_each h.each i k hi hk hik
    · rw [hv]; exact ne_fresh (h.ins _ (List.getElem_mem hi))
  refine ⟨?_, ?_, ?_⟩
  · rw [rrC_set p k hk (x, u)] at s1
    rw [List.length_set]
    exact s1
  · intro y hy
    rcases mem_set_at hy with rfl | ⟨i, hi, hik, rfl⟩
    · exact hu.kept s2 hug
    · exact ((h.ins _ (List.getElem_mem hi)).kept hg (rr_each h.each i k hi hk hik)).kept s2 (h.apart (List.getElem_mem hi))
  · rw [List.pairwise_iff_getElem]
    intro i j hi hj hij
    rw [List.length_set] at hi hj
    rw [List.getElem_set, List.getElem_set]
    by_cases h1 : k = i
    · rw [if_pos h1, if_neg (by omega)]
      rcases hothers j hj (by omega) with e1 | e1
      · cases hb : u.ownBlock with
        | none => exact .inl rfl
        | some b => exact .inr (by rw [e1]; simp)
      · exact .inr fun e2 => e1 e2.symm
    · rw [if_neg h1]
      by_cases h2 : k = j
      · rw [if_pos h2]
        exact hothers i hi (by omega)
      · rw [if_neg h2]
        exact rr_each h.each i j hi hj (by omega)
end
/-- Rows of rows that a call hands back. -/
def RetRR (w : World) (l : List (List Nat)) (e : Ending) (w' : World) : Prop := ∃ v, e = .returned v ∧ Rrs w' v l ∧ Below w.heap.size w w'
end Go.Proofs.YtgapcjgmmlffmaaDoor
