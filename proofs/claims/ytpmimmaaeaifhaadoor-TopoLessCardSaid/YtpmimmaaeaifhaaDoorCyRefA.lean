/-
  What the reference's far of layer 15 answers.
  Conditions: the graph is valid, v is one of its nodes.
  (This program has not all of these functions: rFar15_at is left out here.)
-/
import Derived.Test.YtpmimmaaeaifhaaDoorCyPlain
import Derived.Test.YtpmimmaaeaifhaaDoorGfRef
import Derived.Test.YtpmimmaaeaifhaaDoorBiAll
set_option maxRecDepth 4000
namespace Go.Proofs.YtpmimmaaeaifhaaDoor
open Go.RowKit
namespace Cy
open Gf Rc To
def row (n : Nat) (g : List Nat) (v k : Nat) : List Nat := (List.range n).map (far n g v k)
/-- A round's row, where x numbers are this round's. -/
def mid (n : Nat) (g : List Nat) (v k x : Nat) : List Nat := (List.range n).map fun j => if j < x then far n g v (k + 1) j else far n g v k j
theorem row_len (n : Nat) (g : List Nat) (v k : Nat) : (row n g v k).length = n := by rw [row, List.length_map, List.length_range]
theorem mid_len (n : Nat) (g : List Nat) (v k x : Nat) : (mid n g v k x).length = n := by rw [mid, List.length_map, List.length_range]
theorem mid_zero (n : Nat) (g : List Nat) (v k : Nat) : mid n g v k 0 = row n g v k := by
  rw [mid, row]
  congr 1
theorem mid_all (n : Nat) (g : List Nat) (v k : Nat) : mid n g v k n = row n g v (k + 1) := by
  rw [mid, row]
  refine List.map_congr_left fun j hj => ?_
  rw [if_pos (List.mem_range.1 hj)]
theorem mid_at {n : Nat} {g : List Nat} {v k x j : Nat} (hj : j < (mid n g v k x).length) : (mid n g v k x)[j] = if j < x then far n g v (k + 1) j else far n g v k j := by
  simp only [mid, List.getElem_map, List.getElem_range]
theorem mid_next {n : Nat} {g : List Nat} {v k x : Nat} : (mid n g v k x).set x (far n g v (k + 1) x) = mid n g v k (x + 1) := by
  refine List.ext_getElem (by rw [List.length_set, mid_len, mid_len]) fun j h1 h2 => ?_
  rw [List.getElem_set, mid_at]
  split
  · rename_i e
    subst e
    rw [mid_at, if_pos (Nat.lt_succ_self _)]
  · rename_i e
    rw [mid_at]
    by_cases q : j < x
    · rw [if_pos q, if_pos (by omega)]
    · rw [if_neg q, if_neg (by omega)]
theorem mid_same {n : Nat} {g : List Nat} {v k x : Nat} : (mid n g v k x).set x (far n g v k x) = mid n g v k x := by
  refine List.ext_getElem (by rw [List.length_set]) fun j h1 h2 => ?_
  rw [List.getElem_set]
  split
  · rename_i e
    subst e
    rw [mid_at, if_neg (Nat.lt_irrefl _)]
  · rfl
/-- What stands at x, when y nodes have been looked at. -/
def At (n : Nat) (g : List Nat) (v k x y q : Nat) : Prop := (q = far n g v (k + 1) x ∧ q ≠ 0) ∨ (q = 0 ∧ far n g v k x = 0 ∧ ∀ z, z < y → bit g x z = true → far n g v k z ≠ k)
theorem at_start {n : Nat} {g : List Nat} {v k x : Nat} : At n g v k x 0 (far n g v k x) := by
  by_cases h : far n g v k x = 0
  · exact .inr ⟨h, h, fun z hz => absurd hz (Nat.not_lt_zero _)⟩
  · exact .inl ⟨(far_stays h).symm, h⟩
theorem at_done {n : Nat} {g : List Nat} (hg : Ok n g) {v k x y q : Nat} (hk : 0 < k) (h : At n g v k x y q) (hd : q ≠ 0 ∨ y = n) : q = far n g v (k + 1) x := by
  rcases h with ⟨h, _⟩ | ⟨h1, h2, h3⟩
  · exact h
  · rcases hd with hd | rfl
    · exact absurd h1 hd
    · rw [h1, far_not hg hk h2 fun z hz => h3 z (hg.node hz).2 hz]
theorem at_yes {n : Nat} {g : List Nat} (hg : Ok n g) {v k x y : Nat} (hk : 0 < k) (h : At n g v k x y 0) (hb : bit g x y = true) (hf : far n g v k y = k) : At n g v k x (y + 1) (k + 1) := by
  rcases h with ⟨_, h⟩ | ⟨_, h2, _⟩
  · exact absurd rfl h
  · exact .inl ⟨(far_new hg hk h2 hb hf).symm, by omega⟩
theorem at_no {n : Nat} {g : List Nat} {v k x y : Nat} (h : At n g v k x y 0) (hb : bit g x y = true → far n g v k y ≠ k) : At n g v k x (y + 1) 0 := by
  rcases h with ⟨_, h⟩ | ⟨_, h2, h3⟩
  · exact absurd rfl h
  · refine .inr ⟨rfl, h2, fun z hz hzb => ?_⟩
    rcases Nat.lt_succ_iff_lt_or_eq.1 hz with q | q
    · exact h3 z q hzb
    · rw [q] at hzb ⊢
      exact hb hzb
theorem at_see {n : Nat} {g : List Nat} {v k x m y : Nat} (hk : 0 < k) (h : At n g v k x m 0) (hy : y < ((mid n g v k x).set x 0).length) : ((mid n g v k x).set x 0)[y] = k ↔ far n g v k y = k := by
  rcases h with ⟨_, h⟩ | ⟨_, h2, h3⟩
  · exact absurd rfl h
  · rw [List.getElem_set]
    split
    · rename_i e
      subst e
      rw [h2]
    · rw [mid_at]
      split
      · by_cases q : far n g v k y = 0
        · rw [q]
          have hle : far n g v (k + 1) y = 0 ∨ far n g v (k + 1) y = k + 1 := by
            cases hf : far n g v (k + 1) y with
            | zero => exact .inl rfl
            | succ j =>
              right
              obtain ⟨a1, a2, a3⟩ := far_some.1 hf
              rcases Nat.lt_or_ge j k with b | b
              · have := far_none.1 q j b
                rw [a2] at this
                cases this
              · omega
          omega
        · rw [far_stays q]
      · rfl
theorem row_snoc (n : Nat) (g : List Nat) (v x : Nat) : (List.range (x + 1)).map (far n g v 1) = (List.range x).map (far n g v 1) ++ [far n g v 1 x] := by
  rw [List.range_succ, List.map_append]
  rfl
end Cy

/-! An own row of n numbers, read and written. -/
section
variable {W : World} {base g n c : Nat} {e : TypeId} {d : List Nat} {A : Option Addr}
theorem nrow_read (h : W.ownsRow base e 1 (.slice A n c) n ((Bi.nums d).flatMap nC)) (hd : d.length = n) (k : Nat) (hk : k < d.length) : ∃ g, A = some ⟨g, 0, none⟩ ∧ base ≤ g ∧ W.cell? ⟨g, k, none⟩ = some (.int .i64 (d[k] : Int)) ∧ W.frozen? ⟨g, k, none⟩ = false := by
  rcases h.2 with ⟨_, h0⟩ | ⟨g, cap, cur, hv, hb, _⟩
  · omega
  · cases hv
    refine ⟨g, rfl, hb, ?_, h.frozenAt _⟩
    rw [h.cellAt _ (by omega)]
    have := flat_at nC_len (Bi.nums d) k (by rw [Bi.nums_len]; exact hk) 0 (by decide)
    rw [Nat.mul_one, Nat.add_zero] at this
    rw [this, Bi.nums_at d k hk]
    rfl
theorem nrow_at (h : W.ownsRow base e 1 (.slice (some ⟨g, 0, none⟩) n c) n ((Bi.nums d).flatMap nC)) (hd : d.length = n) (k : Nat) (hk : k < d.length) : W.cell? ⟨g, k, none⟩ = some (.int .i64 (d[k] : Int)) ∧ W.frozen? ⟨g, k, none⟩ = false := by
  obtain ⟨g', e, _, h1, h2⟩ := nrow_read h hd k hk
  cases e
  exact ⟨h1, h2⟩
theorem nrow_put (h : W.ownsRow base e 1 (.slice (some ⟨g, 0, none⟩) n c) n ((Bi.nums d).flatMap nC)) (k : Nat) (hk : k < d.length) (x : Nat) : (W.setCell ⟨g, k, none⟩ (.int .i64 (x : Int))).ownsRow base e 1 (.slice (some ⟨g, 0, none⟩) n c) n ((Bi.nums (d.set k x)).flatMap nC) := by
  have h1 := (World.ownsRow.stored h k (.int .i64 (x : Int))).1
  have h2 := flat_set nC_len (Bi.nums d) k (by rw [Bi.nums_len]; exact hk) 0 (by decide) (x : Int) (.int .i64 (x : Int)) rfl
  rw [Nat.mul_one, Nat.add_zero] at h2
  rw [h2] at h1
  rw [show Bi.nums (d.set k x) = (Bi.nums d).set k (x : Int) from List.map_set]
  exact h1
end

end Go.Proofs.YtpmimmaaeaifhaaDoor
