/-
  Powers of a graph, and what becomes of a cycle that begins elsewhere, loses an edge, or is told twice.
  Conditions: none beyond those that each theorem states.
-/
import Derived.Test.YtgapcjgmmlffmaaCyAns
set_option maxRecDepth 4000
namespace Go.Proofs.Ytgapcjgmmlffmaa
namespace Cy
open Gf Rc To

/-- One edge more, at the end of a way. -/
theorem st_last {n : Nat} {g : List Nat} (hg : Ok n g) {v : Nat} : ∀ {i x : Nat}, st n g v (i + 1) x = true ↔ ∃ y, st n g y i x = true ∧ bit g y v = true
  | 0, x => by
    rw [st_next hg]
    rfl
  | i + 1, x => by
    rw [st_next hg]
    constructor
    · rintro ⟨y, h1, h2⟩
      obtain ⟨z, h3, h4⟩ := (st_last hg).1 h2
      exact ⟨z, (st_next hg).2 ⟨y, h1, h3⟩, h4⟩
    · rintro ⟨z, h1, h2⟩
      obtain ⟨y, h3, h4⟩ := (st_next hg).1 h1
      exact ⟨y, h3, (st_last hg).2 ⟨z, h4, h2⟩⟩
/-- Just i + 1 edges, one behind the other. -/
def pw (n : Nat) (g : List Nat) : Nat → List Nat
  | 0 => g
  | i + 1 => composeR n (pw n g i) g
theorem pw_ok {n : Nat} {g : List Nat} (hg : Ok n g) : ∀ i, Ok n (pw n g i)
  | 0 => hg
  | _ + 1 => build_ok hg.1 _
theorem pw_bit {n : Nat} {g : List Nat} (hg : Ok n g) : ∀ i x v, bit (pw n g i) x v = st n g v i x
  | 0, _, _ => rfl
  | i + 1, x, v => by
    rw [Bool.eq_iff_iff, st_last hg, pw, compose_bit (pw_ok hg i) hg, List.any_eq_true]
    constructor
    · rintro ⟨y, _, h⟩
      rw [Bool.and_eq_true, pw_bit hg i] at h
      exact ⟨y, h.1, h.2⟩
    · rintro ⟨y, h1, h2⟩
      exact ⟨y, List.mem_range.2 (hg.node h2).1, by rw [pw_bit hg i, h1, h2]; rfl⟩
theorem back_len {n : Nat} {g : List Nat} (hg : Ok n g) {v : Nat} : ∀ (j x : Nat), far n g v n x = j + 1 → (back n g v j x).length = j
  | 0, x, _ => rfl
  | j + 1, x, h => by
    obtain ⟨y, h1, _, h3⟩ := back_is hg h
    rw [back_some h1, List.length_cons, back_len hg j y h3]
/-- What is found, and how far it leads: no way back in fewer edges. -/
theorem find_short {n : Nat} {g : List Nat} (hg : Ok n g) (hc : cyclicR n g = true) : ∃ v r, findR n g = v :: r ∧ v < n ∧ (∀ i, i < r.length → bit (pw n g i) v v = false) ∧ bit (pw n g r.length) v v = true := by
  obtain ⟨v, j, hv, hj, _, e⟩ := find_some hg hc
  obtain ⟨_, h1, h2⟩ := far_some.1 hj
  refine ⟨v, _, e, hv, fun i hi => ?_, ?_⟩
  · rw [back_len hg j v hj] at hi
    rw [pw_bit hg]
    exact h2 i hi
  · rw [back_len hg j v hj, pw_bit hg]
    exact h1

theorem rot_at {m : List Nat} {j i : Nat} (hj : j ≤ m.length) (hi : i < (m.drop j ++ m.take j).length) (h : (i + j) % m.length < m.length) : (m.drop j ++ m.take j)[i] = m[(i + j) % m.length] := by
  have hl : i < m.length := by simp at hi; omega
  by_cases q : i < (m.drop j).length
  · rw [List.getElem_append_left q, List.getElem_drop]
    rw [List.length_drop] at q
    congr 1
    rw [Nat.mod_eq_of_lt (by omega), Nat.add_comm]
  · rw [List.getElem_append_right (by omega), List.getElem_take]
    rw [List.length_drop] at q
    congr 1
    rw [List.length_drop]
    have : i + j = (i - (m.length - j)) + m.length := by omega
    rw [this, Nat.add_mod_right, Nat.mod_eq_of_lt (by omega)]
theorem rot_len (m : List Nat) (j : Nat) (hj : j ≤ m.length) : (m.drop j ++ m.take j).length = m.length := by simp; omega
theorem IsCyc.rot {n : Nat} {g m : List Nat} (h : IsCyc n g m) {j : Nat} (hj : j ≤ m.length) : IsCyc n g (m.drop j ++ m.take j) := by
  have h0 : 0 < m.length := List.length_pos_iff.2 h.pos
  refine ⟨fun e => ?_, fun x hx => ?_, ?_, fun i hi => ?_⟩
  · have := congrArg List.length e
    rw [rot_len m j hj] at this
    exact Nat.lt_irrefl 0 (by rw [this] at h0; exact h0)
  · rcases List.mem_append.1 hx with q | q
    · exact h.node x (List.mem_of_mem_drop q)
    · exact h.node x (List.mem_of_mem_take q)
  · have h1 : (m.drop j ++ m.take j).Perm m := List.perm_append_comm.trans (by rw [List.take_append_drop])
    exact h1.nodup_iff.2 h.once
  · have hl := rot_len m j hj
    have a := h.edge ((i + j) % m.length) (Nat.mod_lt _ h0)
    rw [rot_at hj hi (Nat.mod_lt _ h0), rot_at hj _ (Nat.mod_lt _ h0)]
    have e : ((i + 1) % (m.drop j ++ m.take j).length + j) % m.length = ((i + j) % m.length + 1) % m.length := by
      rw [hl, Nat.mod_add_mod, Nat.mod_add_mod]
      congr 1
      omega
    simp only [e]
    exact a
theorem nums_drop (m : List Nat) (j : Nat) : (Bi.nums m).drop j = Bi.nums (m.drop j) := by simp [Bi.nums, List.map_drop]
theorem nums_take (m : List Nat) (j : Nat) : (Bi.nums m).take j = Bi.nums (m.take j) := by simp [Bi.nums, List.map_take]
theorem nums_app (m m' : List Nat) : Bi.nums m ++ Bi.nums m' = Bi.nums (m ++ m') := by simp [Bi.nums]
theorem IsC.rot1 {n : Int} {g : List Nat} {l : List Int} (h : IsC n g l) {j : Nat} (hj : j ≤ l.length) : IsC n g (l.drop j ++ l.take j) := by
  obtain ⟨k, rfl, hg, m, rfl, hm⟩ := h
  rw [nums_drop, nums_take, nums_app]
  exact ⟨k, rfl, hg, _, rfl, hm.rot (by rwa [Bi.nums_len] at hj)⟩
theorem IsC.rot {n : Int} {g : List Nat} {l : List Int} {j : Nat} (hj : j ≤ l.length) : IsC n g (l.drop j ++ l.take j) ↔ IsC n g l := by
  refine ⟨fun h => ?_, fun h => h.rot1 hj⟩
  have h1 := h.rot1 (j := l.length - j) (by rw [List.length_append, List.length_drop, List.length_take]; omega)
  have e1 : (l.drop j ++ l.take j).drop (l.length - j) = l.take j := by
    rw [List.drop_append_of_le_length (by simp), List.drop_eq_nil_of_le (by simp), List.nil_append]
  have e2 : (l.drop j ++ l.take j).take (l.length - j) = l.drop j := by
    rw [List.take_append_of_le_length (by simp), List.take_of_length_le (by simp)]
  rw [e1, e2, List.take_append_drop] at h1
  exact h1
theorem IsC.len {n : Int} {g : List Nat} {l : List Int} (h : IsC n g l) : (l.length : Int) ≤ n := by
  obtain ⟨k, rfl, hg, m, rfl, hm⟩ := h
  rw [Bi.nums_len]
  exact Int.ofNat_le.2 (cyc_len hm)
/-- A node of a cycle, as a number of a row. -/
theorem IsC.row {n : Int} {g : List Nat} {l : List Int} (h : IsC n g l) {j : Nat} (hj : j < l.length) : ∃ x : Nat, l[j] = (x : Int) ∧ x < g.length := by
  obtain ⟨k, rfl, hg, m, rfl, hm⟩ := h
  refine ⟨m[j]'(by rwa [Bi.nums_len] at hj), by simp [Bi.nums], ?_⟩
  rw [hg.2.1]
  exact hm.node _ (List.getElem_mem _)
theorem IsC.less {n : Int} {g : List Nat} {l : List Int} {j x : Nat} (hj : j < l.length) (hx : l[j] = (x : Int)) (hl : x < g.length) : ¬ IsC n (g.set x 0) l := by
  rintro ⟨k, rfl, hg, m, rfl, hm⟩
  have hj' : j < m.length := by rwa [Bi.nums_len] at hj
  have e : m[j] = x := by
    have : (Bi.nums m)[j] = ((m[j] : Nat) : Int) := by simp [Bi.nums]
    rw [this] at hx
    exact Int.ofNat.inj hx
  have h1 := hm.edge j hj'
  rw [e, bit_at (by rw [List.length_set]; exact hl), List.getElem_set_self, Nat.zero_testBit] at h1
  cases h1
theorem IsC.twice {n : Int} {g : List Nat} {l : List Int} (h0 : 0 < l.length) : ¬ IsC n g (l ++ l) := fun h => by
  obtain ⟨k, rfl, hg, m, e, hm⟩ := h
  have hl := congrArg List.length e
  rw [Bi.nums_len, List.length_append] at hl
  have h1 : (Bi.nums m).Nodup := by
    rw [Bi.nums, List.Nodup, List.pairwise_map]
    exact hm.once.imp fun q e => q (Int.ofNat.inj e)
  rw [← e, List.nodup_append] at h1
  exact h1.2.2 l[0] (List.getElem_mem h0) l[0] (List.getElem_mem h0) rfl
end Cy
end Go.Proofs.Ytgapcjgmmlffmaa
