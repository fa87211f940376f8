/-
  What the reference's Is of layer 15 answers.
  Conditions: rows of at most 4294967296.
  (This program has not all of these functions: rIs15_at is left out here.)
-/
import Derived.Test.YtpmimmaaeaifhaaDoorCyRefB
set_option maxRecDepth 4000
namespace Go.Proofs.YtpmimmaaeaifhaaDoor
open Go.RowKit

/-- A yes or no that is yes just if P. -/
def RetIff (w : World) (P : Prop) (e : Ending) (w' : World) : Prop := ∃ b, e = .returned (.bool b) ∧ (b = true ↔ P) ∧ Below w.heap.size w w'
theorem ret_iff_no {w w' : World} {P : Prop} (h : ¬ P) (hb : Below w.heap.size w w') : RetIff w P (.returned (.bool false)) w' := ⟨false, rfl, ⟨fun q => (by cases q), fun q => absurd q h⟩, hb⟩
theorem ret_iff_yes {w w' : World} {P : Prop} (h : P) (hb : Below w.heap.size w w') : RetIff w P (.returned (.bool true)) w' := ⟨true, rfl, ⟨fun _ => h, fun _ => rfl⟩, hb⟩
/-- Numbers that are all nodes. -/
theorem nums_back {n : Nat} : ∀ {l : List Int}, (∀ j (hj : j < l.length), Gf.isN (n : Int) l[j] = true) → ∃ m : List Nat, l = Bi.nums m ∧ ∀ x ∈ m, x < n
  | [], _ => ⟨[], rfl, fun x h => by cases h⟩
  | a :: l, h => by
    obtain ⟨m, e, hm⟩ := nums_back (l := l) fun j hj => h (j + 1) (by simp only [List.length_cons]; omega)
    obtain ⟨k, hk, hkn⟩ := Gf.isN_nat (h 0 (by simp))
    refine ⟨k :: m, ?_, fun x hx => ?_⟩
    · rw [e, show a = (k : Int) from hk]; rfl
    · rcases List.mem_cons.1 hx with rfl | q
      · exact hkn
      · exact hm x q
namespace Cy
open Gf Rc To
def IsC (n : Int) (g : List Nat) (l : List Int) : Prop := ∃ k : Nat, n = (k : Int) ∧ Ok k g ∧ ∃ m : List Nat, l = Bi.nums m ∧ IsCyc k g m
theorem IsC.right {n : Int} {g : List Nat} {l : List Int} (h : IsC n g l) : okB n g = true := by
  obtain ⟨k, rfl, hg, _⟩ := h
  exact okB_iff.2 ⟨k, rfl, hg⟩
theorem IsC.some {n : Int} {g : List Nat} {l : List Int} (h : IsC n g l) : l.length ≠ 0 := by
  obtain ⟨k, rfl, hg, m, rfl, hm⟩ := h
  rw [Bi.nums_len]
  exact fun e => hm.pos (List.length_eq_zero_iff.1 e)
theorem IsC.isNode {n : Int} {g : List Nat} {l : List Int} (h : IsC n g l) (j : Nat) (hj : j < l.length) : isN n l[j] = true := by
  obtain ⟨k, rfl, hg, m, rfl, hm⟩ := h
  have hj' : j < m.length := by rw [Bi.nums_len] at hj; exact hj
  rw [Bi.nums_at m j hj']
  exact isN_yes (hm.node _ (List.getElem_mem hj'))
theorem IsC.one {n : Int} {g : List Nat} {l : List Int} (h : IsC n g l) (a b : Nat) (ha : a < l.length) (hb : b < l.length) (hab : a < b) : l[a] ≠ l[b] := by
  obtain ⟨k, rfl, hg, m, rfl, hm⟩ := h
  have ha' : a < m.length := by rw [Bi.nums_len] at ha; exact ha
  have hb' : b < m.length := by rw [Bi.nums_len] at hb; exact hb
  rw [Bi.nums_at m a ha', Bi.nums_at m b hb']
  intro e
  have e' : m[a] = m[b] := by omega
  exact List.pairwise_iff_getElem.1 hm.once a b ha' hb' hab e'
theorem nums_inj {m m' : List Nat} (h : Bi.nums m = Bi.nums m') : m = m' := by
  have hl : m.length = m'.length := by rw [← Bi.nums_len m, h, Bi.nums_len]
  refine List.ext_getElem hl fun i h1 h2 => ?_
  have e1 := Bi.nums_at m i h1
  have e2 := Bi.nums_at m' i h2
  simp only [h] at e1
  rw [e1] at e2
  omega
theorem IsC.edge {n : Int} {g m : List Nat} (h : IsC n g (Bi.nums m)) (i : Nat) (hi : i < m.length) : bit g m[i] (m[(i + 1) % m.length]'(Nat.mod_lt _ (Nat.zero_lt_of_lt hi))) = true := by
  obtain ⟨k, rfl, hg, m', e, hm⟩ := h
  obtain rfl := nums_inj e
  exact hm.edge i hi
theorem IsC.all {k : Nat} {g m : List Nat} (hg : Ok k g) (hn : ∀ x ∈ m, x < k) (h0 : m.length ≠ 0) (h1 : ∀ a b (ha : a < (Bi.nums m).length) (hb : b < (Bi.nums m).length), a < b → (Bi.nums m)[a] ≠ (Bi.nums m)[b])
    (h2 : ∀ i (hi : i < m.length), bit g m[i] (m[(i + 1) % m.length]'(Nat.mod_lt _ (Nat.zero_lt_of_lt hi))) = true) : IsC (k : Int) g (Bi.nums m) := by
  refine ⟨k, rfl, hg, m, rfl, ⟨fun e => h0 (by rw [e]; rfl), hn, ?_, h2⟩⟩
  refine List.pairwise_iff_getElem.2 fun a b ha hb hab e => ?_
  have := h1 a b (by rw [Bi.nums_len]; exact ha) (by rw [Bi.nums_len]; exact hb) hab
  rw [Bi.nums_at m a ha, Bi.nums_at m b hb] at this
  exact this (by rw [e])
end Cy

end Go.Proofs.YtpmimmaaeaifhaaDoor
