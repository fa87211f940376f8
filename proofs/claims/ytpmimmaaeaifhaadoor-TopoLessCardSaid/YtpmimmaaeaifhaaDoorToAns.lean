/-
  What the two functions of layer 16 answer, of any graph and any numbers: the order, and whether numbers are one.
  Conditions: none beyond those that each theorem states.
-/
import Derived.Test.YtpmimmaaeaifhaaDoorToRefB
set_option maxRecDepth 4000
namespace Go.Proofs.YtpmimmaaeaifhaaDoor
namespace To
open Gf Rc

def orderA (n : Int) (g : List Nat) : Option (List Nat) := if okB n g = true then orderR n.toNat g else none
theorem orderA_no {n : Int} {g : List Nat} (h : okB n g = false) : orderA n g = none := by rw [orderA, h]; rfl
theorem orderA_yes {k : Nat} {g : List Nat} (h : Ok k g) : orderA (k : Int) g = orderR k g := by rw [orderA, (okB_nat k g).2 h, Int.toNat_natCast]; rfl
/-- Numbers that are an order of a graph. -/
def IsA (n : Int) (g : List Nat) (l : List Int) : Prop := ∃ k : Nat, n = (k : Int) ∧ Ok k g ∧ ∃ m : List Nat, l = Bi.nums m ∧ IsOrd k g m
theorem isO_iff {n : Int} {g : List Nat} {l : List Int} : IsO n g l ↔ IsA n g l := by
  constructor
  · rintro ⟨k, rfl, hg, hl, h⟩
    obtain ⟨m, rfl, hm⟩ := nums_back (n := k) (l := l) fun j hj => by
      obtain ⟨x, e, hx, _⟩ := h j hj
      rw [e]
      exact isN_yes hx
    have hlen : ∀ {i}, i < m.length → i < (Bi.nums m).length := fun q => by rw [Bi.nums_len]; exact q
    refine ⟨k, rfl, hg, m, rfl, ⟨by rw [← hl, Bi.nums_len], hm, ?_, fun i j hi hj hji => ?_⟩⟩
    · refine List.pairwise_iff_getElem.2 fun a b ha hb hab e => ?_
      obtain ⟨x, e1, _, h2, _⟩ := h b (hlen hb)
      refine h2 ?_
      rw [← e1]
      have ha2 : a < ((Bi.nums m).take b).length := by rw [List.length_take, Bi.nums_len]; omega
      have : ((Bi.nums m).take b)[a] = (Bi.nums m)[b]'(hlen hb) := by rw [List.getElem_take, Bi.nums_at m a ha, Bi.nums_at m b hb, e]
      rw [← this]
      exact List.getElem_mem ha2
    · obtain ⟨x, e1, _, _, h3, h4⟩ := h i (hlen hi)
      rw [Bi.nums_at m i hi] at e1
      obtain rfl : m[i] = x := by omega
      rcases Nat.lt_or_ge j i with q | q
      · exact h4 j (hlen hj) q _ (Bi.nums_at m j hj)
      · obtain rfl : j = i := by omega
        exact h3
  · rintro ⟨k, rfl, hg, m, rfl, h⟩
    refine ⟨k, rfl, hg, by rw [Bi.nums_len]; exact h.len, fun i hi => ?_⟩
    have hi' : i < m.length := by rw [Bi.nums_len] at hi; exact hi
    refine ⟨m[i], Bi.nums_at m i hi', h.node _ (List.getElem_mem hi'), fun q => ?_, h.edge i i hi' hi' (Nat.le_refl _), fun j hj hji y hy => ?_⟩
    · obtain ⟨j, hj, e⟩ := List.getElem_of_mem q
      rw [List.length_take, Bi.nums_len] at hj
      have hj' : j < m.length := by omega
      rw [List.getElem_take, Bi.nums_at m j hj'] at e
      exact List.pairwise_iff_getElem.1 h.once j i hj' hi' (by omega) (by omega)
    · have hj' : j < m.length := by rw [Bi.nums_len] at hj; exact hj
      rw [Bi.nums_at m j hj'] at hy
      obtain rfl : m[j] = y := by omega
      exact h.edge i j hi' hj' (Nat.le_of_lt hji)
theorem IsA.of {k : Nat} {g m : List Nat} (hg : Ok k g) (h : IsOrd k g m) : IsA (k : Int) g (Bi.nums m) := ⟨k, rfl, hg, m, rfl, h⟩
/-- Where there is an order, none or one. -/
theorem order_has {k : Nat} {g : List Nat} (hg : Ok k g) (h : cyclicR k g = false) : ∃ l, orderR k g = some l ∧ IsOrd k g l := by
  obtain ⟨l, hl⟩ := (order_iff hg).2 h
  exact ⟨l, hl, order_some hl⟩
theorem order_not {n : Int} {g : List Nat} (h : (okB n g && !cyclicR n.toNat g) = false) : orderA n g = none := by
  cases ho : okB n g with
  | false => exact orderA_no ho
  | true =>
    obtain ⟨k, rfl, hg⟩ := okB_iff.1 ho
    rw [ho, Bool.true_and, Int.toNat_natCast] at h
    rw [orderA_yes hg]
    cases e : orderR k g with
    | none => rfl
    | some l =>
      rw [(order_iff hg).1 ⟨l, e⟩] at h
      cases h
theorem orderA_len {n : Int} {g : List Nat} : ((orderA n g).getD []).length ≤ 64 := by
  cases ho : okB n g with
  | false => rw [orderA_no ho]; exact Nat.zero_le _
  | true =>
    obtain ⟨k, rfl, hg⟩ := okB_iff.1 ho
    rw [orderA_yes hg]
    cases e : orderR k g with
    | none => exact Nat.zero_le _
    | some l =>
      show l.length ≤ 64
      rw [(order_some e).len]
      exact hg.1
end To
end Go.Proofs.YtpmimmaaeaifhaaDoor
