/-
  What Find of layer 15 answers, of any graph; and small facts on it.
  Conditions: none beyond those that each theorem states.
-/
import Derived.Test.YtgapcjgmmlffmaaCyRefC
import Derived.Test.YtgapcjgmmlffmaaScPlain
set_option maxRecDepth 4000
namespace Go.Proofs.Ytgapcjgmmlffmaa
namespace Cy
open Gf Rc To

def findA (n : Int) (g : List Nat) : List Nat := if okB n g = true then findR n.toNat g else []
theorem findA_no {n : Int} {g : List Nat} (h : okB n g = false) : findA n g = [] := by rw [findA, h]; rfl
theorem findA_yes {k : Nat} {g : List Nat} (h : Ok k g) : findA (k : Int) g = findR k g := by rw [findA, (okB_nat k g).2 h, Int.toNat_natCast]; rfl
theorem find_isC {k : Nat} {g : List Nat} (h : Ok k g) (hc : cyclicR k g = true) : IsC (k : Int) g (Bi.nums (findR k g)) := ⟨k, rfl, h, _, rfl, find_cyc h hc⟩
theorem cyc_len {k : Nat} {g l : List Nat} (h : IsCyc k g l) : l.length ≤ k := by
  have := sub_len (m := List.range k) h.once fun x hx => List.mem_range.2 (h.node x hx)
  rw [List.length_range] at this
  exact this
theorem find_len {k : Nat} {g : List Nat} (h : Ok k g) : (findR k g).length ≤ k := by
  cases hc : cyclicR k g with
  | false => rw [find_none h hc]; exact Nat.zero_le _
  | true => exact cyc_len (find_cyc h hc)
/-- What is found begins with the least node on a cycle. -/
theorem find_head {k : Nat} {g : List Nat} (h : Ok k g) (hc : cyclicR k g = true) : ∃ v r s, findR k g = v :: r ∧ Sc.innerR k g = v :: s := by
  obtain ⟨v, j, hv, hj, hu, e⟩ := find_some h hc
  have hl : Leads g v v := (far_iff h).1 (by omega)
  have hm := (Sc.inner_mem h).2 hl
  have hr : (Sc.innerR k g).Pairwise (· < ·) := List.pairwise_lt_range.filter _
  cases ei : Sc.innerR k g with
  | nil => rw [ei] at hm; cases hm
  | cons x s =>
    have hx := (Sc.inner_mem h).1 (show x ∈ Sc.innerR k g by rw [ei]; exact List.mem_cons_self)
    rw [ei] at hm hr
    have hxv : x = v := by
      rcases List.mem_cons.1 hm with q | q
      · exact q.symm
      · have := (List.pairwise_cons.1 hr).1 v q
        exact absurd hx (hu x this)
    subst hxv
    exact ⟨x, _, s, e, rfl⟩
end Cy
end Go.Proofs.Ytgapcjgmmlffmaa
