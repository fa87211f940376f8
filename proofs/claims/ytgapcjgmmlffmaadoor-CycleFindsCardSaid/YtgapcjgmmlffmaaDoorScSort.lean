/-
  What slices.Sort leaves of a row of different numbers that the call has made: the same numbers, increasing.
  Conditions: at most 4294967296 numbers, no two of them the same.
-/
import Derived.Test.YtgapcjgmmlffmaaDoorScMem
import Derived.Test.YtgapcjgmmlffmaaDoorScLays
import Derived.Sort.OwnSortedInts
set_option maxRecDepth 4000
namespace Go.Proofs.YtgapcjgmmlffmaaDoor
open Go.RowKit Go.Sort

theorem nC_map (l : List Int) : l.flatMap nC = l.map (Value.int .i64) := by
  induction l with
  | nil => rfl
  | cons x l ih => rw [List.flatMap_cons, List.map_cons, ih]; rfl
theorem nums_of (l m : List Nat) (hm : m.Pairwise (· < ·)) (hn : l.Nodup) (he : ∀ x, x ∈ l ↔ x ∈ m) : ((Bi.nums l).mergeSort fun x y => decide (x ≤ y)) = Bi.nums m := by
  refine Sc.sorted_is ?_ ?_ ?_
  · rw [Bi.nums, List.Nodup, List.pairwise_map]
    exact hn.imp fun q e => q (by exact Int.ofNat.inj e)
  · rw [Bi.nums, List.pairwise_map]
    exact hm.imp fun q => by omega
  · intro v
    rw [Bi.nums, Bi.nums, List.mem_map, List.mem_map]
    exact ⟨fun ⟨x, hx, e⟩ => ⟨x, (he x).1 hx, e⟩, fun ⟨x, hx, e⟩ => ⟨x, (he x).2 hx, e⟩⟩
theorem scSort_at (base : Nat) (v : Value) (l m : List Nat) (w : World) (ho : w.ownsRow base 3 1 v l.length ((Bi.nums l).flatMap nC)) (hl : l.length ≤ 4294967296) (hm : m.Pairwise (· < ·)) (hn : l.Nodup) (he : ∀ x, x ∈ l ↔ x ∈ m) :
    Calls Tryd.prog 18 #[v] w fun e w' => e = .returned (.tuple #[]) ∧ w'.ownsRow base 3 1 v m.length ((Bi.nums m).flatMap nC) ∧ w.grownBy w' v.ownBlock := by
  have hs := nums_of l m hm hn he
  have hlm : m.length = l.length := by
    have e1 := congrArg List.length hs
    rw [List.length_mergeSort, Bi.nums_len, Bi.nums_len] at e1
    exact e1.symm
  rcases ho.2 with ⟨rfl, h0⟩ | ⟨g, cap, cur, rfl, hb, hg, hnc, hcm, hcs, htake⟩
  · have hcon := Any.slices_Sort_int_none Tryd.sortI none 0 w
    change Calls Tryd.prog 18 _ _ _ at hcon
    refine hcon.mono ?_
    rintro e w' ⟨rfl, rfl⟩
    have hm0 : m = [] := List.eq_nil_of_length_eq_zero (by omega)
    subst hm0
    exact ⟨rfl, World.ownsRow_nil _ _ _ _, rfl, rfl, rfl, Nat.le_refl _, fun _ _ _ => rfl⟩
  · rw [nC_map, Nat.mul_one] at htake
    rw [← Bi.nums_len l] at htake
    have hH := holds_of_blockI hg htake
    have hcon := Any.slices_Sort_int Tryd.sortI g 0 cap (Bi.nums l) w hH (Array.getElem?_eq_some_iff.1 hg).1 (by rw [Bi.nums_len]; omega)
    change Calls Tryd.prog 18 _ _ _ at hcon
    rw [Bi.nums_len, hs] at hcon
    refine hcon.mono ?_
    rintro e w' ⟨rfl, n, os, rfl⟩
    have h1 := ownsRow_sortedI (n := n) (os := os) (ss := Bi.nums l) (ts := Bi.nums m) (cap := cap) (by rw [Bi.nums_len, Bi.nums_len, hlm]) hb hg (by rw [Bi.nums_len]; exact hnc) hcm hcs
    rw [Bi.nums_len, ← nC_map] at h1
    refine ⟨rfl, ?_, grownBy_sortedI _⟩
    rw [hlm]
    exact h1
end Go.Proofs.YtgapcjgmmlffmaaDoor
