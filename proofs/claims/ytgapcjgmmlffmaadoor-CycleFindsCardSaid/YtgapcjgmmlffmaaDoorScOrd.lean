/-
  What slices.SortFunc leaves of a row of rows that the call has made: the same rows, by their first numbers.
  Conditions: at most 64 rows, none of them empty, no number above 4294967296.
-/
import Derived.Test.YtgapcjgmmlffmaaDoorScSort
set_option maxRecDepth 4000
namespace Go.Proofs.YtgapcjgmmlffmaaDoor
open Go.RowKit Go.Sort

set_option maxHeartbeats 2000000 in
theorem scCmp_at (a b n m c d x y : Nat) (hn : 0 < n) (hm : 0 < m) (hx : x ≤ 4294967296) (hy : y ≤ 4294967296) (w : World) (ha : w.cell? ⟨a, 0, none⟩ = some (.int .i64 (x : Nat))) (hb : w.cell? ⟨b, 0, none⟩ = some (.int .i64 (y : Nat))) :
    Calls Tryd.prog 31 #[.slice (some ⟨a, 0, none⟩) n c, .slice (some ⟨b, 0, none⟩) m d] w fun e w' => e = .returned (.int .i64 ((x : Int) - (y : Int))) ∧ ∃ q, w' = w.drewN q := by
  have hw : IntKind.i64.wrap ((x : Int) - (y : Int)) = (x : Int) - (y : Int) := by rw [IntWalk.i64_in _ (by omega)]
  have HX := Lib.hid hx
  have HY := Lib.hid hy
  clear hx hy
  go_enter Tryd.func31, Tryd.ntmps31
  go_wp2_with fail
  go_quiet (fail)
  go_wp2_with fail
  go_ret
  exact ⟨rfl, _, rfl⟩

/-! The rows by their numbers. -/
def rowOf (p : List (List Nat × Value)) (i : Nat) : List Nat × Value := p.getD i (p.headD ([], .slice none 0 0))
theorem rowOf_lt {p : List (List Nat × Value)} {i : Nat} (h : i < p.length) : rowOf p i = p[i] := by
  unfold rowOf
  rw [List.getD_eq_getElem?_getD, List.getElem?_eq_getElem h]
  rfl
theorem rowOf_mem {p : List (List Nat × Value)} (h : 0 < p.length) (i : Nat) : rowOf p i ∈ p := by
  by_cases hi : i < p.length
  · rw [rowOf_lt hi]
    exact List.getElem_mem hi
  · unfold rowOf
    rw [List.getD_eq_getElem?_getD, List.getElem?_eq_none (by omega)]
    cases p with
    | nil => exact absurd h (Nat.lt_irrefl 0)
    | cons x r => exact List.mem_cons_self
theorem rowOf_all (p : List (List Nat × Value)) : (List.range p.length).map (rowOf p) = p := by
  apply List.ext_getElem
  · simp
  · intro i h1 h2
    rw [List.getElem_map, List.getElem_range, rowOf_lt h2]
def headOf (p : List (List Nat × Value)) (i : Nat) : Nat := (rowOf p i).1.headD 0
def cmpOf (p : List (List Nat × Value)) (i j : Nat) : Int := (headOf p i : Int) - (headOf p j : Int)
theorem cmpOf_swo (p : List (List Nat × Value)) : SWO (ltOf (cmpOf p)) := by
  refine ⟨?_, ?_, ?_⟩
  · intro x
    simp [ltOf, cmpOf]
  · intro x y z h1 h2
    have a : cmpOf p x y < 0 := of_decide_eq_true h1
    have b : cmpOf p y z < 0 := of_decide_eq_true h2
    refine decide_eq_true ?_
    unfold cmpOf at a b ⊢
    omega
  · intro x y z h1 h2
    have a : ¬ cmpOf p x y < 0 := of_decide_eq_false h1
    have b : ¬ cmpOf p y z < 0 := of_decide_eq_false h2
    refine decide_eq_false ?_
    unfold cmpOf at a b ⊢
    omega

/-- Block by block: only the row's own block has turned. -/
theorem sorted_block {α : Type} [Inhabited α] (enc : α → Value) (w : World) (g n : Nat) (d : Array α) (os : Array Obj) (k : Nat) (hk : k < w.heap.size) :
    (sortWorld enc w g 0 n d os).heap[k]? = if k = g then (w.heap[k]?).map (onCells (putCells enc 0 d)) else w.heap[k]? := by
  have h1 : (sortWorld enc w g 0 n d os).heap[k]? = (w.heap.modify g (onCells (putCells enc 0 d)))[k]? := by
    show ((w.heap.modify g (onCells (putCells enc 0 d))) ++ os)[k]? = _
    rw [Array.getElem?_append_left (by rw [Array.size_modify]; exact hk)]
  rw [h1, Array.getElem?_modify]
  by_cases e : k = g
  · rw [if_pos e, if_pos e.symm]
  · rw [if_neg e, if_neg fun q => e q.symm]
theorem sorted_grown {α : Type} [Inhabited α] (enc : α → Value) (w : World) (g n : Nat) (d : Array α) (os : Array Obj) : w.grownBy (sortWorld enc w g 0 n d os) (some g) where
  os := rfl
  tape := rfl
  output := rfl
  size := by
    show w.heap.size ≤ ((w.heap.modify g (onCells (putCells enc 0 d))) ++ os).size
    rw [Array.size_append, Array.size_modify]
    exact Nat.le_add_right _ _
  block k hk hne := by
    rw [sorted_block enc w g n d os k hk, if_neg fun e => hne (congrArg some e)]
theorem sorted_first {α : Type} [Inhabited α] (enc : α → Value) (c : Array Value) (l : List α) (h : l.length ≤ c.size) : (putCells enc 0 l.toArray c).toList.take l.length = l.map enc := by
  refine List.ext_getElem (by simp [putCells, h]) fun i h1 h2 => ?_
  have hi : i < l.length := by rw [List.length_map] at h2; exact h2
  rw [List.getElem_take, List.getElem_map, Array.getElem_toList]
  unfold putCells
  rw [Array.getElem_mapIdx, if_pos ⟨Nat.zero_le _, by rw [List.size_toArray, Nat.zero_add]; exact hi⟩, Nat.sub_zero, getElem!_pos _ i (by rw [List.size_toArray]; exact hi)]
  rfl

theorem rrC_map (p : List (List Nat × Value)) : p.flatMap rrC = p.map (·.2) := by
  induction p with
  | nil => rfl
  | cons x p ih => rw [List.flatMap_cons, List.map_cons, ih]; rfl
/-- Where a row that isn't empty lies, and its first number. -/
theorem row_head {w : World} {base : Nat} {x : List Nat × Value} (h : w.ownsRow base 3 1 x.2 x.1.length ((Bi.nums x.1).flatMap nC)) (hx : 0 < x.1.length) : ∃ g c, x.2 = .slice (some ⟨g, 0, none⟩) x.1.length c ∧ g < w.heap.size ∧ w.cell? ⟨g, 0, none⟩ = some (.int .i64 (x.1.headD 0 : Nat)) := by
  obtain ⟨l, v⟩ := x
  rcases h.2 with ⟨_, h0⟩ | ⟨g, cap, cur, hv, hb, hg, _⟩
  · dsimp only at h0 hx
    omega
  · have hv' : v = .slice (some ⟨g, 0, none⟩) l.length cap := hv
    subst hv'
    refine ⟨g, cap, rfl, (Array.getElem?_eq_some_iff.1 hg).1, ?_⟩
    rw [h.cellAt 0 (by dsimp only at hx ⊢; omega)]
    cases l with
    | nil => exact absurd hx (Nat.lt_irrefl 0)
    | cons y r => rfl
theorem apart_symm {a b : Option Nat} (h : a = none ∨ a ≠ b) : b = none ∨ b ≠ a := by
  rcases h with h | h
  · cases b with
    | none => exact .inl rfl
    | some k => exact .inr (by rw [h]; simp)
  · exact .inr fun e => h e.symm

set_option maxHeartbeats 4000000 in
theorem scOrder_at (base : Nat) (v : Value) (p : List (List Nat × Value)) (w : World) (ho : OwnRR w base v p) (hl : p.length ≤ 64) (hne : ∀ x ∈ p, 0 < x.1.length ∧ x.1.headD 0 ≤ 4294967296) :
    Calls Tryd.prog 30 #[v, .func (.func 31) #[] #[]] w fun e w' => e = .returned (.tuple #[]) ∧ w.grownBy w' v.ownBlock ∧ ∃ p', p'.Perm p ∧ (p'.Pairwise fun a b => a.1.headD 0 ≤ b.1.headD 0) ∧ OwnRR w' base v p' := by
  rcases ho.row.2 with ⟨rfl, h0⟩ | ⟨g, cap, cur, rfl, hb, hg, hnc, hcm, hcs, htake⟩
  · have hcon := AnyF.slices_SortFunc_none { Tryd.sortF with } none 0 (.func (.func 31) #[] #[]) w
    change Calls Tryd.prog 30 _ _ _ at hcon
    refine hcon.mono ?_
    rintro e w' ⟨rfl, rfl⟩
    exact ⟨rfl, ⟨rfl, rfl, rfl, Nat.le_refl _, fun _ _ _ => rfl⟩, p, List.Perm.refl _, by rw [List.eq_nil_of_length_eq_zero h0]; exact List.Pairwise.nil, ho⟩
  · have hgl : g < w.heap.size := (Array.getElem?_eq_some_iff.1 hg).1
    rcases Nat.eq_zero_or_pos p.length with h0 | hpos
    · have hp0 : p = [] := List.eq_nil_of_length_eq_zero h0
      have hcon := AnyF.slices_SortFunc_none { Tryd.sortF with } (some ⟨g, 0, none⟩) cap (.func (.func 31) #[] #[]) w
      change Calls Tryd.prog 30 _ _ _ at hcon
      rw [h0] at ho ⊢
      refine hcon.mono ?_
      rintro e w' ⟨rfl, rfl⟩
      exact ⟨rfl, ⟨rfl, rfl, rfl, Nat.le_refl _, fun _ _ _ => rfl⟩, p, List.Perm.refl _, by rw [hp0]; exact List.Pairwise.nil, ho⟩
    have hkey : ∀ i, ∃ k c, (rowOf p i).2 = .slice (some ⟨k, 0, none⟩) (rowOf p i).1.length c ∧ k < w.heap.size ∧ k ≠ g ∧ w.cell? ⟨k, 0, none⟩ = some (.int .i64 (headOf p i : Nat)) := fun i => by
      have hm := rowOf_mem hpos i
      obtain ⟨k, c, e1, e2, e3⟩ := row_head (ho.ins _ hm) (hne _ hm).1
      refine ⟨k, c, e1, e2, fun e => ?_, e3⟩
      rcases ho.apart hm with q | q
      · rw [e1] at q; cases q
      · rw [e1] at q
        exact q (by rw [e]; rfl)
    have h1 : OneCell fun i => (rowOf p i).2 := fun i => by
      obtain ⟨k, c, e1, -⟩ := hkey i
      show ((rowOf p i).2).oneCell' = true
      rw [e1]
      rfl
    have hcmp : CmpLays1 Tryd.prog 31 #[] (fun i => (rowOf p i).2) (cmpOf p) g 0 ((List.range p.length).toArray).size w := fun m os dk _ i j => by
      obtain ⟨k, c, e1, e2, e3, e4⟩ := hkey i
      obtain ⟨k', c', e1', e2', e3', e4'⟩ := hkey j
      have hgr := sorted_grown (fun i => (rowOf p i).2) w g m dk os
      have hmi := rowOf_mem hpos i
      have hmj := rowOf_mem hpos j
      show Calls Tryd.prog 31 (#[(rowOf p i).2, (rowOf p j).2] ++ #[]) _ _
      rw [e1, e1']
      refine (scCmp_at k k' _ _ c c' (headOf p i) (headOf p j) (hne _ hmi).1 (hne _ hmj).1 (hne _ hmi).2 (hne _ hmj).2 _ ((hgr.cell_far _ e2 (fun e => e3 (Option.some.inj e))).trans e4) ((hgr.cell_far _ e2' (fun e => e3' (Option.some.inj e))).trans e4')).mono ?_
      rintro e w' ⟨rfl, q, rfl⟩
      exact ⟨rfl, q, #[], (grow_empty _).symm⟩
    have hH : Holds (fun i => (rowOf p i).2) w g 0 (List.range p.length).toArray := fun j hj => by
      have hj' : j < p.length := by simpa using hj
      refine ⟨?_, frozen_of_row w g _ _ _ hg⟩
      rw [Nat.zero_add, ho.row.cellAt j (by omega), rrC_at p j hj']
      simp [hj', rowOf_lt hj']
    have hcon := Any.slices_SortFunc Tryd.sortF (fun i => (rowOf p i).2) h1 (cmpOf p) (cmpOf_swo p) 31 #[] g 0 cap (List.range p.length).toArray w (enters_of Tryd.func31 (by kernel_rfl) rfl) hcmp hH hgl (by simp; omega)
    change Calls Tryd.prog 30 _ _ _ at hcon
    rw [List.size_toArray, List.length_range] at hcon
    refine hcon.mono ?_
    rintro e w' ⟨rfl, d', n, os, ⟨hs1, -, hs2⟩, hs3, rfl⟩
    have hsz : d'.size = p.length := by rw [hs1]; simp
    have hperm : d'.toList.Perm (List.range p.length) := by
      have e1 : d'.extract 0 p.length = d' := by rw [← hsz]; exact Array.extract_size
      have e2 : (List.range p.length).toArray.extract 0 p.length = (List.range p.length).toArray := by
        have := Array.extract_size (xs := (List.range p.length).toArray)
        rwa [List.size_toArray, List.length_range] at this
      rw [e1, e2] at hs2
      exact hs2
    have hp : (d'.toList.map (rowOf p)).Perm p := by
      have := hperm.map (rowOf p)
      rwa [rowOf_all] at this
    have hgr := sorted_grown (fun i => (rowOf p i).2) w g n d' os
    refine ⟨rfl, hgr, d'.toList.map (rowOf p), hp, ?_, ?_, fun x hx => ?_, ?_⟩
    · rw [List.pairwise_map, List.pairwise_iff_getElem]
      intro i j hi hj hij
      rw [Array.length_toList] at hi hj
      have := hs3 i j (Nat.zero_le _) hij (by omega)
      rw [getElem!_pos d' i hi, getElem!_pos d' j hj] at this
      have a : ¬ cmpOf p d'[j] d'[i] < 0 := of_decide_eq_false this
      unfold cmpOf at a
      simp only [Array.getElem_toList]
      show headOf p d'[i] ≤ headOf p d'[j]
      omega
    · have hln : (d'.toList.map (rowOf p)).length = p.length := by rw [List.length_map, Array.length_toList, hsz]
      have htk := sorted_first (fun i => (rowOf p i).2) cur d'.toList (by rw [Array.length_toList, hsz, hcs]; omega)
      rw [hln]
      refine ⟨?_, .inr ⟨g, cap, _, rfl, hb, (by rw [sorted_block _ w g n d' os g hgl, if_pos rfl, hg]; rfl), hnc, hcm, by simp [putCells, hcs], ?_⟩⟩
      · rw [rrC_flat, hln, Nat.mul_one]
      · rw [Array.length_toList, hsz] at htk
        rw [Nat.mul_one, rrC_map, List.map_map]
        exact htk
    · have hx' := hp.mem_iff.1 hx
      exact (ho.ins x hx').kept hgr (ho.apart hx')
    · exact ho.each.perm hp.symm fun h => apart_symm h
end Go.Proofs.YtgapcjgmmlffmaaDoor
