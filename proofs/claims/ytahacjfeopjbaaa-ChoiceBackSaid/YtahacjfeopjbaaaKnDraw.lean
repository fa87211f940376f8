/-
  Graphs that are drawn edge by edge, each that is not there yet added (no Go in it); the edges that Init of layer 17 tells, in the order of keys.
  Conditions: none beyond those that each theorem states.
-/
import Derived.Test.YtahacjfeopjbaaaKnAns
import Derived.Test.YtahacjfeopjbaaaKnRefC
set_option maxRecDepth 4000
namespace Go.Proofs.Ytahacjfeopjbaaa.Kn
open So (Txn)
open Hi (Right)
open Gf (bit Ok build)

/-- An edge is added, if it is not there yet. -/
def addE (r : List Nat) (e : Nat × Nat) : List Nat := if bit r e.1 e.2 = true then r else Gf.addR r e.1 e.2
def addAll (r : List Nat) (l : List (Nat × Nat)) : List Nat := l.foldl addE r
/-- All edges of a row are between nodes. -/
def In (n : Nat) (l : List (Nat × Nat)) : Prop := ∀ e ∈ l, e.1 < n ∧ e.2 < n
section
variable {n : Nat} {r : List Nat} {l m : List (Nat × Nat)} {e : Nat × Nat}
theorem addE_ok (h : Ok n r) (h1 : e.1 < n) (h2 : e.2 < n) : Ok n (addE r e) := by
  unfold addE
  split
  · exact h
  · exact Gf.add_ok h h1 h2
theorem addE_bit (h : Ok n r) (h1 : e.1 < n) (h2 : e.2 < n) (u v : Nat) : bit (addE r e) u v = (bit r u v || (decide (u = e.1) && decide (v = e.2))) := by
  unfold addE
  split
  · rename_i q
    by_cases hu : u = e.1
    · by_cases hv : v = e.2
      · subst hu
        subst hv
        simp [q]
      · simp [hv]
    · simp [hu]
  · exact Gf.add_bit h h1 h2 u v
theorem addE_build (hn : n ≤ 64) (f : Nat → Nat → Bool) {x y : Nat} (hx : x < n) (hy : y < n) : addE (build n f) (x, y) = build n fun a b => f a b || (decide (a = x) && decide (b = y)) := by
  refine Gf.same (addE_ok (Gf.build_ok hn f) hx hy) (Gf.build_ok hn _) fun u v hu hv => ?_
  rw [addE_bit (Gf.build_ok hn f) hx hy, Gf.build_bit hn, Gf.build_bit hn, decide_eq_true hu, decide_eq_true hv]
  simp
theorem addAll_snoc : addAll r (l ++ [e]) = addE (addAll r l) e := by simp [addAll]
theorem addAll_app : addAll r (l ++ m) = addAll (addAll r l) m := by simp [addAll]
theorem addAll_ok (h : Ok n r) (hl : In n l) : Ok n (addAll r l) := by
  induction l generalizing r with
  | nil => exact h
  | cons e l ih =>
    have he := hl e (List.mem_cons_self ..)
    exact ih (addE_ok h he.1 he.2) fun x hx => hl x (List.mem_cons_of_mem _ hx)
theorem addAll_bit (h : Ok n r) (hl : In n l) (u v : Nat) : bit (addAll r l) u v = (bit r u v || decide ((u, v) ∈ l)) := by
  induction l generalizing r with
  | nil => simp [addAll]
  | cons e l ih =>
    have he := hl e (List.mem_cons_self ..)
    rw [show addAll r (e :: l) = addAll (addE r e) l from rfl, ih (addE_ok h he.1 he.2) fun x hx => hl x (List.mem_cons_of_mem _ hx), addE_bit h he.1 he.2]
    obtain ⟨a, b⟩ := e
    rw [Bool.eq_iff_iff]
    simp only [Bool.or_eq_true, Bool.and_eq_true, decide_eq_true_eq, List.mem_cons, Prod.mk.injEq]
    rw [or_assoc]
theorem drawn_is (hn : n ≤ 64) (hl : In n l) {f : Nat → Nat → Bool} (hf : ∀ u v, u < n → v < n → ((u, v) ∈ l ↔ f u v = true)) : addAll (Gf.zeros n) l = build n f := by
  refine Gf.same (addAll_ok (Gf.zeros_ok hn) hl) (Gf.build_ok hn f) fun u v hu hv => ?_
  rw [addAll_bit (Gf.zeros_ok hn) hl, Gf.zeros_bit, Gf.build_bit hn, decide_eq_true hu, decide_eq_true hv, Bool.eq_iff_iff]
  simp [hf u v hu hv]
end
/-- From each of a row to each of another, but for one to itself. -/
def rowOf (ws : List Nat) (x : Nat) : List (Nat × Nat) := (ws.filter fun y => decide (y ≠ x)).map fun y => (x, y)
def eachOf (rs ws : List Nat) : List (Nat × Nat) := rs.flatMap (rowOf ws)
theorem mem_rowOf {ws : List Nat} {x u v : Nat} : (u, v) ∈ rowOf ws x ↔ u = x ∧ v ∈ ws ∧ u ≠ v := by
  unfold rowOf
  rw [List.mem_map]
  constructor
  · rintro ⟨y, hy, e⟩
    obtain ⟨h1, h2⟩ := List.mem_filter.1 hy
    cases e
    exact ⟨rfl, h1, fun q => of_decide_eq_true h2 q.symm⟩
  · rintro ⟨rfl, h1, h2⟩
    exact ⟨v, List.mem_filter.2 ⟨h1, decide_eq_true fun q => h2 q.symm⟩, rfl⟩
theorem mem_eachOf {rs ws : List Nat} {u v : Nat} : (u, v) ∈ eachOf rs ws ↔ u ∈ rs ∧ v ∈ ws ∧ u ≠ v := by
  unfold eachOf
  rw [List.mem_flatMap]
  constructor
  · rintro ⟨x, hx, hm⟩
    obtain ⟨rfl, h⟩ := mem_rowOf.1 hm
    exact ⟨hx, h⟩
  · rintro ⟨h1, h2⟩
    exact ⟨u, h1, mem_rowOf.2 ⟨rfl, h2⟩⟩
/-- As far as the loops have gone. -/
def eachTo (rs ws : List Nat) (i j : Nat) : List (Nat × Nat) := eachOf (rs.take i) ws ++ (match rs[i]? with | some x => rowOf (ws.take j) x | none => [])
theorem eachTo_zero (rs ws : List Nat) : eachTo rs ws 0 0 = [] := by
  unfold eachTo eachOf rowOf
  cases rs[0]? <;> simp
theorem eachTo_all (rs ws : List Nat) : eachTo rs ws rs.length 0 = eachOf rs ws := by
  unfold eachTo
  rw [List.getElem?_eq_none (Nat.le_refl _), List.take_length, List.append_nil]
theorem eachTo_next {rs ws : List Nat} {i : Nat} (hi : i < rs.length) : eachTo rs ws i ws.length = eachTo rs ws (i + 1) 0 := by
  unfold eachTo eachOf
  rw [List.getElem?_eq_getElem hi, List.take_succ_eq_append_getElem hi, List.flatMap_append, List.take_length]
  have e : ∀ o : Option Nat, (match o with | some x => rowOf (ws.take 0) x | none => []) = [] := fun o => by cases o <;> simp [rowOf]
  rw [e, List.append_nil]
  simp
theorem eachTo_yes {rs ws : List Nat} {i j : Nat} (hi : i < rs.length) (hj : j < ws.length) (hne : ws[j] ≠ rs[i]) : eachTo rs ws i (j + 1) = eachTo rs ws i j ++ [(rs[i], ws[j])] := by
  unfold eachTo
  rw [List.getElem?_eq_getElem hi, List.append_assoc]
  congr 1
  dsimp only
  unfold rowOf
  rw [List.take_succ_eq_append_getElem hj, List.filter_append, List.map_append]
  simp [hne]
theorem eachTo_no {rs ws : List Nat} {i j : Nat} (hi : i < rs.length) (hj : j < ws.length) (he : ws[j] = rs[i]) : eachTo rs ws i (j + 1) = eachTo rs ws i j := by
  unfold eachTo
  rw [List.getElem?_eq_getElem hi]
  congr 1
  dsimp only
  unfold rowOf
  rw [List.take_succ_eq_append_getElem hj, List.filter_append, List.map_append]
  simp [he]
theorem eachTo_in {n : Nat} {rs ws : List Nat} (hr : ∀ x ∈ rs, x < n) (hw : ∀ x ∈ ws, x < n) (i j : Nat) : In n (eachTo rs ws i j) := by
  rintro ⟨u, v⟩ hm
  unfold eachTo at hm
  rcases List.mem_append.1 hm with q | q
  · obtain ⟨h1, h2, _⟩ := mem_eachOf.1 q
    exact ⟨hr _ (List.mem_of_mem_take h1), hw _ h2⟩
  · cases hi : rs[i]? with
    | none => rw [hi] at q; cases q
    | some x =>
      rw [hi] at q
      obtain ⟨rfl, h1, _⟩ := mem_rowOf.1 q
      exact ⟨hr _ (List.mem_of_getElem? hi), hw _ (List.mem_of_mem_take h1)⟩
/-- Init's edges, key by key. -/
def keyOf (h : List Txn) (k : Nat) : List (Nat × Nat) := eachOf (Ix.readers h (k : Int) (-1)) (Ix.writers h (k : Int))
def keysTo (h : List Txn) (i : Nat) : List (Nat × Nat) := ((Ix.keys h).take i).flatMap (keyOf h)
theorem keysTo_zero (h : List Txn) : keysTo h 0 = [] := rfl
theorem keysTo_next (h : List Txn) {i : Nat} (hi : i < (Ix.keys h).length) : keysTo h (i + 1) = keysTo h i ++ keyOf h (Ix.keys h)[i] := by
  unfold keysTo
  rw [List.take_succ_eq_append_getElem hi, List.flatMap_append]
  simp
theorem readers_lt {h : List Txn} {k f : Int} : ∀ x ∈ Ix.readers h k f, x < h.length := fun _ hx => List.mem_range.1 (List.mem_filter.1 hx).1
theorem writers_lt {h : List Txn} {k : Int} : ∀ x ∈ Ix.writers h k, x < h.length := fun _ hx => List.mem_range.1 (List.mem_filter.1 hx).1
theorem readers_le (h : List Txn) (k f : Int) : (Ix.readers h k f).length ≤ h.length := Nat.le_trans (List.length_filter_le ..) (Nat.le_of_eq List.length_range)
theorem writers_le (h : List Txn) (k : Int) : (Ix.writers h k).length ≤ h.length := Nat.le_trans (List.length_filter_le ..) (Nat.le_of_eq List.length_range)
theorem keys_le (h : List Txn) : (Ix.keys h).length ≤ 16 := Nat.le_trans (List.length_filter_le ..) (Nat.le_of_eq List.length_range)
theorem keysTo_in (h : List Txn) (i : Nat) : In h.length (keysTo h i) := by
  rintro ⟨u, v⟩ hm
  unfold keysTo at hm
  obtain ⟨k, _, hk⟩ := List.mem_flatMap.1 hm
  obtain ⟨h1, h2, _⟩ := mem_eachOf.1 hk
  exact ⟨readers_lt _ h1, writers_lt _ h2⟩
theorem keysTo_all {h : List Txn} (hr : Right h) : addAll (Gf.zeros h.length) (keysTo h (Ix.keys h).length) = initR h := by
  refine drawn_is (len64 hr) (keysTo_in h _) fun u v hu hv => ?_
  rw [initB_iff]
  unfold keysTo
  rw [List.take_length, List.mem_flatMap]
  constructor
  · rintro ⟨k, _, hm⟩
    obtain ⟨h1, h2, h3⟩ := mem_eachOf.1 hm
    refine ⟨h3, (k : Int), (Ix.mem_readers hr).1 h1, ?_⟩
    obtain ⟨ht, hw⟩ := Ix.mem_writers.1 h2
    exact (Ix.writes_iff h (k : Int) v).2 ⟨ht, hw⟩
  · rintro ⟨h3, k, h1, h2⟩
    have hw := (Ix.writes_iff h k v).1 h2
    obtain ⟨ht, hm⟩ := hw
    have hk := (hr.2 v ht).writes.1 k hm
    obtain ⟨j, rfl⟩ := Int.eq_ofNat_of_zero_le hk.1
    have hv' : v ∈ Ix.writers h (j : Int) := Ix.mem_writers.2 ⟨ht, hm⟩
    exact ⟨j, Ix.mem_keys.2 ⟨by omega, fun q => by rw [q] at hv'; cases hv'⟩, mem_eachOf.2 ⟨(Ix.mem_readers hr).2 h1, hv', h3⟩⟩
end Go.Proofs.Ytahacjfeopjbaaa.Kn
