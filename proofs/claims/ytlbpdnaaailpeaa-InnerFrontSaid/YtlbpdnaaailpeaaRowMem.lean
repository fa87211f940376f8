/-
  Words for rows of elements of any kind in memory (n cells each, told by a function f): a slice that reads as a list of them, how that lasts and grows, a literal, and such a slice among the arguments.
  Conditions: none beyond those that each theorem states.
-/
import Derived.Test.YtlbpdnaaailpeaaLow
import Derived.Deep.Slices
import Derived.Deep.Fields
namespace Go.Proofs.Ytlbpdnaaailpeaa
open Go.ChangeShapes Go.WideShapes Go.ChangeAt Go.RowKit Go.Deep

section
variable {α : Type} {f : α → List Value} {n : Nat}
theorem flat_len (hf : ∀ x, (f x).length = n) (p : List α) : (p.flatMap f).length = p.length * n := by
  induction p with
  | nil => simp
  | cons x p ih => rw [List.flatMap_cons, List.length_append, ih, List.length_cons, hf, Nat.succ_mul]; omega
theorem flat_at (hf : ∀ x, (f x).length = n) (p : List α) (k : Nat) (hk : k < p.length) (j : Nat) (hj : j < n) : (p.flatMap f)[k * n + j]? = (f p[k])[j]? := by
  induction p generalizing k with
  | nil => simp at hk
  | cons x p ih =>
    rw [List.flatMap_cons]
    cases k with
    | zero => rw [List.getElem?_append_left (by rw [hf]; omega)]; simp
    | succ k =>
      rw [List.getElem?_append_right (by rw [hf, Nat.succ_mul]; omega), hf, show (k + 1) * n + j - n = k * n + j by rw [Nat.succ_mul]; omega]
      exact ih k (by simpa using hk)
theorem flat_set (hf : ∀ x, (f x).length = n) (p : List α) (k : Nat) (hk : k < p.length) (j : Nat) (hj : j < n) (y : α) (u : Value) (he : f y = (f p[k]).set j u) : (p.flatMap f).set (k * n + j) u = (p.set k y).flatMap f := by
  induction p generalizing k with
  | nil => simp at hk
  | cons x p ih =>
    rw [List.flatMap_cons]
    cases k with
    | zero =>
      rw [List.set_append_left _ _ (by rw [hf]; omega), List.set_cons_zero, List.flatMap_cons, he]
      simp
    | succ k =>
      rw [List.set_append_right _ _ (by rw [hf, Nat.succ_mul]; omega), hf, show (k + 1) * n + j - n = k * n + j by rw [Nat.succ_mul]; omega, ih k (by simpa using hk) he, List.set_cons_succ, List.flatMap_cons]
theorem flat_snoc (d : List α) (x : α) : (d ++ [x]).flatMap f = d.flatMap f ++ f x := by simp [List.flatMap_append]

/-- The slice value v reads as the elements l. -/
def Rows' (n : Nat) (f : α → List Value) (w : World) (v : Value) (l : List α) : Prop := Sl w n v l.length (l.flatMap f)
theorem Rows'.below {w w' : World} {v : Value} {l : List α} (h : Rows' n f w v l) (hb : Below w.heap.size w w') : Rows' n f w' v l := Sl.below h hb
theorem Rows'.nil (w : World) (A : Option Addr) : Rows' n f w (.slice A 0 0) [] := Sl.nil w n A
theorem Rows'.own {w : World} {base : Nat} {e : TypeId} {v : Value} {l : List α} (h : w.ownsRow base e n v l.length (l.flatMap f)) : Rows' n f w v l := Sl.own h
theorem Rows'.own_snoc {w : World} {base : Nat} {e : TypeId} {v : Value} {d : List α} {x : α} (h : w.ownsRow base e n v (d.length + 1) (d.flatMap f ++ f x)) : w.ownsRow base e n v (d ++ [x]).length ((d ++ [x]).flatMap f) := by
  rw [List.length_append, flat_snoc]
  exact h
theorem Rows'.none_ {w : World} {v : Value} {l : List α} (h : Rows' n f w v l) (hl : l = []) : ∃ A c, v = .slice A 0 c := by
  subst hl
  obtain ⟨A, c, hv, _⟩ := Sl.form h
  exact ⟨A, c, hv⟩
theorem Rows'.form (hf : ∀ x, (f x).length = n) {w : World} {v : Value} {l : List α} (h : Rows' n f w v l) :
    ∃ A c, v = .slice A l.length c ∧ ∀ (k : Nat) (hk : k < l.length), ∃ ad : Addr, A = some ad ∧ ad.block < w.heap.size ∧ ∀ j u, (f l[k])[j]? = some u → w.cell? (ad.add (k * n + j)) = some u := by
  obtain ⟨A, c, hv, hh⟩ := Sl.form h
  refine ⟨A, c, hv, fun k hk => ?_⟩
  obtain ⟨ad, e, hb, hc⟩ := hh (by omega)
  refine ⟨ad, e, hb, fun j u hu => hc _ _ ?_⟩
  have hj : j < n := by
    have := (List.getElem?_eq_some_iff.1 hu).1
    rw [hf] at this
    exact this
  rw [flat_at hf l k hk j hj]
  exact hu
/-- A literal. -/
theorem lit_rows (hf : ∀ x, (f x).length = n) (w : World) (e : TypeId) (l : List α) (hl : l.length ≤ maxLen) : Rows' n f (w.alloc (.cells (l.flatMap f).toArray e)) (.slice (some ⟨w.heap.size, 0, none⟩) l.length l.length) l :=
  Rows'.own (World.ownsRow_lit (base := 0) (e := e) (size := n) w (l.flatMap f).toArray l.length (Nat.zero_le _) hl (by rw [List.size_toArray, flat_len hf]))
/-- The cells of a new block. -/
theorem new_row (w : World) (cs : List Value) (e : TypeId) : ∀ j u, cs[j]? = some u → (w.alloc (.cells cs.toArray e)).cell? ((⟨w.heap.size, 0, none⟩ : Addr).add j) = some u := by
  intro j u hj
  have e1 : (⟨w.heap.size, 0, none⟩ : Addr).add j = ⟨w.heap.size, j, none⟩ := by
    unfold Addr.add
    split
    · rename_i h; rw [h]
    · simp
  rw [e1, cell_of_row _ _ _ cs.toArray e (0, 0) (heap_alloc_new w _), List.getElem?_toArray]
  exact hj

variable {H : Type} {enc : TypeId × Value → H} {P : Program} {w : World} {base : Nat} {r : Reach} {b0 : Nat}
/-- A cell that reads as a slice of such elements, what is known of each (Q) with it. -/
theorem cells_rows [Inhabited α] (hf : ∀ x, (f x).length = n) (hn : 0 < n) {t e : TypeId} (Q : α → Prop) (ce : P.cellsOf e = n) (ht : P.underlying t = some (.slice e))
    (hel : ∀ (fuel : Nat) (cs : List Value) (x : DataW H × List MemPlace), DataW.trod enc P w base (fun _ => true) true fuel e cs = some x → ∃ y : α, cs = f y ∧ Q y)
    {fuel : Nat} {cs : List Value} {x : DataW H × List MemPlace} (h : DataW.trod enc P w base (fun _ => true) true fuel t cs = some x) :
    ∃ (A : Option Addr) (m c : Nat), cs = [.slice A m c] ∧ ∃ l : List α, Rows' n f w (.slice A m c) l ∧ l.length ≤ maxLen ∧ ∀ y ∈ l, Q y := by
  rcases open_slice ht h with ⟨hcs, _⟩ | ⟨a, len, cap, m, k0, D, Pl, hcs, _, hl, hm, hmm, _, hi⟩
  · exact ⟨none, 0, 0, hcs, [], Rows'.nil _ _, by simp, by simp⟩
  · simp only [if_true] at hmm
    have hall : ∀ k, k < len → ∃ y : α, (∀ j, j < n → w.cell? (a.add (k * n + j)) = (f y)[j]?) ∧ Q y := fun k hk => by
      obtain ⟨cs', hc, ht'⟩ := hi k (by omega)
      rw [ce] at hc
      obtain ⟨y, rfl, hq⟩ := hel _ _ _ ht'
      obtain ⟨_, _, hat⟩ := World.cells?_some hc
      exact ⟨y, fun j hj => by rw [← Go.Deep.add_add]; exact hat j hj, hq⟩
    obtain ⟨g, hg⟩ := choose_lt hall
    have hlen : ((List.range len).map g).length = len := by simp
    refine ⟨some a, len, cap, hcs, (List.range len).map g, ?_, by rw [hlen]; omega, fun y hy => ?_⟩
    · rw [Rows', hlen]
      refine ⟨by rw [flat_len hf, hlen], some a, cap, rfl, hl, fun h => (by cases h), fun h0 => ⟨a, rfl, ?_, fun j u hu => ?_⟩⟩
      · have h1 := (hg 0 h0).1 0 hn
        rw [Nat.zero_mul, Nat.zero_add, add_zero', List.getElem?_eq_getElem (by rw [hf]; exact hn)] at h1
        exact World.block_lt_of_cell? w a h1
      · have hj : j < len * n := by
          have := (List.getElem?_eq_some_iff.1 hu).1
          rw [flat_len hf, hlen] at this
          exact this
        have hk : j / n < len := Nat.div_lt_of_lt_mul (by rw [Nat.mul_comm]; exact hj)
        have hr : j % n < n := Nat.mod_lt _ hn
        have e1 : j / n * n + j % n = j := by rw [Nat.mul_comm]; exact Nat.div_add_mod j n
        have h1 := flat_at hf ((List.range len).map g) (j / n) (by rw [hlen]; exact hk) (j % n) hr
        rw [e1, hu] at h1
        have h2 := (hg (j / n) hk).1 (j % n) hr
        rw [e1] at h2
        rw [h2, h1]
        simp
    · obtain ⟨k, hk, rfl⟩ := List.mem_map.1 hy
      exact (hg k (List.mem_range.1 hk)).2
/-- Such a slice among the arguments. -/
theorem arg_rows [Inhabited α] (hf : ∀ x, (f x).length = n) (hn : 0 < n) {t e : TypeId} (Q : α → Prop) (ce : P.cellsOf e = n) (ht : P.underlying t = some (.slice e))
    (hel : ∀ (fuel : Nat) (cs : List Value) (x : DataW H × List MemPlace), DataW.trod enc P w base (fun _ => true) true fuel e cs = some x → ∃ y : α, cs = f y ∧ Q y)
    {v : Value} {d : DataW H} {ps : List MemPlace} (hval : Value.okWide P w r b0 t v) (h : DataW.Trod enc P w base (fun _ => true) true t v d ps) : ∃ l : List α, Rows' n f w v l ∧ l.length ≤ maxLen ∧ ∀ y ∈ l, Q y := by
  obtain ⟨a0, len0, cap0, rfl⟩ := okWide_slice ht hval
  obtain ⟨fuel, hf'⟩ := h
  obtain ⟨A, m, c, hcs, l, h1, h2, h3⟩ := cells_rows hf hn Q ce ht hel hf'
  simp [Value.cells] at hcs
  obtain ⟨rfl, rfl, rfl⟩ := hcs
  exact ⟨l, h1, h2, h3⟩
end

/-! Items: a key and a value. -/
def itC (y : Int × Int) : List Value := [.int .i64 y.1, .int .i64 y.2]
theorem itC_len (y : Int × Int) : (itC y).length = 2 := rfl
theorem one_its (y : Int × Int) : ∀ u ∈ itC y, u.oneCell' = true := by
  intro u hu
  simp only [itC, List.mem_cons, List.not_mem_nil, or_false] at hu
  rcases hu with rfl | rfl
  all_goals rfl
/-- The slice value v reads as the items l. -/
def Its (w : World) (v : Value) (l : List (Int × Int)) : Prop := Rows' 2 itC w v l
theorem Its.below {w w' : World} {v : Value} {l : List (Int × Int)} (h : Its w v l) (hb : Below w.heap.size w w') : Its w' v l := Rows'.below h hb
theorem Its.nil (w : World) (A : Option Addr) : Its w (.slice A 0 0) [] := Rows'.nil w A
theorem Its.none_ {w : World} {v : Value} {l : List (Int × Int)} (h : Its w v l) (hl : l = []) : ∃ A c, v = .slice A 0 c := Rows'.none_ h hl
theorem add_more (ad : Addr) (m j : Nat) (hj : 0 < j) : (⟨(ad.add m).block, (ad.add m).off + j, none⟩ : Addr) = ad.add (m + j) := by
  unfold Addr.add
  by_cases hm : m = 0
  · subst hm
    simp [show ¬ j = 0 by omega]
  · simp [hm]
    omega
/-- Element k of a slice is the item y, as the walk spells its cells' places. -/
structure ItIn (w : World) (ad : Addr) (k : Nat) (y : Int × Int) : Prop where
  c0 : w.cell? (ad.add (k * 2)) = some (.int .i64 y.1)
  c1 : w.cell? ⟨(ad.add (k * 2)).block, (ad.add (k * 2)).off + 1, none⟩ = some (.int .i64 y.2)
theorem ItIn.below {w w' : World} {ad : Addr} {k : Nat} {y : Int × Int} (h : ItIn w ad k y) (hlt : ad.block < w.heap.size) (hb : Below w.heap.size w w') : ItIn w' ad k y := by
  have e : ad.block = (ad.add (k * 2)).block := (add_block ad _).symm
  refine ⟨(hb.cell ?_).trans h.c0, (hb.cell ?_).trans h.c1⟩
  all_goals exact e ▸ hlt
theorem Its.spelled {w : World} {v : Value} {l : List (Int × Int)} (h : Its w v l) : ∃ A c, v = .slice A l.length c ∧ ∀ (k : Nat) (hk : k < l.length), ∃ ad : Addr, A = some ad ∧ ad.block < w.heap.size ∧ ItIn w ad k l[k] := by
  obtain ⟨A, c, hv, hh⟩ := Rows'.form itC_len h
  refine ⟨A, c, hv, fun k hk => ?_⟩
  obtain ⟨ad, e, hb, hc⟩ := hh k hk
  refine ⟨ad, e, hb, hc 0 _ rfl, ?_⟩
  rw [add_more ad _ 1 (by omega)]
  exact hc 1 _ rfl
/-- A face (two rows of items), a place and an error: what a call hands back lies in memory of its own; what was there stays. -/
def RetFace (w : World) (r : (List (Int × Int) × List (Int × Int)) × Int × Int) (e : Ending) (w' : World) : Prop := ∃ u v, e = .returned (.tuple #[.agg #[u, v], .int .i64 r.2.1, .int .i64 r.2.2]) ∧ Its w' u r.1.1 ∧ Its w' v r.1.2 ∧ Below w.heap.size w w'
end Go.Proofs.Ytlbpdnaaailpeaa
