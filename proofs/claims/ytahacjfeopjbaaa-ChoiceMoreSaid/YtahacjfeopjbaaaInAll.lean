/-
  Several texts in one, each with its own first words: InPlain, RowMem, InStep, InMem, InWalkA, InWalkB, InLook, InWalkC.
  Conditions: as each says.
-/
import Derived.Test.YtahacjfeopjbaaaEvAll
import Derived.Test.YtahacjfeopjbaaaLow
import Derived.Test.YtahacjfeopjbaaaDiAll
import Derived.Deep.Slices
import Derived.Deep.Fields
import Derived.Laws.Cells
import Derived.Deep.RegionLaw
import Derived.BigRegion
import Derived.Deep.DeepCutAuto
import Derived.Laws.ResultCell
import Derived.StillTailTactics
import Derived.Deep.Onto
/-
  Plain facts on what a transaction reads and writes, as seen from outside (no Go in it): which op is the first wrong one, and how; the face; a read more behind all, and one ahead of all.
  Conditions: none beyond those that each theorem states.
-/
set_option maxRecDepth 4000
namespace Go.Proofs.Ytahacjfeopjbaaa.In
open Ev (right hasKey)

def isK (kind key : Int) (e : Ev.Event) : Bool := decide (e.kind = kind) && decide (e.key = key)
theorem isK_iff (kind key : Int) (e : Ev.Event) : isK kind key e = true ↔ e.kind = kind ∧ e.key = key := by simp [isK]
/-- The value of the last op of a kind and a key. -/
def lastOf (kind key : Int) : List Ev.Event → Option Int
  | [] => none
  | e :: r => (lastOf kind key r).or (if isK kind key e = true then some e.value else none)
theorem lastOf_append (kind key : Int) (a b : List Ev.Event) : lastOf kind key (a ++ b) = (lastOf kind key b).or (lastOf kind key a) := by
  induction a with
  | nil => simp [lastOf]
  | cons e a ih => rw [List.cons_append, lastOf, ih, lastOf, Option.or_assoc]
theorem lastOf_none (kind key : Int) (a : List Ev.Event) : lastOf kind key a = none ↔ ∀ x ∈ a, isK kind key x = false := by
  induction a with
  | nil => simp [lastOf]
  | cons e a ih =>
    rw [lastOf, Option.or_eq_none_iff, ih]
    constructor
    · rintro ⟨h1, h2⟩ x hx
      rcases List.mem_cons.1 hx with rfl | hx
      · cases h : isK kind key x with
        | false => rfl
        | true => rw [h, if_pos rfl] at h2; cases h2
      · exact h1 x hx
    · intro h
      refine ⟨fun x hx => h x (List.mem_cons_of_mem _ hx), ?_⟩
      rw [h e (by simp), if_neg (by simp)]
/-- A later write of its key has its value. -/
def future (e : Ev.Event) (r : List Ev.Event) : Bool := r.any fun x => isK 2 e.key x && decide (x.value = e.value)
/-- What is wrong with an op, those ahead being p, and those behind r: 0 if nothing is. -/
def wrong (p : List Ev.Event) (e : Ev.Event) (r : List Ev.Event) : Int :=
  if right e = false ∨ hasKey e.kind = false then 1
  else if e.kind = 2 then 0
  else match lastOf 2 e.key p with
    | some v => if v = e.value then 0 else 10
    | none => match lastOf 1 e.key p with
      | some v => if v = e.value then 0 else 11
      | none => if future e r = true then 9 else 0
def errAt (l : List Ev.Event) (j : Nat) : Int :=
  match l[j]? with
  | some e => wrong (l.take j) e (l.drop (j + 1))
  | none => 0
theorem errAt_at (l : List Ev.Event) (j : Nat) (hj : j < l.length) : errAt l j = wrong (l.take j) l[j] (l.drop (j + 1)) := by rw [errAt, List.getElem?_eq_getElem hj]
theorem errAt_out (l : List Ev.Event) (j : Nat) (hj : l.length ≤ j) : errAt l j = 0 := by rw [errAt, List.getElem?_eq_none hj]
def firstBad (l : List Ev.Event) : Option Nat := (List.range l.length).find? fun j => decide (errAt l j ≠ 0)

/-- What is read first of a key, from outside; what is left of it. -/
def rd (l : List Ev.Event) (k : Nat) : Option (Int × Int) :=
  match l.find? fun e => decide (e.key = (k : Int)) with
  | some e => if e.kind = 1 then some ((k : Int), e.value) else none
  | none => none
def wr (l : List Ev.Event) (k : Nat) : Option (Int × Int) := (lastOf 2 (k : Int) l).map fun v => ((k : Int), v)
def readsTo (l : List Ev.Event) (n : Nat) : List (Int × Int) := (List.range n).filterMap (rd l)
def writesTo (l : List Ev.Event) (n : Nat) : List (Int × Int) := (List.range n).filterMap (wr l)
def faceR (l : List Ev.Event) : List (Int × Int) × List (Int × Int) := (readsTo l 16, writesTo l 16)
/-- Look's answer: P6.1, P6.2. -/
def lookR (l : List Ev.Event) : (List (Int × Int) × List (Int × Int)) × Int × Int :=
  match firstBad l with
  | none => (faceR l, 0, 0)
  | some j => (([], []), (j : Int), errAt l j)

def good (l : List Ev.Event) : Prop := ∀ j, errAt l j = 0
theorem bad_none (l : List Ev.Event) (h : good l) : firstBad l = none := by
  rw [firstBad, List.find?_eq_none]
  intro j _
  simp [h j]
theorem bad_some (l : List Ev.Event) (j : Nat) (h0 : ∀ i, i < j → errAt l i = 0) (hq : errAt l j ≠ 0) : firstBad l = some j := by
  have hj : j < l.length := by
    rcases Nat.lt_or_ge j l.length with h | h
    · exact h
    · exact absurd (errAt_out l j h) hq
  rw [firstBad, List.find?_range_eq_some]
  refine ⟨by simpa using hq, by simpa using hj, fun i hi => ?_⟩
  simp [h0 i hi]
theorem look_ok (l : List Ev.Event) (h : good l) : lookR l = (faceR l, 0, 0) := by rw [lookR, bad_none l h]
theorem look_bad (l : List Ev.Event) (j : Nat) (h0 : ∀ i, i < j → errAt l i = 0) (hq : errAt l j ≠ 0) : lookR l = (([], []), (j : Int), errAt l j) := by rw [lookR, bad_some l j h0 hq]
theorem look_cases (l : List Ev.Event) : good l ∨ ∃ j, j < l.length ∧ errAt l j ≠ 0 ∧ ∀ i, i < j → errAt l i = 0 := by
  cases h : firstBad l with
  | none =>
    refine .inl fun j => ?_
    rcases Nat.lt_or_ge j l.length with hj | hj
    · rw [firstBad, List.find?_eq_none] at h
      have := h j (by simpa using hj)
      simpa using this
    · exact errAt_out l j hj
  | some j =>
    rw [firstBad, List.find?_range_eq_some] at h
    obtain ⟨h1, h2, h3⟩ := h
    refine .inr ⟨j, by simpa using h2, by simpa using h1, fun i hi => ?_⟩
    have := h3 i hi
    simpa using this
/-- All ahead of a place being right, what stands there tells. -/
theorem good_of_all (l : List Ev.Event) (h : ∀ i, i < l.length → errAt l i = 0) : good l := fun j => by
  rcases Nat.lt_or_ge j l.length with hj | hj
  · exact h j hj
  · exact errAt_out l j hj

/-! By keys. -/
theorem readsTo_succ (l : List Ev.Event) (n : Nat) : readsTo l (n + 1) = readsTo l n ++ (rd l n).toList := by
  rw [readsTo, readsTo, List.range_succ, List.filterMap_append]
  cases h : rd l n <;> simp [h]
theorem reads_len (l : List Ev.Event) (n : Nat) : (readsTo l n).length ≤ n := Nat.le_trans (List.length_filterMap_le _ _) (by simp)
theorem writes_len (l : List Ev.Event) (n : Nat) : (writesTo l n).length ≤ n := Nat.le_trans (List.length_filterMap_le _ _) (by simp)
theorem rd_key (l : List Ev.Event) (k : Nat) (y : Int × Int) (h : rd l k = some y) : y.1 = (k : Int) := by
  unfold rd at h
  split at h
  · split at h
    · cases h; rfl
    · cases h
  · cases h
theorem wr_key (l : List Ev.Event) (k : Nat) (y : Int × Int) (h : wr l k = some y) : y.1 = (k : Int) := by
  unfold wr at h
  cases h1 : lastOf 2 (k : Int) l with
  | none => rw [h1] at h; cases h
  | some v => rw [h1] at h; cases h; rfl
/-- What a row of items says of a key. -/
def says (key : Int) : List (Int × Int) → Option Int
  | [] => none
  | y :: r => (says key r).or (if y.1 = key then some y.2 else none)
/-! What a right row of ops is like. -/
theorem right_of_good {l : List Ev.Event} (h : good l) (j : Nat) (hj : j < l.length) : right l[j] = true ∧ hasKey l[j].kind = true := by
  have h1 := h j
  rw [errAt_at l j hj, wrong] at h1
  split at h1
  · cases h1
  · rename_i h2
    refine ⟨?_, ?_⟩
    · cases h3 : right l[j] with
      | true => rfl
      | false => exact absurd (.inl h3) h2
    · cases h3 : hasKey l[j].kind with
      | true => rfl
      | false => exact absurd (.inr h3) h2
/-- A read that is right, one case at a time. -/
theorem wrong_read (p r : List Ev.Event) (e : Ev.Event) (hr : right e = true) (hk : e.kind = 1) : wrong p e r = match lastOf 2 e.key p with
    | some v => if v = e.value then 0 else 10
    | none => match lastOf 1 e.key p with
      | some v => if v = e.value then 0 else 11
      | none => if future e r = true then 9 else 0 := by
  rw [wrong, if_neg (by rw [hr, hk]; decide), if_neg (by rw [hk]; decide)]
theorem wrong_write (p r : List Ev.Event) (e : Ev.Event) (hr : right e = true) (hk : e.kind = 2) : wrong p e r = 0 := by
  rw [wrong, if_neg (by rw [hr, hk]; decide), if_pos hk]
end Go.Proofs.Ytahacjfeopjbaaa.In
/-
  Words for rows of elements of any kind in memory (n cells each, told by a function f): a slice that reads as a list of them, how that lasts and grows, a literal, and such a slice among the arguments.
  Conditions: none beyond those that each theorem states.
-/
set_option maxRecDepth 4000
namespace Go.Proofs.Ytahacjfeopjbaaa
open Go.ChangeShapes Go.WideShapes Go.ChangeAt Go.RowKit Go.Deep

section
variable {α : Type} {f : α → List Value} {n : Nat}
theorem flat_len (hf : ∀ x, (f x).length = n) (p : List α) : (p.flatMap f).length = p.length * n := by
  induction p with
  | nil => simp
  | cons x p ih => rw [List.flatMap_cons, List.length_append, ih, List.length_cons, hf, Nat.succ_mul]; omega
theorem flat_at (hf : ∀ x, (f x).length = n) (p : List α) (k : Nat) (hk : k < p.length) (j : Nat) (hj : j < n) : (p.flatMap f)[k * n + j]? = (f p[k])[j]? := by
  induction p generalizing k with
  | nil => simp at hk
  | cons x p ih =>
    rw [List.flatMap_cons]
    cases k with
    | zero => rw [List.getElem?_append_left (by rw [hf]; omega)]; simp
    | succ k =>
      rw [List.getElem?_append_right (by rw [hf, Nat.succ_mul]; omega), hf, show (k + 1) * n + j - n = k * n + j by rw [Nat.succ_mul]; omega]
      exact ih k (by simpa using hk)
theorem flat_set (hf : ∀ x, (f x).length = n) (p : List α) (k : Nat) (hk : k < p.length) (j : Nat) (hj : j < n) (y : α) (u : Value) (he : f y = (f p[k]).set j u) : (p.flatMap f).set (k * n + j) u = (p.set k y).flatMap f := by
  induction p generalizing k with
  | nil => simp at hk
  | cons x p ih =>
    rw [List.flatMap_cons]
    cases k with
    | zero =>
      rw [List.set_append_left _ _ (by rw [hf]; omega), List.set_cons_zero, List.flatMap_cons, he]
      simp
    | succ k =>
      rw [List.set_append_right _ _ (by rw [hf, Nat.succ_mul]; omega), hf, show (k + 1) * n + j - n = k * n + j by rw [Nat.succ_mul]; omega, ih k (by simpa using hk) he, List.set_cons_succ, List.flatMap_cons]
theorem flat_snoc (d : List α) (x : α) : (d ++ [x]).flatMap f = d.flatMap f ++ f x := by simp [List.flatMap_append]

/-- The slice value v reads as the elements l. -/
def Rows' (n : Nat) (f : α → List Value) (w : World) (v : Value) (l : List α) : Prop := Sl w n v l.length (l.flatMap f)
theorem Rows'.below {w w' : World} {v : Value} {l : List α} (h : Rows' n f w v l) (hb : Below w.heap.size w w') : Rows' n f w' v l := Sl.below h hb
theorem Rows'.nil (w : World) (A : Option Addr) : Rows' n f w (.slice A 0 0) [] := Sl.nil w n A
theorem Rows'.own {w : World} {base : Nat} {e : TypeId} {v : Value} {l : List α} (h : w.ownsRow base e n v l.length (l.flatMap f)) : Rows' n f w v l := Sl.own h
theorem Rows'.own_snoc {w : World} {base : Nat} {e : TypeId} {v : Value} {d : List α} {x : α} (h : w.ownsRow base e n v (d.length + 1) (d.flatMap f ++ f x)) : w.ownsRow base e n v (d ++ [x]).length ((d ++ [x]).flatMap f) := by
  rw [List.length_append, flat_snoc]
  exact h
theorem Rows'.none_ {w : World} {v : Value} {l : List α} (h : Rows' n f w v l) (hl : l = []) : ∃ A c, v = .slice A 0 c := by
  subst hl
  obtain ⟨A, c, hv, _⟩ := Sl.form h
  exact ⟨A, c, hv⟩
theorem Rows'.form (hf : ∀ x, (f x).length = n) {w : World} {v : Value} {l : List α} (h : Rows' n f w v l) :
    ∃ A c, v = .slice A l.length c ∧ ∀ (k : Nat) (hk : k < l.length), ∃ ad : Addr, A = some ad ∧ ad.block < w.heap.size ∧ ∀ j u, (f l[k])[j]? = some u → w.cell? (ad.add (k * n + j)) = some u := by
  obtain ⟨A, c, hv, hh⟩ := Sl.form h
  refine ⟨A, c, hv, fun k hk => ?_⟩
  obtain ⟨ad, e, hb, hc⟩ := hh (by omega)
  refine ⟨ad, e, hb, fun j u hu => hc _ _ ?_⟩
  have hj : j < n := by
    have := (List.getElem?_eq_some_iff.1 hu).1
    rw [hf] at this
    exact this
  rw [flat_at hf l k hk j hj]
  exact hu
/-- A literal. -/
theorem lit_rows (hf : ∀ x, (f x).length = n) (w : World) (e : TypeId) (l : List α) (hl : l.length ≤ maxLen) : Rows' n f (w.alloc (.cells (l.flatMap f).toArray e)) (.slice (some ⟨w.heap.size, 0, none⟩) l.length l.length) l :=
  Rows'.own (World.ownsRow_lit (base := 0) (e := e) (size := n) w (l.flatMap f).toArray l.length (Nat.zero_le _) hl (by rw [List.size_toArray, flat_len hf]))
/-- The cells of a new block. -/
theorem new_row (w : World) (cs : List Value) (e : TypeId) : ∀ j u, cs[j]? = some u → (w.alloc (.cells cs.toArray e)).cell? ((⟨w.heap.size, 0, none⟩ : Addr).add j) = some u := by
  intro j u hj
  have e1 : (⟨w.heap.size, 0, none⟩ : Addr).add j = ⟨w.heap.size, j, none⟩ := by
    unfold Addr.add
    split
    · rename_i h; rw [h]
    · simp
  rw [e1, cell_of_row _ _ _ cs.toArray e (0, 0) (heap_alloc_new w _), List.getElem?_toArray]
  exact hj

variable {H : Type} {enc : TypeId × Value → H} {P : Program} {w : World} {base : Nat} {r : Reach} {b0 : Nat}
/-- A cell that reads as a slice of such elements, what is known of each (Q) with it. -/
theorem cells_rows [Inhabited α] (hf : ∀ x, (f x).length = n) (hn : 0 < n) {t e : TypeId} (Q : α → Prop) (ce : P.cellsOf e = n) (ht : P.underlying t = some (.slice e))
    (hel : ∀ (fuel : Nat) (cs : List Value) (x : DataW H × List MemPlace), DataW.trod enc P w base (fun _ => true) true fuel e cs = some x → ∃ y : α, cs = f y ∧ Q y)
    {fuel : Nat} {cs : List Value} {x : DataW H × List MemPlace} (h : DataW.trod enc P w base (fun _ => true) true fuel t cs = some x) :
    ∃ (A : Option Addr) (m c : Nat), cs = [.slice A m c] ∧ ∃ l : List α, Rows' n f w (.slice A m c) l ∧ l.length ≤ maxLen ∧ ∀ y ∈ l, Q y := by
  rcases open_slice ht h with ⟨hcs, _⟩ | ⟨a, len, cap, m, k0, D, Pl, hcs, _, hl, hm, hmm, _, hi⟩
  · exact ⟨none, 0, 0, hcs, [], Rows'.nil _ _, by simp, by simp⟩
  · simp only [if_true] at hmm
    have hall : ∀ k, k < len → ∃ y : α, (∀ j, j < n → w.cell? (a.add (k * n + j)) = (f y)[j]?) ∧ Q y := fun k hk => by
      obtain ⟨cs', hc, ht'⟩ := hi k (by omega)
      rw [ce] at hc
      obtain ⟨y, rfl, hq⟩ := hel _ _ _ ht'
      obtain ⟨_, _, hat⟩ := World.cells?_some hc
      exact ⟨y, fun j hj => by rw [← Go.Deep.add_add]; exact hat j hj, hq⟩
    obtain ⟨g, hg⟩ := choose_lt hall
    have hlen : ((List.range len).map g).length = len := by simp
    refine ⟨some a, len, cap, hcs, (List.range len).map g, ?_, by rw [hlen]; omega, fun y hy => ?_⟩
    · rw [Rows', hlen]
      refine ⟨by rw [flat_len hf, hlen], some a, cap, rfl, hl, fun h => (by cases h), fun h0 => ⟨a, rfl, ?_, fun j u hu => ?_⟩⟩
      · have h1 := (hg 0 h0).1 0 hn
        rw [Nat.zero_mul, Nat.zero_add, add_zero', List.getElem?_eq_getElem (by rw [hf]; exact hn)] at h1
        exact World.block_lt_of_cell? w a h1
      · have hj : j < len * n := by
          have := (List.getElem?_eq_some_iff.1 hu).1
          rw [flat_len hf, hlen] at this
          exact this
        have hk : j / n < len := Nat.div_lt_of_lt_mul (by rw [Nat.mul_comm]; exact hj)
        have hr : j % n < n := Nat.mod_lt _ hn
        have e1 : j / n * n + j % n = j := by rw [Nat.mul_comm]; exact Nat.div_add_mod j n
        have h1 := flat_at hf ((List.range len).map g) (j / n) (by rw [hlen]; exact hk) (j % n) hr
        rw [e1, hu] at h1
        have h2 := (hg (j / n) hk).1 (j % n) hr
        rw [e1] at h2
        rw [h2, h1]
        simp
    · obtain ⟨k, hk, rfl⟩ := List.mem_map.1 hy
      exact (hg k (List.mem_range.1 hk)).2
/-- Such a slice among the arguments. -/
theorem arg_rows [Inhabited α] (hf : ∀ x, (f x).length = n) (hn : 0 < n) {t e : TypeId} (Q : α → Prop) (ce : P.cellsOf e = n) (ht : P.underlying t = some (.slice e))
    (hel : ∀ (fuel : Nat) (cs : List Value) (x : DataW H × List MemPlace), DataW.trod enc P w base (fun _ => true) true fuel e cs = some x → ∃ y : α, cs = f y ∧ Q y)
    {v : Value} {d : DataW H} {ps : List MemPlace} (hval : Value.okWide P w r b0 t v) (h : DataW.Trod enc P w base (fun _ => true) true t v d ps) : ∃ l : List α, Rows' n f w v l ∧ l.length ≤ maxLen ∧ ∀ y ∈ l, Q y := by
  obtain ⟨a0, len0, cap0, rfl⟩ := okWide_slice ht hval
  obtain ⟨fuel, hf'⟩ := h
  obtain ⟨A, m, c, hcs, l, h1, h2, h3⟩ := cells_rows hf hn Q ce ht hel hf'
  simp [Value.cells] at hcs
  obtain ⟨rfl, rfl, rfl⟩ := hcs
  exact ⟨l, h1, h2, h3⟩
end

/-! Items: a key and a value. -/
def itC (y : Int × Int) : List Value := [.int .i64 y.1, .int .i64 y.2]
theorem itC_len (y : Int × Int) : (itC y).length = 2 := rfl
theorem one_its (y : Int × Int) : ∀ u ∈ itC y, u.oneCell' = true := by
  intro u hu
  simp only [itC, List.mem_cons, List.not_mem_nil, or_false] at hu
  rcases hu with rfl | rfl
  all_goals rfl
/-- The slice value v reads as the items l. -/
def Its (w : World) (v : Value) (l : List (Int × Int)) : Prop := Rows' 2 itC w v l
theorem Its.below {w w' : World} {v : Value} {l : List (Int × Int)} (h : Its w v l) (hb : Below w.heap.size w w') : Its w' v l := Rows'.below h hb
theorem Its.nil (w : World) (A : Option Addr) : Its w (.slice A 0 0) [] := Rows'.nil w A
theorem Its.none_ {w : World} {v : Value} {l : List (Int × Int)} (h : Its w v l) (hl : l = []) : ∃ A c, v = .slice A 0 c := Rows'.none_ h hl
theorem add_more (ad : Addr) (m j : Nat) (hj : 0 < j) : (⟨(ad.add m).block, (ad.add m).off + j, none⟩ : Addr) = ad.add (m + j) := by
  unfold Addr.add
  by_cases hm : m = 0
  · subst hm
    simp [show ¬ j = 0 by omega]
  · simp [hm]
    omega
/-- Element k of a slice is the item y, as the walk spells its cells' places. -/
structure ItIn (w : World) (ad : Addr) (k : Nat) (y : Int × Int) : Prop where
  c0 : w.cell? (ad.add (k * 2)) = some (.int .i64 y.1)
  c1 : w.cell? ⟨(ad.add (k * 2)).block, (ad.add (k * 2)).off + 1, none⟩ = some (.int .i64 y.2)
theorem ItIn.below {w w' : World} {ad : Addr} {k : Nat} {y : Int × Int} (h : ItIn w ad k y) (hlt : ad.block < w.heap.size) (hb : Below w.heap.size w w') : ItIn w' ad k y := by
  have e : ad.block = (ad.add (k * 2)).block := (add_block ad _).symm
  refine ⟨(hb.cell ?_).trans h.c0, (hb.cell ?_).trans h.c1⟩
  all_goals exact e ▸ hlt
theorem Its.spelled {w : World} {v : Value} {l : List (Int × Int)} (h : Its w v l) : ∃ A c, v = .slice A l.length c ∧ ∀ (k : Nat) (hk : k < l.length), ∃ ad : Addr, A = some ad ∧ ad.block < w.heap.size ∧ ItIn w ad k l[k] := by
  obtain ⟨A, c, hv, hh⟩ := Rows'.form itC_len h
  refine ⟨A, c, hv, fun k hk => ?_⟩
  obtain ⟨ad, e, hb, hc⟩ := hh k hk
  refine ⟨ad, e, hb, hc 0 _ rfl, ?_⟩
  rw [add_more ad _ 1 (by omega)]
  exact hc 1 _ rfl
/-- A face (two rows of items), a place and an error: what a call hands back lies in memory of its own; what was there stays. -/
def RetFace (w : World) (r : (List (Int × Int) × List (Int × Int)) × Int × Int) (e : Ending) (w' : World) : Prop := ∃ u v, e = .returned (.tuple #[.agg #[u, v], .int .i64 r.2.1, .int .i64 r.2.2]) ∧ Its w' u r.1.1 ∧ Its w' v r.1.2 ∧ Below w.heap.size w w'
end Go.Proofs.Ytahacjfeopjbaaa
/-
  Plain facts on what a transaction knows of a key, op by op (no Go in it): the first value read ahead of any write, the last one written; what an op's error is by these, and what they are behind it.
  Conditions: none beyond those that each theorem states.
-/
set_option maxRecDepth 4000
namespace Go.Proofs.Ytahacjfeopjbaaa.In
open Ev (right hasKey)

/-- The first value read of a key, where its first op is a read. -/
def fr (p : List Ev.Event) (k : Nat) : Option Int := (rd p k).map (·.2)
theorem key_small (x : Ev.Event) (h : (right x && hasKey x.kind) = true) : ∃ n : Nat, n < 16 ∧ x.key = (n : Int) := by
  rw [Bool.and_eq_true] at h
  obtain ⟨_, _, _, _, h5⟩ := (Ev.right_iff x).1 h.1
  rw [if_pos h.2] at h5
  exact ⟨x.key.toNat, by omega, by omega⟩
end Go.Proofs.Ytahacjfeopjbaaa.In
/-
  Words for what inner.Look keeps in memory: what is known of a key (five variables that three closures share), the row of sixteen of these, and the face that is filled.
  Conditions: none beyond those that each theorem states.
  (This program has not all of these functions: readF, writeF, tellF, memC, memV, memC_len, rowC, rowC_len, rowC_zero, rowC_succ, rowC_at, rowC_free, RowAt, RowAt.lt, RowAt.cell, RowAt.free, RowAt.mem are left out here.)
-/
set_option maxRecDepth 4000
namespace Go.Proofs.Ytahacjfeopjbaaa
open Go.RowKit

/-- Of what was there only blocks from a on, below b, may have turned. -/
structure Save (a b : Nat) (w w' : World) : Prop where
  os : w'.os = w.os
  tape : w'.tape = w.tape
  output : w'.output = w.output
  size : w.heap.size ≤ w'.heap.size
  block : ∀ k, k < w.heap.size → ¬ (a ≤ k ∧ k < b) → w'.heap[k]? = w.heap[k]?
theorem Save.refl (a b : Nat) (w : World) : Save a b w w := ⟨rfl, rfl, rfl, Nat.le_refl _, fun _ _ _ => rfl⟩
theorem Save.trans {a b : Nat} {w w1 w2 : World} (h : Save a b w w1) (k : Save a b w1 w2) : Save a b w w2 :=
  ⟨k.os.trans h.os, k.tape.trans h.tape, k.output.trans h.output, Nat.le_trans h.size k.size, fun i hi hn => (k.block i (Nat.lt_of_lt_of_le hi h.size) hn).trans (h.block i hi hn)⟩
theorem Save.of_below {a b : Nat} {w w' : World} (h : Below w.heap.size w w') : Save a b w w' := ⟨h.os, h.tape, h.output, h.size, fun k hk _ => h.block k hk⟩
theorem Save.setCell {a b : Nat} {w w1 : World} (h : Save a b w w1) {p : Addr} (hp : a ≤ p.block ∧ p.block < b) (u : Value) : Save a b w (w1.setCell p u) :=
  h.trans ⟨rfl, rfl, rfl, by simp [World.setCell], fun k hk hn => Below.heap_setCell _ _ _ _ (by intro e; subst e; exact hn hp)⟩
theorem Save.below {a b B : Nat} {w w' : World} (h : Save a b w w') (hB : B ≤ a) (hs : B ≤ w.heap.size) : Below B w w' := ⟨h.os, h.tape, h.output, h.size, fun k hk => h.block k (by omega) (by omega)⟩

/-- The memory of a key: the key, the result variable of its making, whether it is read, whether it is written, the first value read, the last one written: blocks b to b + 5. -/
structure MemAt (w : World) (b : Nat) (key : Int) (r v : Option Int) : Prop where
  key : w.heap[b]? = some (.cells #[.int .i64 key] 3 (0, 0))
  isRead : w.heap[b + 2]? = some (.cells #[.bool r.isSome] 4 (0, 0))
  isWritten : w.heap[b + 3]? = some (.cells #[.bool v.isSome] 4 (0, 0))
  firstRead : w.heap[b + 4]? = some (.cells #[.int .i64 (r.getD 0)] 3 (0, 0))
  lastWritten : w.heap[b + 5]? = some (.cells #[.int .i64 (v.getD 0)] 3 (0, 0))
theorem MemAt.lt {w : World} {b : Nat} {key : Int} {r v : Option Int} (h : MemAt w b key r v) : b + 5 < w.heap.size := lt_of_block h.lastWritten
theorem MemAt.keep {w w' : World} {b : Nat} {key : Int} {r v : Option Int} (h : MemAt w b key r v) (hk : ∀ j, j < 6 → w'.heap[b + j]? = w.heap[b + j]?) : MemAt w' b key r v :=
  ⟨(hk 0 (by omega)).trans h.key, (hk 2 (by omega)).trans h.isRead, (hk 3 (by omega)).trans h.isWritten, (hk 4 (by omega)).trans h.firstRead, (hk 5 (by omega)).trans h.lastWritten⟩
theorem MemAt.below {w w' : World} {b B : Nat} {key : Int} {r v : Option Int} (h : MemAt w b key r v) (hb : Below B w w') (hB : b + 6 ≤ B) : MemAt w' b key r v := h.keep fun j hj => hb.block _ (by omega)
theorem MemAt.save {w w' : World} {b c : Nat} {key : Int} {r v : Option Int} (h : MemAt w b key r v) (hs : Save c (c + 6) w w') (hne : b + 6 ≤ c ∨ c + 6 ≤ b) : MemAt w' b key r v :=
  h.keep fun j hj => hs.block _ (by have := h.lt; omega) (by omega)
/-- It is written. -/
theorem MemAt.write {w : World} {b : Nat} {key : Int} {r v : Option Int} (h : MemAt w b key r v) (x : Int) : MemAt ((w.setCell ⟨b + 3, 0, none⟩ (.bool true)).setCell ⟨b + 5, 0, none⟩ (.int .i64 x)) b key r (some x) := by
  have far : ∀ j, j ≠ b + 3 → j ≠ b + 5 → ((w.setCell ⟨b + 3, 0, none⟩ (.bool true)).setCell ⟨b + 5, 0, none⟩ (.int .i64 x)).heap[j]? = w.heap[j]? := fun j h3 h5 => (Below.heap_setCell _ _ _ _ h5).trans (Below.heap_setCell _ _ _ _ h3)
  refine ⟨(far _ (by omega) (by omega)).trans h.key, (far _ (by omega) (by omega)).trans h.isRead, ?_, (far _ (by omega) (by omega)).trans h.firstRead, ?_⟩
  · exact (Below.heap_setCell _ _ _ _ (by show b + 3 ≠ b + 5; omega)).trans (one_setCell h.isWritten)
  · exact one_setCell ((Below.heap_setCell _ _ _ _ (by show b + 5 ≠ b + 3; omega)).trans h.lastWritten)
/-- It is read. -/
theorem MemAt.read {w : World} {b : Nat} {key : Int} {r v : Option Int} (h : MemAt w b key r v) (x : Int) : MemAt ((w.setCell ⟨b + 2, 0, none⟩ (.bool true)).setCell ⟨b + 4, 0, none⟩ (.int .i64 x)) b key (some x) v := by
  have far : ∀ j, j ≠ b + 2 → j ≠ b + 4 → ((w.setCell ⟨b + 2, 0, none⟩ (.bool true)).setCell ⟨b + 4, 0, none⟩ (.int .i64 x)).heap[j]? = w.heap[j]? := fun j h3 h5 => (Below.heap_setCell _ _ _ _ h5).trans (Below.heap_setCell _ _ _ _ h3)
  refine ⟨(far _ (by omega) (by omega)).trans h.key, ?_, (far _ (by omega) (by omega)).trans h.isWritten, ?_, (far _ (by omega) (by omega)).trans h.lastWritten⟩
  · exact (Below.heap_setCell _ _ _ _ (by show b + 2 ≠ b + 4; omega)).trans (one_setCell h.isRead)
  · exact one_setCell ((Below.heap_setCell _ _ _ _ (by show b + 4 ≠ b + 2; omega)).trans h.firstRead)

/-- The variable at block F is a face that is being filled: two rows of the call's own, above F. -/
structure FaceAt (tf te : TypeId) (w : World) (F : Nat) (rs ws : List (Int × Int)) (u v : Value) : Prop where
  cell : w.heap[F]? = some (.cells #[u, v] tf (0, 0))
  reads : w.ownsRow (F + 1) te 2 u rs.length (rs.flatMap itC)
  writes : w.ownsRow (F + 1) te 2 v ws.length (ws.flatMap itC)
  apart : ∀ g, u.ownBlock = some g → v.ownBlock ≠ some g
theorem two_set {w : World} {F : Nat} {u v : Value} {t : TypeId} (h : w.heap[F]? = some (.cells #[u, v] t (0, 0))) (x : Value) : (w.setCell ⟨F, 0, none⟩ x).heap[F]? = some (.cells #[x, v] t (0, 0)) ∧ (w.setCell ⟨F, 1, none⟩ x).heap[F]? = some (.cells #[u, x] t (0, 0)) := by
  simp [World.setCell, Array.getElem?_modify, h]
theorem two_cells {w : World} {F : Nat} {u v : Value} {t : TypeId} (h : w.heap[F]? = some (.cells #[u, v] t (0, 0))) : w.cell? ⟨F, 0, none⟩ = some u ∧ w.cell? ⟨F, 1, none⟩ = some v ∧ ∀ k, w.frozen? ⟨F, k, none⟩ = false := by
  refine ⟨?_, ?_, fun k => ?_⟩
  · simp [World.cell?, h]
  · simp [World.cell?, h]
  · simp [World.frozen?, h]
section
variable {tf te : TypeId} {w : World} {F : Nat} {rs ws : List (Int × Int)} {u v : Value}
theorem FaceAt.lt (h : FaceAt tf te w F rs ws u v) : F < w.heap.size := lt_of_block h.cell
theorem FaceAt.below {w' : World} (h : FaceAt tf te w F rs ws u v) (hb : Below w.heap.size w w') : FaceAt tf te w' F rs ws u v :=
  ⟨(hb.block F h.lt).trans h.cell, own_below h.reads hb, own_below h.writes hb, h.apart⟩
theorem own_above {w : World} {base size n : Nat} {e : TypeId} {v : Value} {xs : List Value} (h : w.ownsRow (base + 1) e size v n xs) : v.ownBlock ≠ some base := fun e => by
  have := (h.lt base e).1
  omega
theorem own_kept {w w' : World} {base size n : Nat} {e : TypeId} {u v : Value} {xs : List Value} (h : w.ownsRow base e size v n xs) (hg : w.grownBy w' u.ownBlock) (ha : ∀ g, u.ownBlock = some g → v.ownBlock ≠ some g) : w'.ownsRow base e size v n xs := by
  refine h.kept hg ?_
  cases hv : v.ownBlock with
  | none => exact .inl rfl
  | some g => exact .inr fun e => ha g e.symm hv
/-- One read more. -/
theorem FaceAt.addRead {w2 : World} (h : FaceAt tf te w F rs ws u v) (y : Int × Int) {g cap : Nat} (hown : w2.ownsRow (F + 1) te 2 (.slice (some ⟨g, 0, none⟩) (rs.length + 1) cap) (rs.length + 1) (rs.flatMap itC ++ itC y)) (hg : w.grownBy w2 u.ownBlock) (hat : u.ownBlock = some g ∨ g = w.heap.size) :
    FaceAt tf te (w2.setCell ⟨F, 0, none⟩ (.slice (some ⟨g, 0, none⟩) (rs.length + 1) cap)) F (rs ++ [y]) ws (.slice (some ⟨g, 0, none⟩) (rs.length + 1) cap) v ∧ Below F w (w2.setCell ⟨F, 0, none⟩ (.slice (some ⟨g, 0, none⟩) (rs.length + 1) cap)) := by
  have hc : w2.heap[F]? = some (.cells #[u, v] tf (0, 0)) := (hg.block F h.lt (fun e => own_above h.reads e.symm)).trans h.cell
  refine ⟨⟨(two_set hc _).1, Rows'.own_snoc (ownsRow_setCell_below hown (by show F < F + 1; omega) _), ownsRow_setCell_below (own_kept h.writes hg h.apart) (by show F < F + 1; omega) _, fun k hk hv => ?_⟩, ?_⟩
  · obtain rfl : g = k := by simpa [Value.ownBlock] using hk
    rcases hat with e | e
    · exact h.apart g e hv
    · have := (h.writes.lt g hv).2
      omega
  · exact (Below.grown (Below.refl F w) hg (Nat.le_of_lt h.lt) fun k e => by have := (h.reads.lt k e).1; omega).setCell (Nat.le_refl F) _
/-- One write more. -/
theorem FaceAt.addWrite {w2 : World} (h : FaceAt tf te w F rs ws u v) (y : Int × Int) {g cap : Nat} (hown : w2.ownsRow (F + 1) te 2 (.slice (some ⟨g, 0, none⟩) (ws.length + 1) cap) (ws.length + 1) (ws.flatMap itC ++ itC y)) (hg : w.grownBy w2 v.ownBlock) (hat : v.ownBlock = some g ∨ g = w.heap.size) :
    FaceAt tf te (w2.setCell ⟨F, 1, none⟩ (.slice (some ⟨g, 0, none⟩) (ws.length + 1) cap)) F rs (ws ++ [y]) u (.slice (some ⟨g, 0, none⟩) (ws.length + 1) cap) ∧ Below F w (w2.setCell ⟨F, 1, none⟩ (.slice (some ⟨g, 0, none⟩) (ws.length + 1) cap)) := by
  have hc : w2.heap[F]? = some (.cells #[u, v] tf (0, 0)) := (hg.block F h.lt (fun e => own_above h.writes e.symm)).trans h.cell
  refine ⟨⟨(two_set hc _).2, ownsRow_setCell_below (own_kept h.reads hg (fun k hk hu => h.apart k hu hk)) (by show F < F + 1; omega) _, Rows'.own_snoc (ownsRow_setCell_below hown (by show F < F + 1; omega) _), fun k hk hv => ?_⟩, ?_⟩
  · obtain rfl : g = k := by simpa [Value.ownBlock] using hv
    rcases hat with e | e
    · exact h.apart g hk e
    · have := (h.reads.lt g hk).2
      omega
  · exact (Below.grown (Below.refl F w) hg (Nat.le_of_lt h.lt) fun k e => by have := (h.writes.lt k e).1; omega).setCell (Nat.le_refl F) _
end
end Go.Proofs.Ytahacjfeopjbaaa
/-
  What inner's small functions answer: errorUnless, isOp, isWrittenIn, newMemory, and the closures that read and write what a key's memory holds.
  Conditions: a row has at most 2^32 elements.
  (This program has not all of these functions: errorUnless_at, isOp_at, isWrittenIn_at, newMemory_at, write_at, read_at are left out here.)
-/
set_option maxRecDepth 4000
namespace Go.Proofs.Ytahacjfeopjbaaa
open Go.RowKit

def isOpB (x : Ev.Event) : Bool := Ev.right x && Ev.hasKey x.kind
end Go.Proofs.Ytahacjfeopjbaaa
/-
  What the closure that tells a key's memory does to the face: a read more, if the key was read first, and a write more, if it was written.
  Conditions: a row has at most 2^32 elements.
  (This program has not all of these functions: item_info, Telling, TellMid, tell_at are left out here.)
-/
set_option maxRecDepth 4000
namespace Go.Proofs.Ytahacjfeopjbaaa
open Go.RowKit

def told (key : Int) (r : Option Int) : List (Int × Int) := (r.map fun x => (key, x)).toList
/-- A cell behind the laying of a block, and behind an append. -/
theorem cell_new {w : World} {a : Addr} {u : Value} (h : w.cell? a = some u) (o : Obj) : (w.alloc o).cell? a = some u := ((alloc_below w o).cell (World.block_lt_of_cell? w a h)).trans h

end Go.Proofs.Ytahacjfeopjbaaa
/-
  Words for inner.Look's memory as a whole, and its steps: while the sixteen memories are made, and behind each op.
  Conditions: none beyond those that each theorem states.
  (This program has not all of these functions: MakeAt, LookAt, MakeAt.done, make_start, MakeAt.room, MakeAt.more, LookAt.lt, LookAt.later, LookAt.op, LookAt.closures, row_size, index_row, slice_tail are left out here.)
-/
set_option maxRecDepth 4000
namespace Go.Proofs.Ytahacjfeopjbaaa
open Go.RowKit

section
variable {w wr w1 : World} {s d f u : Value} {p : List Ev.Event} {n : Nat}
end
/-- What is behind the first m of a row of events. -/
theorem Evs.drop {w : World} {A : Option Addr} {n c : Nat} {l : List Ev.Event} (h : Evs w (.slice A n c) l) (m : Nat) (hm : m ≤ l.length) : Evs w (.slice (if c = m then A else A.map (·.add (m * 4))) (n - m) (c - m)) (l.drop m) := by
  obtain ⟨h1, A1, c1, hv, hc, hz, hh⟩ := h
  cases hv
  have hlen : (l.drop m).length = l.length - m := List.length_drop
  refine ⟨by rw [evCells_len], _, _, by rw [hlen], by rw [hlen]; omega, fun hn => ?_, fun h0 => ?_⟩
  · by_cases e : c = m
    · omega
    · rw [if_neg e] at hn
      have : A = none := by cases A with
        | none => rfl
        | some a => cases hn
      have := hz this
      omega
  · rw [hlen] at h0
    obtain ⟨ad, rfl, hb, hcell⟩ := hh (by omega)
    rw [if_neg (by omega)]
    refine ⟨ad.add (m * 4), rfl, by rw [add_block]; exact hb, fun j u hu => ?_⟩
    rw [Go.Deep.add_add]
    refine hcell _ _ ?_
    have hj := (List.getElem?_eq_some_iff.1 hu).1
    rw [evCells_len, hlen] at hj
    have e2 : l.flatMap evCells = (l.take m).flatMap evCells ++ (l.drop m).flatMap evCells := by rw [← List.flatMap_append, List.take_append_drop]
    have e3 : ((l.take m).flatMap evCells).length = m * 4 := by rw [evCells_len, List.length_take]; omega
    rw [e2, List.getElem?_append_right (by omega), e3, Nat.add_sub_cancel_left]
    exact hu
end Go.Proofs.Ytahacjfeopjbaaa
/-
  What inner.Look answers, for every transaction: In.lookR of its ops; what was in memory stays as it was.
  Conditions: a row has at most 2^32 elements.
  (This program has not all of these functions: store_memory, results_face, RetFaceOwn, end_face, end_look, save_res, FaceIs, look_own, look_at are left out here.)
-/
set_option maxRecDepth 4000
namespace Go.Proofs.Ytahacjfeopjbaaa
open Go.RowKit

end Go.Proofs.Ytahacjfeopjbaaa
