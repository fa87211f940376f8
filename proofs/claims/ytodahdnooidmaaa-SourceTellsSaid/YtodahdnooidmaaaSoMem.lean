/-
  Words for layer 7 in memory: items as keys of a map, the map of who wrote what, rows of faces, rows of numbers of a call's own, and all that reads are held against; how these last and are written.
  Conditions: none beyond those that each theorem states.
-/
import Derived.Test.YtodahdnooidmaaaSoRefP
import Derived.Test.YtodahdnooidmaaaHiMem
import Derived.Test.YtodahdnooidmaaaGrAll
import Derived.Test.YtodahdnooidmaaaInAll
import Derived.DeepKeys4
set_option maxRecDepth 4000
namespace Go.Proofs.Ytodahdnooidmaaa
open Go.RowKit
open Go.Maps (Keyed IsMap)

/-! Items as keys. -/
theorem so_laid : laidOutB Try.prog = true := by kernel_rfl
theorem item_row : (74 : TypeId) < Try.prog.types.size := of_decide_eq_true (by kernel_rfl)
theorem item_wide : (match Try.prog.underlying 74 with | some (.array _ _) | some (.struct _) => true | _ => false) = true := by kernel_rfl
theorem item_law : Keyed Try.prog 74 := Keyed.of_law (deep_law_laid so_laid (m := 2) (by omega) item_row (by kernel_rfl) item_wide)
def okN (n : Int) : Prop := (Lit.int .i64 n).wf = true
theorem okN_small {n : Int} (h : 0 ≤ n) (h' : n ≤ 4294967296) : okN n := WalkArith.wf_i64 (by omega)
def itemLit (k v : Int) : Lit := .string (keyBytes [.int .i64 k, .int .i64 v])
theorem item_lits (d : Nat) {k v : Int} (hk : okN k) (hv : okN v) : Try.prog.keyLits (d + 2) 74 [.int .i64 k, .int .i64 v] = some [.int .i64 k, .int .i64 v] := by
  have c : Try.prog.cellsOf 74 = 2 := by kernel_rfl
  have ci : Try.prog.cellsOf 3 = 1 := by kernel_rfl
  have hi : ∀ n : Int, okN n → Try.prog.keyLits (d + 1) 3 [.int .i64 n] = some [.int .i64 n] := fun n hn => by
    have hn' : (Lit.int .i64 n).wf = true := hn
    unfold Program.keyLits
    rw [Try.underlying3]
    simp [hn']
  unfold Program.keyLits
  rw [Try.underlying74]
  simp [c, ci, hi _ hk, hi _ hv]
theorem item_key {k v : Int} (hk : okN k) (hv : okN v) : keyOf Try.prog 74 (.agg #[.int .i64 k, .int .i64 v]) = some (itemLit k v) := by
  have c : Try.prog.cellsOf 74 = 2 := by kernel_rfl
  have hT : Try.prog.keyType 74 = true := by kernel_rfl
  have hf : (Value.agg #[.int .i64 k, .int .i64 v]).formed Try.prog 74 = true := by simp [Value.formed, Try.underlying74, c]
  have hs : ∃ d, Try.prog.types.size + 1 = d + 2 := ⟨Try.prog.types.size - 1, by have h : 0 < Try.prog.types.size := Nat.lt_of_le_of_lt (Nat.zero_le _) item_row; omega⟩
  obtain ⟨d, hd⟩ := hs
  have hl := item_lits d hk hv
  unfold keyOf
  rw [Try.underlying74, hT, hf, hd]
  simp only [Value.cells, Bool.and_self, if_true, hl, Option.map_some, itemLit]
theorem item_ne {k v k' v' : Int} (hk : okN k) (hv : okN v) (hk' : okN k') (hv' : okN v') (h : ¬ (k = k' ∧ v = v')) : itemLit k v ≠ itemLit k' v' := fun e => by
  have h1 := item_key hk hv
  rw [e] at h1
  have := item_law.inj h1 (item_key hk' hv')
  simp at this
  exact h this
theorem item_lit (k v : Int) : WideAt.IsKeyLit (itemLit k v) := trivial

/-! The map of who wrote what: of whole transactions, and of one's ops so far. -/
structure Wrs (D : DataW Unit) (l : List Gr.Tx) (i : Nat) (c : List Ev.Event) : Prop where
  has : ∀ k v, okN k → okN v → Maps.has D (itemLit k v) = So.wrote k v ((l.take i).flatMap (·.ops) ++ c)
  old : ∀ k v, okN k → okN v → ∀ m (hm : m < l.length), m < i → So.wrote k v l[m].ops = true → D.atKey (itemLit k v) (.lit (.int .i64 0)) = .lit (.int .i64 (m : Int))
  cur : ∀ k v, okN k → okN v → So.wrote k v c = true → D.atKey (itemLit k v) (.lit (.int .i64 0)) = .lit (.int .i64 (i : Int))
theorem Wrs.start (l : List Gr.Tx) : Wrs (.map []) l 0 [] := ⟨fun _ _ _ _ => rfl, fun _ _ _ _ _ _ h => absurd h (by omega), fun _ _ _ _ h => by cases h⟩
theorem wrote_append (k v : Int) (a b : List Ev.Event) : So.wrote k v (a ++ b) = (So.wrote k v a || So.wrote k v b) := by simp [So.wrote]
theorem wrote_one (k v : Int) (e : Ev.Event) : So.wrote k v [e] = So.isW k v e := by simp [So.wrote]
theorem isW_no {k v : Int} {e : Ev.Event} (h : ¬ (e.kind = 2 ∧ e.key = k ∧ e.value = v)) : So.isW k v e = false := by
  cases hq : So.isW k v e with
  | false => rfl
  | true => exact absurd ((So.isW_iff _ _ _).1 hq) h
section
variable {D : DataW Unit} {l : List Gr.Tx} {i : Nat} {c : List Ev.Event}
/-- An op that is no write. -/
theorem Wrs.pass (h : Wrs D l i c) (e : Ev.Event) (he : e.kind ≠ 2) : Wrs D l i (c ++ [e]) := by
  have hw : ∀ k v, So.wrote k v (c ++ [e]) = So.wrote k v c := fun k v => by rw [wrote_append, wrote_one, isW_no (fun q => he q.1), Bool.or_false]
  refine ⟨fun k v hk hv => ?_, h.old, fun k v hk hv hq => h.cur k v hk hv (by rw [← hw]; exact hq)⟩
  rw [h.has k v hk hv, wrote_append, wrote_append, hw]
/-- A write of what nobody wrote. -/
theorem Wrs.put (h : Wrs D l i c) (hD : IsMap D) (e : Ev.Event) (he : e.kind = 2) (hk0 : okN e.key) (hv0 : okN e.value) (hno : So.wrote e.key e.value ((l.take i).flatMap (·.ops) ++ c) = false) :
    Wrs (D.put (itemLit e.key e.value) (.lit (.int .i64 (i : Int)))) l i (c ++ [e]) := by
  have hoth : ∀ k v, ¬ (k = e.key ∧ v = e.value) → So.wrote k v (c ++ [e]) = So.wrote k v c := fun k v hq => by rw [wrote_append, wrote_one, isW_no (fun q => hq ⟨q.2.1.symm, q.2.2.symm⟩), Bool.or_false]
  rw [wrote_append] at hno
  have hno1 : So.wrote e.key e.value ((l.take i).flatMap (·.ops)) = false := by cases hq : So.wrote e.key e.value ((l.take i).flatMap (·.ops)) with | false => rfl | true => rw [hq] at hno; simp at hno
  refine ⟨fun k v hk hv => ?_, fun k v hk hv m hm hmi hw => ?_, fun k v hk hv hw => ?_⟩
  · by_cases q : k = e.key ∧ v = e.value
    · obtain ⟨rfl, rfl⟩ := q
      rw [Maps.has_put_same hD (item_lit _ _), wrote_append, wrote_append, wrote_one, (So.isW_iff _ _ _).2 ⟨he, rfl, rfl⟩]
      simp
    · rw [Maps.has_put_other (item_ne hk hv hk0 hv0 q), h.has k v hk hv, wrote_append, wrote_append, hoth k v q]
  · by_cases q : k = e.key ∧ v = e.value
    · obtain ⟨rfl, rfl⟩ := q
      have : So.wrote e.key e.value ((l.take i).flatMap (·.ops)) = true := by
        rw [So.wrote, List.any_eq_true] at hw ⊢
        obtain ⟨x, hx, hx2⟩ := hw
        refine ⟨x, List.mem_flatMap.2 ⟨l[m], ?_, hx⟩, hx2⟩
        rw [List.mem_take_iff_getElem]
        exact ⟨m, by omega, rfl⟩
      rw [this] at hno1
      cases hno1
    · rw [Maps.atKey_put_other (item_ne hk hv hk0 hv0 q)]
      exact h.old k v hk hv m hm hmi hw
  · by_cases q : k = e.key ∧ v = e.value
    · obtain ⟨rfl, rfl⟩ := q
      rw [Maps.atKey_put_same hD (item_lit _ _)]
    · rw [Maps.atKey_put_other (item_ne hk hv hk0 hv0 q)]
      exact h.cur k v hk hv (by rw [← hoth k v q]; exact hw)
/-- The next transaction. -/
theorem Wrs.next (hi : i < l.length) (h : Wrs D l i l[i].ops) : Wrs D l (i + 1) [] := by
  refine ⟨fun k v hk hv => ?_, fun k v hk hv m hm hmi hw => ?_, fun k v _ _ hq => by cases hq⟩
  · rw [h.has k v hk hv, List.append_nil, List.take_succ_eq_append_getElem hi, List.flatMap_append]
    simp
  · by_cases e : m = i
    · subst e
      exact h.cur k v hk hv hw
    · exact h.old k v hk hv m hm (by omega) hw
/-- Whose a value is, by the map. -/
theorem Wrs.who (h : Wrs D l l.length []) (k v : Int) (hk : okN k) (hv : okN v) :
    (Maps.has D (itemLit k v) = false ∧ So.fromGo k v 0 l = (0, 12)) ∨
    ∃ m, ∃ hm : m < l.length, Maps.has D (itemLit k v) = true ∧ D.atKey (itemLit k v) (.lit (.int .i64 0)) = .lit (.int .i64 (m : Int)) ∧ So.wrote k v l[m].ops = true ∧
      So.fromGo k v 0 l = if l[m].done = false then (0, 13) else if In.lastOf 2 k l[m].ops ≠ some v then (0, 14) else ((((l.take m).filter (·.done)).length : Int), 0) := by
  have hh := h.has k v hk hv
  rw [List.take_length, List.append_nil] at hh
  cases hq : So.wrote k v (l.flatMap (·.ops)) with
  | false =>
    refine .inl ⟨by rw [hh, hq], ?_⟩
    rw [So.from_number k v l l.length (Nat.le_refl _) (fun j hj _ => So.wrote_sub (fun x hx => List.mem_flatMap.2 ⟨_, List.getElem_mem hj, hx⟩) hq), So.from_end _ _ _ _ _ (Nat.le_refl _)]
  | true =>
    rw [So.wrote, List.any_eq_true] at hq
    obtain ⟨x, hx, hx2⟩ := hq
    obtain ⟨t, ht, hxt⟩ := List.mem_flatMap.1 hx
    obtain ⟨m, hm, rfl⟩ := List.getElem_of_mem ht
    have hw : So.wrote k v l[m].ops = true := by rw [So.wrote, List.any_eq_true]; exact ⟨x, hxt, hx2⟩
    have hat := h.old k v hk hv m hm hm hw
    refine .inr ⟨m, hm, ?_, hat, hw, ?_⟩
    · rw [hh, So.wrote, List.any_eq_true]
      exact ⟨x, hx, hx2⟩
    · rw [So.from_number k v l m (by omega) (fun j hj hjm => ?_), So.from_hit _ _ _ _ _ hm hw]
      cases hj2 : So.wrote k v l[j].ops with
      | false => rfl
      | true =>
        have := h.old k v hk hv j hj hj hj2
        rw [hat] at this
        simp at this
        omega
end

/-! Rows of faces. -/
def faC (x : (List (Int × Int) × List (Int × Int)) × Value × Value) : List Value := [x.2.1, x.2.2]
theorem faC_len (x : (List (Int × Int) × List (Int × Int)) × Value × Value) : (faC x).length = 2 := rfl
def Faces (w : World) (v : Value) (l : List (List (Int × Int) × List (Int × Int))) : Prop := ∃ p : List ((List (Int × Int) × List (Int × Int)) × Value × Value), p.map (·.1) = l ∧ Sl w 2 v p.length (p.flatMap faC) ∧ ∀ x ∈ p, Its w x.2.1 x.1.1 ∧ Its w x.2.2 x.1.2
theorem Faces.below {w w' : World} {v : Value} {l : List (List (Int × Int) × List (Int × Int))} (h : Faces w v l) (hb : Below w.heap.size w w') : Faces w' v l := by
  obtain ⟨p, h1, h2, h3⟩ := h
  exact ⟨p, h1, h2.below hb, fun x hx => ⟨(h3 x hx).1.below hb, (h3 x hx).2.below hb⟩⟩
structure FaIn (w : World) (ad : Addr) (k : Nat) (u v : Value) : Prop where
  c0 : w.cell? (ad.add (k * 2)) = some u
  c1 : w.cell? ⟨(ad.add (k * 2)).block, (ad.add (k * 2)).off + 1, none⟩ = some v
theorem FaIn.below {w w' : World} {ad : Addr} {k : Nat} {u v : Value} (h : FaIn w ad k u v) (hlt : ad.block < w.heap.size) (hb : Below w.heap.size w w') : FaIn w' ad k u v := by
  have e : ad.block = (ad.add (k * 2)).block := (add_block ad _).symm
  refine ⟨(hb.cell ?_).trans h.c0, (hb.cell ?_).trans h.c1⟩
  all_goals exact e ▸ hlt
theorem Faces.spelled {w : World} {v : Value} {l : List (List (Int × Int) × List (Int × Int))} (h : Faces w v l) : ∃ A c, v = .slice A l.length c ∧ ∀ (k : Nat) (hk : k < l.length), ∃ (ad : Addr) (x y : Value), A = some ad ∧ ad.block < w.heap.size ∧ FaIn w ad k x y ∧ Its w x l[k].1 ∧ Its w y l[k].2 := by
  obtain ⟨p, rfl, h2, h3⟩ := h
  obtain ⟨A, c, hv, hh⟩ := h2.form
  refine ⟨A, c, by rw [List.length_map]; exact hv, fun k hk => ?_⟩
  have hk' : k < p.length := by simpa using hk
  obtain ⟨ad, e, hb, hc⟩ := hh (by omega)
  have key : ∀ j u, (faC p[k])[j]? = some u → w.cell? (ad.add (k * 2 + j)) = some u := fun j u hu => by
    have hj : j < 2 := (List.getElem?_eq_some_iff.1 hu).1
    exact hc _ _ (by rw [flat_at faC_len p k hk' j hj]; exact hu)
  have hel : (p.map (·.1))[k] = p[k].1 := by simp
  obtain ⟨h4, h5⟩ := h3 _ (List.getElem_mem hk')
  refine ⟨ad, p[k].2.1, p[k].2.2, e, hb, ⟨key 0 _ rfl, ?_⟩, by rw [hel]; exact h4, by rw [hel]; exact h5⟩
  rw [add_more ad _ 1 (by omega)]
  exact key 1 _ rfl
/-- Such a row of the call's own. -/
structure OwnFaces (te ti : TypeId) (w : World) (base : Nat) (v : Value) (p : List ((List (Int × Int) × List (Int × Int)) × Value × Value)) : Prop where
  row : w.ownsRow base te 2 v p.length (p.flatMap faC)
  reads : ∀ x ∈ p, w.ownsRow base ti 2 x.2.1 x.1.1.length (x.1.1.flatMap itC)
  writes : ∀ x ∈ p, w.ownsRow base ti 2 x.2.2 x.1.2.length (x.1.2.flatMap itC)
section
variable {te ti : TypeId} {w : World} {base : Nat} {v : Value} {p : List ((List (Int × Int) × List (Int × Int)) × Value × Value)}
theorem OwnFaces.below {w' : World} (h : OwnFaces te ti w base v p) (hb : Below w.heap.size w w') : OwnFaces te ti w' base v p := ⟨own_below h.row hb, fun x hx => own_below (h.reads x hx) hb, fun x hx => own_below (h.writes x hx) hb⟩
theorem OwnFaces.faces (h : OwnFaces te ti w base v p) : Faces w v (p.map (·.1)) := ⟨p, rfl, Sl.own h.row, fun x hx => ⟨Rows'.own (h.reads x hx), Rows'.own (h.writes x hx)⟩⟩
theorem OwnFaces.form (h : OwnFaces te ti w base v p) (k : Nat) (hk : k < p.length) : ∃ g c, v = .slice (some ⟨g, 0, none⟩) p.length c ∧ w.cell? ⟨g, k * 2, none⟩ = some p[k].2.1 ∧ w.cell? ⟨g, k * 2 + 1, none⟩ = some p[k].2.2 ∧ w.frozen? ⟨g, k * 2, none⟩ = false ∧ w.frozen? ⟨g, k * 2 + 1, none⟩ = false ∧ base ≤ g ∧ g < w.heap.size := by
  rcases h.row.2 with ⟨_, h0⟩ | ⟨g, cap, cur, rfl, _⟩
  · omega
  · refine ⟨g, cap, rfl, ?_, ?_, h.row.frozenAt _, h.row.frozenAt _, (h.row.lt g rfl).1, (h.row.lt g rfl).2⟩
    · rw [h.row.cellAt _ (by omega)]
      have := flat_at faC_len p k hk 0 (by omega)
      rw [Nat.add_zero] at this
      rw [this]; rfl
    · rw [h.row.cellAt _ (by omega), flat_at faC_len p k hk 1 (by omega)]; rfl
/-- A face is laid into its place. -/
theorem OwnFaces.put {g c : Nat} (h : OwnFaces te ti w base (.slice (some ⟨g, 0, none⟩) p.length c) p) (k : Nat) (hk : k < p.length) (hne : te ≠ ti) (y : (List (Int × Int) × List (Int × Int)) × Value × Value)
    (hr : w.ownsRow base ti 2 y.2.1 y.1.1.length (y.1.1.flatMap itC)) (hw : w.ownsRow base ti 2 y.2.2 y.1.2.length (y.1.2.flatMap itC)) :
    OwnFaces te ti ((w.setCell ⟨g, k * 2, none⟩ y.2.1).setCell ⟨g, k * 2 + 1, none⟩ y.2.2) base (.slice (some ⟨g, 0, none⟩) p.length c) (p.set k y) := by
  obtain ⟨s1, g1⟩ := h.row.stored (k * 2) y.2.1
  obtain ⟨s2, g2⟩ := s1.stored (k * 2 + 1) y.2.2
  have keep : ∀ (u : Value) (q : List (Int × Int)), w.ownsRow base ti 2 u q.length (q.flatMap itC) → ((w.setCell ⟨g, k * 2, none⟩ y.2.1).setCell ⟨g, k * 2 + 1, none⟩ y.2.2).ownsRow base ti 2 u q.length (q.flatMap itC) := fun u q hu => by
    have h1 := hu.kept g1 (own_types hu h.row (fun e => hne e.symm))
    exact h1.kept g2 (own_types h1 s1 (fun e => hne e.symm))
  refine ⟨?_, fun x hx => ?_, fun x hx => ?_⟩
  · have e1 : (p.flatMap faC).set (k * 2) y.2.1 = (p.set k (p[k].1, y.2.1, p[k].2.2)).flatMap faC := by
      have := flat_set faC_len p k hk 0 (by omega) (p[k].1, y.2.1, p[k].2.2) y.2.1 rfl
      rw [Nat.add_zero] at this
      exact this
    have hk2 : k < (p.set k (p[k].1, y.2.1, p[k].2.2)).length := by rw [List.length_set]; exact hk
    have e2 : ((p.set k (p[k].1, y.2.1, p[k].2.2)).flatMap faC).set (k * 2 + 1) y.2.2 = (p.set k y).flatMap faC := by
      have := flat_set faC_len (p.set k (p[k].1, y.2.1, p[k].2.2)) k hk2 1 (by omega) y y.2.2 (by simp [faC])
      rw [List.set_set] at this
      exact this
    rw [e1, e2] at s2
    rw [List.length_set]
    exact s2
  · rcases mem_set_at hx with rfl | ⟨i, hi, _, rfl⟩
    · exact keep _ _ hr
    · exact keep _ _ (h.reads _ (List.getElem_mem hi))
  · rcases mem_set_at hx with rfl | ⟨i, hi, _, rfl⟩
    · exact keep _ _ hw
    · exact keep _ _ (h.writes _ (List.getElem_mem hi))
end
/-- Made cells, in twos. -/
theorem made_two (z : Value) (n : Nat) : (madeCells #[z, z] (n * 2)).toList = (List.replicate n (([], []), z, z)).flatMap faC := by
  have e1 : (madeCells #[z, z] (n * 2)).toList = List.replicate (n * 2) z := by
    apply List.ext_getElem?
    intro j
    rw [Array.getElem?_toList, List.getElem?_replicate]
    simp only [madeCells, Array.getElem?_map, Array.getElem?_range]
    split
    · have : j % 2 = 0 ∨ j % 2 = 1 := by omega
      rcases this with h | h <;> simp [h]
    · rfl
  rw [e1]
  induction n with
  | zero => rfl
  | succ n ih =>
    have ih' := ih (by
      apply List.ext_getElem?
      intro j
      rw [Array.getElem?_toList, List.getElem?_replicate]
      simp only [madeCells, Array.getElem?_map, Array.getElem?_range]
      split
      · have : j % 2 = 0 ∨ j % 2 = 1 := by omega
        rcases this with h | h <;> simp [h]
      · rfl)
    rw [List.replicate_succ (n := n), List.flatMap_cons, ← ih', Nat.succ_mul]
    rw [show n * 2 + 2 = (n * 2 + 1) + 1 by omega, List.replicate_succ, List.replicate_succ]
    rfl
/-- What a committed one shows, by transactions; and its number. -/
def faceT (t : Gr.Tx) : List (Int × Int) × List (Int × Int) := if t.done = true then (In.readsTo t.ops 16, In.writesTo t.ops 16) else ([], [])
def numsTo (l : List Gr.Tx) (n : Nat) : List Int := (List.range n).map fun i => (((l.take i).filter (·.done)).length : Int)
theorem numsTo_len (l : List Gr.Tx) (n : Nat) : (numsTo l n).length = n := by simp [numsTo]
theorem numsTo_at (l : List Gr.Tx) (n i : Nat) (hi : i < n) : (numsTo l n)[i]? = some (((l.take i).filter (·.done)).length : Int) := by simp [numsTo, hi]

/-! What reads are held against. -/
structure PastAt (w : World) (l : List Gr.Tx) (U : Value) (b : Nat) (F N : Value) : Prop where
  txs : Txs w U l
  map : ∃ n D, w.ownsMap Try.prog 74 (plainElem Try.prog 3) b n D ∧ Wrs D l l.length []
  faces : Faces w F (l.map faceT)
  nums : Ns w N (numsTo l l.length)
theorem PastAt.below {w w' : World} {l : List Gr.Tx} {U : Value} {b : Nat} {F N : Value} (h : PastAt w l U b F N) (hb : Below w.heap.size w w') : PastAt w' l U b F N := by
  obtain ⟨n, D, hm, hw⟩ := h.map
  exact ⟨h.txs.below hb, ⟨n, D, hm.kept (row := none) ⟨hb.os, hb.tape, hb.output, hb.size, fun k hk _ => hb.block k hk⟩ (by simp), hw⟩, h.faces.below hb, h.nums.below hb⟩
end Go.Proofs.Ytodahdnooidmaaa
