/-
  Several texts in one, each with its own first words: SoPlain, SoRight, SoRefP, HiMem, SoMem, SoWalkA, SoWalkB, SoWalkC, SoWalkD, SoWalkE.
  Conditions: as each says.
-/
import Derived.Test.YtpmimmaaeaifhaaDoorGrAll
import Derived.Test.YtpmimmaaeaifhaaDoorInAll
import Derived.DeepKeys4
/-
  Plain facts on whose a value is that is read (no Go in it): the history of transactions, or which one is wrong, and how; values are names alone; those that were given up play no part.
  Conditions: none beyond those that each theorem states.
-/
set_option maxRecDepth 4000
namespace Go.Proofs.YtpmimmaaeaifhaaDoor.So
open In (isK isK_iff lastOf lookR readsTo writesTo)

/-- Which op writes a value of a key; whether some op does. -/
def isW (key value : Int) (e : Ev.Event) : Bool := isK 2 key e && decide (e.value = value)
def wrote (key value : Int) (ops : List Ev.Event) : Bool := ops.any (isW key value)
theorem isW_iff (key value : Int) (e : Ev.Event) : isW key value e = true ↔ e.kind = 2 ∧ e.key = key ∧ e.value = value := by
  rw [isW, Bool.and_eq_true, isK_iff, decide_eq_true_eq, and_assoc]
/-- Whether a transaction may be looked at. -/
def mayT (t : Gr.Tx) : Bool := t.ops.all (fun e => Ev.right e && Ev.hasKey e.kind) && decide (0 ≤ t.session ∧ t.session < 8)
/-- What is wrong with a write, behind others; and with a row of ops. -/
def opBad (ahead : List Ev.Event) (e : Ev.Event) : Int := if e.kind ≠ 2 then 0 else if e.value = 0 then 7 else if wrote e.key e.value ahead = true then 8 else 0
def unlikeR (ahead : List Ev.Event) : List Ev.Event → Int
  | [] => 0
  | e :: r => if opBad ahead e ≠ 0 then opBad ahead e else unlikeR (ahead ++ [e]) r
/-- Whose a value is, n committed ones being ahead. -/
def fromGo (key value : Int) (n : Nat) : List Gr.Tx → Int × Int
  | [] => (0, 12)
  | t :: r => if wrote key value t.ops = true then (if t.done = false then (0, 13) else if lastOf 2 key t.ops ≠ some value then (0, 14) else ((n : Int), 0)) else fromGo key value (if t.done = true then n + 1 else n) r
def fromR (l : List Gr.Tx) (y : Int × Int) : Int × Int := if y.2 = 0 then (-1, 0) else fromGo y.1 y.2 0 l
/-- The first error of some reads. -/
def readsErr (l : List Gr.Tx) : List (Int × Int) → Int
  | [] => 0
  | y :: r => if (fromR l y).2 ≠ 0 then (fromR l y).2 else readsErr l r
structure Txn where
  session : Int
  writes : List Int
  reads : List (Int × Int)
def txnOf (l : List Gr.Tx) (t : Gr.Tx) : Txn := ⟨t.session, (writesTo t.ops 16).map (·.1), (readsTo t.ops 16).map fun y => (y.1, (fromR l y).1)⟩
/-- The four kinds of errors, by transactions. -/
def phaseT (l : List Gr.Tx) (p i : Nat) (t : Gr.Tx) : Int :=
  if p = 0 then (if mayT t = true then 0 else 1)
  else if p = 1 then unlikeR ((l.take i).flatMap (·.ops)) t.ops
  else if p = 2 then (if t.done = true then (lookR t.ops).2.2 else 0)
  else (if t.done = true then readsErr l (readsTo t.ops 16) else 0)
def phase (l : List Gr.Tx) (p i : Nat) : Int := match l[i]? with
  | some t => phaseT l p i t
  | none => 0
def firstNZ (f : Nat → Int) (n : Nat) : Option Nat := (List.range n).find? fun i => decide (f i ≠ 0)
def txns (l : List Gr.Tx) : List Txn := (l.filter (·.done)).map (txnOf l)
/-- P7.1, P7.2. -/
def histR (l : List Gr.Tx) : List Txn × Int × Int :=
  if 32 < l.length then ([], 0, 4)
  else match firstNZ (phase l 0) l.length with
    | some i => ([], (i : Int), phase l 0 i)
    | none => match firstNZ (phase l 1) l.length with
      | some i => ([], (i : Int), phase l 1 i)
      | none => match firstNZ (phase l 2) l.length with
        | some i => ([], (i : Int), phase l 2 i)
        | none => match firstNZ (phase l 3) l.length with
          | some i => ([], (i : Int), phase l 3 i)
          | none => (txns l, 0, 0)
end Go.Proofs.YtpmimmaaeaifhaaDoor.So
/-
  Plain facts on what a history tells (no Go in it): all that were committed, in order, each with rising keys, and reads from others that write that key, or from none.
  Conditions: none beyond those that each theorem states.
-/
set_option maxRecDepth 4000
namespace Go.Proofs.YtpmimmaaeaifhaaDoor.So
open In (isK isK_iff lastOf lookR readsTo writesTo rd wr errAt wrong future)

/-- Keys rise. -/
def Rises (ks : List Int) : Prop := (∀ k ∈ ks, 0 ≤ k ∧ k < 16) ∧ ks.Pairwise (· < ·)
end Go.Proofs.YtpmimmaaeaifhaaDoor.So
/-
  Plain facts for walks of layer 7, the reference's among them (no Go in it): each loop's step: writes counted, writes that are unlike, whose a value is, reads in their order.
  Conditions: none beyond those that each theorem states.
-/
set_option maxRecDepth 4000
namespace Go.Proofs.YtpmimmaaeaifhaaDoor.So
open In (isK isK_iff lastOf lookR readsTo writesTo rd wr)

end Go.Proofs.YtpmimmaaeaifhaaDoor.So
/-
  Words for histories in memory: rows of integers, and rows of transactions as a history has them (a session, the keys written, and the reads), how these last and grow.
  Conditions: none beyond those that each theorem states.
-/
set_option maxRecDepth 4000
namespace Go.Proofs.YtpmimmaaeaifhaaDoor
open Go.RowKit

/-! Rows of integers. -/
def nC (n : Int) : List Value := [.int .i64 n]
theorem nC_len (n : Int) : (nC n).length = 1 := rfl
theorem one_nC (n : Int) : ∀ u ∈ nC n, u.oneCell' = true := by
  intro u hu
  rw [List.mem_singleton.1 hu]
  rfl
def Ns (w : World) (v : Value) (l : List Int) : Prop := Rows' 1 nC w v l
theorem Ns.below {w w' : World} {v : Value} {l : List Int} (h : Ns w v l) (hb : Below w.heap.size w w') : Ns w' v l := Rows'.below h hb
theorem Ns.nil (w : World) (A : Option Addr) : Ns w (.slice A 0 0) [] := Rows'.nil w A
theorem Ns.none_ {w : World} {v : Value} {l : List Int} (h : Ns w v l) (hl : l = []) : ∃ A c, v = .slice A 0 c := Rows'.none_ h hl
theorem Ns.spelled {w : World} {v : Value} {l : List Int} (h : Ns w v l) : ∃ A c, v = .slice A l.length c ∧ ∀ (k : Nat) (hk : k < l.length), ∃ ad : Addr, A = some ad ∧ ad.block < w.heap.size ∧ w.cell? (ad.add k) = some (.int .i64 l[k]) := by
  obtain ⟨A, c, hv, hh⟩ := Rows'.form nC_len h
  refine ⟨A, c, hv, fun k hk => ?_⟩
  obtain ⟨ad, e, hb, hc⟩ := hh k hk
  refine ⟨ad, e, hb, ?_⟩
  have := hc 0 _ rfl
  rwa [Nat.mul_one, Nat.add_zero] at this

/-! Rows of transactions, as a history has them: the two rows of each lie elsewhere. -/
def txnC (x : So.Txn × Value × Value) : List Value := [.int .i64 x.1.session, x.2.1, x.2.2]
theorem txnC_len (x : So.Txn × Value × Value) : (txnC x).length = 3 := rfl
def Txns (w : World) (v : Value) (l : List So.Txn) : Prop := ∃ p : List (So.Txn × Value × Value), p.map (·.1) = l ∧ Sl w 3 v p.length (p.flatMap txnC) ∧ ∀ x ∈ p, Ns w x.2.1 x.1.writes ∧ Its w x.2.2 x.1.reads
theorem Txns.below {w w' : World} {v : Value} {l : List So.Txn} (h : Txns w v l) (hb : Below w.heap.size w w') : Txns w' v l := by
  obtain ⟨p, h1, h2, h3⟩ := h
  exact ⟨p, h1, h2.below hb, fun x hx => ⟨(h3 x hx).1.below hb, (h3 x hx).2.below hb⟩⟩
theorem Txns.nil (w : World) (A : Option Addr) : Txns w (.slice A 0 0) [] := ⟨[], rfl, Sl.nil w 3 A, fun x hx => by cases hx⟩
theorem Txns.none_ {w : World} {v : Value} {l : List So.Txn} (h : Txns w v l) (hl : l = []) : ∃ A c, v = .slice A 0 c := by
  obtain ⟨p, h1, h2, _⟩ := h
  subst hl
  have hp : p = [] := List.map_eq_nil_iff.1 h1
  subst hp
  obtain ⟨A, c, hv, _⟩ := h2.form
  exact ⟨A, c, hv⟩
/-- Element k, as the walk spells its cells' places. -/
structure TxnIn (w : World) (ad : Addr) (k : Nat) (t : So.Txn) (u v : Value) : Prop where
  c0 : w.cell? (ad.add (k * 3)) = some (.int .i64 t.session)
  c1 : w.cell? ⟨(ad.add (k * 3)).block, (ad.add (k * 3)).off + 1, none⟩ = some u
  c2 : w.cell? ⟨(ad.add (k * 3)).block, (ad.add (k * 3)).off + 2, none⟩ = some v
theorem TxnIn.below {w w' : World} {ad : Addr} {k : Nat} {t : So.Txn} {u v : Value} (h : TxnIn w ad k t u v) (hlt : ad.block < w.heap.size) (hb : Below w.heap.size w w') : TxnIn w' ad k t u v := by
  have e : ad.block = (ad.add (k * 3)).block := (add_block ad _).symm
  refine ⟨(hb.cell ?_).trans h.c0, (hb.cell ?_).trans h.c1, (hb.cell ?_).trans h.c2⟩
  all_goals exact e ▸ hlt
theorem Txns.spelled {w : World} {v : Value} {l : List So.Txn} (h : Txns w v l) : ∃ A c, v = .slice A l.length c ∧ ∀ (k : Nat) (hk : k < l.length), ∃ (ad : Addr) (x y : Value), A = some ad ∧ ad.block < w.heap.size ∧ TxnIn w ad k l[k] x y ∧ Ns w x l[k].writes ∧ Its w y l[k].reads := by
  obtain ⟨p, rfl, h2, h3⟩ := h
  obtain ⟨A, c, hv, hh⟩ := h2.form
  refine ⟨A, c, by rw [List.length_map]; exact hv, fun k hk => ?_⟩
  have hk' : k < p.length := by simpa using hk
  obtain ⟨ad, e, hb, hc⟩ := hh (by omega)
  have key : ∀ j u, (txnC p[k])[j]? = some u → w.cell? (ad.add (k * 3 + j)) = some u := fun j u hu => by
    have hj : j < 3 := (List.getElem?_eq_some_iff.1 hu).1
    exact hc _ _ (by rw [flat_at txnC_len p k hk' j hj]; exact hu)
  have hel : (p.map (·.1))[k] = p[k].1 := by simp
  obtain ⟨h4, h5⟩ := h3 _ (List.getElem_mem hk')
  refine ⟨ad, p[k].2.1, p[k].2.2, e, hb, ?_, by rw [hel]; exact h4, by rw [hel]; exact h5⟩
  rw [hel]
  refine ⟨key 0 _ rfl, ?_, ?_⟩
  · rw [add_more ad _ 1 (by omega)]; exact key 1 _ rfl
  · rw [add_more ad _ 2 (by omega)]; exact key 2 _ rfl
/-- Such a row of the call's own, its elements' rows too: te, ti, tk are the elements' types of the three. -/
structure OwnTxns (te ti tk : TypeId) (w : World) (base : Nat) (v : Value) (p : List (So.Txn × Value × Value)) : Prop where
  row : w.ownsRow base te 3 v p.length (p.flatMap txnC)
  writes : ∀ x ∈ p, w.ownsRow base ti 1 x.2.1 x.1.writes.length (x.1.writes.flatMap nC)
  reads : ∀ x ∈ p, w.ownsRow base tk 2 x.2.2 x.1.reads.length (x.1.reads.flatMap itC)
section
variable {te ti tk : TypeId} {w : World} {base : Nat} {v : Value} {p : List (So.Txn × Value × Value)}
theorem OwnTxns.nil (te ti tk : TypeId) (w : World) (base : Nat) : OwnTxns te ti tk w base (.slice none 0 0) [] := ⟨World.ownsRow_nil _ _ _ _, fun _ hx => (List.not_mem_nil hx).elim, fun _ hx => (List.not_mem_nil hx).elim⟩
theorem OwnTxns.below {w' : World} (h : OwnTxns te ti tk w base v p) (hb : Below w.heap.size w w') : OwnTxns te ti tk w' base v p := ⟨own_below h.row hb, fun x hx => own_below (h.writes x hx) hb, fun x hx => own_below (h.reads x hx) hb⟩
theorem OwnTxns.drewN (h : OwnTxns te ti tk w base v p) (k : Nat) : OwnTxns te ti tk (w.drewN k) base v p := ⟨own_drewN h.row k, fun x hx => own_drewN (h.writes x hx) k, fun x hx => own_drewN (h.reads x hx) k⟩
theorem OwnTxns.txns (h : OwnTxns te ti tk w base v p) : Txns w v (p.map (·.1)) := ⟨p, rfl, Sl.own h.row, fun x hx => ⟨Rows'.own (h.writes x hx), Rows'.own (h.reads x hx)⟩⟩
/-- One more, behind an append onto the row. -/
theorem OwnTxns.snoc {w' : World} {v' : Value} {x : So.Txn × Value × Value} (h : OwnTxns te ti tk w base v p) (hi : te ≠ ti) (hk : te ≠ tk) (hw : w.ownsRow base ti 1 x.2.1 x.1.writes.length (x.1.writes.flatMap nC)) (hr : w.ownsRow base tk 2 x.2.2 x.1.reads.length (x.1.reads.flatMap itC))
    (hrow : w'.ownsRow base te 3 v' (p.length + 1) (p.flatMap txnC ++ txnC x)) (hg : w.grownBy w' v.ownBlock) : OwnTxns te ti tk w' base v' (p ++ [x]) := by
  have kw : ∀ y : So.Txn × Value × Value, w.ownsRow base ti 1 y.2.1 y.1.writes.length (y.1.writes.flatMap nC) → w'.ownsRow base ti 1 y.2.1 y.1.writes.length (y.1.writes.flatMap nC) := fun y hy => hy.kept hg (own_types hy h.row (fun e => hi e.symm))
  have kr : ∀ y : So.Txn × Value × Value, w.ownsRow base tk 2 y.2.2 y.1.reads.length (y.1.reads.flatMap itC) → w'.ownsRow base tk 2 y.2.2 y.1.reads.length (y.1.reads.flatMap itC) := fun y hy => hy.kept hg (own_types hy h.row (fun e => hk e.symm))
  refine ⟨Rows'.own_snoc hrow, fun y hy => ?_, fun y hy => ?_⟩
  · rcases List.mem_append.1 hy with hy | hy
    · exact kw y (h.writes y hy)
    · rw [List.mem_singleton.1 hy]; exact kw x hw
  · rcases List.mem_append.1 hy with hy | hy
    · exact kr y (h.reads y hy)
    · rw [List.mem_singleton.1 hy]; exact kr x hr
end
end Go.Proofs.YtpmimmaaeaifhaaDoor
/-
  Words for layer 7 in memory: items as keys of a map, the map of who wrote what, rows of faces, rows of numbers of a call's own, and all that reads are held against; how these last and are written.
  Conditions: none beyond those that each theorem states.
  (This program has not all of these functions: item_row, item_wide, item_law, item_lits, item_key, item_ne, Wrs.put, PastAt, PastAt.below are left out here.)
-/
set_option maxRecDepth 4000
namespace Go.Proofs.YtpmimmaaeaifhaaDoor
open Go.RowKit
open Go.Maps (Keyed IsMap)

def okN (n : Int) : Prop := (Lit.int .i64 n).wf = true
def itemLit (k v : Int) : Lit := .string (keyBytes [.int .i64 k, .int .i64 v])
/-! The map of who wrote what: of whole transactions, and of one's ops so far. -/
structure Wrs (D : DataW Unit) (l : List Gr.Tx) (i : Nat) (c : List Ev.Event) : Prop where
  has : ∀ k v, okN k → okN v → Maps.has D (itemLit k v) = So.wrote k v ((l.take i).flatMap (·.ops) ++ c)
  old : ∀ k v, okN k → okN v → ∀ m (hm : m < l.length), m < i → So.wrote k v l[m].ops = true → D.atKey (itemLit k v) (.lit (.int .i64 0)) = .lit (.int .i64 (m : Int))
  cur : ∀ k v, okN k → okN v → So.wrote k v c = true → D.atKey (itemLit k v) (.lit (.int .i64 0)) = .lit (.int .i64 (i : Int))
theorem Wrs.start (l : List Gr.Tx) : Wrs (.map []) l 0 [] := ⟨fun _ _ _ _ => rfl, fun _ _ _ _ _ _ h => absurd h (by omega), fun _ _ _ _ h => by cases h⟩
theorem wrote_append (k v : Int) (a b : List Ev.Event) : So.wrote k v (a ++ b) = (So.wrote k v a || So.wrote k v b) := by simp [So.wrote]
theorem wrote_one (k v : Int) (e : Ev.Event) : So.wrote k v [e] = So.isW k v e := by simp [So.wrote]
theorem isW_no {k v : Int} {e : Ev.Event} (h : ¬ (e.kind = 2 ∧ e.key = k ∧ e.value = v)) : So.isW k v e = false := by
  cases hq : So.isW k v e with
  | false => rfl
  | true => exact absurd ((So.isW_iff _ _ _).1 hq) h
section
variable {D : DataW Unit} {l : List Gr.Tx} {i : Nat} {c : List Ev.Event}
/-- An op that is no write. -/
theorem Wrs.pass (h : Wrs D l i c) (e : Ev.Event) (he : e.kind ≠ 2) : Wrs D l i (c ++ [e]) := by
  have hw : ∀ k v, So.wrote k v (c ++ [e]) = So.wrote k v c := fun k v => by rw [wrote_append, wrote_one, isW_no (fun q => he q.1), Bool.or_false]
  refine ⟨fun k v hk hv => ?_, h.old, fun k v hk hv hq => h.cur k v hk hv (by rw [← hw]; exact hq)⟩
  rw [h.has k v hk hv, wrote_append, wrote_append, hw]
/-- The next transaction. -/
theorem Wrs.next (hi : i < l.length) (h : Wrs D l i l[i].ops) : Wrs D l (i + 1) [] := by
  refine ⟨fun k v hk hv => ?_, fun k v hk hv m hm hmi hw => ?_, fun k v _ _ hq => by cases hq⟩
  · rw [h.has k v hk hv, List.append_nil, List.take_succ_eq_append_getElem hi, List.flatMap_append]
    simp
  · by_cases e : m = i
    · subst e
      exact h.cur k v hk hv hw
    · exact h.old k v hk hv m hm (by omega) hw
end

/-! Rows of faces. -/
def faC (x : (List (Int × Int) × List (Int × Int)) × Value × Value) : List Value := [x.2.1, x.2.2]
theorem faC_len (x : (List (Int × Int) × List (Int × Int)) × Value × Value) : (faC x).length = 2 := rfl
def Faces (w : World) (v : Value) (l : List (List (Int × Int) × List (Int × Int))) : Prop := ∃ p : List ((List (Int × Int) × List (Int × Int)) × Value × Value), p.map (·.1) = l ∧ Sl w 2 v p.length (p.flatMap faC) ∧ ∀ x ∈ p, Its w x.2.1 x.1.1 ∧ Its w x.2.2 x.1.2
theorem Faces.below {w w' : World} {v : Value} {l : List (List (Int × Int) × List (Int × Int))} (h : Faces w v l) (hb : Below w.heap.size w w') : Faces w' v l := by
  obtain ⟨p, h1, h2, h3⟩ := h
  exact ⟨p, h1, h2.below hb, fun x hx => ⟨(h3 x hx).1.below hb, (h3 x hx).2.below hb⟩⟩
structure FaIn (w : World) (ad : Addr) (k : Nat) (u v : Value) : Prop where
  c0 : w.cell? (ad.add (k * 2)) = some u
  c1 : w.cell? ⟨(ad.add (k * 2)).block, (ad.add (k * 2)).off + 1, none⟩ = some v
theorem FaIn.below {w w' : World} {ad : Addr} {k : Nat} {u v : Value} (h : FaIn w ad k u v) (hlt : ad.block < w.heap.size) (hb : Below w.heap.size w w') : FaIn w' ad k u v := by
  have e : ad.block = (ad.add (k * 2)).block := (add_block ad _).symm
  refine ⟨(hb.cell ?_).trans h.c0, (hb.cell ?_).trans h.c1⟩
  all_goals exact e ▸ hlt
theorem Faces.spelled {w : World} {v : Value} {l : List (List (Int × Int) × List (Int × Int))} (h : Faces w v l) : ∃ A c, v = .slice A l.length c ∧ ∀ (k : Nat) (hk : k < l.length), ∃ (ad : Addr) (x y : Value), A = some ad ∧ ad.block < w.heap.size ∧ FaIn w ad k x y ∧ Its w x l[k].1 ∧ Its w y l[k].2 := by
  obtain ⟨p, rfl, h2, h3⟩ := h
  obtain ⟨A, c, hv, hh⟩ := h2.form
  refine ⟨A, c, by rw [List.length_map]; exact hv, fun k hk => ?_⟩
  have hk' : k < p.length := by simpa using hk
  obtain ⟨ad, e, hb, hc⟩ := hh (by omega)
  have key : ∀ j u, (faC p[k])[j]? = some u → w.cell? (ad.add (k * 2 + j)) = some u := fun j u hu => by
    have hj : j < 2 := (List.getElem?_eq_some_iff.1 hu).1
    exact hc _ _ (by rw [flat_at faC_len p k hk' j hj]; exact hu)
  have hel : (p.map (·.1))[k] = p[k].1 := by simp
  obtain ⟨h4, h5⟩ := h3 _ (List.getElem_mem hk')
  refine ⟨ad, p[k].2.1, p[k].2.2, e, hb, ⟨key 0 _ rfl, ?_⟩, by rw [hel]; exact h4, by rw [hel]; exact h5⟩
  rw [add_more ad _ 1 (by omega)]
  exact key 1 _ rfl
/-- Such a row of the call's own. -/
structure OwnFaces (te ti : TypeId) (w : World) (base : Nat) (v : Value) (p : List ((List (Int × Int) × List (Int × Int)) × Value × Value)) : Prop where
  row : w.ownsRow base te 2 v p.length (p.flatMap faC)
  reads : ∀ x ∈ p, w.ownsRow base ti 2 x.2.1 x.1.1.length (x.1.1.flatMap itC)
  writes : ∀ x ∈ p, w.ownsRow base ti 2 x.2.2 x.1.2.length (x.1.2.flatMap itC)
section
variable {te ti : TypeId} {w : World} {base : Nat} {v : Value} {p : List ((List (Int × Int) × List (Int × Int)) × Value × Value)}
theorem OwnFaces.below {w' : World} (h : OwnFaces te ti w base v p) (hb : Below w.heap.size w w') : OwnFaces te ti w' base v p := ⟨own_below h.row hb, fun x hx => own_below (h.reads x hx) hb, fun x hx => own_below (h.writes x hx) hb⟩
theorem OwnFaces.form (h : OwnFaces te ti w base v p) (k : Nat) (hk : k < p.length) : ∃ g c, v = .slice (some ⟨g, 0, none⟩) p.length c ∧ w.cell? ⟨g, k * 2, none⟩ = some p[k].2.1 ∧ w.cell? ⟨g, k * 2 + 1, none⟩ = some p[k].2.2 ∧ w.frozen? ⟨g, k * 2, none⟩ = false ∧ w.frozen? ⟨g, k * 2 + 1, none⟩ = false ∧ base ≤ g ∧ g < w.heap.size := by
  rcases h.row.2 with ⟨_, h0⟩ | ⟨g, cap, cur, rfl, _⟩
  · omega
  · refine ⟨g, cap, rfl, ?_, ?_, h.row.frozenAt _, h.row.frozenAt _, (h.row.lt g rfl).1, (h.row.lt g rfl).2⟩
    · rw [h.row.cellAt _ (by omega)]
      have := flat_at faC_len p k hk 0 (by omega)
      rw [Nat.add_zero] at this
      rw [this]; rfl
    · rw [h.row.cellAt _ (by omega), flat_at faC_len p k hk 1 (by omega)]; rfl
/-- A face is laid into its place. -/
theorem OwnFaces.put {g c : Nat} (h : OwnFaces te ti w base (.slice (some ⟨g, 0, none⟩) p.length c) p) (k : Nat) (hk : k < p.length) (hne : te ≠ ti) (y : (List (Int × Int) × List (Int × Int)) × Value × Value)
    (hr : w.ownsRow base ti 2 y.2.1 y.1.1.length (y.1.1.flatMap itC)) (hw : w.ownsRow base ti 2 y.2.2 y.1.2.length (y.1.2.flatMap itC)) :
    OwnFaces te ti ((w.setCell ⟨g, k * 2, none⟩ y.2.1).setCell ⟨g, k * 2 + 1, none⟩ y.2.2) base (.slice (some ⟨g, 0, none⟩) p.length c) (p.set k y) := by
  obtain ⟨s1, g1⟩ := h.row.stored (k * 2) y.2.1
  obtain ⟨s2, g2⟩ := s1.stored (k * 2 + 1) y.2.2
  have keep : ∀ (u : Value) (q : List (Int × Int)), w.ownsRow base ti 2 u q.length (q.flatMap itC) → ((w.setCell ⟨g, k * 2, none⟩ y.2.1).setCell ⟨g, k * 2 + 1, none⟩ y.2.2).ownsRow base ti 2 u q.length (q.flatMap itC) := fun u q hu => by
    have h1 := hu.kept g1 (own_types hu h.row (fun e => hne e.symm))
    exact h1.kept g2 (own_types h1 s1 (fun e => hne e.symm))
  refine ⟨?_, fun x hx => ?_, fun x hx => ?_⟩
  · have e1 : (p.flatMap faC).set (k * 2) y.2.1 = (p.set k (p[k].1, y.2.1, p[k].2.2)).flatMap faC := by
      have := flat_set faC_len p k hk 0 (by omega) (p[k].1, y.2.1, p[k].2.2) y.2.1 rfl
      rw [Nat.add_zero] at this
      exact this
    have hk2 : k < (p.set k (p[k].1, y.2.1, p[k].2.2)).length := by rw [List.length_set]; exact hk
    have e2 : ((p.set k (p[k].1, y.2.1, p[k].2.2)).flatMap faC).set (k * 2 + 1) y.2.2 = (p.set k y).flatMap faC := by
      have := flat_set faC_len (p.set k (p[k].1, y.2.1, p[k].2.2)) k hk2 1 (by omega) y y.2.2 (by simp [faC])
      rw [List.set_set] at this
      exact this
    rw [e1, e2] at s2
    rw [List.length_set]
    exact s2
  · rcases mem_set_at hx with rfl | ⟨i, hi, _, rfl⟩
    · exact keep _ _ hr
    · exact keep _ _ (h.reads _ (List.getElem_mem hi))
  · rcases mem_set_at hx with rfl | ⟨i, hi, _, rfl⟩
    · exact keep _ _ hw
    · exact keep _ _ (h.writes _ (List.getElem_mem hi))
end
end Go.Proofs.YtpmimmaaeaifhaaDoor
/-
  What source's small functions answer: isOp, checkOps, numbersOf, keysOf, and slices.Index and slices.Contains over items; what was in memory stays as it was.
  Conditions: a row has at most 2^32 elements.
  (This program has not all of these functions: soIsOp_at, checkOps_at, keysOf_at, itIndex_at, contains_at, soNumbers_at are left out here.)
-/
set_option maxRecDepth 4000
namespace Go.Proofs.YtpmimmaaeaifhaaDoor
open Go.RowKit

namespace So
end So
/-- Two numbers, in whatever memory was made. -/
def RetTwo (w : World) (r : Int × Int) (e : Ending) (w' : World) : Prop := e = .returned (.tuple #[.int .i64 r.1, .int .i64 r.2]) ∧ Below w.heap.size w w'
/-! Numbers, keys, items. -/
theorem int_info : (Tryd.prog.info? 3).map (fun i => (i.zero, i.size, i.bytes)) = some (some (.int .i64 0), 1, 8) := by kernel_rfl
/-- A row of numbers of the call's own. -/
def RetNs (w : World) (l : List Int) (e : Ending) (w' : World) : Prop := ∃ v, e = .returned v ∧ w'.ownsRow w.heap.size 3 1 v l.length (l.flatMap nC) ∧ Below w.heap.size w w'
theorem new_nC (w : World) (n : Int) (e : TypeId) : ∀ j u, (nC n)[j]? = some u → (w.alloc (.cells #[.int .i64 n] e)).cell? ((⟨w.heap.size, 0, none⟩ : Addr).add j) = some u := new_row w (nC n) e
end Go.Proofs.YtpmimmaaeaifhaaDoor
/-
  What source.facesOf and source.writersOf answer: the first error of their kind with its place, else the faces of the committed ones, and the map of who wrote what; what was in memory stays as it was.
  Conditions: a row has at most 2^32 elements; writersOf: at most 32 transactions, whose ops may all be.
  (This program has not all of these functions: face_info, FacesMid, FacesMid.later, FacesMid.put, facesOf_at, RetWriters, RetWriters.mk, WrMid, WrMid.later, writersOf_at are left out here.)
-/
set_option maxRecDepth 4000
namespace Go.Proofs.YtpmimmaaeaifhaaDoor
open Go.RowKit

theorem Wrs.found {D : DataW Unit} {l : List Gr.Tx} {i : Nat} {c : List Ev.Event} (h : Wrs D l i c) (hi : i ≤ l.length) (k v : Int) (hk : okN k) (hv : okN v) (hw : So.wrote k v ((l.take i).flatMap (·.ops) ++ c) = true) : ∃ m : Nat, D.atKey (itemLit k v) (.lit (.int .i64 0)) = .lit (.int .i64 (m : Int)) := by
  rw [wrote_append] at hw
  cases hc : So.wrote k v c with
  | true => exact ⟨i, h.cur k v hk hv hc⟩
  | false =>
    rw [hc, Bool.or_false, So.wrote, List.any_eq_true] at hw
    obtain ⟨x, hx, hx2⟩ := hw
    obtain ⟨t, ht, hxt⟩ := List.mem_flatMap.1 hx
    obtain ⟨m, hm, rfl⟩ := List.mem_take_iff_getElem.1 ht
    exact ⟨m, h.old k v hk hv m (by omega) (by omega) (by rw [So.wrote, List.any_eq_true]; exact ⟨x, hxt, hx2⟩)⟩
end Go.Proofs.YtpmimmaaeaifhaaDoor
/-
  What source's methods writer and takes answer: whose a value is that is read (So.fromR), and the reads of a face with those who wrote them, or the first error; what was in memory stays as it was.
  Conditions: a row has at most 2^32 elements; keys are 0 to 15, values numbers of their kind.
  (This program has not all of these functions: writer_at, RetTakes, RetTakes.mk, take_info, takes_at are left out here.)
-/
set_option maxRecDepth 4000
namespace Go.Proofs.YtpmimmaaeaifhaaDoor
open Go.RowKit

/-- A variable of four cells. -/
def Four (w : World) (b : Nat) (x0 x1 x2 x3 : Value) : Prop := w.cell? ⟨b, 0, none⟩ = some x0 ∧ w.cell? ⟨b, 1, none⟩ = some x1 ∧ w.cell? ⟨b, 2, none⟩ = some x2 ∧ w.cell? ⟨b, 3, none⟩ = some x3
theorem Four.below {w w' : World} {b : Nat} {x0 x1 x2 x3 : Value} (h : Four w b x0 x1 x2 x3) (hlt : b < w.heap.size) (hb : Below w.heap.size w w') : Four w' b x0 x1 x2 x3 :=
  ⟨(hb.cell hlt).trans h.1, (hb.cell hlt).trans h.2.1, (hb.cell hlt).trans h.2.2.1, (hb.cell hlt).trans h.2.2.2⟩
theorem Four.grown {w w' : World} {b : Nat} {x0 x1 x2 x3 : Value} {row : Option Nat} (h : Four w b x0 x1 x2 x3) (hg : w.grownBy w' row) (hne : some b ≠ row) : Four w' b x0 x1 x2 x3 :=
  ⟨hg.cell h.1 hne, hg.cell h.2.1 hne, hg.cell h.2.2.1 hne, hg.cell h.2.2.2 hne⟩
end Go.Proofs.YtpmimmaaeaifhaaDoor
/-
  What source's method history and source.Hist answer: So.histR, the history of any transactions, or which one is wrong, and how; what was in memory stays as it was.
  Conditions: a row has at most 2^32 elements.
  (This program has not all of these functions: txn_info, HistMid, HistMid.lt, HistMid.later, hist_start, HistMid.skip, HistMid.more, HistMid.far, results_hist, results_hist9, RetHistOwn, RetHistOwn.ret, end_hist, end_hist9, history_at are left out here.)
-/
set_option maxRecDepth 4000
namespace Go.Proofs.YtpmimmaaeaifhaaDoor
open Go.RowKit

namespace So
end So
theorem OwnTxns.set {te ti tk : TypeId} {w : World} {base : Nat} {v : Value} {p : List (So.Txn × Value × Value)} (h : OwnTxns te ti tk w base v p) {a : Addr} (ha : a.block < base) (u : Value) : OwnTxns te ti tk (w.setCell a u) base v p :=
  ⟨ownsRow_setCell_below h.row ha u, fun x hx => ownsRow_setCell_below (h.writes x hx) ha u, fun x hx => ownsRow_setCell_below (h.reads x hx) ha u⟩
section
variable {w wr w' : World} {l : List Gr.Tx} {k : Nat} {U : Value} {b : Nat} {F N V : Value} {p : List (So.Txn × Value × Value)}
end
theorem own_any {w : World} {base size n : Nat} {e : TypeId} {v : Value} {xs : List Value} (h : w.ownsRow base e size v n xs) : ∃ A m c, v = .slice A m c := by
  obtain ⟨A, c, e⟩ := own_form h
  exact ⟨A, n, c, e⟩
theorem OwnTxns.mono {te ti tk : TypeId} {w : World} {base base' : Nat} {v : Value} {p : List (So.Txn × Value × Value)} (h : OwnTxns te ti tk w base v p) (hb : base' ≤ base) : OwnTxns te ti tk w base' v p :=
  ⟨h.row.mono hb, fun x hx => (h.writes x hx).mono hb, fun x hx => (h.reads x hx).mono hb⟩
/-- What the last step of a round reads. -/
def HeldAt (B n : Nat) (ad : Addr) (k : Nat) (s F Y : Value) (w : World) : Prop := w.cell? ⟨n, 0, none⟩ = some s ∧ w.cell? ⟨B, 2, none⟩ = some F ∧ w.cell? ⟨(ad.add (k * 2)).block, (ad.add (k * 2)).off + 1, none⟩ = some Y
theorem HeldAt.on {B n : Nat} {ad : Addr} {k : Nat} {s F Y : Value} {w w' : World} {row : Option Nat} (h : HeldAt B n ad k s F Y w) (hg : w.grownBy w' row) (h2 : some n ≠ row) (h3 : some B ≠ row) (h4 : some ad.block ≠ row) : HeldAt B n ad k s F Y w' :=
  ⟨hg.cell h.1 h2, hg.cell h.2.1 h3, hg.cell h.2.2 (by rw [add_block]; exact h4)⟩
theorem HeldAt.below {B n : Nat} {ad : Addr} {k : Nat} {s F Y : Value} {w w' : World} (h : HeldAt B n ad k s F Y w) (hb : Below w.heap.size w w') : HeldAt B n ad k s F Y w' :=
  h.on (row := none) ⟨hb.os, hb.tape, hb.output, hb.size, fun k hk _ => hb.block k hk⟩ (by simp) (by simp) (by simp)
theorem HeldAt.set {B n : Nat} {ad : Addr} {k : Nat} {s F Y : Value} {w : World} (h : HeldAt B n ad k s F Y w) (j : Nat) (u : Value) (h2 : n ≠ j) (h3 : B ≠ j) (h4 : ad.block ≠ j) : HeldAt B n ad k s F Y (w.setCell ⟨j, 0, none⟩ u) :=
  ⟨(far_cell h2).trans h.1, (far_cell h3).trans h.2.1, (far_cell (by rw [add_block]; exact h4)).trans h.2.2⟩
end Go.Proofs.YtpmimmaaeaifhaaDoor
/-
  What source.Hist answers: So.histR, the history of any transactions, or which one is wrong, and how; what was in memory stays as it was.
  Conditions: a row of ops has at most 2^32 elements.
  (This program has not all of these functions: HistRes, HistRes.start, HistRes.later, hist_no, hist_own, hist_at are left out here.)
-/
set_option maxRecDepth 4000
namespace Go.Proofs.YtpmimmaaeaifhaaDoor
open Go.RowKit

end Go.Proofs.YtpmimmaaeaifhaaDoor
