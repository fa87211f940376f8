/-
  Words for histories in memory: rows of integers, and rows of transactions as a history has them (a session, the keys written, and the reads), how these last and grow.
  Conditions: none beyond those that each theorem states.
-/
import Derived.Test.YtodahdnooidmaaaInAll
import Derived.Test.YtodahdnooidmaaaSoPlain
import Derived.Test.YtodahdnooidmaaaGrAll
set_option maxRecDepth 4000
namespace Go.Proofs.Ytodahdnooidmaaa
open Go.RowKit

/-! Rows of integers. -/
def nC (n : Int) : List Value := [.int .i64 n]
theorem nC_len (n : Int) : (nC n).length = 1 := rfl
theorem one_nC (n : Int) : ∀ u ∈ nC n, u.oneCell' = true := by
  intro u hu
  rw [List.mem_singleton.1 hu]
  rfl
def Ns (w : World) (v : Value) (l : List Int) : Prop := Rows' 1 nC w v l
theorem Ns.below {w w' : World} {v : Value} {l : List Int} (h : Ns w v l) (hb : Below w.heap.size w w') : Ns w' v l := Rows'.below h hb
theorem Ns.nil (w : World) (A : Option Addr) : Ns w (.slice A 0 0) [] := Rows'.nil w A
theorem Ns.none_ {w : World} {v : Value} {l : List Int} (h : Ns w v l) (hl : l = []) : ∃ A c, v = .slice A 0 c := Rows'.none_ h hl
theorem Ns.spelled {w : World} {v : Value} {l : List Int} (h : Ns w v l) : ∃ A c, v = .slice A l.length c ∧ ∀ (k : Nat) (hk : k < l.length), ∃ ad : Addr, A = some ad ∧ ad.block < w.heap.size ∧ w.cell? (ad.add k) = some (.int .i64 l[k]) := by
  obtain ⟨A, c, hv, hh⟩ := Rows'.form nC_len h
  refine ⟨A, c, hv, fun k hk => ?_⟩
  obtain ⟨ad, e, hb, hc⟩ := hh k hk
  refine ⟨ad, e, hb, ?_⟩
  have := hc 0 _ rfl
  rwa [Nat.mul_one, Nat.add_zero] at this

/-! Rows of transactions, as a history has them: the two rows of each lie elsewhere. -/
def txnC (x : So.Txn × Value × Value) : List Value := [.int .i64 x.1.session, x.2.1, x.2.2]
theorem txnC_len (x : So.Txn × Value × Value) : (txnC x).length = 3 := rfl
theorem one_txnC (t : So.Txn) (A B : Option Addr) (n m c d : Nat) : ∀ u ∈ txnC (t, .slice A n c, .slice B m d), u.oneCell' = true := by
  intro u hu
  simp only [txnC, List.mem_cons, List.not_mem_nil, or_false] at hu
  rcases hu with rfl | rfl | rfl
  all_goals rfl
def Txns (w : World) (v : Value) (l : List So.Txn) : Prop := ∃ p : List (So.Txn × Value × Value), p.map (·.1) = l ∧ Sl w 3 v p.length (p.flatMap txnC) ∧ ∀ x ∈ p, Ns w x.2.1 x.1.writes ∧ Its w x.2.2 x.1.reads
theorem Txns.below {w w' : World} {v : Value} {l : List So.Txn} (h : Txns w v l) (hb : Below w.heap.size w w') : Txns w' v l := by
  obtain ⟨p, h1, h2, h3⟩ := h
  exact ⟨p, h1, h2.below hb, fun x hx => ⟨(h3 x hx).1.below hb, (h3 x hx).2.below hb⟩⟩
theorem Txns.nil (w : World) (A : Option Addr) : Txns w (.slice A 0 0) [] := ⟨[], rfl, Sl.nil w 3 A, fun x hx => by cases hx⟩
theorem Txns.none_ {w : World} {v : Value} {l : List So.Txn} (h : Txns w v l) (hl : l = []) : ∃ A c, v = .slice A 0 c := by
  obtain ⟨p, h1, h2, _⟩ := h
  subst hl
  have hp : p = [] := List.map_eq_nil_iff.1 h1
  subst hp
  obtain ⟨A, c, hv, _⟩ := h2.form
  exact ⟨A, c, hv⟩
/-- Element k, as the walk spells its cells' places. -/
structure TxnIn (w : World) (ad : Addr) (k : Nat) (t : So.Txn) (u v : Value) : Prop where
  c0 : w.cell? (ad.add (k * 3)) = some (.int .i64 t.session)
  c1 : w.cell? ⟨(ad.add (k * 3)).block, (ad.add (k * 3)).off + 1, none⟩ = some u
  c2 : w.cell? ⟨(ad.add (k * 3)).block, (ad.add (k * 3)).off + 2, none⟩ = some v
theorem TxnIn.below {w w' : World} {ad : Addr} {k : Nat} {t : So.Txn} {u v : Value} (h : TxnIn w ad k t u v) (hlt : ad.block < w.heap.size) (hb : Below w.heap.size w w') : TxnIn w' ad k t u v := by
  have e : ad.block = (ad.add (k * 3)).block := (add_block ad _).symm
  refine ⟨(hb.cell ?_).trans h.c0, (hb.cell ?_).trans h.c1, (hb.cell ?_).trans h.c2⟩
  all_goals exact e ▸ hlt
theorem Txns.spelled {w : World} {v : Value} {l : List So.Txn} (h : Txns w v l) : ∃ A c, v = .slice A l.length c ∧ ∀ (k : Nat) (hk : k < l.length), ∃ (ad : Addr) (x y : Value), A = some ad ∧ ad.block < w.heap.size ∧ TxnIn w ad k l[k] x y ∧ Ns w x l[k].writes ∧ Its w y l[k].reads := by
  obtain ⟨p, rfl, h2, h3⟩ := h
  obtain ⟨A, c, hv, hh⟩ := h2.form
  refine ⟨A, c, by rw [List.length_map]; exact hv, fun k hk => ?_⟩
  have hk' : k < p.length := by simpa using hk
  obtain ⟨ad, e, hb, hc⟩ := hh (by omega)
  have key : ∀ j u, (txnC p[k])[j]? = some u → w.cell? (ad.add (k * 3 + j)) = some u := fun j u hu => by
    have hj : j < 3 := (List.getElem?_eq_some_iff.1 hu).1
    exact hc _ _ (by rw [flat_at txnC_len p k hk' j hj]; exact hu)
  have hel : (p.map (·.1))[k] = p[k].1 := by simp
  obtain ⟨h4, h5⟩ := h3 _ (List.getElem_mem hk')
  refine ⟨ad, p[k].2.1, p[k].2.2, e, hb, ?_, by rw [hel]; exact h4, by rw [hel]; exact h5⟩
  rw [hel]
  refine ⟨key 0 _ rfl, ?_, ?_⟩
  · rw [add_more ad _ 1 (by omega)]; exact key 1 _ rfl
  · rw [add_more ad _ 2 (by omega)]; exact key 2 _ rfl
/-- Such a row of the call's own, its elements' rows too: te, ti, tk are the elements' types of the three. -/
structure OwnTxns (te ti tk : TypeId) (w : World) (base : Nat) (v : Value) (p : List (So.Txn × Value × Value)) : Prop where
  row : w.ownsRow base te 3 v p.length (p.flatMap txnC)
  writes : ∀ x ∈ p, w.ownsRow base ti 1 x.2.1 x.1.writes.length (x.1.writes.flatMap nC)
  reads : ∀ x ∈ p, w.ownsRow base tk 2 x.2.2 x.1.reads.length (x.1.reads.flatMap itC)
section
variable {te ti tk : TypeId} {w : World} {base : Nat} {v : Value} {p : List (So.Txn × Value × Value)}
theorem OwnTxns.nil (te ti tk : TypeId) (w : World) (base : Nat) : OwnTxns te ti tk w base (.slice none 0 0) [] := ⟨World.ownsRow_nil _ _ _ _, fun _ hx => (List.not_mem_nil hx).elim, fun _ hx => (List.not_mem_nil hx).elim⟩
theorem OwnTxns.below {w' : World} (h : OwnTxns te ti tk w base v p) (hb : Below w.heap.size w w') : OwnTxns te ti tk w' base v p := ⟨own_below h.row hb, fun x hx => own_below (h.writes x hx) hb, fun x hx => own_below (h.reads x hx) hb⟩
theorem OwnTxns.drewN (h : OwnTxns te ti tk w base v p) (k : Nat) : OwnTxns te ti tk (w.drewN k) base v p := ⟨own_drewN h.row k, fun x hx => own_drewN (h.writes x hx) k, fun x hx => own_drewN (h.reads x hx) k⟩
theorem OwnTxns.txns (h : OwnTxns te ti tk w base v p) : Txns w v (p.map (·.1)) := ⟨p, rfl, Sl.own h.row, fun x hx => ⟨Rows'.own (h.writes x hx), Rows'.own (h.reads x hx)⟩⟩
/-- One more, behind an append onto the row. -/
theorem OwnTxns.snoc {w' : World} {v' : Value} {x : So.Txn × Value × Value} (h : OwnTxns te ti tk w base v p) (hi : te ≠ ti) (hk : te ≠ tk) (hw : w.ownsRow base ti 1 x.2.1 x.1.writes.length (x.1.writes.flatMap nC)) (hr : w.ownsRow base tk 2 x.2.2 x.1.reads.length (x.1.reads.flatMap itC))
    (hrow : w'.ownsRow base te 3 v' (p.length + 1) (p.flatMap txnC ++ txnC x)) (hg : w.grownBy w' v.ownBlock) : OwnTxns te ti tk w' base v' (p ++ [x]) := by
  have kw : ∀ y : So.Txn × Value × Value, w.ownsRow base ti 1 y.2.1 y.1.writes.length (y.1.writes.flatMap nC) → w'.ownsRow base ti 1 y.2.1 y.1.writes.length (y.1.writes.flatMap nC) := fun y hy => hy.kept hg (own_types hy h.row (fun e => hi e.symm))
  have kr : ∀ y : So.Txn × Value × Value, w.ownsRow base tk 2 y.2.2 y.1.reads.length (y.1.reads.flatMap itC) → w'.ownsRow base tk 2 y.2.2 y.1.reads.length (y.1.reads.flatMap itC) := fun y hy => hy.kept hg (own_types hy h.row (fun e => hk e.symm))
  refine ⟨Rows'.own_snoc hrow, fun y hy => ?_, fun y hy => ?_⟩
  · rcases List.mem_append.1 hy with hy | hy
    · exact kw y (h.writes y hy)
    · rw [List.mem_singleton.1 hy]; exact kw x hw
  · rcases List.mem_append.1 hy with hy | hy
    · exact kr y (h.reads y hy)
    · rw [List.mem_singleton.1 hy]; exact kr x hr
end
/-- A history, a place and an error: what a call hands back lies in memory of its own; what was there stays. -/
def RetHist (w : World) (r : List So.Txn × Int × Int) (e : Ending) (w' : World) : Prop := ∃ v, e = .returned (.tuple #[.agg #[v], .int .i64 r.2.1, .int .i64 r.2.2]) ∧ Txns w' v r.1 ∧ Below w.heap.size w w'
end Go.Proofs.Ytodahdnooidmaaa
