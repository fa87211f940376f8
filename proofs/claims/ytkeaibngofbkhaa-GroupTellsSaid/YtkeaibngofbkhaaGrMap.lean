/-
  The map of a session's open transaction beside the row of transactions: that both agree with the transactions that have begun, and that they go on agreeing when one begins, gets an op, or is closed.
  Conditions: none beyond those that each theorem states.
-/
import Derived.Test.YtkeaibngofbkhaaGrWalkA
import Derived.Maps.OwnSet
import Derived.Deep.AppendLies
namespace Go.Proofs.Ytkeaibngofbkhaa
open Go.RowKit
open Go.Maps (Keyed int_keyed keyOf_int_mk IsMap)

/-- The map tells of each session whether a transaction is open, and where it stands. -/
structure Keeps (D : DataW Unit) (st : List (Gr.Tx × Bool)) : Prop where
  has : ∀ s, Maps.has D (.int .i64 s) = Gr.hasOpen st s
  place : ∀ s, Gr.hasOpen st s = true → ∃ j, ∃ h : j < st.length, Gr.mine s st[j] = true ∧ D.atKey (.int .i64 s) (.lit (.int .i64 0)) = .lit (.int .i64 (j : Int))
theorem Keeps.start : Keeps (.map []) [] := ⟨fun _ => rfl, fun s h => by simp [Gr.hasOpen] at h⟩
theorem key_lit (s : Int) : WideAt.IsKeyLit (.int .i64 s) := trivial
theorem key_ne {a b : Int} (h : a ≠ b) : (Lit.int .i64 a) ≠ .int .i64 b := fun e => by cases e; exact h rfl
theorem hasOpen_snoc (st : List (Gr.Tx × Bool)) (x : Gr.Tx × Bool) (s : Int) : Gr.hasOpen (st ++ [x]) s = (Gr.hasOpen st s || Gr.mine s x) := by simp [Gr.hasOpen]
theorem Keeps.put {D : DataW Unit} {st : List (Gr.Tx × Bool)} (h : Keeps D st) (hD : IsMap D) (s f : Int) (n : Nat) (hn : n = st.length) :
    Keeps (D.put (.int .i64 s) (.lit (.int .i64 (n : Int)))) (st ++ [(⟨s, false, f, []⟩, true)]) := by
  subst hn
  refine ⟨fun s' => ?_, fun s' hs => ?_⟩
  · rw [hasOpen_snoc]
    by_cases e : s' = s
    · subst e
      rw [Maps.has_put_same hD (key_lit _)]
      simp [Gr.mine]
    · have e2 : ¬ s = s' := fun h' => e h'.symm
      rw [Maps.has_put_other (key_ne e), h.has]
      simp [Gr.mine, e2]
  · by_cases e : s' = s
    · subst e
      refine ⟨st.length, by simp, by simp [Gr.mine], ?_⟩
      rw [Maps.atKey_put_same hD (key_lit _)]
    · rw [hasOpen_snoc] at hs
      have e2 : ¬ s = s' := fun h' => e h'.symm
      have hs' : Gr.hasOpen st s' = true := by simpa [Gr.mine, e2] using hs
      obtain ⟨j, hj, h1, h2⟩ := h.place s' hs'
      refine ⟨j, by simp; omega, by rw [List.getElem_append_left hj]; exact h1, ?_⟩
      rw [Maps.atKey_put_other (key_ne e), h2]
theorem mine_upd (s s' : Int) (f : Gr.Tx → Gr.Tx × Bool) (b : Bool) (hf : ∀ t, (f t).1.session = t.session ∧ (f t).2 = b) (x : Gr.Tx × Bool) : Gr.mine s' (if Gr.mine s x = true then f x.1 else x) = (Gr.mine s' x && (b || !decide (s' = s))) := by
  cases hm : Gr.mine s x with
  | true =>
    obtain ⟨h1, h2⟩ := (Gr.mine_iff s x).1 hm
    rw [if_pos rfl]
    simp only [Gr.mine, hf, h1, h2, Bool.and_true]
    by_cases e : s' = s
    · subst e; simp
    · have e2 : ¬ s = s' := fun h' => e h'.symm
      simp [e2]
  | false =>
    rw [if_neg (by simp)]
    by_cases e : s' = s
    · subst e; rw [hm]; simp
    · simp [e]
theorem upd_at (st : List (Gr.Tx × Bool)) (s : Int) (f : Gr.Tx → Gr.Tx × Bool) (j : Nat) (hj : j < st.length) : (Gr.upd st s f)[j]'(by rw [Gr.upd_len]; exact hj) = if Gr.mine s st[j] = true then f st[j].1 else st[j] := by simp [Gr.upd]
theorem hasOpen_upd (st : List (Gr.Tx × Bool)) (s s' : Int) (f : Gr.Tx → Gr.Tx × Bool) (b : Bool) (hf : ∀ t, (f t).1.session = t.session ∧ (f t).2 = b) : Gr.hasOpen (Gr.upd st s f) s' = (Gr.hasOpen st s' && (b || !decide (s' = s))) := by
  have e : ((Gr.mine s') ∘ fun x : Gr.Tx × Bool => if Gr.mine s x = true then f x.1 else x) = fun x => (Gr.mine s' x && (b || !decide (s' = s))) := by
    funext x
    exact mine_upd s s' f b hf x
  rw [Gr.hasOpen, Gr.upd, List.any_map, e, Gr.hasOpen]
  cases (b || !decide (s' = s)) <;> simp
/-- An op more: the map stays. -/
theorem Keeps.op {D : DataW Unit} {st : List (Gr.Tx × Bool)} (h : Keeps D st) (s : Int) (f : Gr.Tx → Gr.Tx × Bool) (hf : ∀ t, (f t).1.session = t.session ∧ (f t).2 = true) : Keeps D (Gr.upd st s f) := by
  refine ⟨fun s' => ?_, fun s' hs => ?_⟩
  · rw [hasOpen_upd st s s' f true hf, h.has]; simp
  · rw [hasOpen_upd st s s' f true hf] at hs
    obtain ⟨j, hj, h1, h2⟩ := h.place s' (by simpa using hs)
    refine ⟨j, by rw [Gr.upd_len]; exact hj, ?_, h2⟩
    rw [upd_at st s f j hj, mine_upd s s' f true hf, h1]
    rfl
/-- The open one is closed: its session is deleted. -/
theorem Keeps.del {D : DataW Unit} {st : List (Gr.Tx × Bool)} (h : Keeps D st) (s : Int) (f : Gr.Tx → Gr.Tx × Bool) (hf : ∀ t, (f t).1.session = t.session ∧ (f t).2 = false) : Keeps (D.del (.int .i64 s)) (Gr.upd st s f) := by
  refine ⟨fun s' => ?_, fun s' hs => ?_⟩
  · rw [hasOpen_upd st s s' f false hf]
    by_cases e : s' = s
    · subst e; rw [Maps.has_del_same]; simp
    · rw [Maps.has_del_other (key_ne e), h.has]; simp [e]
  · rw [hasOpen_upd st s s' f false hf] at hs
    have e : s' ≠ s := fun e => by subst e; simp at hs
    obtain ⟨j, hj, h1, h2⟩ := h.place s' (by simp [e] at hs; exact hs)
    refine ⟨j, by rw [Gr.upd_len]; exact hj, ?_, ?_⟩
    · rw [upd_at st s f j hj, mine_upd s s' f false hf, h1]; simp [e]
    · rw [Maps.atKey_del_other (key_ne e), h2]

theorem int_law : Keyed Try.prog 3 := int_keyed Try.underlying3
theorem int_zero (w : World) : (zeroValue 3).run Try.prog w = .ok (.int .i64 0) w := by kernel_rfl
theorem int_key {s : Int} (h : (Lit.int .i64 s).wf = true) : keyOf Try.prog 3 (.int .i64 s) = some (.int .i64 s) := keyOf_int_mk Try.underlying3 h
theorem int_elem {n : Nat} (h : n ≤ 4294967296) : plainElem (H := Unit) Try.prog 3 (.int .i64 (n : Int)) = some (.lit (.int .i64 (n : Int)), []) := plainElem_int Try.underlying3 (WalkArith.wf_i64 (by omega))

/-- A row of the call's own lies in no map's block. -/
theorem own_not_map {w : World} {base size n m b : Nat} {e k : TypeId} {v : Value} {xs : List Value} {R : Value → Option (DataW Unit × List MemPlace)} {P : Program} {D : DataW Unit} (h : w.ownsRow base e size v n xs) (hm : w.ownsMap P k R b m D) : v.ownBlock = none ∨ v.ownBlock ≠ some b := by
  obtain ⟨es, clock, hb, _⟩ := hm
  rcases h.2 with ⟨rfl, _⟩ | ⟨g, cap, cur, rfl, _, hg, _⟩
  · exact .inl rfl
  · refine .inr fun e => ?_
    cases e
    rw [hb] at hg
    cases hg
theorem own_not_map' {w : World} {base size n m b : Nat} {e k : TypeId} {v : Value} {xs : List Value} {R : Value → Option (DataW Unit × List MemPlace)} {P : Program} {D : DataW Unit} (h : w.ownsRow base e size v n xs) (hm : w.ownsMap P k R b m D) : some b ≠ v.ownBlock := by
  rcases own_not_map h hm with e | e
  · rw [e]; simp
  · exact fun e' => e e'.symm
theorem OwnTxs.kept {w w' : World} {base : Nat} {t e : TypeId} {v : Value} {p : List (Gr.Tx × Value)} {row : Option Nat} (h : OwnTxs w base t e v p) (hg : w.grownBy w' row) (hv : v.ownBlock = none ∨ v.ownBlock ≠ row) (hx : ∀ x ∈ p, x.2.ownBlock = none ∨ x.2.ownBlock ≠ row) : OwnTxs w' base t e v p :=
  ⟨h.row.kept hg hv, fun x hx' => (h.ops x hx').kept hg (hx x hx'), h.apart, h.each⟩

/-- What stands behind events that are right: the row, the map, and what has begun. -/
structure GroupAt (w wr : World) (v : Value) (st : List (Gr.Tx × Bool)) (p : List (Gr.Tx × Value)) (D : DataW Unit) : Prop where
  own : OwnTxs wr w.heap.size 26 44 v p
  map : wr.ownsMap Try.prog 3 (plainElem Try.prog 3) (w.heap.size + 1) st.length D
  same : p.map (·.1) = st.map (·.1)
  keeps : Keeps D st
  fine : Gr.Fine st
  below : Below w.heap.size w wr
theorem GroupAt.len {w wr : World} {v : Value} {st : List (Gr.Tx × Bool)} {p : List (Gr.Tx × Value)} {D : DataW Unit} (h : GroupAt w wr v st p D) : p.length = st.length := by
  have := congrArg List.length h.same
  simpa using this
theorem GroupAt.later {w wr w' : World} {v : Value} {st : List (Gr.Tx × Bool)} {p : List (Gr.Tx × Value)} {D : DataW Unit} (h : GroupAt w wr v st p D) (hb : Below wr.heap.size wr w') : GroupAt w w' v st p D :=
  ⟨h.own.below hb, h.map.kept (row := none) ⟨hb.os, hb.tape, hb.output, hb.size, fun k hk _ => hb.block k hk⟩ (by simp), h.same, h.keeps, h.fine, below_all h.below hb⟩
/-- The map is written: the row stays. -/
theorem GroupAt.row_stays {w wr w' : World} {v : Value} {st : List (Gr.Tx × Bool)} {p : List (Gr.Tx × Value)} {D : DataW Unit} (h : GroupAt w wr v st p D) (hg : wr.grownBy w' (some (w.heap.size + 1))) : OwnTxs w' w.heap.size 26 44 v p :=
  h.own.kept hg (own_not_map h.own.row h.map) (fun x hx => own_not_map (h.own.ops x hx) h.map)
theorem GroupAt.below_map {w wr w' : World} {v : Value} {st : List (Gr.Tx × Bool)} {p : List (Gr.Tx × Value)} {D : DataW Unit} (h : GroupAt w wr v st p D) (hg : wr.grownBy w' (some (w.heap.size + 1))) : Below w.heap.size w w' :=
  h.below.grown hg h.below.size (fun j hj => by cases hj; omega)
/-- One begins: its session goes into the map, and it into the row. -/
theorem GroupAt.begin {w wr w1 w2 : World} {v v' : Value} {st : List (Gr.Tx × Bool)} {p : List (Gr.Tx × Value)} {D : DataW Unit} (h : GroupAt w wr v st p D) (x : Ev.Event) (i : Nat) (o : Obj) (hk : x.kind = 0) (hf : Gr.fault st x = 0)
    (hg : wr.grownBy w1 (some (w.heap.size + 1))) (hm : w1.ownsMap Try.prog 3 (plainElem Try.prog 3) (w.heap.size + 1) (st.length + 1) (D.put (.int .i64 x.session) (.lit (.int .i64 (p.length : Int)))))
    (hrow : w2.ownsRow w.heap.size 26 4 v' (p.length + 1) (p.flatMap txC ++ txC (⟨x.session, false, (i : Int), []⟩, .slice none 0 0))) (hg2 : (w1.alloc o).grownBy w2 v.ownBlock) (hv : v'.ownBlock = v.ownBlock ∨ v'.ownBlock = some (w1.alloc o).heap.size) :
    GroupAt w w2 v' (Gr.next i st x) (p ++ [(⟨x.session, false, (i : Int), []⟩, .slice none 0 0)]) (D.put (.int .i64 x.session) (.lit (.int .i64 (p.length : Int)))) := by
  have e : Gr.next i st x = st ++ [(⟨x.session, false, (i : Int), []⟩, true)] := by rw [Gr.next, if_pos hk]
  have r1 := h.row_stays hg
  have r2 : OwnTxs (w1.alloc o) w.heap.size 26 44 v p := r1.below (alloc_below w1 o)
  refine ⟨r2.snoc rfl hrow hg2 hv, ?_, ?_, ?_, h.fine.next i hf, ?_⟩
  · rw [e, List.length_append, List.length_singleton]
    exact (hm.alloc o).kept hg2 (own_not_map' r2.row (hm.alloc o))
  · rw [e, List.map_append, List.map_append, h.same]
    rfl
  · rw [e]
    exact h.keeps.put h.map.isMap _ _ _ h.len
  · have hb := below_all (h.below_map hg) (alloc_below w1 o)
    exact below_append hb hb.size r2.row hg2
/-- The open one is closed. -/
theorem GroupAt.close {w wr w2 : World} {g c : Nat} {st : List (Gr.Tx × Bool)} {p : List (Gr.Tx × Value)} {D : DataW Unit} (h : GroupAt w wr (.slice (some ⟨g, 0, none⟩) p.length c) st p D) (x : Ev.Event) (b : Bool) (hb3 : (x.kind == 3) = b) (i j : Nat) (hj : j < p.length) (hj' : j < st.length) (hm : Gr.mine x.session st[j] = true) (hk : x.kind ≠ 0) (hkey : Ev.hasKey x.kind = false) (hf : Gr.fault st x = 0)
    (hmap : w2.ownsMap Try.prog 3 (plainElem Try.prog 3) (w.heap.size + 1) st.length (D.del (.int .i64 x.session))) (hg : (wr.setCell ⟨g, j * 4 + 1, none⟩ (.bool b)).grownBy w2 (some (w.heap.size + 1))) :
    GroupAt w w2 (.slice (some ⟨g, 0, none⟩) p.length c) (Gr.next i st x) (p.set j ({ p[j].1 with done := b }, p[j].2)) (D.del (.int .i64 x.session)) := by
  have hb4 : decide (x.kind = 3) = b := by rw [← hb3]; rfl
  have e : Gr.next i st x = Gr.upd st x.session (Gr.shut b) := by rw [Gr.next, if_neg hk, if_neg (by rw [hkey]; simp), hb4]
  have hset := Gr.upd_set h.fine x.session (Gr.shut b) j hj' hm
  have r1 := h.own.put j hj 1 (by omega) { p[j].1 with done := b } (.bool b) rfl rfl
  have hgB : w.heap.size + 1 ≠ g := fun e => own_not_map' h.own.row h.map (by rw [e]; rfl)
  have m1 : (wr.setCell ⟨g, j * 4 + 1, none⟩ (.bool b)).ownsMap Try.prog 3 (plainElem Try.prog 3) (w.heap.size + 1) st.length D := h.map.setCell hgB _
  have hbB : Below w.heap.size w (wr.setCell ⟨g, j * 4 + 1, none⟩ (.bool b)) := h.below.setCell (h.own.row.lt g rfl).1 _
  have hpj : p[j].1 = st[j].1 := by
    have h1 := congrArg (·[j]?) h.same
    simp only [List.getElem?_map, List.getElem?_eq_getElem hj, List.getElem?_eq_getElem hj', Option.map_some, Option.some.injEq] at h1
    exact h1
  refine ⟨?_, ?_, ?_, ?_, h.fine.next i hf, ?_⟩
  · have := r1.kept hg (own_not_map r1.row m1) (fun x hx => own_not_map (r1.ops x hx) m1)
    exact this
  · rw [e, Gr.upd_len]
    exact hmap
  · rw [e, hset, List.map_set, List.map_set, h.same, hpj]
    rfl
  · rw [e]
    exact h.keeps.del _ _ (fun _ => ⟨rfl, rfl⟩)
  · exact hbB.grown hg hbB.size (fun j hj => by cases hj; omega)
/-- The open one gets an op: its events have grown, and their slice is laid into its cell. -/
theorem GroupAt.op {w wr w1 : World} {g c : Nat} {st : List (Gr.Tx × Bool)} {p : List (Gr.Tx × Value)} {D : DataW Unit} {u : Value} (h : GroupAt w wr (.slice (some ⟨g, 0, none⟩) p.length c) st p D) (x : Ev.Event) (i j : Nat) (hj : j < p.length) (hj' : j < st.length) (hm : Gr.mine x.session st[j] = true) (hk : x.kind ≠ 0) (hkey : Ev.hasKey x.kind = true) (hf : Gr.fault st x = 0)
    (hu : w1.ownsRow w.heap.size 44 4 u (p[j].1.ops.length + 1) (p[j].1.ops.flatMap evCells ++ evCells x)) (hg : wr.grownBy w1 p[j].2.ownBlock) (hv : u.ownBlock = p[j].2.ownBlock ∨ u.ownBlock = some wr.heap.size) :
    GroupAt w (w1.setCell ⟨g, j * 4 + 3, none⟩ u) (.slice (some ⟨g, 0, none⟩) p.length c) (Gr.next i st x) (p.set j ({ p[j].1 with ops := p[j].1.ops ++ [x] }, u)) D := by
  have e : Gr.next i st x = Gr.upd st x.session (Gr.addOp x) := by rw [Gr.next, if_neg hk, if_pos hkey]
  have hset := Gr.upd_set h.fine x.session (Gr.addOp x) j hj' hm
  have r1 := h.own.grow j hj { p[j].1 with ops := p[j].1.ops ++ [x] } u ⟨rfl, rfl, rfl⟩ (Evs.own_snoc hu) hg hv
  have hgB : w.heap.size + 1 ≠ g := fun e => own_not_map' h.own.row h.map (by rw [e]; rfl)
  have hops := h.own.ops _ (List.getElem_mem hj)
  have m1 := h.map.kept hg (own_not_map' hops h.map)
  have hpj : p[j].1 = st[j].1 := by
    have h1 := congrArg (·[j]?) h.same
    simp only [List.getElem?_map, List.getElem?_eq_getElem hj, List.getElem?_eq_getElem hj', Option.map_some, Option.some.injEq] at h1
    exact h1
  refine ⟨r1, ?_, ?_, ?_, h.fine.next i hf, ?_⟩
  · rw [e, Gr.upd_len]
    exact m1.setCell hgB _
  · rw [e, hset, List.map_set, List.map_set, h.same, hpj]
    rfl
  · rw [e]
    exact h.keeps.op _ _ (fun _ => ⟨rfl, rfl⟩)
  · exact (below_append h.below h.below.size hops hg).setCell (h.own.row.lt g rfl).1 _

/-- 'v, ok := m[k]' where both are known. -/
theorem wpList_look {P : Program} (w : World) {ops : Array Oper} {rest : List Oper} {o : Oper} {a : Act} {Q : Exit → Act → World → Prop} (hg : o.guard = none) (m x : Operand) (t : TypeId) (hop : o.op = Op.lookup t m x true)
    (k e : TypeId) (K : Keyed P k) (ht : P.underlying t = some (.map k e)) (he : P.underlying e = some (.int .i64)) (hz : (zeroValue e).run P w = .ok (.int .i64 0) w) (b n : Nat) (D : DataW Unit)
    (hm : a.eval m = .map (some b)) (hown : w.ownsMap P k (plainElem P e) b n D) (key : Value) (kl : Lit) (hx : a.eval x = key) (hkey : keyOf P k key = some kl) (c : Int) (ok : Bool) (hat : D.atKey kl (.lit (.int .i64 0)) = .lit (.int .i64 c)) (hok : Maps.has D kl = ok)
    (hK : wpList P ops Q rest (a.put o.dst (.tuple #[.int .i64 c, .bool ok])) w) : wpList P ops Q (o :: rest) a w := by
  refine wpList_lookup_own_ok_int w hg m x t hop k e .i64 K ht he hz b n D hm hown key kl hx hkey fun c' hc _ => ?_
  rw [hat] at hc
  cases hc
  rw [hok]
  exact hK
end Go.Proofs.Ytkeaibngofbkhaa
