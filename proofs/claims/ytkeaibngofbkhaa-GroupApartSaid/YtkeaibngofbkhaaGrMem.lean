/-
  Words for rows of transactions in memory: a slice that reads as a list of transactions, each with its own slice of events, and how that lasts; such a row of a call's own, as it grows and is written.
  Conditions: none beyond those that each theorem states.
-/
import Derived.Test.YtkeaibngofbkhaaGrPlain
import Derived.Test.YtkeaibngofbkhaaDiMem
namespace Go.Proofs.Ytkeaibngofbkhaa
open Go.RowKit

theorem far_cell {w : World} {a p : Addr} {v : Value} (h : a.block ≠ p.block) : (w.setCell p v).cell? a = w.cell? a := World.cell?_of_block (Below.heap_setCell w p v a.block h)

/-! Elements of four cells. -/
section
variable {α : Type} {f : α → List Value}
theorem four_len (hf : ∀ x, (f x).length = 4) (p : List α) : (p.flatMap f).length = p.length * 4 := by
  induction p with
  | nil => rfl
  | cons x p ih => rw [List.flatMap_cons, List.length_append, ih, List.length_cons, hf]; omega
theorem four_at (hf : ∀ x, (f x).length = 4) (p : List α) (k : Nat) (hk : k < p.length) (j : Nat) (hj : j < 4) : (p.flatMap f)[k * 4 + j]? = (f p[k])[j]? := by
  induction p generalizing k with
  | nil => simp at hk
  | cons x p ih =>
    rw [List.flatMap_cons]
    cases k with
    | zero => rw [List.getElem?_append_left (by rw [hf]; omega)]; simp
    | succ k =>
      rw [List.getElem?_append_right (by rw [hf]; omega), hf, show (k + 1) * 4 + j - 4 = k * 4 + j by omega]
      exact ih k (by simpa using hk)
theorem four_set (hf : ∀ x, (f x).length = 4) (p : List α) (k : Nat) (hk : k < p.length) (j : Nat) (hj : j < 4) (y : α) (u : Value) (he : f y = (f p[k]).set j u) : (p.flatMap f).set (k * 4 + j) u = (p.set k y).flatMap f := by
  induction p generalizing k with
  | nil => simp at hk
  | cons x p ih =>
    rw [List.flatMap_cons]
    cases k with
    | zero =>
      rw [List.set_append_left _ _ (by rw [hf]; omega), List.set_cons_zero, List.flatMap_cons, he]
      simp
    | succ k =>
      rw [List.set_append_right _ _ (by rw [hf]; omega), hf, show (k + 1) * 4 + j - 4 = k * 4 + j by omega, ih k (by simpa using hk) he, List.set_cons_succ, List.flatMap_cons]
end

/-- A transaction's cells, beside the slice of its events. -/
def txC (x : Gr.Tx × Value) : List Value := [.int .i64 x.1.session, .bool x.1.done, .int .i64 x.1.first, x.2]
theorem txC_len (x : Gr.Tx × Value) : (txC x).length = 4 := rfl

/-- The slice value v reads as the transactions l. -/
def Txs (w : World) (v : Value) (l : List Gr.Tx) : Prop := ∃ p : List (Gr.Tx × Value), p.map (·.1) = l ∧ Sl w 4 v p.length (p.flatMap txC) ∧ ∀ x ∈ p, Evs w x.2 x.1.ops
theorem Txs.below {w w' : World} {v : Value} {l : List Gr.Tx} (h : Txs w v l) (hb : Below w.heap.size w w') : Txs w' v l := by
  obtain ⟨p, h1, h2, h3⟩ := h
  exact ⟨p, h1, h2.below hb, fun x hx => (h3 x hx).below hb⟩
theorem Txs.nil (w : World) (A : Option Addr) : Txs w (.slice A 0 0) [] := ⟨[], rfl, Sl.nil w 4 A, fun x hx => by cases hx⟩
theorem Txs.none_ {w : World} {v : Value} {l : List Gr.Tx} (h : Txs w v l) (hl : l = []) : ∃ A c, v = .slice A 0 c := by
  obtain ⟨p, h1, h2, _⟩ := h
  subst hl
  obtain rfl : p = [] := List.map_eq_nil_iff.1 h1
  obtain ⟨A, c, hv, _⟩ := h2.form
  exact ⟨A, c, hv⟩

/-- Element k of a slice is the transaction t, its events in the slice u, as the walk spells its cells' places. -/
structure TxIn (w : World) (ad : Addr) (k : Nat) (t : Gr.Tx) (u : Value) : Prop where
  c0 : w.cell? (ad.add (k * 4)) = some (.int .i64 t.session)
  c1 : w.cell? ⟨(ad.add (k * 4)).block, (ad.add (k * 4)).off + 1, none⟩ = some (.bool t.done)
  c2 : w.cell? ⟨(ad.add (k * 4)).block, (ad.add (k * 4)).off + 2, none⟩ = some (.int .i64 t.first)
  c3 : w.cell? ⟨(ad.add (k * 4)).block, (ad.add (k * 4)).off + 3, none⟩ = some u
theorem TxIn.below {w w' : World} {ad : Addr} {k : Nat} {t : Gr.Tx} {u : Value} (h : TxIn w ad k t u) (hlt : ad.block < w.heap.size) (hb : Below w.heap.size w w') : TxIn w' ad k t u := by
  have e : ad.block = (ad.add (k * 4)).block := (add_block ad _).symm
  refine ⟨(hb.cell ?_).trans h.c0, (hb.cell ?_).trans h.c1, (hb.cell ?_).trans h.c2, (hb.cell ?_).trans h.c3⟩
  all_goals exact e ▸ hlt
theorem Txs.spelled {w : World} {v : Value} {l : List Gr.Tx} (h : Txs w v l) :
    ∃ A c, v = .slice A l.length c ∧ ∀ (k : Nat) (hk : k < l.length), ∃ (ad : Addr) (u : Value), A = some ad ∧ ad.block < w.heap.size ∧ TxIn w ad k l[k] u ∧ Evs w u l[k].ops := by
  obtain ⟨p, rfl, h2, h3⟩ := h
  obtain ⟨A, c, hv, hh⟩ := h2.form
  refine ⟨A, c, by rw [List.length_map]; exact hv, fun k hk => ?_⟩
  rw [List.length_map] at hk
  obtain ⟨ad, e, hb, hc⟩ := hh (by omega)
  have key : ∀ j (hj : j < 4) x, (txC p[k])[j]? = some x → w.cell? (ad.add (k * 4 + j)) = some x := fun j hj x hx => hc _ _ ((four_at txC_len p k hk j hj).trans hx)
  refine ⟨ad, p[k].2, e, hb, ⟨?_, ?_, ?_, ?_⟩, ?_⟩
  · rw [List.getElem_map]; exact key 0 (by omega) _ rfl
  · rw [add_next ad _ 1 (by omega), List.getElem_map]; exact key 1 (by omega) _ rfl
  · rw [add_next ad _ 2 (by omega), List.getElem_map]; exact key 2 (by omega) _ rfl
  · rw [add_next ad _ 3 (by omega)]; exact key 3 (by omega) _ rfl
  · rw [List.getElem_map]; exact h3 _ (List.getElem_mem hk)

/-- A row of transactions of the call's own: its own block, each one's events in a block of their own, no two in one. -/
structure OwnTxs (w : World) (base : Nat) (t e : TypeId) (v : Value) (p : List (Gr.Tx × Value)) : Prop where
  row : w.ownsRow base t 4 v p.length (p.flatMap txC)
  ops : ∀ x ∈ p, w.ownsRow base e 4 x.2 x.1.ops.length (x.1.ops.flatMap evCells)
  apart : ∀ x ∈ p, x.2.ownBlock = none ∨ x.2.ownBlock ≠ v.ownBlock
  each : p.Pairwise fun x y => x.2.ownBlock = none ∨ x.2.ownBlock ≠ y.2.ownBlock
theorem OwnTxs.nil (w : World) (base : Nat) (t e : TypeId) : OwnTxs w base t e (.slice none 0 0) [] := ⟨World.ownsRow_nil _ _ _ _, fun _ hx => (List.not_mem_nil hx).elim, fun _ hx => (List.not_mem_nil hx).elim, List.Pairwise.nil⟩
theorem OwnTxs.lit (w : World) (base : Nat) (t e : TypeId) (hb : base ≤ w.heap.size) : OwnTxs (w.alloc (.cells #[] t)) base t e (.slice (some ⟨w.heap.size, 0, none⟩) 0 0) [] :=
  ⟨World.ownsRow_lit w #[] 0 hb (by simp [maxLen]) (by simp), fun _ hx => (List.not_mem_nil hx).elim, fun _ hx => (List.not_mem_nil hx).elim, List.Pairwise.nil⟩
theorem OwnTxs.below {w w' : World} {base : Nat} {t e : TypeId} {v : Value} {p : List (Gr.Tx × Value)} (h : OwnTxs w base t e v p) (hb : Below w.heap.size w w') : OwnTxs w' base t e v p :=
  ⟨own_below h.row hb, fun x hx => own_below (h.ops x hx) hb, h.apart, h.each⟩
theorem OwnTxs.drewN {w : World} {base : Nat} {t e : TypeId} {v : Value} {p : List (Gr.Tx × Value)} (h : OwnTxs w base t e v p) (k : Nat) : OwnTxs (w.drewN k) base t e v p := ⟨h.row, h.ops, h.apart, h.each⟩
theorem OwnTxs.txs {w : World} {base : Nat} {t e : TypeId} {v : Value} {p : List (Gr.Tx × Value)} (h : OwnTxs w base t e v p) : Txs w v (p.map (·.1)) := ⟨p, rfl, Sl.own h.row, fun x hx => Evs.own (h.ops x hx)⟩

theorem ne_fresh {w : World} {base size n : Nat} {e : TypeId} {v : Value} {xs : List Value} (h : w.ownsRow base e size v n xs) : v.ownBlock = none ∨ v.ownBlock ≠ some w.heap.size := by
  cases hv : v.ownBlock with
  | none => exact .inl rfl
  | some k =>
    refine .inr fun h' => ?_
    have := (h.lt k hv).2
    cases h'
    omega
/-- One transaction more, whose events are none. -/
theorem OwnTxs.snoc {w w' : World} {base : Nat} {t e : TypeId} {v v' : Value} {p : List (Gr.Tx × Value)} {x : Gr.Tx} (h : OwnTxs w base t e v p) (hx : x.ops = []) (hrow : w'.ownsRow base t 4 v' (p.length + 1) (p.flatMap txC ++ txC (x, .slice none 0 0))) (hg : w.grownBy w' v.ownBlock) (hv : v'.ownBlock = v.ownBlock ∨ v'.ownBlock = some w.heap.size) : OwnTxs w' base t e v' (p ++ [(x, .slice none 0 0)]) := by
  refine ⟨?_, ?_, ?_, ?_⟩
  · rw [List.length_append, List.flatMap_append]
    simpa using hrow
  · intro y hy
    rcases List.mem_append.1 hy with hy | hy
    · exact (h.ops y hy).kept hg (h.apart y hy)
    · rw [List.mem_singleton.1 hy]
      show w'.ownsRow base e 4 (.slice none 0 0) x.ops.length (x.ops.flatMap evCells)
      rw [hx]
      exact World.ownsRow_nil _ _ _ _
  · intro y hy
    rcases List.mem_append.1 hy with hy | hy
    · rcases hv with hv | hv
      · rw [hv]; exact h.apart y hy
      · rw [hv]; exact ne_fresh (h.ops y hy)
    · rw [List.mem_singleton.1 hy]
      exact .inl rfl
  · rw [List.pairwise_append]
    refine ⟨h.each, List.pairwise_singleton _ _, fun y hy z hz => ?_⟩
    rw [List.mem_singleton.1 hz]
    cases hy' : y.2.ownBlock with
    | none => exact .inl rfl
    | some k => exact .inr (fun h' => by cases h')
/-- Where the row's cells lie, once it has one. -/
theorem OwnTxs.form {w : World} {base : Nat} {t e : TypeId} {v : Value} {p : List (Gr.Tx × Value)} (h : OwnTxs w base t e v p) (k : Nat) (hk : k < p.length) :
    ∃ g c, v = .slice (some ⟨g, 0, none⟩) p.length c ∧ ∀ j, j < 4 → w.cell? ⟨g, k * 4 + j, none⟩ = (txC p[k])[j]? ∧ w.frozen? ⟨g, k * 4 + j, none⟩ = false := by
  rcases h.row.2 with ⟨_, h0⟩ | ⟨g, cap, cur, rfl, _⟩
  · omega
  · refine ⟨g, cap, rfl, fun j hj => ⟨?_, h.row.frozenAt _⟩⟩
    rw [h.row.cellAt _ (by omega), four_at txC_len p k hk j hj]
theorem each_at {p : List (Gr.Tx × Value)} (h : p.Pairwise fun x y => x.2.ownBlock = none ∨ x.2.ownBlock ≠ y.2.ownBlock) (i j : Nat) (hi : i < p.length) (hj : j < p.length) (hij : i ≠ j) : p[i].2.ownBlock = none ∨ p[i].2.ownBlock ≠ p[j].2.ownBlock := by
  rcases Nat.lt_or_gt_of_ne hij with h' | h'
  · exact List.pairwise_iff_getElem.1 h i j hi hj h'
  · rcases List.pairwise_iff_getElem.1 h j i hj hi h' with e | e
    · cases hb : p[i].2.ownBlock with
      | none => exact .inl rfl
      | some b => exact .inr (by rw [e]; simp)
    · exact .inr fun e' => e e'.symm
theorem mem_set_at {α : Type} {p : List α} {k : Nat} {y x : α} (hx : x ∈ p.set k y) : x = y ∨ ∃ i, ∃ hi : i < p.length, i ≠ k ∧ x = p[i] := by
  obtain ⟨i, hi, rfl⟩ := List.getElem_of_mem hx
  rw [List.length_set] at hi
  rw [List.getElem_set]
  by_cases h : k = i
  · rw [if_pos h]; exact .inl rfl
  · rw [if_neg h]; exact .inr ⟨i, hi, fun e => h e.symm, rfl⟩
/-- A cell of a transaction that is no slice is written. -/
theorem OwnTxs.put {w : World} {base : Nat} {t e : TypeId} {g c : Nat} {p : List (Gr.Tx × Value)} (h : OwnTxs w base t e (.slice (some ⟨g, 0, none⟩) p.length c) p) (k : Nat) (hk : k < p.length) (j : Nat) (hj : j < 4) (x : Gr.Tx) (u : Value) (hx : txC (x, p[k].2) = (txC p[k]).set j u) (ho : x.ops = p[k].1.ops) :
    OwnTxs (w.setCell ⟨g, k * 4 + j, none⟩ u) base t e (.slice (some ⟨g, 0, none⟩) p.length c) (p.set k (x, p[k].2)) := by
  obtain ⟨s1, s2⟩ := h.row.stored (k * 4 + j) u
  refine ⟨?_, ?_, ?_, ?_⟩
  · rw [four_set txC_len p k hk j hj _ u hx] at s1
    rw [List.length_set]
    exact s1
  · intro y hy
    rcases mem_set_at hy with rfl | ⟨i, hi, _, rfl⟩
    · show (w.setCell _ u).ownsRow base e 4 p[k].2 x.ops.length (x.ops.flatMap evCells)
      rw [ho]
      exact (h.ops _ (List.getElem_mem hk)).kept s2 (h.apart _ (List.getElem_mem hk))
    · exact (h.ops _ (List.getElem_mem hi)).kept s2 (h.apart _ (List.getElem_mem hi))
  · intro y hy
    rcases mem_set_at hy with rfl | ⟨i, hi, _, rfl⟩
    · exact h.apart p[k] (List.getElem_mem hk)
    · exact h.apart _ (List.getElem_mem hi)
  · rw [List.pairwise_iff_getElem]
    intro i j' hi hj' hij
    rw [List.length_set] at hi hj'
    have key : ∀ m (hm : m < p.length), ((p.set k (x, p[k].2))[m]'(by rw [List.length_set]; exact hm)).2 = p[m].2 := fun m hm => by
      rw [List.getElem_set]
      split
      · rename_i h'; subst h'; rfl
      · rfl
    rw [key i hi, key j' hj']
    exact each_at h.each i j' hi hj' (by omega)
/-- A transaction's events have grown (in their block, or in a new one), and their slice is laid into its cell. -/
theorem OwnTxs.grow {w w1 : World} {base : Nat} {t e : TypeId} {g c : Nat} {p : List (Gr.Tx × Value)} (h : OwnTxs w base t e (.slice (some ⟨g, 0, none⟩) p.length c) p) (k : Nat) (hk : k < p.length) (x : Gr.Tx) (u : Value)
    (hx : x.session = p[k].1.session ∧ x.done = p[k].1.done ∧ x.first = p[k].1.first) (hu : w1.ownsRow base e 4 u x.ops.length (x.ops.flatMap evCells)) (hg : w.grownBy w1 p[k].2.ownBlock) (hv : u.ownBlock = p[k].2.ownBlock ∨ u.ownBlock = some w.heap.size) :
    OwnTxs (w1.setCell ⟨g, k * 4 + 3, none⟩ u) base t e (.slice (some ⟨g, 0, none⟩) p.length c) (p.set k (x, u)) := by
  have hrow1 : w1.ownsRow base t 4 (.slice (some ⟨g, 0, none⟩) p.length c) p.length (p.flatMap txC) := by
    refine h.row.kept hg ?_
    rcases h.apart _ (List.getElem_mem hk) with e1 | e1
    · rw [e1]; exact .inr (by simp [Value.ownBlock])
    · exact .inr fun e2 => e1 e2.symm
  obtain ⟨s1, s2⟩ := hrow1.stored (k * 4 + 3) u
  have hug : u.ownBlock = none ∨ u.ownBlock ≠ some g := by
    rcases hv with hv | hv
    · rw [hv]; exact h.apart _ (List.getElem_mem hk)
    · rw [hv]
      refine .inr fun e1 => ?_
      have := (h.row.lt g rfl).2
      cases e1
      omega
  have hothers : ∀ i (hi : i < p.length), i ≠ k → p[i].2.ownBlock = none ∨ p[i].2.ownBlock ≠ u.ownBlock := fun i hi hik => by
    rcases hv with hv | hv
    · rw [hv]; exact each_at h.each i k hi hk hik
    · rw [hv]; exact ne_fresh (h.ops _ (List.getElem_mem hi))
  refine ⟨?_, ?_, ?_, ?_⟩
  · rw [four_set txC_len p k hk 3 (by omega) (x, u) u (by simp [txC, hx])] at s1
    rw [List.length_set]
    exact s1
  · intro y hy
    rcases mem_set_at hy with rfl | ⟨i, hi, hik, rfl⟩
    · exact hu.kept s2 hug
    · exact ((h.ops _ (List.getElem_mem hi)).kept hg (each_at h.each i k hi hk hik)).kept s2 (h.apart _ (List.getElem_mem hi))
  · intro y hy
    rcases mem_set_at hy with rfl | ⟨i, hi, _, rfl⟩
    · exact hug
    · exact h.apart _ (List.getElem_mem hi)
  · rw [List.pairwise_iff_getElem]
    intro i j hi hj hij
    rw [List.length_set] at hi hj
    rw [List.getElem_set, List.getElem_set]
    by_cases h1 : k = i
    · rw [if_pos h1, if_neg (by omega)]
      rcases hothers j hj (by omega) with e1 | e1
      · cases hb : u.ownBlock with
        | none => exact .inl rfl
        | some b => exact .inr (by rw [e1]; simp)
      · exact .inr fun e2 => e1 e2.symm
    · rw [if_neg h1]
      by_cases h2 : k = j
      · rw [if_pos h2]
        exact hothers i hi (by omega)
      · rw [if_neg h2]
        exact each_at h.each i j hi hj (by omega)

/-- Transactions, a place and an error: what a call hands back lies in memory of its own; what was there stays. -/
def RetTxs (w : World) (r : List Gr.Tx × Int × Int) (e : Ending) (w' : World) : Prop := ∃ v, e = .returned (.tuple #[v, .int .i64 r.2.1, .int .i64 r.2.2]) ∧ Txs w' v r.1 ∧ Below w.heap.size w w'
theorem RetTxs.mk {w w' : World} {r : List Gr.Tx × Int × Int} (v : Value) (n q : Int) (hn : r.2.1 = n) (hq : r.2.2 = q) (hs : Txs w' v r.1) (hb : Below w.heap.size w w') : RetTxs w r (.returned (.tuple #[v, .int .i64 n, .int .i64 q])) w' :=
  ⟨v, by rw [hn, hq], hs, hb⟩
end Go.Proofs.Ytkeaibngofbkhaa
