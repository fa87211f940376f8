/-
  What source's method history and source.Hist answer: So.histR, the history of any transactions, or which one is wrong, and how; what was in memory stays as it was.
  Conditions: a row has at most 2^32 elements.
-/
import Derived.Test.YtodahdnooidmaaaSoWalkC
set_option maxRecDepth 4000
namespace Go.Proofs.Ytodahdnooidmaaa
open Go.RowKit

namespace So
theorem first_cases (l : List Gr.Tx) (p : Nat) (hp : p < 4) : (Clean l p ∧ firstR l p = (0, 0)) ∨ ∃ (i : Nat) (q : Int), firstR l p = ((i : Int), q) ∧ q ≠ 0 ∧ ¬ Clean l p ∧ (l.length ≤ 32 → (∀ r, r < p → Clean l r) → histR l = ([], (i : Int), q)) := by
  rcases nz_cases (phase l p) l.length with h | ⟨i, hi, hq, h0⟩
  · exact .inl ⟨h, first_ok l p h⟩
  · exact .inr ⟨i, phase l p i, first_bad l p i hi h0 hq, hq, fun h => hq (h i hi), fun hl hb => hist_bad l hl p i hp hi hb h0 hq⟩
/-- What history tells, the other kinds of errors being none. -/
def endR (l : List Gr.Tx) : List Txn × Int × Int := if (firstR l 3).2 = 0 then (txns l, 0, 0) else ([], (firstR l 3).1, (firstR l 3).2)
theorem end_ok (l : List Gr.Tx) (h : Clean l 3) : endR l = (txns l, 0, 0) := by rw [endR, first_ok l 3 h]; rfl
theorem end_bad (l : List Gr.Tx) (i : Nat) (hi : i < l.length) (h0 : ∀ j, j < i → phase l 3 j = 0) (hq : phase l 3 i ≠ 0) : endR l = ([], (i : Int), phase l 3 i) := by rw [endR, first_bad l 3 i hi h0 hq, if_neg hq]
theorem hist_end (l : List Gr.Tx) (hl : l.length ≤ 32) (h : ∀ p, p < 3 → Clean l p) : histR l = endR l := by
  rcases nz_cases (phase l 3) l.length with h3 | ⟨i, hi, hq, h0⟩
  · rw [end_ok l h3, hist_ok l hl]
    intro p hp
    by_cases e : p = 3
    · rw [e]; exact h3
    · exact h p (by omega)
  · rw [end_bad l i hi h0 hq, hist_bad l hl 3 i (by omega) hi (fun q hq' => h q (by omega)) h0 hq]
end So
theorem reads_ok (ops : List Ev.Event) (h : ∀ e ∈ ops, isOpB e = true) : ∀ y ∈ In.readsTo ops 16, (∃ j : Nat, j < 16 ∧ y.1 = (j : Int)) ∧ okN y.2 := by
  intro y hy
  obtain ⟨k, hk, hr⟩ := List.mem_filterMap.1 hy
  refine ⟨⟨k, List.mem_range.1 hk, In.rd_key ops k y hr⟩, ?_⟩
  unfold In.rd at hr
  cases hf : ops.find? fun e => decide (e.key = (k : Int)) with
  | none => rw [hf] at hr; cases hr
  | some e =>
    rw [hf] at hr
    simp only at hr
    split at hr
    · cases hr
      exact (op_ok (h e (List.mem_of_find?_eq_some hf))).2
    · cases hr
theorem txn_info : (Try.prog.info? 41).map (fun i => (i.zero, i.size, i.bytes)) = some (some (.agg #[.int .i64 0, .slice none 0 0, .slice none 0 0]), 3, 56) := by kernel_rfl
theorem one_cell {w : World} {b : Nat} {u : Value} {t : TypeId} (h : w.heap[b]? = some (.cells #[u] t (0, 0))) : w.cell? ⟨b, 0, none⟩ = some u ∧ w.frozen? ⟨b, 0, none⟩ = false := by
  refine ⟨?_, ?_⟩
  · simp [World.cell?, h]
  · simp [World.frozen?, h]
theorem one_set {w : World} {b : Nat} {u : Value} {t : TypeId} (h : w.heap[b]? = some (.cells #[u] t (0, 0))) (x : Value) : (w.setCell ⟨b, 0, none⟩ x).heap[b]? = some (.cells #[x] t (0, 0)) := by
  simp [World.setCell, Array.getElem?_modify, h]
theorem OwnTxns.set {te ti tk : TypeId} {w : World} {base : Nat} {v : Value} {p : List (So.Txn × Value × Value)} (h : OwnTxns te ti tk w base v p) {a : Addr} (ha : a.block < base) (u : Value) : OwnTxns te ti tk (w.setCell a u) base v p :=
  ⟨ownsRow_setCell_below h.row ha u, fun x hx => ownsRow_setCell_below (h.writes x hx) ha u, fun x hx => ownsRow_setCell_below (h.reads x hx) ha u⟩
/-- What history holds at the head of each round: its receiver, its result variable, the history so far. -/
structure HistMid (w wr : World) (l : List Gr.Tx) (k : Nat) (U : Value) (b : Nat) (F N V : Value) (p : List (So.Txn × Value × Value)) : Prop where
  box : Four wr w.heap.size U (.map (some b)) F N
  res : wr.heap[w.heap.size + 1]? = some (.cells #[.slice none 0 0] 27 (0, 0))
  cell : wr.heap[w.heap.size + 2]? = some (.cells #[V] 27 (0, 0))
  own : OwnTxns 41 3 43 wr (w.heap.size + 3) V p
  same : p.map (·.1) = ((l.take k).filter (·.done)).map (So.txnOf l)
  below : Below w.heap.size w wr
section
variable {w wr w' : World} {l : List Gr.Tx} {k : Nat} {U : Value} {b : Nat} {F N V : Value} {p : List (So.Txn × Value × Value)}
theorem HistMid.lt (h : HistMid w wr l k U b F N V p) : w.heap.size + 2 < wr.heap.size := lt_of_block h.cell
theorem HistMid.later (h : HistMid w wr l k U b F N V p) (hb : Below wr.heap.size wr w') : HistMid w w' l k U b F N V p := by
  have := h.lt
  exact ⟨h.box.below (by omega) hb, (hb.block _ (by omega)).trans h.res, (hb.block _ (by omega)).trans h.cell, h.own.below hb, h.same, below_all h.below hb⟩
theorem hist_start (w : World) (l : List Gr.Tx) (U : Value) (b : Nat) (F N : Value) (t0 : TypeId) : HistMid w (((w.alloc (.cells #[U, .map (some b), F, N] t0)).alloc (.cells #[.slice none 0 0] 27)).alloc (.cells #[.slice none 0 0] 27)) l 0 U b F N (.slice none 0 0) [] := by
  have e : (((w.alloc (.cells #[U, .map (some b), F, N] t0)).alloc (.cells #[.slice none 0 0] 27)).alloc (.cells #[.slice none 0 0] 27)).heap = ((w.heap.push (.cells #[U, .map (some b), F, N] t0)).push (.cells #[.slice none 0 0] 27)).push (.cells #[.slice none 0 0] 27) := rfl
  refine ⟨((four_new w _ _ _ _ _).below (by simp) (alloc_below _ _)).below (by simp; omega) (alloc_below _ _), ?_, ?_, OwnTxns.nil _ _ _ _ _, rfl, below_new (below_new (alloc_below _ _))⟩
  · rw [e]
    simp only [Array.getElem?_push, Array.size_push]
    repeat (first | rw [if_neg (by omega)] | rw [if_pos trivial] | rw [if_pos (by omega)])
  · rw [e]
    simp only [Array.getElem?_push, Array.size_push]
    repeat (first | rw [if_neg (by omega)] | rw [if_pos trivial] | rw [if_pos (by omega)])
theorem HistMid.skip (h : HistMid w wr l k U b F N V p) (hk : k < l.length) (hd : l[k].done = false) : HistMid w wr l (k + 1) U b F N V p := by
  refine ⟨h.box, h.res, h.cell, h.own, ?_, h.below⟩
  rw [So.txns_step l k hk, hd, h.same]
  simp
/-- One transaction more: it was appended, and the row is laid into the history. -/
theorem HistMid.more {w3 : World} {v' kv rv : Value} (h : HistMid w wr l k U b F N V p) (hk : k < l.length) (hd : l[k].done = true)
    (hkv : wr.ownsRow (w.heap.size + 3) 3 1 kv (So.txnOf l l[k]).writes.length ((So.txnOf l l[k]).writes.flatMap nC)) (hrv : wr.ownsRow (w.heap.size + 3) 43 2 rv (So.txnOf l l[k]).reads.length ((So.txnOf l l[k]).reads.flatMap itC))
    (hrow : w3.ownsRow (w.heap.size + 3) 41 3 v' (p.length + 1) (p.flatMap txnC ++ txnC (So.txnOf l l[k], kv, rv))) (hg : wr.grownBy w3 V.ownBlock) :
    HistMid w (w3.setCell ⟨w.heap.size + 2, 0, none⟩ v') l (k + 1) U b F N v' (p ++ [(So.txnOf l l[k], kv, rv)]) := by
  have hlt := h.lt
  have hne : ∀ j, j ≤ w.heap.size + 2 → some j ≠ V.ownBlock := fun j hj e => by
    have := (h.own.row.lt j e.symm).1
    omega
  have hfar : ∀ j, j ≠ w.heap.size + 2 → (w3.setCell ⟨w.heap.size + 2, 0, none⟩ v').heap[j]? = w3.heap[j]? := fun j hj => Below.heap_setCell _ _ _ _ hj
  have hb3 : ∀ j, j ≤ w.heap.size + 2 → w3.heap[j]? = wr.heap[j]? := fun j hj => hg.block j (by omega) (hne j hj)
  refine ⟨?_, ?_, ?_, ?_, ?_, ?_⟩
  · have hx : ∀ o, (w3.setCell ⟨w.heap.size + 2, 0, none⟩ v').cell? ⟨w.heap.size, o, none⟩ = wr.cell? ⟨w.heap.size, o, none⟩ := fun o => World.cell?_of_block ((hfar w.heap.size (by omega)).trans (hb3 w.heap.size (by omega)))
    exact ⟨(hx 0).trans h.box.1, (hx 1).trans h.box.2.1, (hx 2).trans h.box.2.2.1, (hx 3).trans h.box.2.2.2⟩
  · exact (hfar _ (by omega)).trans ((hb3 _ (by omega)).trans h.res)
  · exact one_set ((hb3 _ (by omega)).trans h.cell) v'
  · exact (h.own.snoc (by decide) (by decide) hkv hrv hrow hg).set (by show w.heap.size + 2 < w.heap.size + 3; omega) _
  · rw [So.txns_step l k hk, hd, List.map_append, h.same]
    simp
  · exact (h.below.grown hg h.below.size (fun j hj => by have := (h.own.row.lt j hj).1; omega)).setCell (by show w.heap.size ≤ w.heap.size + 2; omega) _
end
theorem HistMid.far {w wr : World} {l : List Gr.Tx} {k : Nat} {U : Value} {b : Nat} {F N V : Value} {p : List (So.Txn × Value × Value)} (h : HistMid w wr l k U b F N V p) (j : Nat) (hj : j ≤ w.heap.size + 2) : some j ≠ V.ownBlock := fun e => by
  have := (h.own.row.lt j e.symm).1
  omega
theorem own_any {w : World} {base size n : Nat} {e : TypeId} {v : Value} {xs : List Value} (h : w.ownsRow base e size v n xs) : ∃ A m c, v = .slice A m c := by
  obtain ⟨A, c, e⟩ := own_form h
  exact ⟨A, n, c, e⟩
theorem new_txn (w : World) (t : So.Txn) (u v : Value) (e : TypeId) : ∀ j x, (txnC (t, u, v))[j]? = some x → (w.alloc (.cells #[.int .i64 t.session, u, v] e)).cell? ((⟨w.heap.size, 0, none⟩ : Addr).add j) = some x := new_row w (txnC (t, u, v)) e
theorem results_hist (X : World) (b : Nat) (tmps : Array Value) (x : Value) (n q : Int) (hp : tmps.getD 2 undef = .pointer (some ⟨b, 0, none⟩)) (hn : tmps.getD 3 undef = .int .i64 n) (hq : tmps.getD 4 undef = .int .i64 q) (h0 : X.cell? ⟨b, 0, none⟩ = some x) :
    (results Try.f18 tmps).run Try.prog X = .ok (.tuple #[.agg #[x], .int .i64 n, .int .i64 q]) X := by
  rw [Array.getD_eq_getD_getElem?] at hp hn hq
  simp [results, Try.results18, hp, hn, hq, asAddr, go_sem, h0]
theorem results_hist9 (X : World) (b : Nat) (tmps : Array Value) (x : Value) (n q : Int) (hp : tmps.getD 2 undef = .pointer (some ⟨b, 0, none⟩)) (hn : tmps.getD 3 undef = .int .i64 n) (hq : tmps.getD 4 undef = .int .i64 q) (h0 : X.cell? ⟨b, 0, none⟩ = some x) :
    (results Try.f9 tmps).run Try.prog X = .ok (.tuple #[.agg #[x], .int .i64 n, .int .i64 q]) X := by
  rw [Array.getD_eq_getD_getElem?] at hp hn hq
  simp [results, Try.results9, hp, hn, hq, asAddr, go_sem, h0]
theorem OwnTxns.mono {te ti tk : TypeId} {w : World} {base base' : Nat} {v : Value} {p : List (So.Txn × Value × Value)} (h : OwnTxns te ti tk w base v p) (hb : base' ≤ base) : OwnTxns te ti tk w base' v p :=
  ⟨h.row.mono hb, fun x hx => (h.writes x hx).mono hb, fun x hx => (h.reads x hx).mono hb⟩
/-- As RetHist, all rows in memory that the call made. -/
def RetHistOwn (w : World) (r : List So.Txn × Int × Int) (e : Ending) (w' : World) : Prop := ∃ v p, e = .returned (.tuple #[.agg #[v], .int .i64 r.2.1, .int .i64 r.2.2]) ∧ OwnTxns 41 3 43 w' w.heap.size v p ∧ p.map (·.1) = r.1 ∧ Below w.heap.size w w'
theorem RetHistOwn.ret {w w' : World} {r : List So.Txn × Int × Int} {e : Ending} (h : RetHistOwn w r e w') : RetHist w r e w' := by
  obtain ⟨v, p, he, ho, hp, hb⟩ := h
  refine ⟨v, he, ?_, hb⟩
  rw [← hp]
  exact ho.txns
/-- A history's end: what lies in the result variable, a place and an error. -/
theorem end_hist {w X : World} {r : List So.Txn × Int × Int} {ts : List So.Txn} {n q : Int} (hr : r = (ts, n, q)) (tmps : Array Value) (b : Nat) (x : Value) (h0 : X.cell? ⟨b, 0, none⟩ = some x) (p : List (So.Txn × Value × Value)) (hpp : p.map (·.1) = ts) (hx : OwnTxns 41 3 43 X w.heap.size x p) (hb : Below w.heap.size w X)
    (hp : tmps.getD 2 undef = .pointer (some ⟨b, 0, none⟩)) (hn : tmps.getD 3 undef = .int .i64 n) (hq : tmps.getD 4 undef = .int .i64 q) :
    bodyPost Try.prog Try.f18 (RetHistOwn w r) Exit.ret { tmps := tmps, defers := [] } X := by
  refine bodyPost_ret (results_hist X b tmps x n q hp hn hq h0) rfl ?_
  subst hr
  exact ⟨x, p, rfl, hx, hpp, hb⟩
theorem end_hist9 {w X : World} {r : List So.Txn × Int × Int} {ts : List So.Txn} {n q : Int} (hr : r = (ts, n, q)) (tmps : Array Value) (b : Nat) (x : Value) (h0 : X.cell? ⟨b, 0, none⟩ = some x) (p : List (So.Txn × Value × Value)) (hpp : p.map (·.1) = ts) (hx : OwnTxns 41 3 43 X w.heap.size x p) (hb : Below w.heap.size w X)
    (hp : tmps.getD 2 undef = .pointer (some ⟨b, 0, none⟩)) (hn : tmps.getD 3 undef = .int .i64 n) (hq : tmps.getD 4 undef = .int .i64 q) :
    bodyPost Try.prog Try.f9 (RetHistOwn w r) Exit.ret { tmps := tmps, defers := [] } X := by
  refine bodyPost_ret (results_hist9 X b tmps x n q hp hn hq h0) rfl ?_
  subst hr
  exact ⟨x, p, rfl, hx, hpp, hb⟩

/-- What the last step of a round reads. -/
def HeldAt (B n : Nat) (ad : Addr) (k : Nat) (s F Y : Value) (w : World) : Prop := w.cell? ⟨n, 0, none⟩ = some s ∧ w.cell? ⟨B, 2, none⟩ = some F ∧ w.cell? ⟨(ad.add (k * 2)).block, (ad.add (k * 2)).off + 1, none⟩ = some Y
theorem HeldAt.on {B n : Nat} {ad : Addr} {k : Nat} {s F Y : Value} {w w' : World} {row : Option Nat} (h : HeldAt B n ad k s F Y w) (hg : w.grownBy w' row) (h2 : some n ≠ row) (h3 : some B ≠ row) (h4 : some ad.block ≠ row) : HeldAt B n ad k s F Y w' :=
  ⟨hg.cell h.1 h2, hg.cell h.2.1 h3, hg.cell h.2.2 (by rw [add_block]; exact h4)⟩
theorem HeldAt.below {B n : Nat} {ad : Addr} {k : Nat} {s F Y : Value} {w w' : World} (h : HeldAt B n ad k s F Y w) (hb : Below w.heap.size w w') : HeldAt B n ad k s F Y w' :=
  h.on (row := none) ⟨hb.os, hb.tape, hb.output, hb.size, fun k hk _ => hb.block k hk⟩ (by simp) (by simp) (by simp)
theorem HeldAt.set {B n : Nat} {ad : Addr} {k : Nat} {s F Y : Value} {w : World} (h : HeldAt B n ad k s F Y w) (j : Nat) (u : Value) (h2 : n ≠ j) (h3 : B ≠ j) (h4 : ad.block ≠ j) : HeldAt B n ad k s F Y (w.setCell ⟨j, 0, none⟩ u) :=
  ⟨(far_cell h2).trans h.1, (far_cell h3).trans h.2.1, (far_cell (by rw [add_block]; exact h4)).trans h.2.2⟩
set_option maxHeartbeats 2000000 in
theorem history_at (l : List Gr.Tx) (U : Value) (b : Nat) (F N : Value) (w : World) (h : PastAt w l U b F N) (hl : l.length ≤ 32) (hc : So.Clean l 0) : Calls Try.prog 18 #[.agg #[U, .map (some b), F, N]] w (RetHistOwn w (So.endR l)) := by
  obtain ⟨j0, hi0, hz0, hz1, hz2⟩ := info_parts txn_info
  have J0 := Lib.hid hi0
  have J1 := Lib.hid hz0
  have J2 := Lib.hid hz1
  have J3 := Lib.hid hz2
  clear hi0 hz0 hz1 hz2
  have HC := Lib.hid ((So.clean_may l).1 hc)
  obtain ⟨AU, cU, rfl, hT⟩ := h.txs.spelled
  obtain ⟨AF, cF, rfl, hFa⟩ := h.faces.spelled
  obtain ⟨AN, cN, rfl, _⟩ := h.nums.spelled
  rw [List.length_map] at *
  rw [numsTo_len] at *
  have HP := Lib.hid h
  have HT := Lib.hid hT
  have HFA := Lib.hid hFa
  have HS0 := Lib.hid (hist_start w l (.slice AU l.length cU) b (.slice AF l.length cF) (.slice AN l.length cN) 58)
  clear hT hFa h hc
  go_enter Try.func18, Try.ntmps18
  go_wp2
  go_loopw [13] (fun i wr => ∃ (k : Nat) (V : Value) (p : List (So.Txn × Value × Value)), k ≤ l.length ∧ i = .int .i64 k ∧ Hid (∀ j, j < k → So.phase l 3 j = 0) ∧ HistMid w wr l k (.slice AU l.length cU) b (.slice AF l.length cF) (.slice AN l.length cN) V p) (fun i _ => l.length - (intOf i).toNat)
  case atStart => exact ⟨0, _, _, Nat.zero_le _, rfl, (fun j hj => absurd hj (by omega)), HS0.out⟩
  case round =>
    clear HS0
    obtain ⟨k, V, p, hk, rfl, hno, hat⟩ := hrel
    have HM := Lib.hid hat
    obtain ⟨AV, cV, rfl⟩ := own_form hat.own.row
    clear hat
    by_cases hlt : k < l.length
    · obtain ⟨ad, u, rfl, hblk, hTk, hUk⟩ := HT.out k hlt
      obtain ⟨ad2, fx, fy, rfl, hblk2, hFk, hfx, hfy⟩ := HFA.out k (by rw [List.length_map]; exact hlt)
      have hface : (l.map faceT)[k]'(by rw [List.length_map]; exact hlt) = faceT l[k] := by simp
      rw [hface] at hfx hfy
      have HSK := Lib.hid (fun hd => HM.out.skip hlt hd)
      have HMO := Lib.hid (fun (W w3 : World) (v' kv rv : Value) (hm : HistMid w W l k (.slice (some ad) l.length cU) b (.slice (some ad2) l.length cF) (.slice AN l.length cN) (.slice AV p.length cV) p) => hm.more (w3 := w3) (v' := v') (kv := kv) (rv := rv) hlt)
      have HPH := Lib.hid (So.phase_at l 3 k hlt)
      have HMAY := Lib.hid ((So.mayT_iff _).1 (HC.out _ (List.getElem_mem hlt))).1
      obtain ⟨t, ht⟩ : ∃ t, t = l[k]'hlt := ⟨_, rfl⟩
      rw [← ht] at hTk hUk hfx hfy HSK HMO HPH HMAY
      obtain ⟨Au, cu, rfl, _⟩ := hUk.form
      obtain ⟨hc0, hc1, hc2, hc3⟩ := hTk.below hblk HM.out.below
      clear hTk hUk ht hface
      cases hd : t.done with
      | false =>
        have HN := Lib.hid (HSK.out hd)
        have HPZ : Hid (So.phase l 3 k = 0) := by rw [Hid, HPH.out]; simp [So.phaseT, hd]
        rw [hd] at hc1
        clear HMO HSK hfx hfy hFk
        go_wp2_with fail
        go_roundw
        case rel => exact ⟨k + 1, _, p, by omega, by go_num, So.next_zero hno.out HPZ.out, HN.out.later (alloc_below _ _)⟩
        case measure => simp [intOf]; omega
      | true =>
        have HPE : Hid (So.phase l 3 k = So.readsErr l (In.readsTo t.ops 16)) := by rw [Hid, HPH.out]; simp [So.phaseT, hd]
        rw [hd] at hc1
        have hfx2 : Its w fx (In.readsTo t.ops 16) := by rw [faceT, hd] at hfx; exact hfx
        have hfy2 : Its w fy (In.writesTo t.ops 16) := by rw [faceT, hd] at hfy; exact hfy
        obtain ⟨Ax, cx, rfl, _⟩ := hfx2.spelled
        obtain ⟨Ay, cy, rfl, _⟩ := hfy2.spelled
        have HM1 := Lib.hid (HM.out.later (alloc_below wr (.cells #[.int .i64 t.session, .bool true, .int .i64 t.first, .slice Au t.ops.length cu] 37)))
        obtain ⟨b0, b1, b2, b3⟩ := HM1.out.box
        obtain ⟨f0, f1⟩ := hFk.below hblk2 HM1.out.below
        have s0 : (wr.alloc (.cells #[.int .i64 t.session, .bool true, .int .i64 t.first, .slice Au t.ops.length cu] 37)).cell? ⟨wr.heap.size, 0, none⟩ = some (.int .i64 t.session) := new_cell wr _ _ 0 _ rfl
        have hws : wr.heap.size < (wr.alloc (.cells #[.int .i64 t.session, .bool true, .int .i64 t.first, .slice Au t.ops.length cu] 37)).heap.size := by simp
        have HFK := Lib.hid hFk
        have HFY := Lib.hid hfy2
        have HPA := Lib.hid ((HP.out.below HM1.out.below).below ((Below.refl _ (wr.alloc (.cells #[.int .i64 t.session, .bool true, .int .i64 t.first, .slice Au t.ops.length cu] 37))).drew))
        have HIX := Lib.hid ((hfx2.below HM1.out.below).below ((Below.refl _ (wr.alloc (.cells #[.int .i64 t.session, .bool true, .int .i64 t.first, .slice Au t.ops.length cu] 37))).drew))
        have hk0 : (0 : Int) ≤ (k : Int) := by omega
        have hk1 : (k : Int) < (l.length : Int) := by omega
        have hrl := In.reads_len t.ops 16
        have hwl := In.writes_len t.ops 16
        have HOKR := Lib.hid (reads_ok t.ops HMAY.out)
        have HD := Lib.hid hd
        clear hfx hfy hfx2 hfy2 hFk HSK HPH
        go_wp2_with fail
        clear hc0 hc1 hc2 hc3
        obtain ⟨n1, hn1⟩ : ∃ n1, n1 = wr.heap.size := ⟨_, rfl⟩
        have HNV : Hid (some n1 ≠ (Value.slice AV p.length cV).ownBlock) := fun e => by
          have := (HM.out.own.row.lt n1 e.symm).2
          omega
        have HNB : Hid (w.heap.size + 2 < n1) := by rw [hn1]; exact HM.out.lt
        rw [← hn1] at s0 hws ⊢
        clear HM
        generalize wr.alloc (.cells #[.int .i64 t.session, .bool true, .int .i64 t.first, .slice Au t.ops.length cu] 37) = W1 at *
        clear hn1
        have HM2 := Lib.hid (HM1.out.later ((Below.refl _ W1).drew))
        have HS0 : Hid (W1.drew.cell? ⟨n1, 0, none⟩ = some (.int .i64 t.session)) := s0
        have HWS : Hid (n1 < W1.drew.heap.size) := hws
        have HF0 := Lib.hid f0
        have hbs := Lib.hid (HM1.out.below.size)
        clear f1 s0 hws
        by_cases hq : So.readsErr l (In.readsTo t.ops 16) = 0
        · have HPZ : Hid (So.phase l 3 k = 0) := by rw [Hid, HPE.out]; exact hq
          have HQ := Lib.hid hq
          clear hq HPE
          go_region_held3 (fun w' => (w'.cell? ⟨w.heap.size, 0, none⟩ = some (.slice (some ad) l.length cU) ∧ w'.cell? ⟨w.heap.size, 1, none⟩ = some (.map (some b)) ∧ w'.cell? ⟨w.heap.size, 2, none⟩ = some (.slice (some ad2) l.length cF) ∧ w'.cell? ⟨w.heap.size, 3, none⟩ = some (.slice AN l.length cN)) ∧ w'.cell? (ad2.add (k * 2)) = some (.slice Ax (In.readsTo t.ops 16).length cx))
            (first | (exact ⟨HM1.out.box, HF0.out⟩) | (exact ⟨HM3.out.box, (HB3.out.cell (by rw [add_block]; exact Nat.lt_of_lt_of_le hblk2 hbs.out)).trans HF0.out⟩))
            (first | (go_at_call 27; (with_reducible refine (takes_at l _ b _ _ (In.readsTo t.ops 16) _ _ HPA.out HIX.out (by omega) HOKR.out).mono ?_); rintro e w3 ⟨A3, n3, c3, rfl, hrow3, hb3⟩; rw [HQ.out]; have HB3 := Lib.hid (below_all ((Below.refl _ W1).drew) hb3); have HRV := Lib.hid (hrow3 HQ.out); have HM3 := Lib.hid (HM2.out.later hb3); have HS3 : Hid (w3.cell? ⟨n1, 0, none⟩ = some (.int .i64 t.session)) := ((hb3.cell HWS.out).trans HS0.out); have HW3 : Hid (n1 < w3.heap.size) := (Nat.lt_of_lt_of_le HWS.out hb3.size); clear hrow3 hb3))
          all_goals
            have HH3 : Hid (HeldAt w.heap.size n1 ad2 k (.int .i64 t.session) (.slice (some ad2) l.length cF) (.slice Ay (In.writesTo t.ops 16).length cy) w3) := ⟨HS3.out, HM3.out.box.2.2.1, (HFK.out.below hblk2 HM3.out.below).c1⟩
            have HIY := Lib.hid ((HFY.out.below HM3.out.below).below ((Below.refl _ w3).drew))
            have HLT := Lib.hid HM2.out.lt
            have HLT3 := Lib.hid HM3.out.lt
            have hp32 : p.length ≤ 32 := by
              have e := congrArg List.length HM3.out.same
              rw [List.length_map, List.length_map] at e
              have := List.length_filter_le (·.done) (l.take k)
              rw [List.length_take] at this
              omega
            obtain ⟨d1, d2, d3⟩ := HH3.out
            have d0 := (one_cell HM3.out.cell).1
            go_wp2_with fail
            go_region_law (first
              | (refine step_append_lies _ rfl (.tmp 38) (.tmp 50) 25 rfl (w.heap.size + 3) 41 j0 _ 3 56 Try.underlying25 J0.out J1.out J2.out J3.out rfl (by decide) (.slice AV p.length cV) p.length (p.flatMap txnC) (by simp [Act.eval]) HM4.out.own.row ⟨w4.heap.size, 0, none⟩ 1 1 (txnC (So.txnOf l t, .slice Ak nk ck, .slice A3 n3 c3)) (by simp [Act.eval]) rfl HNT.out (one_txnC _ _ _ _ _ _ _) (by decide) (by simp only [maxLen]; omega) (by omega) HBS.out (w4.heap.size + 1) (by simp) ?_; intro g5 cap5 w5 hown5 hgrow5 hat5 hlt5; have HFIN := Lib.hid (HMO.out _ w5 _ _ _ HM4.out HD.out HKV.out HRV4.out hown5 hgrow5); have HH5 := Lib.hid (HH4a.out.on hgrow5 HNV.out (HM4.out.far w.heap.size (by omega)) (HM4.out.far ad2.block (by omega))); have hc5 : w5.cell? ⟨w.heap.size + 2, 0, none⟩ = some (.slice AV p.length cV) := hgrow5.cell (one_cell HM4.out.cell).1 (HM4.out.far (w.heap.size + 2) (by omega)); have hf5 : w5.frozen? ⟨w.heap.size + 2, 0, none⟩ = false := (hgrow5.frozen_far ⟨w.heap.size + 2, 0, none⟩ HM4.out.lt (HM4.out.far (w.heap.size + 2) (by omega))).trans (one_cell HM4.out.cell).2; clear hown5 hgrow5 hat5 hlt5)
              | (go_simp; go_at_call 28; (with_reducible refine (keysOf_at (In.writesTo t.ops 16) _ _ HIY.out (by omega)).mono ?_); rintro e w4 ⟨kv, rfl, hkv, hb4⟩; obtain ⟨Ak, nk, ck, rfl⟩ := own_any hkv; have HB4 := Lib.hid (below_all ((Below.refl _ w3).drew) hb4); have HH4 := Lib.hid (HH3.out.below HB4.out); have HH4a := Lib.hid (HH4.out.below (alloc_below w4 (.cells #[.int .i64 t.session, .slice Ak nk ck, .slice A3 n3 c3] 41))); have HM4 := Lib.hid ((HM3.out.later HB4.out).later (alloc_below w4 (.cells #[.int .i64 t.session, .slice Ak nk ck, .slice A3 n3 c3] 41))); have HKV := Lib.hid ((hkv.mono (base' := w.heap.size + 3) HLT3.out).alloc (.cells #[.int .i64 t.session, .slice Ak nk ck, .slice A3 n3 c3] 41)); have HRV4 := Lib.hid ((own_below (HRV.out.mono (base' := w.heap.size + 3) HLT.out) HB4.out).alloc (.cells #[.int .i64 t.session, .slice Ak nk ck, .slice A3 n3 c3] 41)); have HNT := Lib.hid (new_txn w4 (So.txnOf l t) (.slice Ak nk ck) (.slice A3 n3 c3) 41); have HBS := Lib.hid HM4.out.lt; have c4 := (one_cell (HM3.out.later HB4.out).cell).1; have c4a := (one_cell HM4.out.cell).1; obtain ⟨x1, x2, x3⟩ := HH4.out; obtain ⟨y1, y2, y3⟩ := HH4a.out; clear hkv hb4))
            all_goals
              go_wp2_with fail
              go_roundw
              case rel => exact ⟨k + 1, _, _, by omega, by go_num, So.next_zero hno.out HPZ.out, HFIN.out⟩
              case measure => simp [intOf]; omega
        · have hqb : (So.readsErr l (In.readsTo t.ops 16) != 0) = true := by rw [bne_iff_ne]; exact hq
          have HR : Hid (So.endR l = ([], (k : Int), So.readsErr l (In.readsTo t.ops 16))) := by rw [Hid, So.end_bad l k hlt hno.out (by rw [HPE.out]; exact hq), HPE.out]
          clear hq HPE
          go_region_held3 (fun w' => (w'.cell? ⟨w.heap.size, 0, none⟩ = some (.slice (some ad) l.length cU) ∧ w'.cell? ⟨w.heap.size, 1, none⟩ = some (.map (some b)) ∧ w'.cell? ⟨w.heap.size, 2, none⟩ = some (.slice (some ad2) l.length cF) ∧ w'.cell? ⟨w.heap.size, 3, none⟩ = some (.slice AN l.length cN)) ∧ w'.cell? (ad2.add (k * 2)) = some (.slice Ax (In.readsTo t.ops 16).length cx))
            (first | (exact ⟨HM1.out.box, HF0.out⟩) | (exact ⟨HM3.out.box, (HB3.out.cell (by rw [add_block]; exact Nat.lt_of_lt_of_le hblk2 hbs.out)).trans HF0.out⟩))
            (first | (go_at_call 27; (with_reducible refine (takes_at l _ b _ _ (In.readsTo t.ops 16) _ _ HPA.out HIX.out (by omega) HOKR.out).mono ?_); rintro e w3 ⟨A3, n3, c3, rfl, hrow3, hb3⟩; have HB3 := Lib.hid (below_all ((Below.refl _ W1).drew) hb3); have HM3 := Lib.hid (HM2.out.later hb3); clear hrow3 hb3))
          all_goals
            obtain ⟨r0, r1⟩ := one_cell HM3.out.res
            go_wp2_with fail
            exact end_hist HR.out _ _ _ (one_cell (one_set HM3.out.res _)).1 [] rfl (OwnTxns.nil _ _ _ _ _) (HM3.out.below.setCell (by show w.heap.size ≤ w.heap.size + 1; omega) _) rfl rfl rfl
    · have HR : Hid (So.endR l = (So.txns l, 0, 0)) := So.end_ok l (fun j hj => hno.out j (by omega))
      obtain ⟨r0, r1⟩ := one_cell HM.out.res
      obtain ⟨d0, _⟩ := one_cell HM.out.cell
      have HSA : Hid (p.map (·.1) = So.txns l) := by rw [Hid, HM.out.same, List.take_of_length_le (by omega)]; rfl
      go_wp2_with fail
      exact end_hist HR.out _ _ _ (one_cell (one_set HM.out.res _)).1 p HSA.out ((HM.out.own.set (a := ⟨w.heap.size + 1, 0, none⟩) (by show w.heap.size + 1 < w.heap.size + 3; omega) (.slice AV p.length cV)).mono (by omega)) (HM.out.below.setCell (by show w.heap.size ≤ w.heap.size + 1; omega) _) rfl rfl rfl
end Go.Proofs.Ytodahdnooidmaaa
