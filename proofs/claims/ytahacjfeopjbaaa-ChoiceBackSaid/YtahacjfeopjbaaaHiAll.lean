/-
  Several texts in one, each with its own first words: HiPlain, HiParse, HiLess, HiFrame, HiRange, HiIter, HiWalkA, HiWalkB, HiWalkC, HiFew.
  Conditions: as each says.
-/
import Derived.Test.YtahacjfeopjbaaaSoAll
import Derived.Test.YtahacjfeopjbaaaDiAll
import Derived.Test.YtahacjfeopjbaaaGrAll
import Derived.Test.YtahacjfeopjbaaaLow
import Derived.RangeFuncNested
import Derived.RangeFuncCalls
import Derived.RangeFuncLeaves
import Derived.OwnWalkIn
import Derived.TacticsInMore
import Derived.LoopNIn
import Derived.LoopIn
import Derived.Shelf.Abstract
/-
  Plain facts on histories and their events (no Go in it): when a history may be, its events, and that these make that history; what is told of transactions may be; First plays no part.
  Conditions: none beyond those that each theorem states.
-/
set_option maxRecDepth 4000
namespace Go.Proofs.Ytahacjfeopjbaaa.Hi
open In (isK isK_iff lastOf lookR readsTo writesTo rd wr errAt wrong future)
open So (Txn Rises histR txns txnOf fromR fromGo readsErr phase phaseT mayT unlikeR opBad wrote isW)

/-- When a transaction of a history may be, and a history. -/
structure OkTxn (h : List Txn) (n : Nat) (t : Txn) : Prop where
  session : 0 ≤ t.session ∧ t.session < 8
  writes : Rises t.writes
  reads : Rises (t.reads.map (·.1))
  froms : ∀ y ∈ t.reads, y.2 = -1 ∨ ∃ j, ∃ hj : j < h.length, y.2 = (j : Int) ∧ j ≠ n ∧ y.1 ∈ h[j].writes
def Right (h : List Txn) : Prop := h.length ≤ 32 ∧ ∀ n (hn : n < h.length), OkTxn h n h[n]

/-- What is told of transactions may be. -/
theorem right_of (l : List Gr.Tx) (hl : l.length ≤ 32) (h : ∀ p, p < 4 → So.Clean l p) : Right (txns l) := by
  have hlen := So.txns_len l
  refine ⟨by rw [hlen]; exact Nat.le_trans (List.length_filter_le _ _) hl, fun n hn => ?_⟩
  have hlt : n < (l.filter (·.done)).length := by omega
  have e : (txns l)[n] = txnOf l ((l.filter (·.done))[n]'hlt) := by simp [txns]
  have hmem := (List.mem_filter.1 (List.getElem_mem hlt)).1
  refine ⟨?_, ?_, ?_, fun y hy => So.read_from l (h 2 (by omega)) (h 3 (by omega)) n hn y hy⟩
  · rw [e]
    exact ((So.mayT_iff _).1 ((So.clean_may l).1 (h 0 (by omega)) _ hmem)).2
  · rw [e]; exact So.writes_rise _
  · rw [e, So.txn_reads]; exact So.reads_rise _

/-! First plays no part. -/
def strip (t : Gr.Tx) : Gr.Tx := ⟨t.session, t.done, 0, t.ops⟩
theorem fromGo_strip (key v : Int) (l : List Gr.Tx) : ∀ n, fromGo key v n (l.map strip) = fromGo key v n l := by
  induction l with
  | nil => exact fun _ => rfl
  | cons t r ih => intro n; rw [List.map_cons, fromGo, fromGo, ih]; rfl
theorem fromR_strip (l : List Gr.Tx) (y : Int × Int) : fromR (l.map strip) y = fromR l y := by unfold fromR; rw [fromGo_strip]
theorem readsErr_strip (l : List Gr.Tx) (ys : List (Int × Int)) : readsErr (l.map strip) ys = readsErr l ys := So.readsErr_congr l _ ys fun y _ => fromR_strip l y
theorem flat_strip (l : List Gr.Tx) : (l.map strip).flatMap (·.ops) = l.flatMap (·.ops) := by rw [List.flatMap_map]; rfl
theorem phase_strip (l : List Gr.Tx) (p i : Nat) : phase (l.map strip) p i = phase l p i := by
  rcases Nat.lt_or_ge i l.length with hi | hi
  · rw [So.phase_at l p i hi, So.phase_at (l.map strip) p i (by simpa using hi), List.getElem_map]
    unfold phaseT
    rw [← List.map_take, flat_strip]
    have k1 : mayT (strip l[i]) = mayT l[i] := rfl
    have k2 : (strip l[i]).ops = l[i].ops := rfl
    have k3 : (strip l[i]).done = l[i].done := rfl
    rw [k1, k2, k3, readsErr_strip]
  · rw [So.phase_out l p i hi, So.phase_out _ p i (by simpa using hi)]
theorem txns_strip (l : List Gr.Tx) : txns (l.map strip) = txns l := by
  unfold txns
  rw [List.filter_map, List.map_map]
  have : ((fun t : Gr.Tx => t.done) ∘ strip) = fun t => t.done := rfl
  rw [this]
  exact List.map_congr_left fun t _ => So.txnOf_congr l _ t fun y _ => fromR_strip l y
theorem hist_strip (l : List Gr.Tx) : histR (l.map strip) = histR l := by
  have hc : ∀ p, So.Clean l p → So.Clean (l.map strip) p := fun p h i hi => by rw [phase_strip]; exact h i (by simpa using hi)
  rcases So.hist_cases l with h | ⟨hl, h | ⟨p, i, h1, h2, h3, h4, h5⟩⟩
  · rw [So.hist_many l h, So.hist_many _ (by simpa using h)]
  · rw [So.hist_ok l hl h, So.hist_ok _ (by simpa using hl) (fun p hp => hc p (h p hp)), txns_strip]
  · rw [So.hist_bad l hl p i h1 h2 h3 h4 h5, So.hist_bad _ (by simpa using hl) p i h1 (by simpa using h2) (fun q hq => hc q (h3 q hq)) (fun j hj => by rw [phase_strip]; exact h4 j hj) (by rw [phase_strip]; exact h5), phase_strip]
theorem hist_core (l m : List Gr.Tx) (h : l.map Gr.core = m.map Gr.core) : histR l = histR m := by
  have e : ∀ x : List Gr.Tx, x.map strip = (x.map Gr.core).map fun c => ⟨c.1, c.2.1, 0, c.2.2⟩ := fun x => by rw [List.map_map]; rfl
  rw [← hist_strip l, ← hist_strip m, e, e, h]

/-! The events of a history. -/
def readEv (s : Int) (y : Int × Int) : Ev.Event := ⟨1, s, y.1, y.2 + 1⟩
def writeEv (s : Int) (n : Nat) (k : Int) : Ev.Event := ⟨2, s, k, (n : Int) + 1⟩
def opsOf (t : Txn) (n : Nat) : List Ev.Event := t.reads.map (readEv t.session) ++ t.writes.map (writeEv t.session n)
def txOf (n : Nat) (t : Txn) : Gr.Tx := ⟨t.session, true, 0, opsOf t n⟩
def txsOf (h : List Txn) : List Gr.Tx := h.mapIdx txOf
def events (h : List Txn) : List Ev.Event := Gr.eventsR (txsOf h)
theorem txsOf_len (h : List Txn) : (txsOf h).length = h.length := by simp [txsOf]
theorem txsOf_at (h : List Txn) (n : Nat) (hn : n < h.length) : (txsOf h)[n]'(by rw [txsOf_len]; exact hn) = txOf n h[n] := by simp [txsOf]
theorem txsOf_mem {h : List Txn} {x : Gr.Tx} (hx : x ∈ txsOf h) : ∃ n, ∃ hn : n < h.length, x = txOf n h[n] := by
  obtain ⟨n, hn, rfl⟩ := List.getElem_of_mem hx
  rw [txsOf_len] at hn
  exact ⟨n, hn, txsOf_at h n hn⟩
theorem op_right {h : List Txn} (hr : Right h) (n : Nat) (hn : n < h.length) : ∀ e ∈ opsOf h[n] n, Ev.right e = true ∧ Ev.hasKey e.kind = true ∧ e.session = h[n].session := by
  intro e he
  have ok := hr.2 n hn
  have hl := hr.1
  rcases List.mem_append.1 he with he | he
  · obtain ⟨y, hy, rfl⟩ := List.mem_map.1 he
    have hk := ok.reads.1 y.1 (List.mem_map.2 ⟨y, hy, rfl⟩)
    refine ⟨?_, rfl, rfl⟩
    rw [Ev.right_iff]
    refine ⟨(show (0 : Int) ≤ 1 by decide), (show (1 : Int) < 5 by decide), ok.session.1, ok.session.2, ?_⟩
    rw [if_pos (show Ev.hasKey (readEv h[n].session y).kind = true from rfl)]
    refine ⟨hk.1, hk.2, (Nm.isNum_iff _).2 ?_⟩
    show 0 ≤ y.2 + 1 ∧ y.2 + 1 ≤ 2147483647
    rcases ok.froms y hy with h1 | ⟨j, hj, h1, _⟩ <;> omega
  · obtain ⟨k, hk, rfl⟩ := List.mem_map.1 he
    have hk' := ok.writes.1 k hk
    refine ⟨?_, rfl, rfl⟩
    rw [Ev.right_iff]
    refine ⟨(show (0 : Int) ≤ 2 by decide), (show (2 : Int) < 5 by decide), ok.session.1, ok.session.2, ?_⟩
    rw [if_pos (show Ev.hasKey (writeEv h[n].session n k).kind = true from rfl)]
    refine ⟨hk'.1, hk'.2, (Nm.isNum_iff _).2 ?_⟩
    show 0 ≤ (n : Int) + 1 ∧ (n : Int) + 1 ≤ 2147483647
    omega
/-- The first kind of errors: none. -/
theorem clean0 {h : List Txn} (hr : Right h) : So.Clean (txsOf h) 0 := (So.clean_may _).2 fun x hx => by
  obtain ⟨n, hn, rfl⟩ := txsOf_mem hx
  rw [So.mayT_iff]
  refine ⟨fun e he => ?_, (hr.2 n hn).session⟩
  obtain ⟨h1, h2, _⟩ := op_right hr n hn e he
  rw [h1, h2]
  rfl
/-! Writes. -/
theorem unlike_reads (a : List Ev.Event) (s : Int) (ys : List (Int × Int)) : unlikeR a (ys.map (readEv s)) = 0 := by
  induction ys generalizing a with
  | nil => rfl
  | cons y r ih =>
    rw [List.map_cons, unlikeR, if_neg]
    · exact ih _
    · have : opBad a (readEv s y) = 0 := by unfold opBad; rw [if_pos (show (readEv s y).kind ≠ 2 from (by show (1 : Int) ≠ 2; decide))]
      rw [this]; simp
theorem unlike_writes (s : Int) (n : Nat) (ks : List Int) (hk : ks.Pairwise (· < ·)) : ∀ a, (∀ k ∈ ks, wrote k ((n : Int) + 1) a = false) → unlikeR a (ks.map (writeEv s n)) = 0 := by
  induction ks with
  | nil => exact fun _ _ => rfl
  | cons k r ih =>
    intro a ha
    obtain ⟨h1, h2⟩ := List.pairwise_cons.1 hk
    have hb : opBad a (writeEv s n k) = 0 := by
      unfold opBad
      rw [if_neg (show ¬ (writeEv s n k).kind ≠ 2 from fun q => q rfl), if_neg (show ¬ (writeEv s n k).value = 0 from (by show ¬ (n : Int) + 1 = 0; omega))]
      rw [show wrote (writeEv s n k).key (writeEv s n k).value a = false from ha k (by simp)]
      rfl
    rw [List.map_cons, unlikeR, if_neg (by rw [hb]; simp)]
    refine ih h2 _ fun k' hk' => ?_
    have h3 := h1 k' hk'
    have h4 := ha k' (List.mem_cons_of_mem _ hk')
    unfold wrote at h4 ⊢
    rw [List.any_append, h4, Bool.false_or, List.any_cons, List.any_nil, Bool.or_false]
    cases hq : isW k' ((n : Int) + 1) (writeEv s n k) with
    | false => rfl
    | true =>
      have := ((So.isW_iff _ _ _).1 hq).2.1
      have : k = k' := this
      omega
theorem wrote_ops (t : Txn) (m : Nat) (k v : Int) : wrote k v (opsOf t m) = true ↔ v = (m : Int) + 1 ∧ k ∈ t.writes := by
  unfold wrote
  rw [List.any_eq_true]
  constructor
  · rintro ⟨e, he, hw⟩
    obtain ⟨h1, h2, h3⟩ := (So.isW_iff _ _ _).1 hw
    rcases List.mem_append.1 he with he | he
    · obtain ⟨y, _, rfl⟩ := List.mem_map.1 he
      have : (1 : Int) = 2 := h1
      omega
    · obtain ⟨k', hk', rfl⟩ := List.mem_map.1 he
      have e1 : k' = k := h2
      have e2 : (m : Int) + 1 = v := h3
      exact ⟨e2.symm, e1 ▸ hk'⟩
  · rintro ⟨rfl, hk⟩
    exact ⟨writeEv t.session m k, List.mem_append_right _ (List.mem_map.2 ⟨k, hk, rfl⟩), (So.isW_iff _ _ _).2 ⟨rfl, rfl, rfl⟩⟩
theorem wrote_no (t : Txn) (m : Nat) (k v : Int) (h : ¬ (v = (m : Int) + 1 ∧ k ∈ t.writes)) : wrote k v (opsOf t m) = false := by
  cases hq : wrote k v (opsOf t m) with
  | false => rfl
  | true => exact absurd ((wrote_ops t m k v).1 hq) h
theorem clean1 {h : List Txn} (hr : Right h) : So.Clean (txsOf h) 1 := fun n hn => by
  have hn' : n < h.length := by rw [txsOf_len] at hn; exact hn
  rw [So.phase_at _ 1 n hn, txsOf_at h n hn']
  show unlikeR (((txsOf h).take n).flatMap (·.ops)) (opsOf h[n] n) = 0
  unfold opsOf
  rw [So.unlike_append]
  refine ⟨unlike_reads _ _ _, unlike_writes _ _ _ (hr.2 n hn').writes.2 _ fun k _ => ?_⟩
  unfold wrote
  rw [List.any_append, Bool.or_eq_false_iff, List.any_eq_false, List.any_eq_false]
  refine ⟨fun e he hw => ?_, fun e he hw => ?_⟩
  · obtain ⟨x, hx, hex⟩ := List.mem_flatMap.1 he
    obtain ⟨m, hm, rfl⟩ := List.mem_take_iff_getElem.1 hx
    rw [txsOf_len] at hm
    rw [txsOf_at h m (by omega)] at hex
    have : wrote k ((n : Int) + 1) (opsOf (h[m]'(by omega)) m) = true := by unfold wrote; rw [List.any_eq_true]; exact ⟨e, hex, hw⟩
    have := ((wrote_ops _ _ _ _).1 this).1
    omega
  · obtain ⟨y, _, rfl⟩ := List.mem_map.1 he
    have : (1 : Int) = 2 := ((So.isW_iff _ _ _).1 hw).1
    omega

/-! Looks. -/
theorem ops_at (t : Txn) (n j : Nat) (hj : j < (opsOf t n).length) : (∃ h : j < t.reads.length, (opsOf t n)[j] = readEv t.session t.reads[j]) ∨ ∃ k ∈ t.writes, (opsOf t n)[j] = writeEv t.session n k := by
  unfold opsOf at hj ⊢
  rcases Nat.lt_or_ge j (t.reads.map (readEv t.session)).length with h | h
  · refine .inl ⟨by simpa using h, ?_⟩
    rw [List.getElem_append_left h]
    simp
  · refine .inr ?_
    rw [List.getElem_append_right h, List.getElem_map]
    exact ⟨_, List.getElem_mem _, rfl⟩
theorem last_reads (key s : Int) (ys : List (Int × Int)) : lastOf 2 key (ys.map (readEv s)) = none := by
  rw [In.lastOf_none]
  intro x hx
  obtain ⟨y, _, rfl⟩ := List.mem_map.1 hx
  cases hq : isK 2 key (readEv s y) with
  | false => rfl
  | true =>
    have : (1 : Int) = 2 := ((isK_iff _ _ _).1 hq).1
    omega
theorem good_ops {h : List Txn} (hr : Right h) (n : Nat) (hn : n < h.length) : In.good (opsOf h[n] n) := In.good_of_all _ fun j hj => by
  have ok := hr.2 n hn
  rw [In.errAt_at _ j hj]
  have hR := op_right hr n hn _ (List.getElem_mem hj)
  rcases ops_at h[n] n j hj with ⟨hjr, he⟩ | ⟨k, _, he⟩
  · rw [he] at hR ⊢
    rw [In.wrong_read _ _ _ hR.1 rfl]
    have htake : (opsOf h[n] n).take j = (h[n].reads.take j).map (readEv h[n].session) := by
      unfold opsOf
      rw [List.take_append_of_le_length (by rw [List.length_map]; omega), List.map_take]
    have h1 : lastOf 1 (readEv h[n].session h[n].reads[j]).key ((opsOf h[n] n).take j) = none := by
      rw [In.lastOf_none, htake]
      intro x hx
      obtain ⟨y, hy, rfl⟩ := List.mem_map.1 hx
      cases hq : isK 1 (readEv h[n].session h[n].reads[j]).key (readEv h[n].session y) with
      | false => rfl
      | true =>
        have e : y.1 = h[n].reads[j].1 := ((isK_iff _ _ _).1 hq).2
        obtain ⟨i, hi, rfl⟩ := List.mem_take_iff_getElem.1 hy
        have := (So.rises_at ok.reads j (by simpa using hjr)).2.2 i (by omega)
        simp only [List.getElem_map] at this
        omega
    have h2 : lastOf 2 (readEv h[n].session h[n].reads[j]).key ((opsOf h[n] n).take j) = none := by rw [htake]; exact last_reads _ _ _
    have h3 : future (readEv h[n].session h[n].reads[j]) ((opsOf h[n] n).drop (j + 1)) = false := by
      unfold future
      rw [List.any_eq_false]
      intro x hx hq
      rw [Bool.and_eq_true, isK_iff, decide_eq_true_eq] at hq
      obtain ⟨i, hi, rfl⟩ := List.getElem_of_mem (List.mem_of_mem_drop hx)
      rcases ops_at h[n] n i hi with ⟨_, e⟩ | ⟨k, _, e⟩
      · rw [e] at hq
        have : (1 : Int) = 2 := hq.1.1
        omega
      · rw [e] at hq
        have e2 : (n : Int) + 1 = h[n].reads[j].2 + 1 := hq.2
        rcases ok.froms _ (List.getElem_mem hjr) with h4 | ⟨m, _, h4, h5, _⟩ <;> omega
    rw [h2, h1, h3]
    rfl
  · rw [he] at hR ⊢
    exact In.wrong_write _ _ _ hR.1 rfl
theorem clean2 {h : List Txn} (hr : Right h) : So.Clean (txsOf h) 2 := (So.clean_look _).2 fun x hx _ => by
  obtain ⟨n, hn, rfl⟩ := txsOf_mem hx
  show (lookR (opsOf h[n] n)).2.2 = 0
  rw [In.look_ok _ (good_ops hr n hn)]
/-! Faces. -/
theorem fm_congr {α β : Type} {f g : α → Option β} {L : List α} (h : ∀ k ∈ L, f k = g k) : L.filterMap f = L.filterMap g := by
  induction L with
  | nil => rfl
  | cons x r ih => rw [List.filterMap_cons, List.filterMap_cons, h x (by simp), ih (fun k hk => h k (List.mem_cons_of_mem _ hk))]
theorem range_find {α β : Type} (key : α → Int) (g : α → β) (n : Nat) : ∀ (ys : List α), (∀ y ∈ ys, 0 ≤ key y ∧ key y < (n : Int)) → ys.Pairwise (fun a b => key a < key b) →
    (List.range n).filterMap (fun k : Nat => (ys.find? fun y => decide (key y = (k : Int))).map g) = ys.map g := by
  induction n with
  | zero =>
    intro ys h _
    cases ys with
    | nil => rfl
    | cons y r => have := h y (by simp); omega
  | succ n ih =>
    intro ys h hp
    rw [List.range_succ, List.filterMap_append]
    rcases List.eq_nil_or_concat ys with rfl | ⟨r, y, rfl⟩
    · simp
    · rw [List.concat_eq_append] at h hp ⊢
      rw [List.pairwise_append] at hp
      have hlt : ∀ x ∈ r, key x < key y := fun x hx => hp.2.2 x hx y (by simp)
      have hy := h y (by simp)
      by_cases e : key y = (n : Int)
      · have h1 : (List.range n).filterMap (fun k : Nat => ((r ++ [y]).find? fun x => decide (key x = (k : Int))).map g) = r.map g := by
          rw [← ih r (fun x hx => ⟨(h x (by simp [hx])).1, by have := hlt x hx; omega⟩) hp.1]
          refine fm_congr fun k hk => ?_
          have hkn := List.mem_range.1 hk
          rw [List.find?_append]
          have : ([y].find? fun x => decide (key x = (k : Int))) = none := by
            rw [List.find?_eq_none]
            intro x hx
            rw [List.mem_singleton.1 hx]
            simp
            omega
          rw [this, Option.or_none]
        have h2 : (r ++ [y]).find? (fun x => decide (key x = (n : Int))) = some y := by
          rw [List.find?_append]
          have : (r.find? fun x => decide (key x = (n : Int))) = none := by
            rw [List.find?_eq_none]
            intro x hx
            have := hlt x hx
            simp
            omega
          rw [this, Option.none_or]
          simp [e]
        rw [h1, List.filterMap_cons, h2]
        simp
      · have hall : ∀ x ∈ r ++ [y], 0 ≤ key x ∧ key x < (n : Int) := fun x hx => by
          refine ⟨(h x hx).1, ?_⟩
          rcases List.mem_append.1 hx with hx | hx
          · have := hlt x hx; omega
          · rw [List.mem_singleton.1 hx]; omega
        rw [ih (r ++ [y]) hall (by rw [List.pairwise_append]; exact hp)]
        have : (r ++ [y]).find? (fun x => decide (key x = (n : Int))) = none := by
          rw [List.find?_eq_none]
          intro x hx
          have := hall x hx
          simp
          omega
        rw [List.filterMap_cons, this]
        simp
theorem rd_ops (t : Txn) (n k : Nat) : rd (opsOf t n) k = (t.reads.find? fun y => decide (y.1 = (k : Int))).map fun y => (y.1, y.2 + 1) := by
  unfold rd opsOf
  rw [List.find?_append, List.find?_map]
  have e : ((fun e : Ev.Event => decide (e.key = (k : Int))) ∘ readEv t.session) = fun y => decide (y.1 = (k : Int)) := rfl
  rw [e]
  cases hf : t.reads.find? fun y => decide (y.1 = (k : Int)) with
  | some y =>
    have : y.1 = (k : Int) := by simpa using List.find?_some hf
    simp only [Option.map_some, Option.some_or]
    rw [if_pos (show (readEv t.session y).kind = 1 from rfl)]
    show some ((k : Int), y.2 + 1) = _
    rw [this]
  | none =>
    simp only [Option.map_none, Option.none_or]
    rw [List.find?_map]
    cases hw : t.writes.find? ((fun e : Ev.Event => decide (e.key = (k : Int))) ∘ writeEv t.session n) with
    | none => rfl
    | some x =>
      simp only [Option.map_some]
      rw [if_neg (show ¬ (writeEv t.session n x).kind = 1 from (by show ¬ (2 : Int) = 1; decide))]
theorem lastOf_writes (s : Int) (n : Nat) (ks : List Int) (k : Int) : lastOf 2 k (ks.map (writeEv s n)) = if k ∈ ks then some ((n : Int) + 1) else none := by
  induction ks with
  | nil => rfl
  | cons x r ih =>
    rw [List.map_cons, lastOf, ih]
    by_cases hr : k ∈ r
    · rw [if_pos hr, if_pos (List.mem_cons_of_mem _ hr)]
      rfl
    · rw [if_neg hr]
      by_cases e : x = k
      · rw [if_pos ((isK_iff 2 k (writeEv s n x)).2 ⟨rfl, e⟩), if_pos (by rw [e]; simp)]
        rfl
      · have hk : isK 2 k (writeEv s n x) = false := by
          cases hq : isK 2 k (writeEv s n x) with
          | false => rfl
          | true => exact absurd ((isK_iff _ _ _).1 hq).2 e
        rw [hk, if_neg (by simp), if_neg (by simp [hr]; exact fun q => e q.symm)]
        rfl
theorem lastOf_ops (t : Txn) (n : Nat) (k : Int) : lastOf 2 k (opsOf t n) = if k ∈ t.writes then some ((n : Int) + 1) else none := by
  unfold opsOf
  rw [In.lastOf_append, last_reads, lastOf_writes, Option.or_none]
theorem wr_ops (t : Txn) (n k : Nat) : wr (opsOf t n) k = (t.writes.find? fun x => decide (x = (k : Int))).map fun x => (x, (n : Int) + 1) := by
  unfold wr
  rw [lastOf_ops]
  cases hf : t.writes.find? fun x => decide (x = (k : Int)) with
  | some x =>
    have e : x = (k : Int) := by simpa using List.find?_some hf
    have hm := List.mem_of_find?_eq_some hf
    rw [if_pos (by rw [← e]; exact hm), e]
    rfl
  | none =>
    rw [List.find?_eq_none] at hf
    rw [if_neg (fun hm => by have := hf _ hm; simp at this)]
    rfl
theorem reads_ops {h : List Txn} (hr : Right h) (n : Nat) (hn : n < h.length) : readsTo (opsOf h[n] n) 16 = h[n].reads.map fun y => (y.1, y.2 + 1) := by
  have ok := (hr.2 n hn).reads
  unfold readsTo
  rw [← range_find (fun y : Int × Int => y.1) (fun y => (y.1, y.2 + 1)) 16 h[n].reads (fun y hy => ok.1 y.1 (List.mem_map.2 ⟨y, hy, rfl⟩)) (List.pairwise_map.1 ok.2)]
  exact fm_congr fun k _ => rd_ops _ _ _
theorem writes_ops {h : List Txn} (hr : Right h) (n : Nat) (hn : n < h.length) : writesTo (opsOf h[n] n) 16 = h[n].writes.map fun k => (k, (n : Int) + 1) := by
  have ok := (hr.2 n hn).writes
  unfold writesTo
  rw [← range_find (fun k : Int => k) (fun k => (k, (n : Int) + 1)) 16 h[n].writes (fun k hk => ok.1 k hk) ok.2]
  exact fm_congr fun k _ => wr_ops _ _ _
/-! Whose a value is. -/
theorem all_done (h : List Txn) : (txsOf h).filter (·.done) = txsOf h := List.filter_eq_self.2 fun x hx => by
  obtain ⟨n, hn, rfl⟩ := txsOf_mem hx
  rfl
theorem from_ops {h : List Txn} (hr : Right h) (n : Nat) (hn : n < h.length) (y : Int × Int) (hy : y ∈ h[n].reads) : fromR (txsOf h) (y.1, y.2 + 1) = (y.2, 0) := by
  rcases (hr.2 n hn).froms y hy with e | ⟨j, hj, e, _, hm⟩
  · rw [e]; rfl
  · have hj' : j < (txsOf h).length := by rw [txsOf_len]; exact hj
    unfold fromR
    rw [if_neg (show ¬ y.2 + 1 = 0 by omega)]
    show fromGo y.1 (y.2 + 1) 0 (txsOf h) = _
    rw [e, So.from_number y.1 ((j : Int) + 1) (txsOf h) j (by omega) (fun a ha haj => ?_), So.from_hit _ _ _ _ _ hj' ?_]
    · rw [txsOf_at h j hj, if_neg (show ¬ (txOf j h[j]).done = false from Bool.noConfusion)]
      show (if lastOf 2 y.1 (opsOf h[j] j) ≠ some ((j : Int) + 1) then _ else _) = _
      rw [lastOf_ops, if_pos hm, if_neg (fun q => q rfl)]
      have : ((txsOf h).take j).filter (·.done) = (txsOf h).take j := List.filter_eq_self.2 fun x hx => by
        obtain ⟨m, hm, rfl⟩ := txsOf_mem (List.mem_of_mem_take hx)
        rfl
      rw [this, List.length_take, txsOf_len, Nat.min_eq_left (by omega)]
    · rw [txsOf_at h j hj]
      exact (wrote_ops _ _ _ _).2 ⟨rfl, hm⟩
    · rw [txsOf_len] at ha
      rw [txsOf_at h a ha]
      exact wrote_no _ _ _ _ (fun q => by have := q.1; omega)
theorem clean3 {h : List Txn} (hr : Right h) : So.Clean (txsOf h) 3 := (So.clean_reads _).2 fun x hx _ y hy => by
  obtain ⟨n, hn, rfl⟩ := txsOf_mem hx
  rw [show (txOf n h[n]).ops = opsOf h[n] n from rfl, reads_ops hr n hn] at hy
  obtain ⟨z, hz, rfl⟩ := List.mem_map.1 hy
  rw [from_ops hr n hn z hz]
/-- A history's events make that history. -/
theorem hist_ops {h : List Txn} (hr : Right h) : histR (txsOf h) = (h, 0, 0) := by
  rw [So.hist_ok _ (by rw [txsOf_len]; exact hr.1) (fun p hp => by
    obtain rfl | rfl | rfl | rfl : p = 0 ∨ p = 1 ∨ p = 2 ∨ p = 3 := by omega
    · exact clean0 hr
    · exact clean1 hr
    · exact clean2 hr
    · exact clean3 hr)]
  congr 1
  unfold txns
  rw [all_done]
  refine List.ext_getElem (by rw [List.length_map, txsOf_len]) fun n h1 h2 => ?_
  rw [List.getElem_map, txsOf_at h n h2]
  unfold txnOf
  rw [show (txOf n h[n]).ops = opsOf h[n] n from rfl, reads_ops hr n h2, writes_ops hr n h2, List.map_map, List.map_map]
  have e1 : h[n].writes.map ((fun x : Int × Int => x.1) ∘ fun k => (k, (n : Int) + 1)) = h[n].writes := by
    rw [show ((fun x : Int × Int => x.1) ∘ fun k => (k, (n : Int) + 1)) = id from rfl, List.map_id]
  have e2 : h[n].reads.map ((fun y => (y.1, (fromR (txsOf h) y).1)) ∘ fun y => (y.1, y.2 + 1)) = h[n].reads := by
    conv => rhs; rw [← List.map_id h[n].reads]
    exact List.map_congr_left fun y hy => by
      show (y.1, (fromR (txsOf h) (y.1, y.2 + 1)).1) = y
      rw [from_ops hr n h2 y hy]
  rw [e1, e2]
  rfl
/-- Grouped, a history's events are its transactions, but for First. -/
theorem group_ops {h : List Txn} (hr : Right h) : ∃ m : List Gr.Tx, Gr.groupR (events h) = (m, 0, 0) ∧ m.map Gr.core = (txsOf h).map Gr.core := by
  obtain ⟨h1, b, h2, h3⟩ := Gr.txs_run (txsOf h) (fun x hx => by
    obtain ⟨n, hn, rfl⟩ := txsOf_mem hx
    exact ⟨(hr.2 n hn).session, op_right hr n hn⟩) [] (fun x hx => by cases hx) (by rw [txsOf_len]; simpa using hr.1) 0
  refine ⟨b, ?_, h3⟩
  rw [events, Gr.group_ok _ h1, h2, List.nil_append, List.map_map]
  rw [show ((fun x : Gr.Tx × Bool => x.1) ∘ fun t => (t, false)) = id from rfl, List.map_id]
theorem hist_back {h : List Txn} (hr : Right h) : ∃ m : List Gr.Tx, Gr.groupR (events h) = (m, 0, 0) ∧ histR m = (h, 0, 0) := by
  obtain ⟨m, h1, h2⟩ := group_ops hr
  exact ⟨m, h1, by rw [hist_core m _ h2]; exact hist_ops hr⟩
theorem events_right {h : List Txn} (hr : Right h) : ∀ e ∈ events h, Ev.right e = true := by
  intro e he
  obtain ⟨x, hx, hex⟩ := List.mem_flatMap.1 he
  obtain ⟨n, hn, rfl⟩ := txsOf_mem hx
  have hs := (hr.2 n hn).session
  rcases List.mem_cons.1 hex with rfl | hex
  · exact Gr.right_plain 0 _ (.inl rfl) hs
  · rcases List.mem_append.1 hex with hex | hex
    · exact (op_right hr n hn e hex).1
    · rw [List.mem_singleton.1 hex]
      exact Gr.right_plain 3 _ (.inr (.inl rfl)) hs
end Go.Proofs.Ytahacjfeopjbaaa.Hi
/-
  Plain facts on histories and their texts (no Go in it): a history's text, a text's history, or where it is wrong; that what is shown is parsed as it was, that what is parsed may be, and can be shown.
  Conditions: none beyond those that each theorem states.
-/
set_option maxRecDepth 4000
namespace Go.Proofs.Ytahacjfeopjbaaa.Hi
open In (isK isK_iff lastOf lookR readsTo writesTo rd wr)
open So (Txn histR txns txnOf)

/-- The place of a transaction's Begin. -/
def firstOf (t : List Gr.Tx) (i : Int) : Int := match t[i.toNat]? with
  | some x => x.first
  | none => 0
/-- Parse's answer: P8.1. -/
def parseR (s : List UInt8) : List Txn × Int × Int :=
  if (Di.parseR s).2.2 ≠ 0 then ([], (Di.parseR s).2.1, (Di.parseR s).2.2)
  else if (Gr.groupR (Di.parseR s).1).2.2 ≠ 0 then ([], (Gr.groupR (Di.parseR s).1).2.1 + 1, (Gr.groupR (Di.parseR s).1).2.2)
  else if (histR (Gr.groupR (Di.parseR s).1).1).2.2 ≠ 0 then ([], firstOf (Gr.groupR (Di.parseR s).1).1 (histR (Gr.groupR (Di.parseR s).1).1).2.1 + 1, (histR (Gr.groupR (Di.parseR s).1).1).2.2)
  else ((histR (Gr.groupR (Di.parseR s).1).1).1, 0, 0)
open Classical in
/-- Right's and Show's answers: P8.1, P8.2. -/
noncomputable def rightB (h : List Txn) : Bool := decide (Right h)
open Classical in
noncomputable def showR (h : List Txn) : List UInt8 × Int := if Right h then Di.showR (events h) else ([], 1)
theorem rightB_iff (h : List Txn) : rightB h = true ↔ Right h := @decide_eq_true_iff _ (Classical.propDecidable _)
theorem show_not (h : List Txn) (hr : ¬ Right h) : showR h = ([], 1) := by unfold showR; rw [if_neg hr]
theorem show_is (h : List Txn) (hr : Right h) : showR h = Di.showR (events h) := by unfold showR; rw [if_pos hr]
theorem show_few (h : List Txn) (hr : Right h) (hl : (events h).length ≤ 400) : (showR h).2 = 0 := by
  rw [show_is h hr, Di.show_ok _ (by omega) ((Di.all_right _).2 (events_right hr))]
theorem show_many (h : List Txn) (hr : Right h) (hl : 400 < (events h).length) : showR h = ([], 4) := by rw [show_is h hr, Di.show_many _ hl]
/-! Group's answer, by its parts. -/
theorem group_none (l : List Ev.Event) (h : (Gr.groupR l).2.2 = 0) : Gr.run 0 [] l = none ∧ (Gr.groupR l).1 = (Gr.go 0 [] l).map (·.1) := by
  cases hq : Gr.run 0 [] l with
  | none => rw [Gr.group_ok l hq]; exact ⟨rfl, rfl⟩
  | some p =>
    obtain ⟨k, q⟩ := p
    rw [Gr.group_bad l k q hq] at h
    exact absurd h (Gr.run_some 0 [] l k q hq).2.2.1
def commits (l : List Ev.Event) : Nat := l.countP fun e => decide (e.kind = 3)
theorem kinds_len (l : List Ev.Event) : Gr.keyed l + Gr.begins l + commits l ≤ l.length := by
  unfold Gr.keyed Gr.begins commits
  induction l with
  | nil => simp
  | cons x r ih =>
    rw [List.countP_cons, List.countP_cons, List.countP_cons, List.length_cons]
    have hk := Ev.hasKey_iff x.kind
    simp only [decide_eq_true_eq]
    by_cases h1 : Ev.hasKey x.kind = true
    · have := hk.1 h1
      rw [if_pos h1, if_neg (by omega), if_neg (by omega)]
      omega
    · rw [if_neg h1]
      split <;> split <;> omega
end Go.Proofs.Ytahacjfeopjbaaa.Hi
/-
  Plain facts on histories with one transaction more, or less (no Go in it).
  Conditions: none beyond those that each theorem states.
-/
set_option maxRecDepth 4000
namespace Go.Proofs.Ytahacjfeopjbaaa.Hi
open So (Txn Rises)

theorem rises_nil : Rises [] := ⟨(fun k hk => by cases hk), List.Pairwise.nil⟩
/-- An empty one more. -/
theorem right_more (h : List Txn) (hr : Right h) (s : Int) (hs : 0 ≤ s ∧ s < 8) : Right (h ++ [⟨s, [], []⟩]) ↔ h.length < 32 := by
  constructor
  · intro q
    have := q.1
    rw [List.length_append, List.length_singleton] at this
    omega
  · intro hl
    refine ⟨by rw [List.length_append, List.length_singleton]; omega, fun n hn => ?_⟩
    rw [List.length_append, List.length_singleton] at hn
    by_cases e : n < h.length
    · rw [List.getElem_append_left e]
      have ok := hr.2 n e
      refine ⟨ok.session, ok.writes, ok.reads, fun y hy => ?_⟩
      rcases ok.froms y hy with q | ⟨j, hj, q1, q2, q3⟩
      · exact .inl q
      · exact .inr ⟨j, by rw [List.length_append]; omega, q1, q2, by rw [List.getElem_append_left hj]; exact q3⟩
    · obtain rfl : n = h.length := by omega
      rw [List.getElem_append_right (Nat.le_refl _)]
      simp only [Nat.sub_self, List.getElem_cons_zero]
      exact ⟨hs, rises_nil, rises_nil, fun y hy => by cases hy⟩
end Go.Proofs.Ytahacjfeopjbaaa.Hi
/-
  A history among the arguments: it reads as a list of transactions, each with its own rows of keys and of reads.
  Conditions: none beyond those that each theorem states.
-/
set_option maxRecDepth 4000
namespace Go.Proofs.Ytahacjfeopjbaaa
open Go.ChangeShapes Go.WideShapes Go.ChangeAt Go.RowKit Go.Joins Go.Deep

section
variable {H : Type} {enc : TypeId × Value → H} {w : World} {base : Nat} {r : Reach} {b0 : Nat}
/-- One cell that reads as an integer is an integer's. -/
theorem cells_n {fuel : Nat} {cs : List Value} {x : DataW H × List MemPlace} (h : DataW.trod enc Try.prog w base (fun _ => true) true fuel 3 cs = some x) : ∃ y : Int, cs = nC y ∧ True := by
  obtain ⟨z, e, _⟩ := DataW.trod_int Try.underlying3 h
  exact ⟨z, e, trivial⟩
/-- Two cells that read as a read are a read's. -/
theorem cells_take {fuel : Nat} {cs : List Value} {x : DataW H × List MemPlace} (h : DataW.trod enc Try.prog w base (fun _ => true) true fuel 62 cs = some x) : ∃ y : Int × Int, cs = itC y ∧ True := by
  obtain ⟨xs, n, _, _, hlen, hl, hg⟩ := DataW.trod_struct Try.underlying62 h
  have h2 : cs.length = 2 := hlen.trans (by kernel_rfl)
  match cs, h2 with
  | [c0, c1], _ =>
    have ci : Try.prog.cellsOf 3 = 1 := by kernel_rfl
    have g0 : DataW.trod enc Try.prog w base (fun _ => true) true n 3 (([c0, c1].drop 0).take (Try.prog.cellsOf 3)) = xs[0]? := hg 0 _ rfl
    have g1 : DataW.trod enc Try.prog w base (fun _ => true) true n 3 (([c0, c1].drop 1).take (Try.prog.cellsOf 3)) = xs[1]? := hg 1 _ rfl
    simp only [ci, List.drop_zero, List.drop_succ_cons, List.take_succ_cons, List.take_zero] at g0 g1
    have hx : xs.length = 2 := hl
    rw [List.getElem?_eq_getElem (by omega)] at g0 g1
    obtain ⟨z0, e0, _⟩ := DataW.trod_int Try.underlying3 g0
    obtain ⟨z1, e1, _⟩ := DataW.trod_int Try.underlying3 g1
    cases e0
    cases e1
    exact ⟨(z0, z1), rfl, trivial⟩
/-- Three cells that read as a transaction of a history are one's. -/
theorem cells_txn {fuel : Nat} {cs : List Value} {x : DataW H × List MemPlace} (h : DataW.trod enc Try.prog w base (fun _ => true) true fuel 65 cs = some x) : ∃ y : So.Txn × Value × Value, cs = txnC y ∧ (Ns w y.2.1 y.1.writes ∧ Its w y.2.2 y.1.reads) := by
  obtain ⟨xs, n, _, _, hlen, hl, hg⟩ := DataW.trod_struct Try.underlying65 h
  have h3 : cs.length = 3 := hlen.trans (by kernel_rfl)
  match cs, h3 with
  | [c0, c1, c2], _ =>
    have ci : Try.prog.cellsOf 3 = 1 := by kernel_rfl
    have cn : Try.prog.cellsOf 46 = 1 := by kernel_rfl
    have ct : Try.prog.cellsOf 63 = 1 := by kernel_rfl
    have g0 : DataW.trod enc Try.prog w base (fun _ => true) true n 3 (([c0, c1, c2].drop 0).take (Try.prog.cellsOf 3)) = xs[0]? := hg 0 _ rfl
    have g1 : DataW.trod enc Try.prog w base (fun _ => true) true n 46 (([c0, c1, c2].drop 1).take (Try.prog.cellsOf 46)) = xs[1]? := hg 1 _ rfl
    have g2 : DataW.trod enc Try.prog w base (fun _ => true) true n 63 (([c0, c1, c2].drop 2).take (Try.prog.cellsOf 63)) = xs[2]? := hg 2 _ rfl
    simp only [ci, cn, ct, List.drop_zero, List.drop_succ_cons, List.take_succ_cons, List.take_zero] at g0 g1 g2
    have hx : xs.length = 3 := hl
    rw [List.getElem?_eq_getElem (by omega)] at g0 g1 g2
    obtain ⟨z0, e0, _⟩ := DataW.trod_int Try.underlying3 g0
    obtain ⟨A1, m1, c1', e1, l1, h1, _⟩ := cells_rows nC_len (by omega) (fun _ => True) (by kernel_rfl) Try.underlying46 (fun _ _ _ h => cells_n h) g1
    obtain ⟨A2, m2, c2', e2, l2, h2, _⟩ := cells_rows itC_len (by omega) (fun _ => True) (by kernel_rfl) Try.underlying63 (fun _ _ _ h => cells_take h) g2
    cases e0
    cases e1
    cases e2
    exact ⟨(⟨z0, l1, l2⟩, .slice A1 m1 c1', .slice A2 m2 c2'), rfl, h1, h2⟩
/-- A row of such. -/
theorem cells_txns {fuel : Nat} {cs : List Value} {x : DataW H × List MemPlace} (h : DataW.trod enc Try.prog w base (fun _ => true) true fuel 22 cs = some x) : ∃ (v : Value) (l : List So.Txn), cs = [v] ∧ Txns w v l := by
  have hinh : Inhabited (So.Txn × Value × Value) := ⟨(⟨0, [], []⟩, .slice none 0 0, .slice none 0 0)⟩
  obtain ⟨A, m, c, e, l, h1, _, h3⟩ := cells_rows txnC_len (by omega) (fun y : So.Txn × Value × Value => Ns w y.2.1 y.1.writes ∧ Its w y.2.2 y.1.reads) (by kernel_rfl) Try.underlying22 (fun _ _ _ h => cells_txn h) h
  exact ⟨_, l.map (·.1), e, l, rfl, h1, h3⟩
/-- A history among the arguments. -/
theorem arg_hist {v : Value} {d : DataW H} {ps : List MemPlace} (hval : Value.okWide Try.prog w r b0 24 v) (h : DataW.Trod enc Try.prog w base (fun _ => true) true 24 v d ps) : ∃ (u : Value) (l : List So.Txn), v = .agg #[u] ∧ Txns w u l := by
  obtain ⟨cs, rfl, hsz⟩ := okWide_struct Try.underlying24 hval
  obtain ⟨fuel, hf⟩ := h
  obtain ⟨xs, n, _, _, hlen, hl, hg⟩ := DataW.trod_struct Try.underlying24 hf
  have hc : cs.toList.length = 1 := hlen.trans (by kernel_rfl)
  obtain ⟨cl⟩ := cs
  match cl, hc with
  | [c0], _ =>
    have ct : Try.prog.cellsOf 22 = 1 := by kernel_rfl
    have g0 : DataW.trod enc Try.prog w base (fun _ => true) true n 22 (([c0].drop 0).take (Try.prog.cellsOf 22)) = xs[0]? := hg 0 _ rfl
    simp only [ct, List.drop_zero, List.take_succ_cons, List.take_zero] at g0
    have hx : xs.length = 1 := hl
    rw [List.getElem?_eq_getElem (by omega)] at g0
    obtain ⟨u, l, e, ht⟩ := cells_txns g0
    cases e
    exact ⟨_, l, rfl, ht⟩
end
end Go.Proofs.Ytahacjfeopjbaaa
/-
  A loop over a function whose rounds either leave all as it is and go on, or leave the loop by a return: its law, for an iterator that may do whatever it likes between the rounds.
  Conditions: none beyond those that the theorem states.
-/
set_option maxRecDepth 4000
namespace Go.Proofs.Ytahacjfeopjbaaa
open Go.RowKit

/-- The loop's two blocks, of which the first one lies at n. -/
def Booked (n : Nat) (r : Loop) (W : World) : Prop := W.heap[n]? = some (.deferred (some [])) ∧ W.heap[n + 1]? = some (.loop r)
theorem Booked.below {n : Nat} {r : Loop} {W W' : World} (h : Booked n r W) (hb : Below W.heap.size W W') : Booked n r W' :=
  ⟨(hb.block _ (Array.getElem?_eq_some_iff.1 h.1).1).trans h.1, (hb.block _ (Array.getElem?_eq_some_iff.1 h.2).1).trans h.2⟩
/-- How a round ends: it goes on and has left all as it was, or it leaves. -/
def stillPost {α : Type} (n : Nat) (Go : α → Prop) (Ix : α → World → Prop) (x : α) (W : World) : Exit → Act → World → Prop
  | .normal, _, W' => Go x ∧ W' = W
  | .ret, _, W' => KeepsFrom n W W' ∧ Ix x W'
  | _, _, _ => False
/-- What yield hands back. -/
def Round {α : Type} (n : Nat) (Go : α → Prop) (Ix : α → World → Prop) (out : Loop) (x : α) (W : World) (e : Ending) (W' : World) : Prop :=
  (e = .returned (.bool true) ∧ Go x ∧ W' = W) ∨ (e = .returned (.bool false) ∧ Ix x W' ∧ Booked n out W')
theorem put_put (W : World) (l : Nat) (o o' : Obj) : (W.putObj l o).putObj l o' = W.putObj l o' := by simp [World.putObj]
theorem put_same (W : World) (l : Nat) (o : Obj) (h : W.heap[l]? = some o) : W.putObj l o = W := by
  obtain ⟨hl, e⟩ := Array.getElem?_eq_some_iff.1 h
  subst e
  have e2 : W.heap.setIfInBounds l W.heap[l] = W.heap := by
    refine Array.ext (by simp) fun i h1 h2 => ?_
    rw [Array.getElem_setIfInBounds (by simpa using h2)]
    split
    · rename_i q; subst q; rfl
    · rfl
  unfold World.putObj
  rw [e2]

variable {F : Fence} {n : Nat} {P : Program}
theorem wp_range {α : Type} {g : Operand} {ps : Array Tmp} {assign body : Code} {Q : Exit → Act → World → Prop} {a : Act} {w : World}
    (hro : F.round = none) (h1 : 1 ≤ n) {gf : Nat} {lb : Array Value} (hg : a.eval g = .func (.func gf) #[] lb) (hFg : F.fn gf) (eg : ∀ args w, (callFunc gf args).run P w = .ok (.enter gf args) w)
    {encs : α → Array Value} (hps : ∀ x, (encs x).size = ps.size)
    (I : World → Prop) (Go : α → Prop) (Ix : α → World → Prop) (S : α → Prop) (E : World → Prop)
    (hI : OwnFrom w.heap.size (fun (_ : Unit) => I)) (hIx : OwnFrom w.heap.size Ix) (hE : OwnFrom w.heap.size (fun (_ : Unit) => E)) (h0 : I w) (a₁ : α → Act)
    (hassign : ∀ (l : Nat) (x : α) (W : World) (K : Act → World → Prop), K (a₁ x) W →
      assign.wpIn (F.inRound l) (n - 1 - 1) P (Exit.then K (fun _ _ _ => False)) { tmps := (ps.zip (encs x)).foldl (fun t (p, v) => t.setIfInBounds p v) a.tmps, defers := [] } W)
    (hbody : ∀ (l : Nat) (x : α) (W : World), I W → body.wpIn (F.inRound l) (n - 1 - 1) P (stillPost w.heap.size Go Ix x W) (a₁ x) W)
    (hiter : ∀ (ready out : Loop) (W : World), (∀ x W, I W → Booked w.heap.size ready W → YieldAt F (n - 1 - 1) P (w.heap.size + 1) (encs x) W (Round w.heap.size Go Ix out x W)) → I W → Booked w.heap.size ready W →
      CallsIn F (n - 1) P gf (#[.func (.yield (w.heap.size + 1)) #[] #[]] ++ lb) W fun e W' => (∃ v, e = .returned v) ∧ ((E W' ∧ Booked w.heap.size ready W') ∨ ∃ x, S x ∧ Ix x W' ∧ Booked w.heap.size out W'))
    (hdone : ∀ W, E W → W.heap[w.heap.size]? = some (.deferred (some [])) → Q .normal { a with defers := { target := .collected w.heap.size, args := #[] } :: a.defers } W)
    (hstop : ∀ x W, S x → Ix x W → W.heap[w.heap.size]? = some (.deferred (some [])) → Code.ret.wpIn F n P Q { a with defers := { target := .collected w.heap.size, args := #[] } :: a.defers } W) :
    (Code.rangeFunc g ps assign body).wpIn F n P Q a w := by
  refine wpIn_rangeFunc fun fn hfn => ?_
  rw [hro]
  let rec0 : Loop := { state := .ready, pending := none, fn, tmps := a.tmps, params := ps, assign, body, defers := w.heap.size }
  let out : Loop := { rec0 with state := .done, pending := some .ret }
  have hb2 : Booked w.heap.size rec0 ((w.alloc (.deferred (some []))).alloc (.loop rec0)) := by
    refine ⟨(Below.heap_alloc _ _ _ (by simp)).trans (World.alloc_heap_new w _), ?_⟩
    have := World.alloc_heap_new (w.alloc (.deferred (some []))) (.loop rec0)
    rwa [World.size_alloc] at this
  refine ⟨w.heap.size + 1, [{ target := .collected w.heap.size, args := #[] }], (w.alloc (.deferred (some []))).alloc (.loop rec0), { target := .fn (.func gf) lb, args := #[.func (.yield (w.heap.size + 1)) #[] #[]] },
    (w.alloc (.deferred (some []))).alloc (.loop rec0), gf, #[.func (.yield (w.heap.size + 1)) #[] #[]] ++ lb, (w.alloc (.deferred (some []))).alloc (.loop rec0), run_enterLoop_outer _ _ _ _ _, ?_, ?_, ?_, fun _ => h1, ?_⟩
  · simp only [resolve, hg]
    simp [go_sem]
  · intro f' hf'
    simp [Target.leads] at hf'
    subst hf'
    exact hFg
  · simp [invoke, go_sem, eg]
  refine (hiter rec0 out _ (fun x W hi hbk => ?_) (OwnFrom.alloc (I := fun (_ : Unit) => I) hI (s := ()) _ (OwnFrom.alloc (I := fun (_ : Unit) => I) hI (s := ()) _ h0)) hb2).mono ?_
  · have hlt : w.heap.size + 1 < W.heap.size := (Array.getElem?_eq_some_iff.1 hbk.2).1
    refine ⟨fn, _, assign, body, run_yield (P := P) (args := encs x) hbk.2 (hps x), roundIn_of_wpIn hfn (hassign _ x W _ ⟨_, run_beginRound hbk.2 rfl, ?_⟩)⟩
    have hl2 : (W.putObj (w.heap.size + 1) (.loop { rec0 with state := .busy })).heap[w.heap.size + 1]? = some (.loop { rec0 with state := .busy }) := World.putObj_heap_same hlt
    have hd2 : (W.putObj (w.heap.size + 1) (.loop { rec0 with state := .busy })).heap[w.heap.size]? = some (.deferred (some [])) := (World.putObj_heap_other (by omega)).trans hbk.1
    refine wpIn_mono (hbody _ x _ (OwnFrom.putObj (I := fun (_ : Unit) => I) hI (s := ()) _ hi (by omega) hbk.2 rfl)) fun e a3 W3 hp => ?_
    cases e with
    | normal =>
      obtain ⟨hgo, rfl⟩ := hp
      refine ⟨_, _, run_endRound (P := P) none hl2, .inl ⟨rfl, hgo, ?_⟩⟩
      rw [put_put]
      exact put_same W _ _ hbk.2
    | ret =>
      obtain ⟨hk3, hi3⟩ := hp
      have hl3 := hk3.same _ _ (by omega) hl2 rfl
      refine ⟨_, _, run_endRound (P := P) (some .ret) hl3, .inr ⟨rfl, OwnFrom.putObj hIx _ hi3 (by omega) hl3 rfl, (World.putObj_heap_other (by omega)).trans (hk3.same _ _ (Nat.le_refl _) hd2 rfl), World.putObj_heap_same (Array.getElem?_eq_some_iff.1 hl3).1⟩⟩
    | exit id => exact hp.elim
    | goto t => exact hp.elim
    | panic ch => exact hp.elim
    | outgrown => exact hp.elim
  · rintro e W2 ⟨⟨v, rfl⟩, (⟨hs, hbk⟩ | ⟨x, hx, hs, hbk⟩)⟩
    · exact ⟨none, _, run_endLoop (P := P) hbk.2 (by simp [rec0]), hdone _ (OwnFrom.putObj (I := fun (_ : Unit) => E) hE (s := ()) _ hs (by omega) hbk.2 rfl) ((World.putObj_heap_other (by omega)).trans hbk.1)⟩
    · exact ⟨some .ret, _, run_endLoop (P := P) hbk.2 (by simp [out]), hstop x _ hx (OwnFrom.putObj hIx _ hs (by omega) hbk.2 rfl) ((World.putObj_heap_other (by omega)).trans hbk.1)⟩
end Go.Proofs.Ytahacjfeopjbaaa
/-
  What hist's iterators hand out, one by one (slices.Values over a row of integers, keysOf over reads), and what areKeys answers over whatever hands out a row of integers: whether they are keys that rise.
  Conditions: a row has at most 2^32 elements.
-/
set_option maxRecDepth 4000
namespace Go.Proofs.Ytahacjfeopjbaaa
open Go.RowKit

attribute [local go_sem] Oper.semAt_some

/-! Keys that rise, one more each time. -/
namespace Hi
def lastOr (l : List Int) : Int := l.getLast?.getD (-1)
theorem lastOr_nil : lastOr [] = -1 := rfl
theorem lastOr_snoc (l : List Int) (x : Int) : lastOr (l ++ [x]) = x := by simp [lastOr]
theorem lastOr_top {l : List Int} (h : So.Rises l) : ∀ k ∈ l, k ≤ lastOr l := by
  rcases List.eq_nil_or_concat l with rfl | ⟨p, y, rfl⟩
  · intro k hk; cases hk
  · intro k hk
    rw [List.concat_eq_append] at hk h ⊢
    rw [lastOr_snoc]
    rcases List.mem_append.1 hk with q | q
    · exact Int.le_of_lt ((List.pairwise_append.1 h.2).2.2 k q y (by simp))
    · rw [List.mem_singleton.1 q]; exact Int.le_refl _
theorem lastOr_ge {l : List Int} (h : So.Rises l) : -1 ≤ lastOr l := by
  rcases List.eq_nil_or_concat l with rfl | ⟨p, y, rfl⟩
  · exact Int.le_refl _
  · rw [List.concat_eq_append] at h ⊢
    rw [lastOr_snoc]
    have := (h.1 y (by simp)).1
    omega
theorem rises_snoc {l : List Int} (h : So.Rises l) (x : Int) : So.Rises (l ++ [x]) ↔ lastOr l < x ∧ x < 16 := by
  constructor
  · intro q
    have hx := q.1 x (by simp)
    refine ⟨?_, hx.2⟩
    rcases List.eq_nil_or_concat l with rfl | ⟨p, y, rfl⟩
    · rw [lastOr_nil]; omega
    · rw [List.concat_eq_append] at q ⊢
      rw [lastOr_snoc]
      exact (List.pairwise_append.1 q.2).2.2 y (by simp) x (by simp)
  · rintro ⟨h1, h2⟩
    have h0 := lastOr_ge h
    refine ⟨fun k hk => ?_, List.pairwise_append.2 ⟨h.2, by simp, fun a ha b hb => ?_⟩⟩
    · rcases List.mem_append.1 hk with q | q
      · exact h.1 k q
      · rw [List.mem_singleton.1 q]; omega
    · rw [List.mem_singleton.1 hb]
      have := lastOr_top h a ha
      omega
theorem rises_front {l m : List Int} (h : So.Rises (l ++ m)) : So.Rises l := ⟨fun k hk => h.1 k (List.mem_append.2 (.inl hk)), (List.pairwise_append.1 h.2).1⟩
open Classical in
noncomputable def risesB (l : List Int) : Bool := decide (So.Rises l)
theorem risesB_yes {l : List Int} (h : So.Rises l) : risesB l = true := @decide_eq_true _ (Classical.propDecidable _) h
theorem risesB_no {l : List Int} (h : ¬ So.Rises l) : risesB l = false := @decide_eq_false _ (Classical.propDecidable _) h
theorem risesB_iff (l : List Int) : risesB l = true ↔ So.Rises l := @decide_eq_true_iff _ (Classical.propDecidable _)
end Hi

/-- The function value that is made of gf and lb hands out the integers l, to whatever keeps what lies below block m. -/
def Hands (gf : Nat) (lb : Array Value) (m : Nat) (l : List Int) (w : World) : Prop :=
  SeqStopsK Fence.wide 2 Try.prog gf lb (fun x : Int => #[.int .i64 x]) (Below m) (fun ys => ys = l) (fun pre => pre <+: l) l.length w

theorem none_row {P : Nat → Prop} : ∀ r, (none : Option Nat) = some r → P r := fun _ h => by cases h

theorem values_hands (l : List Int) (v : Value) (B : Nat) (w : World) (hv : Ns w v l) (hl : l.length ≤ 4294967296) (hB : B < w.heap.size) (hc : w.cell? ⟨B, 0, none⟩ = some v) :
    Hands 95 #[.pointer (some ⟨B, 0, none⟩)] w.heap.size l w := by
  intro lo J Jx W hW _ _ hY h0
  have hc' := (hW.cell (p := ⟨B, 0, none⟩) hB).trans hc
  obtain ⟨A, c, rfl, hform⟩ := hv.spelled
  have HF := Lib.hid hform
  have HY := Lib.hid hY
  have HW := Lib.hid hW
  clear hform hv hY hW hc
  show CallsIn Fence.wide 2 Try.prog 95 #[.func (.yield lo) #[] #[], .pointer (some ⟨B, 0, none⟩)] W _
  refine callsIn_of_wp Try.func95 rfl trivial ?_ rfl
  simp only [Try.ntmps95, List.size_toArray, List.length_cons, List.length_nil, Nat.reduceAdd, Nat.reduceSub, Array.replicate_succ, Array.replicate_zero, List.push_toArray, List.append_toArray, List.nil_append, List.cons_append]
  gi_wp2_with fail
  gi_loopw [7] (fun i wr => ∃ k : Nat, k ≤ l.length ∧ i = .int .i64 k ∧ Hid (J (l.take k) wr) ∧ Hid (Below w.heap.size w wr)) (fun i _ => l.length - (intOf i).toNat)
  case atStart => exact ⟨0, Nat.zero_le _, rfl, h0, HW.out⟩
  case round =>
    obtain ⟨k, hk, rfl, HJ, HB⟩ := hrel
    by_cases hlt : k < l.length
    · obtain ⟨ad, rfl, hblk, hE⟩ := HF.out k hlt
      obtain ⟨x, hx⟩ : ∃ x, x = l[k]'hlt := ⟨_, rfl⟩
      have HT : Hid (l.take (k + 1) = l.take k ++ [x]) := by rw [hx]; exact List.take_succ_eq_append_getElem hlt
      rw [← hx] at hE
      have hE' := (HB.out.cell (p := ad.add k) (by rw [add_block]; exact hblk)).trans hE
      obtain ⟨fn, tmps, assign, body, hy, hR⟩ := HY.out (l.take k) x wr HJ.out (by rw [List.length_take]; omega)
      have HR := Lib.hid hR
      clear hR hE hx
      gi_wp2_with fail
      refine HR.out.mono ?_
      rintro e W3 (⟨rfl, hJ3, hk3⟩ | ⟨rfl, hJx3⟩)
      · have HJ3 : Hid (J (l.take (k + 1)) W3) := by rw [Hid, HT.out]; exact hJ3
        have HB3 := Lib.hid (HB.out.trans hk3)
        clear hJ3 hk3 hy
        gi_wp2_with fail
        go_roundw
        case rel => exact ⟨k + 1, by omega, by go_num, HJ3, HB3⟩
        case measure => simp [intOf]; omega
      · have HX : Hid (Jx (l.take (k + 1)) W3) := by rw [Hid, HT.out]; exact hJx3
        clear hJx3 hy
        gi_wp2_with fail
        refine bodyPost_ret (results_none rfl _ _ _) rfl ?_
        exact ⟨⟨_, rfl⟩, .inr ⟨_, List.take_prefix _ _, HX.out⟩⟩
    · have HK : Hid (l.take k = l) := List.take_of_length_le (by omega)
      gi_wp2_with fail
      go_end0
      exact ⟨⟨_, rfl⟩, .inl ⟨_, rfl, by rw [← HK.out]; exact HJ.out⟩⟩

theorem keys_hands (l : List (Int × Int)) (v : Value) (B : Nat) (w : World) (hv : Its w v l) (hl : l.length ≤ 4294967296) (hB : B < w.heap.size) (hc : w.cell? ⟨B, 0, none⟩ = some v) :
    Hands 101 #[.pointer (some ⟨B, 0, none⟩)] w.heap.size (l.map (·.1)) w := by
  intro lo J Jx W hW hJ _ hY h0
  have hc' := (hW.cell (p := ⟨B, 0, none⟩) hB).trans hc
  obtain ⟨A, c, rfl, hform⟩ := hv.spelled
  have HF := Lib.hid hform
  have HY := Lib.hid hY
  have HW := Lib.hid hW
  have HA := Lib.hid hJ
  clear hform hv hY hW hc hJ
  show CallsIn Fence.wide 2 Try.prog 101 #[.func (.yield lo) #[] #[], .pointer (some ⟨B, 0, none⟩)] W _
  refine callsIn_of_wp Try.func101 rfl trivial ?_ rfl
  simp only [Try.ntmps101, List.size_toArray, List.length_cons, List.length_nil, Nat.reduceAdd, Nat.reduceSub, Array.replicate_succ, Array.replicate_zero, List.push_toArray, List.append_toArray, List.nil_append, List.cons_append]
  gi_wp2_with fail
  gi_loopw [7] (fun i wr => ∃ k : Nat, k ≤ l.length ∧ i = .int .i64 k ∧ Hid (J ((l.map (·.1)).take k) wr) ∧ Hid (Below w.heap.size w wr)) (fun i _ => l.length - (intOf i).toNat)
  case atStart => exact ⟨0, Nat.zero_le _, rfl, h0, HW.out⟩
  case round =>
    obtain ⟨k, hk, rfl, HJ, HB⟩ := hrel
    by_cases hlt : k < l.length
    · obtain ⟨ad, rfl, hblk, hE⟩ := HF.out k hlt
      obtain ⟨⟨x, y⟩, hx⟩ : ∃ x, x = l[k]'hlt := ⟨_, rfl⟩
      have HT : Hid ((l.map (·.1)).take (k + 1) = (l.map (·.1)).take k ++ [x]) := by
        rw [Hid, List.take_succ_eq_append_getElem (by rw [List.length_map]; exact hlt), List.getElem_map, ← hx]
      rw [← hx] at hE
      obtain ⟨c0, c1⟩ := hE
      have c0' := (HB.out.cell (p := ad.add (k * 2)) (by rw [add_block]; exact hblk)).trans c0
      have c1' := (HB.out.cell (p := ⟨(ad.add (k * 2)).block, (ad.add (k * 2)).off + 1, none⟩) (by rw [add_block]; exact hblk)).trans c1
      have HJ1 := Lib.hid (HA.out _ _ _ none HJ.out (World.grownBy_alloc wr (.cells #[.int .i64 x, .int .i64 y] 62) none) none_row)
      have HB1 := Lib.hid (HB.out.alloc HB.out.size (.cells #[.int .i64 x, .int .i64 y] 62))
      obtain ⟨fn, tmps, assign, body, hy, hR⟩ := HY.out _ x _ HJ1.out (by rw [List.length_take, List.length_map]; omega)
      have HR := Lib.hid hR
      clear hR c0 c1 hx
      gi_wp2_with fail
      refine HR.out.mono ?_
      rintro e W3 (⟨rfl, hJ3, hk3⟩ | ⟨rfl, hJx3⟩)
      · have HJ3 : Hid (J ((l.map (·.1)).take (k + 1)) W3) := by rw [Hid, HT.out]; exact hJ3
        have HB3 := Lib.hid (HB1.out.trans hk3)
        clear hJ3 hk3 hy
        gi_wp2_with fail
        go_roundw
        case rel => exact ⟨k + 1, by omega, by go_num, HJ3, HB3⟩
        case measure => simp [intOf]; omega
      · have HX : Hid (Jx ((l.map (·.1)).take (k + 1)) W3) := by rw [Hid, HT.out]; exact hJx3
        clear hJx3 hy
        gi_wp2_with fail
        refine bodyPost_ret (results_none rfl _ _ _) rfl ?_
        exact ⟨⟨_, rfl⟩, .inr ⟨_, List.take_prefix _ _, HX.out⟩⟩
    · have HK : Hid ((l.map (·.1)).take k = l.map (·.1)) := List.take_of_length_le (by rw [List.length_map]; omega)
      gi_wp2_with fail
      go_end0
      exact ⟨⟨_, rfl⟩, .inl (by rw [← HK.out]; exact HJ.out)⟩

/-- What areKeys holds between two rounds, and where one has left. -/
def KeysAt (w : World) (pre : List Int) (W : World) : Prop :=
  (Boxed W w.heap.size 4 (.bool false) ∧ Boxed W (w.heap.size + 1) 3 (.int .i64 (Hi.lastOr pre)) ∧ So.Rises pre) ∧ Below w.heap.size w W
def KeysOut (w : World) (c : Code) (pre : List Int) (W : World) : Prop :=
  (c = .ret ∧ Boxed W w.heap.size 4 (.bool false) ∧ ¬ So.Rises pre) ∧ Below w.heap.size w W
theorem boxes_last {B : Nat} {X Y : World} {row : Option Nat} (hg : X.grownBy Y row) (hr : ∀ r, row = some r → B ≤ r ∧ ∃ o : Obj, X.heap[r]? = some o ∧ o.isCells = false) {b : Nat} {t : TypeId} {v : Value} (h : Boxed X b t v) : Boxed Y b t v :=
  boxed_own b t (fun _ : Unit => v) () X Y row h hg (fun r e => (hr r e).2)
theorem below_last {n B : Nat} {w X Y : World} {row : Option Nat} (hg : X.grownBy Y row) (hr : ∀ r, row = some r → B ≤ r ∧ ∃ o : Obj, X.heap[r]? = some o ∧ o.isCells = false) (hn : n ≤ w.heap.size) (hB : n ≤ B) (h : Below n w X) : Below n w Y :=
  ownFrom_below (β := Unit) hn hB () X Y row h hg hr
theorem keysAt_own (w : World) (B : Nat) (hB : w.heap.size ≤ B) : OwnFrom B (KeysAt w) := fun _ _ _ _ hs hg hr =>
  ⟨⟨boxes_last hg hr hs.1.1, boxes_last hg hr hs.1.2.1, hs.1.2.2⟩, below_last hg hr (Nat.le_refl _) hB hs.2⟩
theorem keysOut_own (w : World) (B : Nat) (hB : w.heap.size ≤ B) (c : Code) : OwnFrom B (KeysOut w c) := fun _ _ _ _ hs hg hr =>
  ⟨⟨hs.1.1, boxes_last hg hr hs.1.2.1, hs.1.2.2⟩, below_last hg hr (Nat.le_refl _) hB hs.2⟩

set_option maxRecDepth 100000 in
theorem areKeys_at (gf : Nat) (lb : Array Value) (l : List Int) (w : World) (eg : ∀ args w, (callFunc gf args).run Try.prog w = .ok (.enter gf args) w) (h : Hands gf lb w.heap.size l w) :
    Calls Try.prog 75 #[.func (.func gf) #[] lb] w (RetBool w (Hi.risesB l)) := by
  refine (callsIn_wide (n := 3)).1 ?_
  refine callsIn_of_wp_marks Try.func75 rfl trivial ?_ rfl
  simp only [Try.ntmps75, List.size_toArray, List.length_cons, List.length_nil, Nat.reduceAdd, Nat.reduceSub, Array.replicate_succ, Array.replicate_zero, List.push_toArray, List.append_toArray, List.nil_append, List.cons_append]
  have HE := Lib.hid eg
  have HH := Lib.hid h
  clear eg h
  gi_wp2_with fail
  have hB0 : Below w.heap.size w ((w.alloc (.cells #[.bool false] 4)).alloc (.cells #[.int .i64 (-1)] 3)) := ((Below.refl _ w).alloc (Nat.le_refl _) _).alloc (by simp) _
  have b0 := (Boxed.new w 4 (.bool false)).alloc (.cells #[.int .i64 (-1)] 3)
  have b1 := Boxed.new (w.alloc (.cells #[.bool false] 4)) 3 (.int .i64 (-1))
  rw [World.size_alloc] at b1
  refine wpIn_rangeFunc_ownG rfl (by omega) (gf := gf) (lb := lb) rfl trivial HE.out HH.out belowK_t (belowK_b (by simp; omega)) hB0 (fun _ => rfl) (KeysAt w) (KeysOut w) (keysAt_own w _ (by simp; omega)) (keysOut_own w _ (by simp; omega))
    ⟨⟨b0, b1, ⟨(fun k hk => by cases hk), List.Pairwise.nil⟩⟩, hB0⟩
    (fun x => { tmps := #[.func (.func gf) #[] lb, undef, .pointer (some ⟨w.heap.size, 0, none⟩), .pointer (some ⟨w.heap.size + 1, 0, none⟩), .int .i64 x, .func (.func gf) #[] lb, .int .i64 x, undef, undef, undef, undef, undef, undef, undef, undef], defers := [] }) ?assign ?body ?done ?stop
  case assign =>
    intro lo x W K hK
    gi_wp2_with fail
    exact hK
  case body =>
    rintro lo pre x W ⟨⟨k0, k1, hr⟩, hB⟩ _
    have HB := Lib.hid hB
    have HI := Lib.hid (Hi.rises_snoc hr x)
    have K0 := Lib.hid k0
    have K1 := Lib.hid k1
    have c0 := k0.cell
    have f0 := k0.frozen
    have c1 := k1.cell
    have f1 := k1.frozen
    clear hB hr k0 k1
    generalize hz : Hi.lastOr pre = z at *
    by_cases h1 : x ≤ z
    · have d1 : decide (x ≤ z) = true := decide_eq_true h1
      have HN : Hid (¬ So.Rises (pre ++ [x])) := fun q => by have := (HI.out.1 q).1; omega
      clear h1
      gi_wp2_with fail
      exact ⟨(KeepsOthers.setCell _ _ _).from _, ⟨rfl, K0.out.set _, HN.out⟩, HB.out.setCell (p := ⟨w.heap.size, 0, none⟩) (Nat.le_refl _) _⟩
    · have d1 : decide (x ≤ z) = false := decide_eq_false h1
      by_cases h2 : (16 : Int) ≤ x
      · have d2 : decide ((16 : Int) ≤ x) = true := decide_eq_true h2
        have HN : Hid (¬ So.Rises (pre ++ [x])) := fun q => by have := (HI.out.1 q).2; omega
        clear h1 h2
        gi_wp2_with fail
        exact ⟨(KeepsOthers.setCell _ _ _).from _, ⟨rfl, K0.out.set _, HN.out⟩, HB.out.setCell (p := ⟨w.heap.size, 0, none⟩) (Nat.le_refl _) _⟩
      · have d2 : decide ((16 : Int) ≤ x) = false := decide_eq_false h2
        have HY : Hid (So.Rises (pre ++ [x])) := HI.out.2 ⟨by omega, by omega⟩
        clear h1 h2
        gi_wp2_with fail
        exact ⟨(KeepsOthers.setCell _ _ _).from _, (Below.refl w.heap.size W).setCell (p := ⟨w.heap.size + 1, 0, none⟩) (by simp) _, ⟨K0.out.other (by omega) _, by rw [Hi.lastOr_snoc]; exact K1.out.set _, HY.out⟩, HB.out.setCell (p := ⟨w.heap.size + 1, 0, none⟩) (by simp) _⟩
  case done =>
    rintro D ys W hD rfl ⟨⟨k0, k1, hr⟩, hB⟩ hK
    have c0 := k0.cell
    have f0 := k0.frozen
    have HR := Lib.hid (Hi.risesB_yes hr)
    have HB := Lib.hid hB
    have K0 := Lib.hid k0
    have HK := Lib.hid hK
    clear k1 hr hB k0 hK
    gi_wp2_with fail
    have hK' := (KeepsOthers.setCell W ⟨w.heap.size, 0, none⟩ (.bool true)).same D _ HK.out rfl
    refine ⟨by simp, .inl ⟨_, _, rfl, run_takeDeferred hK', ?_⟩⟩
    have hc5 := ((K0.out.set (.bool true)).kept (grownBy_putObj' _ D (.deferred none)) (fun e => by have := K0.out.lt; simp at hD; cases e; omega)).cell
    exact ⟨.bool true, by simp [results, Try.f75, go_sem, hc5], by rw [HR.out], (HB.out.setCell (p := ⟨w.heap.size, 0, none⟩) (Nat.le_refl _) _).trans (belowK_b (w := w) (Nat.le_refl _) _ D _ _ (by simp at hD; omega) hK' rfl rfl)⟩
  case stop =>
    rintro D c pre W hD ⟨q, rfl⟩ ⟨⟨rfl, k0, hr⟩, hB⟩ hK
    gi_wp2_with fail
    refine ⟨by simp, .inl ⟨_, _, rfl, run_takeDeferred hK, ?_⟩⟩
    have hc5 := (k0.kept (grownBy_putObj' _ D (.deferred none)) (fun e => by simp at hD; cases e; omega)).cell
    exact ⟨.bool false, by simp [results, Try.f75, go_sem, hc5], by rw [Hi.risesB_no (fun q => hr (Hi.rises_front q))], hB.trans (belowK_b (w := w) (Nat.le_refl _) _ D _ _ (by simp at hD; omega) hK rfl rfl)⟩
end Go.Proofs.Ytahacjfeopjbaaa
/-
  What hist.Right answers, and the functions that it calls: whether a history may be.
  Conditions: a row has at most 2^32 elements.
-/
set_option maxRecDepth 4000
namespace Go.Proofs.Ytahacjfeopjbaaa
open Go.RowKit

namespace Hi
open So (Txn)
/-! The answers, as the program puts them together. -/
def writerB (h : List Txn) (n key : Int) : Bool := decide (0 ≤ n) && (match h[n.toNat]? with
  | some t => decide (key ∈ t.writes)
  | none => false)
theorem writerB_neg (h : List Txn) (n key : Int) (hn : n < 0) : writerB h n key = false := by rw [writerB, decide_eq_false (by omega)]; rfl
theorem writerB_out (h : List Txn) (n key : Int) (hn : (h.length : Int) ≤ n) : writerB h n key = false := by
  rw [writerB, List.getElem?_eq_none (by omega)]
  simp
theorem writerB_at (h : List Txn) (j : Nat) (hj : j < h.length) (key : Int) : writerB h (j : Int) key = decide (key ∈ h[j].writes) := by
  rw [writerB, decide_eq_true (by omega), Int.toNat_natCast, List.getElem?_eq_getElem hj]
  rfl
theorem writerB_iff (h : List Txn) (n key : Int) : writerB h n key = true ↔ ∃ j, ∃ hj : j < h.length, n = (j : Int) ∧ key ∈ h[j].writes := by
  constructor
  · intro q
    rcases Int.lt_or_le n 0 with h0 | h0
    · rw [writerB_neg h n key h0] at q; cases q
    rcases Int.lt_or_le n h.length with h1 | h1
    · obtain ⟨j, rfl⟩ := Int.eq_ofNat_of_zero_le h0
      have hj : j < h.length := by omega
      rw [writerB_at h j hj] at q
      exact ⟨j, hj, rfl, of_decide_eq_true q⟩
    · rw [writerB_out h n key h1] at q; cases q
  · rintro ⟨j, hj, rfl, hm⟩
    rw [writerB_at h j hj]
    exact decide_eq_true hm
def fromB (h : List Txn) (n : Nat) (y : Int × Int) : Bool := y.2 == -1 || (!(y.2 == (n : Int)) && writerB h y.2 y.1)
theorem fromB_iff (h : List Txn) (n : Nat) (y : Int × Int) : fromB h n y = true ↔ (y.2 = -1 ∨ ∃ j, ∃ hj : j < h.length, y.2 = (j : Int) ∧ j ≠ n ∧ y.1 ∈ h[j].writes) := by
  unfold fromB
  rw [Bool.or_eq_true, Bool.and_eq_true, Bool.not_eq_true', beq_iff_eq, beq_eq_false_iff_ne, writerB_iff]
  constructor
  · rintro (q | ⟨q, j, hj, e, hm⟩)
    · exact .inl q
    · exact .inr ⟨j, hj, e, by omega, hm⟩
  · rintro (q | ⟨j, hj, e, hne, hm⟩)
    · exact .inl q
    · exact .inr ⟨by omega, j, hj, e, hm⟩
noncomputable def readsB (h : List Txn) (n : Nat) (l : List (Int × Int)) : Bool := risesB (l.map (·.1)) && l.all (fromB h n)
theorem readsB_no {h : List Txn} {n : Nat} {l : List (Int × Int)} (q : risesB (l.map (·.1)) = false) : readsB h n l = false := by rw [readsB, q]; rfl
theorem readsB_bad {h : List Txn} {n : Nat} {l : List (Int × Int)} (k : Nat) (hk : k < l.length) (q : fromB h n l[k] = false) : readsB h n l = false := by
  rw [readsB, Bool.and_eq_false_iff]
  right
  rw [← Bool.not_eq_true, List.all_eq_true]
  intro h2
  rw [h2 _ (List.getElem_mem hk)] at q
  cases q
theorem readsB_yes {h : List Txn} {n : Nat} {l : List (Int × Int)} (q : risesB (l.map (·.1)) = true) (h2 : ∀ k (hk : k < l.length), fromB h n l[k] = true) : readsB h n l = true := by
  rw [readsB, q, Bool.true_and, List.all_eq_true]
  intro y hy
  obtain ⟨k, hk, rfl⟩ := List.getElem_of_mem hy
  exact h2 k hk
noncomputable def txnB (h : List Txn) (n : Nat) (t : Txn) : Bool := (decide (0 ≤ t.session) && decide (t.session < 8)) && risesB t.writes && readsB h n t.reads
theorem txnB_iff (h : List Txn) (n : Nat) (t : Txn) : txnB h n t = true ↔ OkTxn h n t := by
  unfold txnB readsB
  rw [Bool.and_eq_true, Bool.and_eq_true, Bool.and_eq_true, Bool.and_eq_true, decide_eq_true_eq, decide_eq_true_eq, risesB_iff, risesB_iff, List.all_eq_true]
  constructor
  · rintro ⟨⟨h1, h2⟩, h3, h4⟩
    exact ⟨h1, h2, h3, fun y hy => (fromB_iff h n y).1 (h4 y hy)⟩
  · intro q
    exact ⟨⟨q.session, q.writes⟩, q.reads, fun y hy => (fromB_iff h n y).2 (q.froms y hy)⟩
theorem rightB_yes {h : List Txn} (q : Right h) : rightB h = true := (rightB_iff h).2 q
theorem rightB_no {h : List Txn} (q : ¬ Right h) : rightB h = false := by rw [← Bool.not_eq_true, rightB_iff]; exact q
theorem may_many {h : List Txn} (q : 32 < h.length) : rightB h = false := rightB_no fun r => by have := r.1; omega
theorem may_bad {h : List Txn} (k : Nat) (hk : k < h.length) (q : txnB h k h[k] = false) : rightB h = false := rightB_no fun r => by
  rw [(txnB_iff h k _).2 (r.2 k hk)] at q
  cases q
theorem may_all {h : List Txn} (h1 : h.length ≤ 32) (h2 : ∀ k (hk : k < h.length), txnB h k h[k] = true) : rightB h = true := rightB_yes ⟨h1, fun k hk => (txnB_iff h k _).1 (h2 k hk)⟩
end Hi

/-! slices.Index and slices.Contains, at rows of integers. -/
theorem intIndex_at (l : List Int) (x : Int) (v : Value) (w : World) (hv : Ns w v l) (hl : l.length ≤ 4294967296) : Calls Try.prog 98 #[v, .int .i64 x] w fun e w' => ∃ r : Int, e = .returned (.int .i64 r) ∧ decide (r ≥ 0) = decide (x ∈ l) ∧ w = w' := by
  obtain ⟨A, c, rfl, hform⟩ := hv.spelled
  have HF := Lib.hid hform
  clear hform hv
  go_enter Try.func98, Try.ntmps98
  go_wp2
  go_loopw [8] (fun i wr => ∃ k : Nat, k ≤ l.length ∧ i = .int .i64 k ∧ Hid (∀ j (hj : j < l.length), j < k → l[j] ≠ x) ∧ w = wr) (fun i _ => l.length - (intOf i).toNat)
  case atStart => exact ⟨0, Nat.zero_le _, rfl, fun j _ hj => absurd hj (by omega), rfl⟩
  case round =>
    obtain ⟨k, hk, rfl, hno, rfl⟩ := hrel
    by_cases hlt : k < l.length
    · obtain ⟨ad, rfl, hblk, hE⟩ := HF.out k hlt
      obtain ⟨z, hz⟩ : ∃ z, z = l[k]'hlt := ⟨_, rfl⟩
      rw [← hz] at hE
      have HZ := Lib.hid hz
      clear hz
      by_cases he : x = z
      · have HM : Hid (x ∈ l) := by rw [he, HZ.out]; exact List.getElem_mem hlt
        subst he
        go_wp2_with fail
        go_ret
        exact ⟨_, rfl, by rw [decide_eq_true HM.out]; exact decide_eq_true (by omega), rfl⟩
      · have hq : (x == z) = false := beq_eq_false_iff_ne.2 he
        have HN : Hid (∀ j (hj : j < l.length), j < k + 1 → l[j] ≠ x) := fun j hj hjk => by
          by_cases e : j = k
          · subst e; rw [← HZ.out]; exact fun q => he q.symm
          · exact hno.out j hj (by omega)
        clear he
        go_wp2_with fail
        go_roundw
        case rel => exact ⟨k + 1, by omega, by go_num, HN, trivial⟩
        case measure => simp [intOf]; omega
    · have HM : Hid (x ∉ l) := fun q => by
        obtain ⟨j, hj, e⟩ := List.getElem_of_mem q
        exact hno.out j hj (by omega) e
      go_wp2_with fail
      go_ret
      exact ⟨_, rfl, by rw [decide_eq_false HM.out]; exact decide_eq_false (by omega), rfl⟩
theorem intContains_at (l : List Int) (x : Int) (v : Value) (w : World) (hv : Ns w v l) (hl : l.length ≤ 4294967296) : Calls Try.prog 78 #[v, .int .i64 x] w fun e w' => e = .returned (.bool (decide (x ∈ l))) ∧ w = w' := by
  have HV := Lib.hid hv
  obtain ⟨A, c, rfl, _⟩ := hv.spelled
  clear hv
  go_enter Try.func78, Try.ntmps78
  go_wp2_with fail
  refine (intIndex_at l x _ _ HV.out hl).mono ?_
  rintro e w1 ⟨r, rfl, hr, rfl⟩
  have HR := Lib.hid hr
  clear hr
  go_wp2_with fail
  go_ret
  exact ⟨ret_bool HR.out, rfl⟩

theorem isWriter_at (h : List So.Txn) (u : Value) (n key : Int) (w : World) (hv : Txns w u h) (ho : ∀ t ∈ h, t.writes.length ≤ 4294967296) :
    Calls Try.prog 97 #[.agg #[u], .int .i64 n, .int .i64 key] w (RetBool w (Hi.writerB h n key)) := by
  have HB := Lib.hid (alloc_below w (.cells #[u] 24))
  obtain ⟨A, c, rfl, hform⟩ := (hv.below HB.out).spelled
  have HF := Lib.hid hform
  have HO := Lib.hid ho
  clear hform hv ho
  by_cases h0 : n < 0
  · have d0 : decide ((0 : Int) ≤ n) = false := decide_eq_false (by omega)
    have HR := Lib.hid (Hi.writerB_neg h n key h0)
    clear h0
    go_enter Try.func97, Try.ntmps97
    go_wp2_with fail
    go_ret
    exact ⟨ret_bool HR.out.symm, HB.out⟩
  · have d0 : decide ((0 : Int) ≤ n) = true := decide_eq_true (by omega)
    by_cases h1 : n < (h.length : Int)
    · obtain ⟨j, rfl⟩ := Int.eq_ofNat_of_zero_le (show 0 ≤ n by omega)
      have hlt : j < h.length := by omega
      have d1 : decide ((j : Int) < (h.length : Int)) = true := decide_eq_true h1
      obtain ⟨ad, x, y, rfl, hblk, hE, hx, _⟩ := HF.out j hlt
      have HR := Lib.hid (Hi.writerB_at h j hlt key)
      have HX := Lib.hid hx
      have HL := Lib.hid (HO.out _ (List.getElem_mem hlt))
      obtain ⟨_, c1, _⟩ := hE
      obtain ⟨A', c', rfl, _⟩ := hx.spelled
      clear hx h0 h1
      go_enter Try.func97, Try.ntmps97
      go_wp2_with fail
      refine (intContains_at _ key _ _ HX.out HL.out).mono ?_
      rintro e w1 ⟨rfl, rfl⟩
      go_wp2_with fail
      go_ret
      exact ⟨ret_bool HR.out.symm, HB.out⟩
    · have d1 : decide (n < (h.length : Int)) = false := decide_eq_false h1
      have HR := Lib.hid (Hi.writerB_out h n key (by omega))
      clear h0 h1
      go_enter Try.func97, Try.ntmps97
      go_wp2_with fail
      go_ret
      exact ⟨ret_bool HR.out.symm, HB.out⟩

theorem hKeysOf_at (A : Option Addr) (n c : Nat) (w : World) : Calls Try.prog 96 #[.slice A n c] w fun e w' => e = .returned (.func (.func 101) #[] #[.pointer (some ⟨w.heap.size, 0, none⟩)]) ∧ w' = w.alloc (.cells #[.slice A n c] 63) := by
  have hmf : ∀ (fn : Fn) (first cap : Array Value) (w : World), (Instr.makeFunc fn first cap).run Try.prog w = .ok (.func fn first cap) w := fun _ _ _ _ => rfl
  go_enter Try.func96, Try.ntmps96
  go_wp2_with fail
  go_ret
  exact ⟨rfl, rfl⟩
theorem sValues_at (A : Option Addr) (n c : Nat) (w : World) : Calls Try.prog 76 #[.slice A n c] w fun e w' => e = .returned (.func (.func 95) #[] #[.pointer (some ⟨w.heap.size, 0, none⟩)]) ∧ w' = w.alloc (.cells #[.slice A n c] 46) := by
  have hmf : ∀ (fn : Fn) (first cap : Array Value) (w : World), (Instr.makeFunc fn first cap).run Try.prog w = .ok (.func fn first cap) w := fun _ _ _ _ => rfl
  go_enter Try.func76, Try.ntmps76
  go_wp2_with fail
  go_ret
  exact ⟨rfl, rfl⟩
/-- areKeys over the keys of reads, and over a row of integers, behind the call that made the iterator. -/
theorem overKeys_at (l : List (Int × Int)) (A : Option Addr) (n c B : Nat) (w : World) (hv : Its w (.slice A n c) l) (hl : l.length ≤ 4294967296) (hB : w.heap.size = B) :
    Calls Try.prog 75 #[.func (.func 101) #[] #[.pointer (some ⟨B, 0, none⟩)]] (w.alloc (.cells #[.slice A n c] 63)) (RetBool (w.alloc (.cells #[.slice A n c] 63)) (Hi.risesB (l.map (·.1)))) := by
  subst hB
  exact areKeys_at _ _ _ _ (enters_of Try.func101 (by kernel_rfl) rfl) (keys_hands l _ _ _ (hv.below (alloc_below _ _)) hl (by simp) (Boxed.new w _ _).cell)
theorem overInts_at (l : List Int) (A : Option Addr) (n c B : Nat) (w : World) (hv : Ns w (.slice A n c) l) (hl : l.length ≤ 4294967296) (hB : w.heap.size = B) :
    Calls Try.prog 75 #[.func (.func 95) #[] #[.pointer (some ⟨B, 0, none⟩)]] (w.alloc (.cells #[.slice A n c] 46)) (RetBool (w.alloc (.cells #[.slice A n c] 46)) (Hi.risesB l)) := by
  subst hB
  exact areKeys_at _ _ _ _ (enters_of Try.func95 (by kernel_rfl) rfl) (values_hands l _ _ _ (hv.below (alloc_below _ _)) hl (by simp) (Boxed.new w _ _).cell)

set_option maxHeartbeats 1000000 in
theorem areReads_at (h : List So.Txn) (u : Value) (n : Nat) (w : World) (hv : Txns w u h) (hn : n < h.length) (ho : ∀ t ∈ h, t.writes.length ≤ 4294967296 ∧ t.reads.length ≤ 4294967296) :
    Calls Try.prog 77 #[.agg #[u], .int .i64 (n : Int)] w (RetBool w (Hi.readsB h n h[n].reads)) := by
  have HB0 := Lib.hid (alloc_below w (.cells #[u] 24))
  have HV := Lib.hid hv
  obtain ⟨A, c, rfl, hform⟩ := hv.spelled
  obtain ⟨ad, x, y, rfl, hblk, hE, _, hy⟩ := hform n hn
  have HO := Lib.hid ho
  obtain ⟨_, _, c2⟩ := hE.below hblk HB0.out
  have HL := Lib.hid (HO.out _ (List.getElem_mem hn)).2
  generalize h[n].reads = l at *
  obtain ⟨A', c', rfl, hrow⟩ := hy.spelled
  have HF := Lib.hid hrow
  have HY := Lib.hid (hy.below HB0.out)
  have c0 := (Boxed.new w 24 (.slice (some ad) h.length c)).cell
  have HC0 := Lib.hid c0
  have hs1 : (w.alloc (.cells #[.slice (some ad) h.length c] 24)).heap.size = w.heap.size + 1 := by simp
  have HS1 := Lib.hid hs1
  clear hs1
  clear hform hv ho hE hy hrow
  go_enter Try.func77, Try.ntmps77
  go_wp2_with fail
  generalize w.alloc (.cells #[.slice (some ad) h.length c] 24) = w1 at *
  refine (hKeysOf_at _ _ _ _).mono ?_
  rintro e w2 ⟨rfl, rfl⟩
  go_wp2_with fail
  (with_reducible refine (overKeys_at l _ _ _ _ w1 HY.out HL.out rfl).mono ?_)
  rintro e w3 ⟨rfl, hb3⟩
  have HB3 := Lib.hid (below_all (alloc_below w1 _) hb3)
  clear hb3
  cases hr : Hi.risesB (l.map (·.1)) with
  | false =>
    have HR := Lib.hid (Hi.readsB_no (h := h) (n := n) hr)
    clear hr
    go_wp2_with fail
    go_ret
    exact ⟨ret_bool HR.out.symm, below_all HB0.out HB3.out⟩
  | true =>
    have HR := Lib.hid hr
    clear hr
    go_wp2_with fail
    go_loopw [20] (fun i wr => ∃ k : Nat, k ≤ l.length ∧ i = .int .i64 k ∧ Hid (∀ j (hj : j < l.length), j < k → Hi.fromB h n l[j] = true) ∧ Hid (Below w1.heap.size w1 wr)) (fun i _ => l.length - (intOf i).toNat)
    case atStart => exact ⟨0, Nat.zero_le _, rfl, fun j _ hj => absurd hj (by omega), HB3.out⟩
    case round =>
      obtain ⟨k, hk, rfl, hno, HB⟩ := hrel
      have hll := HL.out
      by_cases hlt : k < l.length
      · obtain ⟨ad2, rfl, hblk2, hE⟩ := HF.out k hlt
        obtain ⟨⟨a, b⟩, hz⟩ : ∃ z, z = l[k]'hlt := ⟨_, rfl⟩
        have HBW := Lib.hid (below_all HB0.out HB.out)
        rw [← hz] at hE
        obtain ⟨e0, e1⟩ := hE.below hblk2 HBW.out
        have HZ := Lib.hid hz
        have HN : Hid (Hi.fromB h n (a, b) = true → ∀ j (hj : j < l.length), j < k + 1 → Hi.fromB h n l[j] = true) := fun q j hj hjk => by
          by_cases e : j = k
          · subst e; rw [← HZ.out]; exact q
          · exact hno.out j hj (by omega)
        have HX : Hid (Hi.fromB h n (a, b) = false → Hi.readsB h n l = false) := fun q => Hi.readsB_bad k hlt (by rw [← HZ.out]; exact q)
        have HA := Lib.hid (below_all HB.out (alloc_below wr (.cells #[.int .i64 a, .int .i64 b] 62)))
        have cb := (HA.out.cell (p := ⟨w.heap.size, 0, none⟩) (by rw [HS1.out]; exact Nat.lt_succ_self _)).trans HC0.out
        have HVA := Lib.hid ((HV.out.below HB0.out).below HA.out)
        clear hE hz HZ hno
        by_cases h1 : b = -1
        · have q1 : (b != -1) = false := by rw [bne_eq_false_iff_eq]; exact h1
          have HG : Hid (Hi.fromB h n (a, b) = true) := by rw [Hid, Hi.fromB, beq_iff_eq.2 h1]; rfl
          clear h1
          go_wp2_with fail
          go_roundw
          case rel => exact ⟨k + 1, by omega, by go_num, HN.out HG.out, HA⟩
          case measure => simp [intOf]; omega
        · have q1 : (b != -1) = true := bne_iff_ne.2 h1
          by_cases h2 : b = (n : Int)
          · have q2 : (b == (n : Int)) = true := beq_iff_eq.2 h2
            have HG : Hid (Hi.fromB h n (a, b) = false) := by rw [Hid, Hi.fromB, beq_eq_false_iff_ne.2 h1]; simp [h2]
            clear h1 h2
            go_wp2_with fail
            go_ret
            exact ⟨ret_bool (HX.out HG.out).symm, below_all HB0.out HA.out⟩
          · have q2 : (b == (n : Int)) = false := beq_eq_false_iff_ne.2 h2
            have HG : Hid (Hi.fromB h n (a, b) = Hi.writerB h b a) := by rw [Hid, Hi.fromB, beq_eq_false_iff_ne.2 h1, beq_eq_false_iff_ne.2 h2]; rfl
            clear h1 h2
            go_wp2_with fail
            refine (isWriter_at h _ b a _ HVA.out (fun t ht => (HO.out t ht).1)).mono ?_
            rintro e w5 ⟨rfl, hb5⟩
            have HB5 := Lib.hid (below_all HA.out hb5)
            rw [← HG.out]
            clear hb5 HG
            cases hg : Hi.fromB h n (a, b) with
            | true =>
              have HG := Lib.hid hg
              clear hg
              go_wp2_with fail
              go_roundw
              case rel => exact ⟨k + 1, by omega, by go_num, HN.out HG.out, HB5⟩
              case measure => simp [intOf]; omega
            | false =>
              have HG := Lib.hid hg
              clear hg
              go_wp2_with fail
              go_ret
              exact ⟨ret_bool (HX.out HG.out).symm, below_all HB0.out HB5.out⟩
      · have HE := Lib.hid (Hi.readsB_yes HR.out (fun j hj => hno.out j hj (by omega)))
        go_wp2_with fail
        go_ret
        exact ⟨ret_bool HE.out.symm, below_all HB0.out HB.out⟩

set_option maxHeartbeats 1000000 in
theorem hRight_at (h : List So.Txn) (u : Value) (w : World) (hv : Txns w u h) (ho : ∀ t ∈ h, t.writes.length ≤ 4294967296 ∧ t.reads.length ≤ 4294967296) : Calls Try.prog 40 #[.agg #[u]] w (RetBool w (Hi.rightB h)) := by
  have HB0 := Lib.hid (alloc_below w (.cells #[u] 24))
  have HV := Lib.hid hv
  obtain ⟨A, c, rfl, hform⟩ := hv.spelled
  have HF := Lib.hid hform
  have HO := Lib.hid ho
  have c0 := (Boxed.new w 24 (.slice A h.length c)).cell
  have HC0 := Lib.hid c0
  have hs1 : (w.alloc (.cells #[.slice A h.length c] 24)).heap.size = w.heap.size + 1 := by simp
  have HS1 := Lib.hid hs1
  clear hs1
  clear hform hv ho
  go_enter Try.func40, Try.ntmps40
  by_cases h32 : 32 < h.length
  · have hd : decide ((32 : Int) < (h.length : Int)) = true := by simp; omega
    have HR := Lib.hid (Hi.may_many h32)
    go_wp2_with fail
    go_ret
    exact ⟨ret_bool HR.out.symm, HB0.out⟩
  have hd : decide ((32 : Int) < (h.length : Int)) = false := by simp; omega
  have hl32 : h.length ≤ 32 := by omega
  clear h32
  go_wp2_with fail
  generalize w.alloc (.cells #[.slice A h.length c] 24) = w1 at *
  go_loopw [13] (fun i wr => ∃ k : Nat, k ≤ h.length ∧ i = .int .i64 k ∧ Hid (∀ j (hj : j < h.length), j < k → Hi.txnB h j h[j] = true) ∧ Hid (Below w1.heap.size w1 wr)) (fun i _ => h.length - (intOf i).toNat)
  case atStart => exact ⟨0, Nat.zero_le _, rfl, fun j _ hj => absurd hj (by omega), Below.refl _ _⟩
  case round =>
    obtain ⟨k, hk, rfl, hno, HB⟩ := hrel
    by_cases hlt : k < h.length
    · obtain ⟨ad, x, y, rfl, hblk, hE, hx, hy⟩ := HF.out k hlt
      have HBW := Lib.hid (below_all HB0.out HB.out)
      obtain ⟨e0, e1, e2⟩ := hE.below hblk HBW.out
      have HOK := Lib.hid (HO.out _ (List.getElem_mem hlt))
      have HN : Hid (Hi.txnB h k h[k] = true → ∀ j (hj : j < h.length), j < k + 1 → Hi.txnB h j h[j] = true) := fun q j hj hjk => by
        by_cases e : j = k
        · subst e; exact q
        · exact hno.out j hj (by omega)
      have HX := Lib.hid (Hi.may_bad k hlt)
      have HRD := Lib.hid (fun wx hvx => areReads_at h (.slice (some ad) h.length c) k wx hvx hlt HO.out)
      have HT : Hid (Hi.txnB h k h[k] = ((decide (0 ≤ h[k].session) && decide (h[k].session < 8)) && Hi.risesB h[k].writes && Hi.readsB h k h[k].reads)) := rfl
      generalize h[k] = t at *
      obtain ⟨s, ws, rs⟩ := t
      dsimp only at e0 HT HRD HOK hx hy
      obtain ⟨A1, c1, rfl, _⟩ := hx.spelled
      obtain ⟨A2, c2, rfl, _⟩ := hy.spelled
      have HXN := Lib.hid (hx.below HBW.out)
      have HA := Lib.hid (below_all HB.out (alloc_below wr (.cells #[.int .i64 s, .slice A1 ws.length c1, .slice A2 rs.length c2] 65)))
      have HXA := Lib.hid (HXN.out.below (alloc_below wr (.cells #[.int .i64 s, .slice A1 ws.length c1, .slice A2 rs.length c2] 65)))
      clear hE hx hy hno HXN
      by_cases h1 : 0 ≤ s
      · have q1 : decide ((0 : Int) ≤ s) = true := decide_eq_true h1
        by_cases h2 : s < 8
        · have q2 : decide (s < (8 : Int)) = true := decide_eq_true h2
          have HT' : Hid (Hi.txnB h k ⟨s, ws, rs⟩ = (Hi.risesB ws && Hi.readsB h k rs)) := by rw [Hid, HT.out, q1, q2]; rfl
          clear h1 h2 HT
          go_wp2_with fail
          refine (sValues_at _ _ _ _).mono ?_
          rintro e w3 ⟨rfl, rfl⟩
          go_wp2_with fail
          (with_reducible refine (overInts_at ws _ _ _ _ _ HXA.out HOK.out.1 (World.size_alloc _ _)).mono ?_)
          rintro e w4 ⟨rfl, hb4⟩
          have HB4 := Lib.hid (below_all HA.out (below_all (alloc_below _ _) hb4))
          clear hb4
          cases hr : Hi.risesB ws with
          | false =>
            have HG : Hid (Hi.txnB h k ⟨s, ws, rs⟩ = false) := by rw [Hid, HT'.out, hr]; rfl
            clear hr HT'
            go_wp2_with fail
            go_ret
            exact ⟨ret_bool (HX.out HG.out).symm, below_all HB0.out HB4.out⟩
          | true =>
            have HT2 : Hid (Hi.txnB h k ⟨s, ws, rs⟩ = Hi.readsB h k rs) := by rw [Hid, HT'.out, hr]; rfl
            have cb := (HB4.out.cell (p := ⟨w.heap.size, 0, none⟩) (by rw [HS1.out]; exact Nat.lt_succ_self _)).trans HC0.out
            clear hr HT'
            go_wp2_with fail
            refine (HRD.out _ ((HV.out.below HB0.out).below HB4.out)).mono ?_
            rintro e w5 ⟨rfl, hb5⟩
            have HB5 := Lib.hid (below_all HB4.out hb5)
            rw [← HT2.out]
            clear hb5 HT2
            cases hg : Hi.txnB h k ⟨s, ws, rs⟩ with
            | true =>
              have HG := Lib.hid hg
              clear hg
              go_wp2_with fail
              go_roundw
              case rel => exact ⟨k + 1, by omega, by go_num, HN.out HG.out, HB5⟩
              case measure => simp [intOf]; omega
            | false =>
              have HG := Lib.hid hg
              clear hg
              go_wp2_with fail
              go_ret
              exact ⟨ret_bool (HX.out HG.out).symm, below_all HB0.out HB5.out⟩
        · have q2 : decide (s < (8 : Int)) = false := decide_eq_false h2
          have HG : Hid (Hi.txnB h k ⟨s, ws, rs⟩ = false) := by rw [Hid, HT.out, q2]; simp
          clear h1 h2 HT
          go_wp2_with fail
          go_ret
          exact ⟨ret_bool (HX.out HG.out).symm, below_all HB0.out HA.out⟩
      · have q1 : decide ((0 : Int) ≤ s) = false := decide_eq_false h1
        have HG : Hid (Hi.txnB h k ⟨s, ws, rs⟩ = false) := by rw [Hid, HT.out, q1]; simp
        clear h1 HT
        go_wp2_with fail
        go_ret
        exact ⟨ret_bool (HX.out HG.out).symm, below_all HB0.out HA.out⟩
    · have HE := Lib.hid (Hi.may_all hl32 (fun j hj => hno.out j hj (by omega)))
      go_wp2_with fail
      go_ret
      exact ⟨ret_bool HE.out.symm, below_all HB0.out HB.out⟩
end Go.Proofs.Ytahacjfeopjbaaa
/-
  What hist.Show answers, and the functions that it calls: the transactions of a history, and its text.
  Conditions: a row has at most 2^32 elements.
  (This program has not all of these functions: hValue_at, RetEvOwn, OpsRel, opsOf_at, TxsOwn, TxsOwn.below, TxsOwn.txs, TxsOwn.snoc, txsOf_at', hShow_at are left out here.)
-/
set_option maxRecDepth 4000
namespace Go.Proofs.Ytahacjfeopjbaaa
open Go.RowKit

namespace Hi
theorem rises_len {l : List Int} (h : So.Rises l) : l.length ≤ 16 := by
  have key : ∀ k (hk : k < l.length), (k : Int) ≤ l[k] := by
    intro k
    induction k with
    | zero => intro hk; exact (h.1 _ (List.getElem_mem hk)).1
    | succ k ih =>
      intro hk
      have h1 := ih (by omega)
      have h2 : l[k] < l[k + 1] := List.pairwise_iff_getElem.1 h.2 k (k + 1) (by omega) hk (by omega)
      omega
  cases hl : l.length with
  | zero => omega
  | succ m =>
    have h1 := key m (by omega)
    have h2 := (h.1 _ (List.getElem_mem (show m < l.length by omega))).2
    omega
theorem right_len {h : List So.Txn} (hr : Right h) : ∀ t ∈ h, t.writes.length ≤ 1073741824 ∧ t.reads.length ≤ 1073741824 := fun t ht => by
  obtain ⟨k, hk, rfl⟩ := List.getElem_of_mem ht
  have h1 := rises_len (hr.2 k hk).writes
  have h2 := rises_len (hr.2 k hk).reads
  rw [List.length_map] at h2
  omega
end Hi

end Go.Proofs.Ytahacjfeopjbaaa
/-
  What hist.Parse answers: Hi.parseR, the history of a text, or where it is wrong, and how; what was in memory stays as it was.
  Conditions: the text is no longer than any string can be; event.kindWords holds its words.
  (This program has not all of these functions: hSteps_at, VarsAt, VarsAt.later, vars_own, FullAt, full_own, VarsAt.put, steps_in, vars_start, results_parse, hParse_at are left out here.)
-/
set_option maxRecDepth 4000
namespace Go.Proofs.Ytahacjfeopjbaaa
open Go.RowKit

attribute [local go_sem] Oper.semAt_some

theorem Boxed.later {W W' : World} {b : Nat} {t : TypeId} {v : Value} (h : Boxed W b t v) (hb : Below W.heap.size W W') : Boxed W' b t v := (hb.block _ h.lt).trans h
/-! Parse's answer, by what each layer says. -/
namespace Hi
/-- Where a transaction begins. -/
theorem go_first (l : List Ev.Event) : ∀ (i : Nat) (st : List (Gr.Tx × Bool)), (∀ x ∈ st, 0 ≤ x.1.first ∧ x.1.first < (i : Int)) → ∀ x ∈ Gr.go i st l, 0 ≤ x.1.first ∧ x.1.first < ((i + l.length : Nat) : Int) := by
  induction l with
  | nil => intro i st h x hx; exact h x hx
  | cons e r ih =>
    intro i st h x hx
    have hu : ∀ f : Gr.Tx → Gr.Tx × Bool, (∀ t, (f t).1.first = t.first) → ∀ y ∈ Gr.upd st e.session f, 0 ≤ y.1.first ∧ y.1.first < ((i + 1 : Nat) : Int) := fun f hf y hy => by
      obtain ⟨z, hz, rfl⟩ := List.mem_map.1 hy
      have := h z hz
      split
      · rw [hf]; omega
      · omega
    have key := ih (i + 1) (Gr.next i st e) (fun y hy => by
      unfold Gr.next at hy
      split at hy
      · rcases List.mem_append.1 hy with q | q
        · have := h y q; omega
        · rw [List.mem_singleton.1 q]; dsimp only; omega
      · split at hy
        · exact hu _ (fun _ => rfl) y hy
        · exact hu _ (fun _ => rfl) y hy) x hx
    rw [List.length_cons]
    omega
/-- What was grouped is small. -/
theorem group_small (l : List Ev.Event) (h : (Gr.groupR l).2.2 = 0) : (Gr.groupR l).1.length ≤ 32 ∧ ∀ t ∈ (Gr.groupR l).1, t.ops.length ≤ l.length ∧ 0 ≤ t.first ∧ t.first < (l.length : Int) := by
  obtain ⟨h1, h2⟩ := group_none l h
  obtain ⟨c1, c2, c3⟩ := Gr.counts l h1
  rw [h2]
  refine ⟨by rw [List.length_map, c2]; exact c3, fun t ht => ?_⟩
  obtain ⟨x, hx, rfl⟩ := List.mem_map.1 ht
  have hf := go_first l 0 [] (fun y hy => by cases hy) x hx
  refine ⟨?_, hf.1, by have := hf.2; omega⟩
  have hk := kinds_len l
  have hle : x.1.ops.length ≤ ((Gr.go 0 [] l).map fun y => y.1.ops.length).sum := by
    have : ∀ m : List (Gr.Tx × Bool), x ∈ m → x.1.ops.length ≤ (m.map fun y => y.1.ops.length).sum := by
      intro m
      induction m with
      | nil => intro q; cases q
      | cons y m ih =>
        intro q
        rw [List.map_cons, List.sum_cons]
        rcases List.mem_cons.1 q with rfl | q
        · omega
        · have := ih q; omega
    exact this _ hx
  have : ((Gr.go 0 [] l).map fun y => y.1.ops.length).sum = Gr.keyed l := c1
  omega
theorem hist_place (l : List Gr.Tx) (h : (So.histR l).2.2 ≠ 0) : ∃ k, k < l.length ∧ (So.histR l).2.1 = (k : Int) := by
  rcases So.hist_cases l with q | ⟨hl, q | ⟨p, i, q1, q2, q3, q4, q5⟩⟩
  · exact ⟨0, by omega, by rw [So.hist_many l q]; rfl⟩
  · rw [So.hist_ok l hl q] at h; exact absurd rfl h
  · exact ⟨i, q2, by rw [So.hist_bad l hl p i q1 q2 q3 q4 q5]⟩
theorem first_at (l : List Gr.Tx) (k : Nat) (hk : k < l.length) : firstOf l (k : Int) = l[k].first := by rw [firstOf, Int.toNat_natCast, List.getElem?_eq_getElem hk]
end Hi

theorem Booked.set {n : Nat} {r : Loop} {W : World} (h : Booked n r W) (b : Nat) (hb : b < n) (v : Value) : Booked n r (W.setCell ⟨b, 0, none⟩ v) :=
  ⟨(Below.heap_setCell W ⟨b, 0, none⟩ v n (by show n ≠ b; omega)).trans h.1, (Below.heap_setCell W ⟨b, 0, none⟩ v (n + 1) (by show n + 1 ≠ b; omega)).trans h.2⟩
end Go.Proofs.Ytahacjfeopjbaaa
/-
  What Few answers: whether there are few transactions, with few reads and writes.
  Conditions: none.
-/
set_option maxRecDepth 4000
namespace Go.Proofs.Ytahacjfeopjbaaa
open Go.RowKit

namespace Hi
def fewB (h : List So.Txn) : Bool := decide (h.length ≤ 40) && h.all (fun t => decide (t.writes.length ≤ 20) && decide (t.reads.length ≤ 20))
theorem fewB_iff (h : List So.Txn) : fewB h = true ↔ h.length ≤ 40 ∧ ∀ t ∈ h, t.writes.length ≤ 20 ∧ t.reads.length ≤ 20 := by
  rw [fewB, Bool.and_eq_true, decide_eq_true_eq, List.all_eq_true]
  simp
theorem fewB_no {h : List So.Txn} (q : ¬ (h.length ≤ 40 ∧ ∀ t ∈ h, t.writes.length ≤ 20 ∧ t.reads.length ≤ 20)) : fewB h = false := by
  rw [← Bool.not_eq_true, fewB_iff]
  exact q
theorem few_small {h : List So.Txn} (q : fewB h = true) : h.length ≤ 40 ∧ h.length ≤ 4294967296 ∧ ∀ t ∈ h, t.writes.length ≤ 4294967296 ∧ t.reads.length ≤ 4294967296 := by
  obtain ⟨h1, h2⟩ := (fewB_iff h).1 q
  refine ⟨h1, by omega, fun t ht => ?_⟩
  have := h2 t ht
  omega
/-- How a text of a history may be. -/
theorem show_cases (h : List So.Txn) (hr : Right h) : (showR h).2 = 0 ∨ showR h = ([], 4) := by
  by_cases hl : (events h).length ≤ 400
  · exact .inl (show_few h hr hl)
  · exact .inr (show_many h hr (by omega))
theorem show_short (h : List So.Txn) : (showR h).1.length ≤ maxLen := by
  by_cases hr : Right h
  · rw [show_is h hr]
    have := Di.show_len (events h)
    unfold maxLen
    omega
  · rw [show_not h hr]
    simp [maxLen]
theorem diary_place (s : List UInt8) : 0 ≤ (Di.parseR s).2.1 := by
  by_cases h1 : (Ln.splitR s).2 = 0
  · by_cases h2 : Di.bad (Ln.splitR s).1 = 0
    · rw [Di.parse_ok s h1 h2]; exact Int.le_refl _
    · rw [Di.parse_bad s h1 h2]; dsimp only; omega
  · rw [Di.parse_split s h1]; exact Int.le_refl _
theorem first_pos (s : List UInt8) (h2 : (Gr.groupR (Di.parseR s).1).2.2 = 0) (h3 : (So.histR (Gr.groupR (Di.parseR s).1).1).2.2 ≠ 0) : 0 ≤ firstOf (Gr.groupR (Di.parseR s).1).1 (So.histR (Gr.groupR (Di.parseR s).1).1).2.1 + 1 := by
  obtain ⟨k, hk, e⟩ := hist_place _ h3
  rw [e, first_at _ k hk]
  have := ((group_small _ h2).2 _ (List.getElem_mem hk)).2.1
  omega
theorem parse_nothing (s : List UInt8) (h : (parseR s).2.2 ≠ 0) : (parseR s).1 = [] ∧ 0 ≤ (parseR s).2.1 := by
  unfold parseR at h ⊢
  by_cases h1 : (Di.parseR s).2.2 ≠ 0
  · rw [if_pos h1]
    exact ⟨rfl, diary_place s⟩
  · rw [if_neg h1] at h ⊢
    by_cases h2 : (Gr.groupR (Di.parseR s).1).2.2 ≠ 0
    · rw [if_pos h2]
      refine ⟨rfl, ?_⟩
      cases hq : Gr.run 0 [] (Di.parseR s).1 with
      | none => rw [Gr.group_ok _ hq]; dsimp only; omega
      | some p => obtain ⟨k, q⟩ := p; rw [Gr.group_bad _ k q hq]; dsimp only; omega
    · rw [if_neg h2] at h ⊢
      by_cases h3 : (So.histR (Gr.groupR (Di.parseR s).1).1).2.2 ≠ 0
      · rw [if_pos h3]
        exact ⟨rfl, first_pos s (Decidable.byContradiction h2) h3⟩
      · rw [if_neg h3] at h; exact absurd rfl h
end Hi

theorem few8_at (h : List So.Txn) (u : Value) (w : World) (hv : Txns w u h) : Calls Try.prog 8 #[.agg #[u], .int .i64 40] w (RetBool w (Hi.fewB h)) := by
  have HB0 := Lib.hid (alloc_below w (.cells #[u] 24))
  obtain ⟨A, c, rfl, hform⟩ := (hv.below HB0.out).spelled
  have HF := Lib.hid hform
  have c0 := (Boxed.new w 24 (.slice A h.length c)).cell
  clear hform hv
  go_enter Try.func8, Try.ntmps8
  by_cases h4 : 40 < h.length
  · have hd : decide ((40 : Int) < (h.length : Int)) = true := by simp; omega
    have HR : Hid (Hi.fewB h = false) := Hi.fewB_no (fun q => by omega)
    go_wp2_with fail
    go_ret
    exact ⟨ret_bool HR.out.symm, HB0.out⟩
  have hd : decide ((40 : Int) < (h.length : Int)) = false := by simp; omega
  have h40 : h.length ≤ 40 := by omega
  clear h4
  go_wp2_with fail
  generalize w.alloc (.cells #[.slice A h.length c] 24) = w1 at *
  go_loop [5] (fun i => ∃ k : Nat, k ≤ h.length ∧ i = .int .i64 k ∧ Hid (∀ t ∈ h.take k, t.writes.length ≤ 20 ∧ t.reads.length ≤ 20)) (fun i => h.length - (intOf i).toNat)
  case atStart => exact ⟨0, Nat.zero_le _, rfl, fun t ht => by cases ht⟩
  case round =>
    obtain ⟨k, hk, rfl, hall⟩ := hrel
    by_cases hlt : k < h.length
    · obtain ⟨ad, x, y, rfl, hblk, hT, hx, hy⟩ := HF.out k hlt
      have HM := Lib.hid (List.getElem_mem hlt)
      have HTK := Lib.hid (List.take_succ_eq_append_getElem hlt)
      obtain ⟨_, e1, e2⟩ := hT
      generalize h[k] = t at *
      obtain ⟨A1, c1, rfl, _⟩ := hx.spelled
      obtain ⟨A2, c2, rfl, _⟩ := hy.spelled
      clear hx hy
      by_cases q1 : 20 < t.writes.length
      · have d1 : decide ((20 : Int) < (t.writes.length : Int)) = true := by simp; omega
        have HR : Hid (Hi.fewB h = false) := Hi.fewB_no (fun q => by have := q.2 t HM.out; omega)
        clear q1
        go_wp2_with fail
        go_ret
        exact ⟨ret_bool HR.out.symm, HB0.out⟩
      have d1 : decide ((20 : Int) < (t.writes.length : Int)) = false := by simp; omega
      by_cases q2 : 20 < t.reads.length
      · have d2 : decide ((20 : Int) < (t.reads.length : Int)) = true := by simp; omega
        have HR : Hid (Hi.fewB h = false) := Hi.fewB_no (fun q => by have := q.2 t HM.out; omega)
        clear q1 q2
        go_wp2_with fail
        go_ret
        exact ⟨ret_bool HR.out.symm, HB0.out⟩
      have d2 : decide ((20 : Int) < (t.reads.length : Int)) = false := by simp; omega
      have HN : Hid (∀ t ∈ h.take (k + 1), t.writes.length ≤ 20 ∧ t.reads.length ≤ 20) := fun z hz => by
        rw [HTK.out] at hz
        rcases List.mem_append.1 hz with hz | hz
        · exact hall.out z hz
        · rw [List.mem_singleton.1 hz]; omega
      clear q1 q2
      go_wp2_with fail
      go_round
      case rel => exact ⟨k + 1, by omega, by go_num, HN⟩
      case measure => simp [intOf]; omega
    · have HR : Hid (Hi.fewB h = true) := (Hi.fewB_iff h).2 ⟨h40, fun t ht => hall.out t (by rw [List.take_of_length_le (by omega)]; exact ht)⟩
      go_wp2_with fail
      go_ret
      exact ⟨ret_bool HR.out.symm, HB0.out⟩
end Go.Proofs.Ytahacjfeopjbaaa
