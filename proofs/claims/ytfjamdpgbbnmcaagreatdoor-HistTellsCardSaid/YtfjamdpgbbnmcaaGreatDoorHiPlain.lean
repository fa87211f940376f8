/-
  Plain facts on histories and their events (no Go in it): when a history may be, its events, and that these make that history; what is told of transactions may be; First plays no part.
  Conditions: none beyond those that each theorem states.
-/
import Derived.Test.YtfjamdpgbbnmcaaGreatDoorSoAll
set_option maxRecDepth 4000
namespace Go.Proofs.YtfjamdpgbbnmcaaGreatDoor.Hi
open In (isK isK_iff lastOf lookR readsTo writesTo rd wr errAt wrong future)
open So (Txn Rises histR txns txnOf fromR fromGo readsErr phase phaseT mayT unlikeR opBad wrote isW)

/-- When a transaction of a history may be, and a history. -/
structure OkTxn (h : List Txn) (n : Nat) (t : Txn) : Prop where
  session : 0 ≤ t.session ∧ t.session < 8
  writes : Rises t.writes
  reads : Rises (t.reads.map (·.1))
  froms : ∀ y ∈ t.reads, y.2 = -1 ∨ ∃ j, ∃ hj : j < h.length, y.2 = (j : Int) ∧ j ≠ n ∧ y.1 ∈ h[j].writes
def Right (h : List Txn) : Prop := h.length ≤ 32 ∧ ∀ n (hn : n < h.length), OkTxn h n h[n]

/-- What is told of transactions may be. -/
theorem right_of (l : List Gr.Tx) (hl : l.length ≤ 32) (h : ∀ p, p < 4 → So.Clean l p) : Right (txns l) := by
  have hlen := So.txns_len l
  refine ⟨by rw [hlen]; exact Nat.le_trans (List.length_filter_le _ _) hl, fun n hn => ?_⟩
  have hlt : n < (l.filter (·.done)).length := by omega
  have e : (txns l)[n] = txnOf l ((l.filter (·.done))[n]'hlt) := by simp [txns]
  have hmem := (List.mem_filter.1 (List.getElem_mem hlt)).1
  refine ⟨?_, ?_, ?_, fun y hy => So.read_from l (h 2 (by omega)) (h 3 (by omega)) n hn y hy⟩
  · rw [e]
    exact ((So.mayT_iff _).1 ((So.clean_may l).1 (h 0 (by omega)) _ hmem)).2
  · rw [e]; exact So.writes_rise _
  · rw [e, So.txn_reads]; exact So.reads_rise _

/-! First plays no part. -/
def strip (t : Gr.Tx) : Gr.Tx := ⟨t.session, t.done, 0, t.ops⟩
theorem fromGo_strip (key v : Int) (l : List Gr.Tx) : ∀ n, fromGo key v n (l.map strip) = fromGo key v n l := by
  induction l with
  | nil => exact fun _ => rfl
  | cons t r ih => intro n; rw [List.map_cons, fromGo, fromGo, ih]; rfl
theorem fromR_strip (l : List Gr.Tx) (y : Int × Int) : fromR (l.map strip) y = fromR l y := by unfold fromR; rw [fromGo_strip]
theorem readsErr_strip (l : List Gr.Tx) (ys : List (Int × Int)) : readsErr (l.map strip) ys = readsErr l ys := So.readsErr_congr l _ ys fun y _ => fromR_strip l y
theorem flat_strip (l : List Gr.Tx) : (l.map strip).flatMap (·.ops) = l.flatMap (·.ops) := by rw [List.flatMap_map]; rfl
theorem phase_strip (l : List Gr.Tx) (p i : Nat) : phase (l.map strip) p i = phase l p i := by
  rcases Nat.lt_or_ge i l.length with hi | hi
  · rw [So.phase_at l p i hi, So.phase_at (l.map strip) p i (by simpa using hi), List.getElem_map]
    unfold phaseT
    rw [← List.map_take, flat_strip]
    have k1 : mayT (strip l[i]) = mayT l[i] := rfl
    have k2 : (strip l[i]).ops = l[i].ops := rfl
    have k3 : (strip l[i]).done = l[i].done := rfl
    rw [k1, k2, k3, readsErr_strip]
  · rw [So.phase_out l p i hi, So.phase_out _ p i (by simpa using hi)]
theorem txns_strip (l : List Gr.Tx) : txns (l.map strip) = txns l := by
  unfold txns
  rw [List.filter_map, List.map_map]
  have : ((fun t : Gr.Tx => t.done) ∘ strip) = fun t => t.done := rfl
  rw [this]
  exact List.map_congr_left fun t _ => So.txnOf_congr l _ t fun y _ => fromR_strip l y
theorem hist_strip (l : List Gr.Tx) : histR (l.map strip) = histR l := by
  have hc : ∀ p, So.Clean l p → So.Clean (l.map strip) p := fun p h i hi => by rw [phase_strip]; exact h i (by simpa using hi)
  rcases So.hist_cases l with h | ⟨hl, h | ⟨p, i, h1, h2, h3, h4, h5⟩⟩
  · rw [So.hist_many l h, So.hist_many _ (by simpa using h)]
  · rw [So.hist_ok l hl h, So.hist_ok _ (by simpa using hl) (fun p hp => hc p (h p hp)), txns_strip]
  · rw [So.hist_bad l hl p i h1 h2 h3 h4 h5, So.hist_bad _ (by simpa using hl) p i h1 (by simpa using h2) (fun q hq => hc q (h3 q hq)) (fun j hj => by rw [phase_strip]; exact h4 j hj) (by rw [phase_strip]; exact h5), phase_strip]
theorem hist_core (l m : List Gr.Tx) (h : l.map Gr.core = m.map Gr.core) : histR l = histR m := by
  have e : ∀ x : List Gr.Tx, x.map strip = (x.map Gr.core).map fun c => ⟨c.1, c.2.1, 0, c.2.2⟩ := fun x => by rw [List.map_map]; rfl
  rw [← hist_strip l, ← hist_strip m, e, e, h]

/-! The events of a history. -/
def readEv (s : Int) (y : Int × Int) : Ev.Event := ⟨1, s, y.1, y.2 + 1⟩
def writeEv (s : Int) (n : Nat) (k : Int) : Ev.Event := ⟨2, s, k, (n : Int) + 1⟩
def opsOf (t : Txn) (n : Nat) : List Ev.Event := t.reads.map (readEv t.session) ++ t.writes.map (writeEv t.session n)
def txOf (n : Nat) (t : Txn) : Gr.Tx := ⟨t.session, true, 0, opsOf t n⟩
def txsOf (h : List Txn) : List Gr.Tx := h.mapIdx txOf
def events (h : List Txn) : List Ev.Event := Gr.eventsR (txsOf h)
theorem txsOf_len (h : List Txn) : (txsOf h).length = h.length := by simp [txsOf]
theorem txsOf_at (h : List Txn) (n : Nat) (hn : n < h.length) : (txsOf h)[n]'(by rw [txsOf_len]; exact hn) = txOf n h[n] := by simp [txsOf]
theorem txsOf_mem {h : List Txn} {x : Gr.Tx} (hx : x ∈ txsOf h) : ∃ n, ∃ hn : n < h.length, x = txOf n h[n] := by
  obtain ⟨n, hn, rfl⟩ := List.getElem_of_mem hx
  rw [txsOf_len] at hn
  exact ⟨n, hn, txsOf_at h n hn⟩
theorem op_right {h : List Txn} (hr : Right h) (n : Nat) (hn : n < h.length) : ∀ e ∈ opsOf h[n] n, Ev.right e = true ∧ Ev.hasKey e.kind = true ∧ e.session = h[n].session := by
  intro e he
  have ok := hr.2 n hn
  have hl := hr.1
  rcases List.mem_append.1 he with he | he
  · obtain ⟨y, hy, rfl⟩ := List.mem_map.1 he
    have hk := ok.reads.1 y.1 (List.mem_map.2 ⟨y, hy, rfl⟩)
    refine ⟨?_, rfl, rfl⟩
    rw [Ev.right_iff]
    refine ⟨(show (0 : Int) ≤ 1 by decide), (show (1 : Int) < 5 by decide), ok.session.1, ok.session.2, ?_⟩
    rw [if_pos (show Ev.hasKey (readEv h[n].session y).kind = true from rfl)]
    refine ⟨hk.1, hk.2, (Nm.isNum_iff _).2 ?_⟩
    show 0 ≤ y.2 + 1 ∧ y.2 + 1 ≤ 2147483647
    rcases ok.froms y hy with h1 | ⟨j, hj, h1, _⟩ <;> omega
  · obtain ⟨k, hk, rfl⟩ := List.mem_map.1 he
    have hk' := ok.writes.1 k hk
    refine ⟨?_, rfl, rfl⟩
    rw [Ev.right_iff]
    refine ⟨(show (0 : Int) ≤ 2 by decide), (show (2 : Int) < 5 by decide), ok.session.1, ok.session.2, ?_⟩
    rw [if_pos (show Ev.hasKey (writeEv h[n].session n k).kind = true from rfl)]
    refine ⟨hk'.1, hk'.2, (Nm.isNum_iff _).2 ?_⟩
    show 0 ≤ (n : Int) + 1 ∧ (n : Int) + 1 ≤ 2147483647
    omega
/-- The first kind of errors: none. -/
theorem clean0 {h : List Txn} (hr : Right h) : So.Clean (txsOf h) 0 := (So.clean_may _).2 fun x hx => by
  obtain ⟨n, hn, rfl⟩ := txsOf_mem hx
  rw [So.mayT_iff]
  refine ⟨fun e he => ?_, (hr.2 n hn).session⟩
  obtain ⟨h1, h2, _⟩ := op_right hr n hn e he
  rw [h1, h2]
  rfl
/-! Writes. -/
theorem unlike_reads (a : List Ev.Event) (s : Int) (ys : List (Int × Int)) : unlikeR a (ys.map (readEv s)) = 0 := by
  induction ys generalizing a with
  | nil => rfl
  | cons y r ih =>
    rw [List.map_cons, unlikeR, if_neg]
    · exact ih _
    · have : opBad a (readEv s y) = 0 := by unfold opBad; rw [if_pos (show (readEv s y).kind ≠ 2 from (by show (1 : Int) ≠ 2; decide))]
      rw [this]; simp
theorem unlike_writes (s : Int) (n : Nat) (ks : List Int) (hk : ks.Pairwise (· < ·)) : ∀ a, (∀ k ∈ ks, wrote k ((n : Int) + 1) a = false) → unlikeR a (ks.map (writeEv s n)) = 0 := by
  induction ks with
  | nil => exact fun _ _ => rfl
  | cons k r ih =>
    intro a ha
    obtain ⟨h1, h2⟩ := List.pairwise_cons.1 hk
    have hb : opBad a (writeEv s n k) = 0 := by
      unfold opBad
      rw [if_neg (show ¬ (writeEv s n k).kind ≠ 2 from fun q => q rfl), if_neg (show ¬ (writeEv s n k).value = 0 from (by show ¬ (n : Int) + 1 = 0; omega))]
      rw [show wrote (writeEv s n k).key (writeEv s n k).value a = false from ha k (by simp)]
      rfl
    rw [List.map_cons, unlikeR, if_neg (by rw [hb]; simp)]
    refine ih h2 _ fun k' hk' => ?_
    have h3 := h1 k' hk'
    have h4 := ha k' (List.mem_cons_of_mem _ hk')
    unfold wrote at h4 ⊢
    rw [List.any_append, h4, Bool.false_or, List.any_cons, List.any_nil, Bool.or_false]
    cases hq : isW k' ((n : Int) + 1) (writeEv s n k) with
    | false => rfl
    | true =>
      have := ((So.isW_iff _ _ _).1 hq).2.1
      have : k = k' := this
      omega
theorem wrote_ops (t : Txn) (m : Nat) (k v : Int) : wrote k v (opsOf t m) = true ↔ v = (m : Int) + 1 ∧ k ∈ t.writes := by
  unfold wrote
  rw [List.any_eq_true]
  constructor
  · rintro ⟨e, he, hw⟩
    obtain ⟨h1, h2, h3⟩ := (So.isW_iff _ _ _).1 hw
    rcases List.mem_append.1 he with he | he
    · obtain ⟨y, _, rfl⟩ := List.mem_map.1 he
      have : (1 : Int) = 2 := h1
      omega
    · obtain ⟨k', hk', rfl⟩ := List.mem_map.1 he
      have e1 : k' = k := h2
      have e2 : (m : Int) + 1 = v := h3
      exact ⟨e2.symm, e1 ▸ hk'⟩
  · rintro ⟨rfl, hk⟩
    exact ⟨writeEv t.session m k, List.mem_append_right _ (List.mem_map.2 ⟨k, hk, rfl⟩), (So.isW_iff _ _ _).2 ⟨rfl, rfl, rfl⟩⟩
theorem wrote_no (t : Txn) (m : Nat) (k v : Int) (h : ¬ (v = (m : Int) + 1 ∧ k ∈ t.writes)) : wrote k v (opsOf t m) = false := by
  cases hq : wrote k v (opsOf t m) with
  | false => rfl
  | true => exact absurd ((wrote_ops t m k v).1 hq) h
theorem clean1 {h : List Txn} (hr : Right h) : So.Clean (txsOf h) 1 := fun n hn => by
  have hn' : n < h.length := by rw [txsOf_len] at hn; exact hn
  rw [So.phase_at _ 1 n hn, txsOf_at h n hn']
  show unlikeR (((txsOf h).take n).flatMap (·.ops)) (opsOf h[n] n) = 0
  unfold opsOf
  rw [So.unlike_append]
  refine ⟨unlike_reads _ _ _, unlike_writes _ _ _ (hr.2 n hn').writes.2 _ fun k _ => ?_⟩
  unfold wrote
  rw [List.any_append, Bool.or_eq_false_iff, List.any_eq_false, List.any_eq_false]
  refine ⟨fun e he hw => ?_, fun e he hw => ?_⟩
  · obtain ⟨x, hx, hex⟩ := List.mem_flatMap.1 he
    obtain ⟨m, hm, rfl⟩ := List.mem_take_iff_getElem.1 hx
    rw [txsOf_len] at hm
    rw [txsOf_at h m (by omega)] at hex
    have : wrote k ((n : Int) + 1) (opsOf (h[m]'(by omega)) m) = true := by unfold wrote; rw [List.any_eq_true]; exact ⟨e, hex, hw⟩
    have := ((wrote_ops _ _ _ _).1 this).1
    omega
  · obtain ⟨y, _, rfl⟩ := List.mem_map.1 he
    have : (1 : Int) = 2 := ((So.isW_iff _ _ _).1 hw).1
    omega

/-! Looks. -/
theorem ops_at (t : Txn) (n j : Nat) (hj : j < (opsOf t n).length) : (∃ h : j < t.reads.length, (opsOf t n)[j] = readEv t.session t.reads[j]) ∨ ∃ k ∈ t.writes, (opsOf t n)[j] = writeEv t.session n k := by
  unfold opsOf at hj ⊢
  rcases Nat.lt_or_ge j (t.reads.map (readEv t.session)).length with h | h
  · refine .inl ⟨by simpa using h, ?_⟩
    rw [List.getElem_append_left h]
    simp
  · refine .inr ?_
    rw [List.getElem_append_right h, List.getElem_map]
    exact ⟨_, List.getElem_mem _, rfl⟩
theorem last_reads (key s : Int) (ys : List (Int × Int)) : lastOf 2 key (ys.map (readEv s)) = none := by
  rw [In.lastOf_none]
  intro x hx
  obtain ⟨y, _, rfl⟩ := List.mem_map.1 hx
  cases hq : isK 2 key (readEv s y) with
  | false => rfl
  | true =>
    have : (1 : Int) = 2 := ((isK_iff _ _ _).1 hq).1
    omega
theorem good_ops {h : List Txn} (hr : Right h) (n : Nat) (hn : n < h.length) : In.good (opsOf h[n] n) := In.good_of_all _ fun j hj => by
  have ok := hr.2 n hn
  rw [In.errAt_at _ j hj]
  have hR := op_right hr n hn _ (List.getElem_mem hj)
  rcases ops_at h[n] n j hj with ⟨hjr, he⟩ | ⟨k, _, he⟩
  · rw [he] at hR ⊢
    rw [In.wrong_read _ _ _ hR.1 rfl]
    have htake : (opsOf h[n] n).take j = (h[n].reads.take j).map (readEv h[n].session) := by
      unfold opsOf
      rw [List.take_append_of_le_length (by rw [List.length_map]; omega), List.map_take]
    have h1 : lastOf 1 (readEv h[n].session h[n].reads[j]).key ((opsOf h[n] n).take j) = none := by
      rw [In.lastOf_none, htake]
      intro x hx
      obtain ⟨y, hy, rfl⟩ := List.mem_map.1 hx
      cases hq : isK 1 (readEv h[n].session h[n].reads[j]).key (readEv h[n].session y) with
      | false => rfl
      | true =>
        have e : y.1 = h[n].reads[j].1 := ((isK_iff _ _ _).1 hq).2
        obtain ⟨i, hi, rfl⟩ := List.mem_take_iff_getElem.1 hy
        have := (So.rises_at ok.reads j (by simpa using hjr)).2.2 i (by omega)
        simp only [List.getElem_map] at this
        omega
    have h2 : lastOf 2 (readEv h[n].session h[n].reads[j]).key ((opsOf h[n] n).take j) = none := by rw [htake]; exact last_reads _ _ _
    have h3 : future (readEv h[n].session h[n].reads[j]) ((opsOf h[n] n).drop (j + 1)) = false := by
      unfold future
      rw [List.any_eq_false]
      intro x hx hq
      rw [Bool.and_eq_true, isK_iff, decide_eq_true_eq] at hq
      obtain ⟨i, hi, rfl⟩ := List.getElem_of_mem (List.mem_of_mem_drop hx)
      rcases ops_at h[n] n i hi with ⟨_, e⟩ | ⟨k, _, e⟩
      · rw [e] at hq
        have : (1 : Int) = 2 := hq.1.1
        omega
      · rw [e] at hq
        have e2 : (n : Int) + 1 = h[n].reads[j].2 + 1 := hq.2
        rcases ok.froms _ (List.getElem_mem hjr) with h4 | ⟨m, _, h4, h5, _⟩ <;> omega
    rw [h2, h1, h3]
    rfl
  · rw [he] at hR ⊢
    exact In.wrong_write _ _ _ hR.1 rfl
theorem clean2 {h : List Txn} (hr : Right h) : So.Clean (txsOf h) 2 := (So.clean_look _).2 fun x hx _ => by
  obtain ⟨n, hn, rfl⟩ := txsOf_mem hx
  show (lookR (opsOf h[n] n)).2.2 = 0
  rw [In.look_ok _ (good_ops hr n hn)]
/-! Faces. -/
theorem fm_congr {α β : Type} {f g : α → Option β} {L : List α} (h : ∀ k ∈ L, f k = g k) : L.filterMap f = L.filterMap g := by
  induction L with
  | nil => rfl
  | cons x r ih => rw [List.filterMap_cons, List.filterMap_cons, h x (by simp), ih (fun k hk => h k (List.mem_cons_of_mem _ hk))]
theorem range_find {α β : Type} (key : α → Int) (g : α → β) (n : Nat) : ∀ (ys : List α), (∀ y ∈ ys, 0 ≤ key y ∧ key y < (n : Int)) → ys.Pairwise (fun a b => key a < key b) →
    (List.range n).filterMap (fun k : Nat => (ys.find? fun y => decide (key y = (k : Int))).map g) = ys.map g := by
  induction n with
  | zero =>
    intro ys h _
    cases ys with
    | nil => rfl
    | cons y r => have := h y (by simp); omega
  | succ n ih =>
    intro ys h hp
    rw [List.range_succ, List.filterMap_append]
    rcases List.eq_nil_or_concat ys with rfl | ⟨r, y, rfl⟩
    · simp
    · rw [List.concat_eq_append] at h hp ⊢
      rw [List.pairwise_append] at hp
      have hlt : ∀ x ∈ r, key x < key y := fun x hx => hp.2.2 x hx y (by simp)
      have hy := h y (by simp)
      by_cases e : key y = (n : Int)
      · have h1 : (List.range n).filterMap (fun k : Nat => ((r ++ [y]).find? fun x => decide (key x = (k : Int))).map g) = r.map g := by
          rw [← ih r (fun x hx => ⟨(h x (by simp [hx])).1, by have := hlt x hx; omega⟩) hp.1]
          refine fm_congr fun k hk => ?_
          have hkn := List.mem_range.1 hk
          rw [List.find?_append]
          have : ([y].find? fun x => decide (key x = (k : Int))) = none := by
            rw [List.find?_eq_none]
            intro x hx
            rw [List.mem_singleton.1 hx]
            simp
            omega
          rw [this, Option.or_none]
        have h2 : (r ++ [y]).find? (fun x => decide (key x = (n : Int))) = some y := by
          rw [List.find?_append]
          have : (r.find? fun x => decide (key x = (n : Int))) = none := by
            rw [List.find?_eq_none]
            intro x hx
            have := hlt x hx
            simp
            omega
          rw [this, Option.none_or]
          simp [e]
        rw [h1, List.filterMap_cons, h2]
        simp
      · have hall : ∀ x ∈ r ++ [y], 0 ≤ key x ∧ key x < (n : Int) := fun x hx => by
          refine ⟨(h x hx).1, ?_⟩
          rcases List.mem_append.1 hx with hx | hx
          · have := hlt x hx; omega
          · rw [List.mem_singleton.1 hx]; omega
        rw [ih (r ++ [y]) hall (by rw [List.pairwise_append]; exact hp)]
        have : (r ++ [y]).find? (fun x => decide (key x = (n : Int))) = none := by
          rw [List.find?_eq_none]
          intro x hx
          have := hall x hx
          simp
          omega
        rw [List.filterMap_cons, this]
        simp
theorem rd_ops (t : Txn) (n k : Nat) : rd (opsOf t n) k = (t.reads.find? fun y => decide (y.1 = (k : Int))).map fun y => (y.1, y.2 + 1) := by
  unfold rd opsOf
  rw [List.find?_append, List.find?_map]
  have e : ((fun e : Ev.Event => decide (e.key = (k : Int))) ∘ readEv t.session) = fun y => decide (y.1 = (k : Int)) := rfl
  rw [e]
  cases hf : t.reads.find? fun y => decide (y.1 = (k : Int)) with
  | some y =>
    have : y.1 = (k : Int) := by simpa using List.find?_some hf
    simp only [Option.map_some, Option.some_or]
    rw [if_pos (show (readEv t.session y).kind = 1 from rfl)]
    show some ((k : Int), y.2 + 1) = _
    rw [this]
  | none =>
    simp only [Option.map_none, Option.none_or]
    rw [List.find?_map]
    cases hw : t.writes.find? ((fun e : Ev.Event => decide (e.key = (k : Int))) ∘ writeEv t.session n) with
    | none => rfl
    | some x =>
      simp only [Option.map_some]
      rw [if_neg (show ¬ (writeEv t.session n x).kind = 1 from (by show ¬ (2 : Int) = 1; decide))]
theorem lastOf_writes (s : Int) (n : Nat) (ks : List Int) (k : Int) : lastOf 2 k (ks.map (writeEv s n)) = if k ∈ ks then some ((n : Int) + 1) else none := by
  induction ks with
  | nil => rfl
  | cons x r ih =>
    rw [List.map_cons, lastOf, ih]
    by_cases hr : k ∈ r
    · rw [if_pos hr, if_pos (List.mem_cons_of_mem _ hr)]
      rfl
    · rw [if_neg hr]
      by_cases e : x = k
      · rw [if_pos ((isK_iff 2 k (writeEv s n x)).2 ⟨rfl, e⟩), if_pos (by rw [e]; simp)]
        rfl
      · have hk : isK 2 k (writeEv s n x) = false := by
          cases hq : isK 2 k (writeEv s n x) with
          | false => rfl
          | true => exact absurd ((isK_iff _ _ _).1 hq).2 e
        rw [hk, if_neg (by simp), if_neg (by simp [hr]; exact fun q => e q.symm)]
        rfl
theorem lastOf_ops (t : Txn) (n : Nat) (k : Int) : lastOf 2 k (opsOf t n) = if k ∈ t.writes then some ((n : Int) + 1) else none := by
  unfold opsOf
  rw [In.lastOf_append, last_reads, lastOf_writes, Option.or_none]
theorem wr_ops (t : Txn) (n k : Nat) : wr (opsOf t n) k = (t.writes.find? fun x => decide (x = (k : Int))).map fun x => (x, (n : Int) + 1) := by
  unfold wr
  rw [lastOf_ops]
  cases hf : t.writes.find? fun x => decide (x = (k : Int)) with
  | some x =>
    have e : x = (k : Int) := by simpa using List.find?_some hf
    have hm := List.mem_of_find?_eq_some hf
    rw [if_pos (by rw [← e]; exact hm), e]
    rfl
  | none =>
    rw [List.find?_eq_none] at hf
    rw [if_neg (fun hm => by have := hf _ hm; simp at this)]
    rfl
theorem reads_ops {h : List Txn} (hr : Right h) (n : Nat) (hn : n < h.length) : readsTo (opsOf h[n] n) 16 = h[n].reads.map fun y => (y.1, y.2 + 1) := by
  have ok := (hr.2 n hn).reads
  unfold readsTo
  rw [← range_find (fun y : Int × Int => y.1) (fun y => (y.1, y.2 + 1)) 16 h[n].reads (fun y hy => ok.1 y.1 (List.mem_map.2 ⟨y, hy, rfl⟩)) (List.pairwise_map.1 ok.2)]
  exact fm_congr fun k _ => rd_ops _ _ _
theorem writes_ops {h : List Txn} (hr : Right h) (n : Nat) (hn : n < h.length) : writesTo (opsOf h[n] n) 16 = h[n].writes.map fun k => (k, (n : Int) + 1) := by
  have ok := (hr.2 n hn).writes
  unfold writesTo
  rw [← range_find (fun k : Int => k) (fun k => (k, (n : Int) + 1)) 16 h[n].writes (fun k hk => ok.1 k hk) ok.2]
  exact fm_congr fun k _ => wr_ops _ _ _
/-! Whose a value is. -/
theorem all_done (h : List Txn) : (txsOf h).filter (·.done) = txsOf h := List.filter_eq_self.2 fun x hx => by
  obtain ⟨n, hn, rfl⟩ := txsOf_mem hx
  rfl
theorem from_ops {h : List Txn} (hr : Right h) (n : Nat) (hn : n < h.length) (y : Int × Int) (hy : y ∈ h[n].reads) : fromR (txsOf h) (y.1, y.2 + 1) = (y.2, 0) := by
  rcases (hr.2 n hn).froms y hy with e | ⟨j, hj, e, _, hm⟩
  · rw [e]; rfl
  · have hj' : j < (txsOf h).length := by rw [txsOf_len]; exact hj
    unfold fromR
    rw [if_neg (show ¬ y.2 + 1 = 0 by omega)]
    show fromGo y.1 (y.2 + 1) 0 (txsOf h) = _
    rw [e, So.from_number y.1 ((j : Int) + 1) (txsOf h) j (by omega) (fun a ha haj => ?_), So.from_hit _ _ _ _ _ hj' ?_]
    · rw [txsOf_at h j hj, if_neg (show ¬ (txOf j h[j]).done = false from Bool.noConfusion)]
      show (if lastOf 2 y.1 (opsOf h[j] j) ≠ some ((j : Int) + 1) then _ else _) = _
      rw [lastOf_ops, if_pos hm, if_neg (fun q => q rfl)]
      have : ((txsOf h).take j).filter (·.done) = (txsOf h).take j := List.filter_eq_self.2 fun x hx => by
        obtain ⟨m, hm, rfl⟩ := txsOf_mem (List.mem_of_mem_take hx)
        rfl
      rw [this, List.length_take, txsOf_len, Nat.min_eq_left (by omega)]
    · rw [txsOf_at h j hj]
      exact (wrote_ops _ _ _ _).2 ⟨rfl, hm⟩
    · rw [txsOf_len] at ha
      rw [txsOf_at h a ha]
      exact wrote_no _ _ _ _ (fun q => by have := q.1; omega)
theorem clean3 {h : List Txn} (hr : Right h) : So.Clean (txsOf h) 3 := (So.clean_reads _).2 fun x hx _ y hy => by
  obtain ⟨n, hn, rfl⟩ := txsOf_mem hx
  rw [show (txOf n h[n]).ops = opsOf h[n] n from rfl, reads_ops hr n hn] at hy
  obtain ⟨z, hz, rfl⟩ := List.mem_map.1 hy
  rw [from_ops hr n hn z hz]
/-- A history's events make that history. -/
theorem hist_ops {h : List Txn} (hr : Right h) : histR (txsOf h) = (h, 0, 0) := by
  rw [So.hist_ok _ (by rw [txsOf_len]; exact hr.1) (fun p hp => by
    obtain rfl | rfl | rfl | rfl : p = 0 ∨ p = 1 ∨ p = 2 ∨ p = 3 := by omega
    · exact clean0 hr
    · exact clean1 hr
    · exact clean2 hr
    · exact clean3 hr)]
  congr 1
  unfold txns
  rw [all_done]
  refine List.ext_getElem (by rw [List.length_map, txsOf_len]) fun n h1 h2 => ?_
  rw [List.getElem_map, txsOf_at h n h2]
  unfold txnOf
  rw [show (txOf n h[n]).ops = opsOf h[n] n from rfl, reads_ops hr n h2, writes_ops hr n h2, List.map_map, List.map_map]
  have e1 : h[n].writes.map ((fun x : Int × Int => x.1) ∘ fun k => (k, (n : Int) + 1)) = h[n].writes := by
    rw [show ((fun x : Int × Int => x.1) ∘ fun k => (k, (n : Int) + 1)) = id from rfl, List.map_id]
  have e2 : h[n].reads.map ((fun y => (y.1, (fromR (txsOf h) y).1)) ∘ fun y => (y.1, y.2 + 1)) = h[n].reads := by
    conv => rhs; rw [← List.map_id h[n].reads]
    exact List.map_congr_left fun y hy => by
      show (y.1, (fromR (txsOf h) (y.1, y.2 + 1)).1) = y
      rw [from_ops hr n h2 y hy]
  rw [e1, e2]
  rfl
/-- Grouped, a history's events are its transactions, but for First. -/
theorem group_ops {h : List Txn} (hr : Right h) : ∃ m : List Gr.Tx, Gr.groupR (events h) = (m, 0, 0) ∧ m.map Gr.core = (txsOf h).map Gr.core := by
  obtain ⟨h1, b, h2, h3⟩ := Gr.txs_run (txsOf h) (fun x hx => by
    obtain ⟨n, hn, rfl⟩ := txsOf_mem hx
    exact ⟨(hr.2 n hn).session, op_right hr n hn⟩) [] (fun x hx => by cases hx) (by rw [txsOf_len]; simpa using hr.1) 0
  refine ⟨b, ?_, h3⟩
  rw [events, Gr.group_ok _ h1, h2, List.nil_append, List.map_map]
  rw [show ((fun x : Gr.Tx × Bool => x.1) ∘ fun t => (t, false)) = id from rfl, List.map_id]
theorem hist_back {h : List Txn} (hr : Right h) : ∃ m : List Gr.Tx, Gr.groupR (events h) = (m, 0, 0) ∧ histR m = (h, 0, 0) := by
  obtain ⟨m, h1, h2⟩ := group_ops hr
  exact ⟨m, h1, by rw [hist_core m _ h2]; exact hist_ops hr⟩
theorem events_right {h : List Txn} (hr : Right h) : ∀ e ∈ events h, Ev.right e = true := by
  intro e he
  obtain ⟨x, hx, hex⟩ := List.mem_flatMap.1 he
  obtain ⟨n, hn, rfl⟩ := txsOf_mem hx
  have hs := (hr.2 n hn).session
  rcases List.mem_cons.1 hex with rfl | hex
  · exact Gr.right_plain 0 _ (.inl rfl) hs
  · rcases List.mem_append.1 hex with hex | hex
    · exact (op_right hr n hn e hex).1
    · rw [List.mem_singleton.1 hex]
      exact Gr.right_plain 3 _ (.inr (.inl rfl)) hs
end Go.Proofs.YtfjamdpgbbnmcaaGreatDoor.Hi
