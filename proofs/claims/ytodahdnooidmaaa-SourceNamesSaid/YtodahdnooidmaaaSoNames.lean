/-
  Plain facts: values are names alone (no Go in it): with all values but 0 others, that are told apart as they were, the history, or the error, is the same.
  Conditions: none beyond those that each theorem states.
-/
import Derived.Test.YtodahdnooidmaaaSoPlain
set_option maxRecDepth 4000
namespace Go.Proofs.Ytodahdnooidmaaa.So
open In (isK isK_iff lastOf lookR readsTo writesTo rd wr errAt wrong future)

def ren (g : Int → Int) (e : Ev.Event) : Ev.Event := ⟨e.kind, e.session, e.key, g e.value⟩
def renT (g : Int → Int) (t : Gr.Tx) : Gr.Tx := ⟨t.session, t.done, t.first, t.ops.map (ren g)⟩
def renY (g : Int → Int) (y : Int × Int) : Int × Int := (y.1, g y.2)
section
variable {g : Int → Int}
theorem isK_ren (kind key : Int) (e : Ev.Event) : isK kind key (ren g e) = isK kind key e := rfl
theorem lastOf_ren (kind key : Int) (l : List Ev.Event) : lastOf kind key (l.map (ren g)) = (lastOf kind key l).map g := by
  induction l with
  | nil => rfl
  | cons e r ih =>
    rw [List.map_cons, lastOf, ih, lastOf, isK_ren]
    cases lastOf kind key r with
    | some u => rfl
    | none =>
      by_cases h : isK kind key e = true
      · simp [h, ren]
      · simp [h]
theorem isW_ren (hinj : ∀ u v, g u = g v → u = v) (key v : Int) (e : Ev.Event) : isW key (g v) (ren g e) = isW key v e := by
  rw [isW, isW, isK_ren]
  congr 1
  by_cases h : e.value = v
  · simp [ren, h]
  · exact (decide_eq_false (p := g e.value = g v) (fun h' => h (hinj _ _ h'))).trans (decide_eq_false h).symm
theorem wrote_ren (hinj : ∀ u v, g u = g v → u = v) (key v : Int) (l : List Ev.Event) : wrote key (g v) (l.map (ren g)) = wrote key v l := by
  induction l with
  | nil => rfl
  | cons e r ih =>
    rw [wrote] at ih ⊢
    rw [wrote] at ih ⊢
    rw [List.map_cons, List.any_cons, List.any_cons, isW_ren hinj, ih]
theorem future_ren (hinj : ∀ u v, g u = g v → u = v) (e : Ev.Event) (r : List Ev.Event) : future (ren g e) (r.map (ren g)) = future e r := wrote_ren hinj e.key e.value r
theorem wrong_ren (hinj : ∀ u v, g u = g v → u = v) (p r : List Ev.Event) (e : Ev.Event) (hr : Ev.right (ren g e) = Ev.right e) : wrong (p.map (ren g)) (ren g e) (r.map (ren g)) = wrong p e r := by
  unfold wrong
  rw [hr, future_ren hinj]
  have k1 : (ren g e).kind = e.kind := rfl
  have k2 : (ren g e).key = e.key := rfl
  have k3 : (ren g e).value = g e.value := rfl
  rw [k1, k2, k3, lastOf_ren, lastOf_ren]
  split
  · rfl
  · split
    · rfl
    · have key : ∀ v q : Int, (if g v = g e.value then (0 : Int) else q) = if v = e.value then 0 else q := fun v q => by
        by_cases h : v = e.value
        · rw [if_pos h, if_pos (by rw [h])]
        · rw [if_neg h, if_neg (fun h' => h (hinj _ _ h'))]
      cases lastOf 2 e.key p with
      | some v => exact key v 10
      | none =>
        cases lastOf 1 e.key p with
        | some v => exact key v 11
        | none => rfl
theorem errAt_ren (hinj : ∀ u v, g u = g v → u = v) (l : List Ev.Event) (hr : ∀ e ∈ l, Ev.right (ren g e) = Ev.right e) (j : Nat) : errAt (l.map (ren g)) j = errAt l j := by
  rcases Nat.lt_or_ge j l.length with hj | hj
  · rw [In.errAt_at l j hj, In.errAt_at (l.map (ren g)) j (by simpa using hj), List.getElem_map, ← List.map_take, ← List.map_drop]
    exact wrong_ren hinj _ _ _ (hr _ (List.getElem_mem hj))
  · rw [In.errAt_out l j hj, In.errAt_out _ j (by simpa using hj)]
theorem rd_ren (l : List Ev.Event) (k : Nat) : rd (l.map (ren g)) k = (rd l k).map (renY g) := by
  unfold rd
  rw [List.find?_map]
  have : ((fun e : Ev.Event => decide (e.key = (k : Int))) ∘ ren g) = fun e => decide (e.key = (k : Int)) := rfl
  rw [this]
  cases l.find? fun e => decide (e.key = (k : Int)) with
  | none => rfl
  | some e =>
    simp only [Option.map_some]
    have k1 : (ren g e).kind = e.kind := rfl
    rw [k1]
    by_cases h : e.kind = 1
    · rw [if_pos h, if_pos h]; rfl
    · rw [if_neg h, if_neg h]; rfl
theorem wr_ren (l : List Ev.Event) (k : Nat) : wr (l.map (ren g)) k = (wr l k).map (renY g) := by
  unfold wr
  rw [lastOf_ren]
  cases lastOf 2 (k : Int) l <;> rfl
theorem filterMap_ren (f h : Nat → Option (Int × Int)) (hf : ∀ k, f k = (h k).map (renY g)) (L : List Nat) : L.filterMap f = (L.filterMap h).map (renY g) := by
  induction L with
  | nil => rfl
  | cons k L ih =>
    rw [List.filterMap_cons, List.filterMap_cons, hf k, ih]
    cases h k <;> rfl
theorem readsTo_ren (l : List Ev.Event) (n : Nat) : readsTo (l.map (ren g)) n = (readsTo l n).map (renY g) := filterMap_ren _ _ (rd_ren l) _
theorem writesTo_ren (l : List Ev.Event) (n : Nat) : writesTo (l.map (ren g)) n = (writesTo l n).map (renY g) := filterMap_ren _ _ (wr_ren l) _
theorem look_ren (hinj : ∀ u v, g u = g v → u = v) (l : List Ev.Event) (hr : ∀ e ∈ l, Ev.right (ren g e) = Ev.right e) : (lookR (l.map (ren g))).2 = (lookR l).2 := by
  rcases In.look_cases l with h | ⟨j, hj, h1, h2⟩
  · have h' : In.good (l.map (ren g)) := fun j => by rw [errAt_ren hinj l hr]; exact h j
    rw [In.look_ok l h, In.look_ok _ h']
  · rw [In.look_bad l j h2 h1, In.look_bad (l.map (ren g)) j (fun i hi => by rw [errAt_ren hinj l hr]; exact h2 i hi) (by rw [errAt_ren hinj l hr]; exact h1), errAt_ren hinj l hr]
theorem fromGo_ren (hinj : ∀ u v, g u = g v → u = v) (key v : Int) (l : List Gr.Tx) : ∀ n, fromGo key (g v) n (l.map (renT g)) = fromGo key v n l := by
  induction l with
  | nil => exact fun _ => rfl
  | cons t r ih =>
    intro n
    rw [List.map_cons, fromGo, fromGo]
    have k1 : (renT g t).ops = t.ops.map (ren g) := rfl
    have k2 : (renT g t).done = t.done := rfl
    rw [k1, k2, wrote_ren hinj, lastOf_ren, ih]
    have : ((lastOf 2 key t.ops).map g ≠ some (g v)) ↔ (lastOf 2 key t.ops ≠ some v) := by
      cases lastOf 2 key t.ops with
      | none => simp
      | some u =>
        simp only [Option.map_some, ne_eq, Option.some.injEq]
        exact ⟨fun h h' => h (by rw [h']), fun h h' => h (hinj _ _ h')⟩
    simp only [this]
theorem zero_ren (hinj : ∀ u v, g u = g v → u = v) (h0 : g 0 = 0) (v : Int) : g v = 0 ↔ v = 0 := ⟨fun h => hinj _ _ (h.trans h0.symm), fun h => by rw [h]; exact h0⟩
theorem opBad_ren (hinj : ∀ u v, g u = g v → u = v) (h0 : g 0 = 0) (a : List Ev.Event) (e : Ev.Event) : opBad (a.map (ren g)) (ren g e) = opBad a e := by
  unfold opBad
  have k1 : (ren g e).kind = e.kind := rfl
  have k2 : (ren g e).key = e.key := rfl
  have k3 : (ren g e).value = g e.value := rfl
  rw [k1, k2, k3, wrote_ren hinj]
  simp only [zero_ren hinj h0]
theorem unlike_ren (hinj : ∀ u v, g u = g v → u = v) (h0 : g 0 = 0) (a b : List Ev.Event) : unlikeR (a.map (ren g)) (b.map (ren g)) = unlikeR a b := by
  induction b generalizing a with
  | nil => rfl
  | cons e b ih =>
    have := ih (a ++ [e])
    rw [List.map_append] at this
    rw [List.map_cons, unlikeR, unlikeR, opBad_ren hinj h0]
    rw [List.map_cons, List.map_nil] at this
    rw [this]
theorem fromR_ren (hinj : ∀ u v, g u = g v → u = v) (h0 : g 0 = 0) (l : List Gr.Tx) (y : Int × Int) : fromR (l.map (renT g)) (renY g y) = fromR l y := by
  unfold fromR
  have k1 : (renY g y).1 = y.1 := rfl
  have k2 : (renY g y).2 = g y.2 := rfl
  rw [k1, k2]
  simp only [zero_ren hinj h0, fromGo_ren hinj]
theorem readsErr_ren (hinj : ∀ u v, g u = g v → u = v) (h0 : g 0 = 0) (l : List Gr.Tx) (ys : List (Int × Int)) : readsErr (l.map (renT g)) (ys.map (renY g)) = readsErr l ys := by
  induction ys with
  | nil => rfl
  | cons y r ih => rw [List.map_cons, readsErr, readsErr, fromR_ren hinj h0, ih]
theorem txnOf_ren (hinj : ∀ u v, g u = g v → u = v) (h0 : g 0 = 0) (l : List Gr.Tx) (t : Gr.Tx) : txnOf (l.map (renT g)) (renT g t) = txnOf l t := by
  unfold txnOf
  have k1 : (renT g t).ops = t.ops.map (ren g) := rfl
  have k2 : (renT g t).session = t.session := rfl
  rw [k1, k2, writesTo_ren, readsTo_ren, List.map_map, List.map_map]
  congr 1
  exact List.map_congr_left fun y _ => by
    show ((renY g y).1, (fromR (l.map (renT g)) (renY g y)).1) = _
    rw [fromR_ren hinj h0]
    rfl
theorem txns_ren (hinj : ∀ u v, g u = g v → u = v) (h0 : g 0 = 0) (l : List Gr.Tx) : txns (l.map (renT g)) = txns l := by
  unfold txns
  rw [List.filter_map, List.map_map]
  have : ((fun t : Gr.Tx => t.done) ∘ renT g) = fun t => t.done := rfl
  rw [this]
  exact List.map_congr_left fun t _ => txnOf_ren hinj h0 l t
theorem phase_ren (hinj : ∀ u v, g u = g v → u = v) (h0 : g 0 = 0) (l : List Gr.Tx) (hr : ∀ t ∈ l, ∀ e ∈ t.ops, Ev.right (ren g e) = Ev.right e) (p i : Nat) (hp : 0 < p) : phase (l.map (renT g)) p i = phase l p i := by
  rcases Nat.lt_or_ge i l.length with hi | hi
  · rw [phase_at l p i hi, phase_at (l.map (renT g)) p i (by simpa using hi), List.getElem_map]
    unfold phaseT
    have e0 : ∀ a b : Int, (if p = 0 then a else b) = b := fun _ _ => if_neg (by omega)
    rw [e0, e0]
    have k1 : (renT g l[i]).ops = l[i].ops.map (ren g) := rfl
    have k2 : (renT g l[i]).done = l[i].done := rfl
    rw [k1, k2]
    have f1 : ((l.map (renT g)).take i).flatMap (·.ops) = ((l.take i).flatMap (·.ops)).map (ren g) := by
      rw [← List.map_take, List.flatMap_map, List.map_flatMap]
      rfl
    rw [f1, unlike_ren hinj h0, look_ren hinj _ (hr _ (List.getElem_mem hi)), readsTo_ren, readsErr_ren hinj h0]
  · rw [phase_out l p i hi, phase_out _ p i (by simpa using hi)]
/-- P7.3: values are names alone, where both are no ErrArg. -/
theorem hist_ren (hinj : ∀ u v, g u = g v → u = v) (h0 : g 0 = 0) (l : List Gr.Tx) (ha : (histR l).2.2 ≠ 1) (hb : (histR (l.map (renT g))).2.2 ≠ 1) : histR (l.map (renT g)) = histR l := by
  rcases Nat.lt_or_ge 32 l.length with hl | hl
  · rw [hist_many l hl, hist_many _ (by simpa using hl)]
  have hl' : (l.map (renT g)).length ≤ 32 := by simpa using hl
  have zero : ∀ m : List Gr.Tx, m.length ≤ 32 → (histR m).2.2 ≠ 1 → Clean m 0 := fun m hm hq => by
    rcases nz_cases (phase m 0) m.length with h | ⟨i, h1, h2, h3⟩
    · exact h
    · rw [hist_bad m hm 0 i (by omega) h1 (fun q hq => absurd hq (by omega)) h3 h2] at hq
      refine absurd ?_ hq
      show phase m 0 i = 1
      rw [phase_at m 0 i h1] at h2 ⊢
      simp only [phaseT, if_true] at h2 ⊢
      split
      · rename_i h4
        rw [if_pos h4] at h2
        exact absurd rfl h2
      · rfl
  have c := zero l hl ha
  have c' := zero _ hl' hb
  have hr : ∀ t ∈ l, ∀ e ∈ t.ops, Ev.right (ren g e) = Ev.right e := fun t ht e he => by
    have h1 := (clean_may l).1 c t ht
    have h2 := (clean_may _).1 c' (renT g t) (List.mem_map.2 ⟨t, ht, rfl⟩)
    rw [mayT, Bool.and_eq_true, List.all_eq_true] at h1 h2
    have h3 := h1.1 e he
    have h4 := h2.1 (ren g e) (List.mem_map.2 ⟨e, he, rfl⟩)
    rw [Bool.and_eq_true] at h3 h4
    rw [h3.1, h4.1]
  have hp := fun p i hp => phase_ren hinj h0 l hr p i hp
  have cl : ∀ p, Clean l p → Clean (l.map (renT g)) p := fun p h i hi => by
    by_cases hp0 : p = 0
    · rw [hp0]; exact c' i hi
    · rw [hp p i (by omega)]; exact h i (by simpa using hi)
  rcases hist_cases l with h | ⟨_, h | ⟨p, i, h1, h2, h3, h4, h5⟩⟩
  · omega
  · rw [hist_ok l hl h, hist_ok _ hl' (fun p hp4 => cl p (h p hp4)), txns_ren hinj h0]
  · have hp0 : 0 < p := Nat.pos_of_ne_zero fun e => by rw [e] at h5; exact h5 (c i h2)
    rw [hist_bad l hl p i h1 h2 h3 h4 h5, hist_bad _ hl' p i h1 (by simpa using h2) (fun q hq => cl q (h3 q hq)) (fun j hj => by rw [hp p j hp0]; exact h4 j hj) (by rw [hp p i hp0]; exact h5), hp p i hp0]
end
/-- The names that the statement gives. -/
def shift (d : Int) (v : Int) : Int := if 0 < v then v + d else v
theorem shift_inj (d : Int) (hd : 0 ≤ d) (u v : Int) (h : shift d u = shift d v) : u = v := by
  unfold shift at h
  split at h <;> split at h <;> omega
theorem shift_zero (d : Int) : shift d 0 = 0 := rfl
end Go.Proofs.Ytodahdnooidmaaa.So
