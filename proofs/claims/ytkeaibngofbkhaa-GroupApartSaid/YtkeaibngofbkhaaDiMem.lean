/-
  Words for rows of events in memory: a slice that reads as a list of events, and how that lasts; such a slice among the arguments.
  Conditions: none beyond those that each theorem states.
-/
import Derived.Test.YtkeaibngofbkhaaEvFrame
import Derived.Test.YtkeaibngofbkhaaEvWalkB
import Derived.Deep.Slices
import Derived.Deep.Fields
import Derived.ChangeSame
namespace Go.Proofs.Ytkeaibngofbkhaa
open Go.ChangeShapes Go.WideShapes Go.ChangeAt Go.RowKit Go.Joins Go.Deep

def evCells (e : Ev.Event) : List Value := [.int .i64 e.kind, .int .i64 e.session, .int .i64 e.key, .int .i64 e.value]
theorem evCells_len (l : List Ev.Event) : (l.flatMap evCells).length = l.length * 4 := by
  induction l with
  | nil => rfl
  | cons e l ih => rw [List.flatMap_cons, List.length_append, ih, List.length_cons, show (evCells e).length = 4 from rfl]; omega
theorem evCells_at (l : List Ev.Event) (k : Nat) (hk : k < l.length) (j : Nat) (hj : j < 4) : (l.flatMap evCells)[k * 4 + j]? = (evCells l[k])[j]? := by
  induction l generalizing k with
  | nil => simp at hk
  | cons e l ih =>
    have h4 : (evCells e).length = 4 := rfl
    rw [List.flatMap_cons]
    cases k with
    | zero => rw [List.getElem?_append_left (by omega)]; simp
    | succ k =>
      rw [List.getElem?_append_right (by omega), show (k + 1) * 4 + j - (evCells e).length = k * 4 + j by omega]
      exact ih k (by simpa using hk)
theorem evCells_snoc (d : List Ev.Event) (x : Ev.Event) : (d ++ [x]).flatMap evCells = d.flatMap evCells ++ evCells x := by simp [List.flatMap_append]

/-- The slice value v reads as the events l. -/
def Evs (w : World) (v : Value) (l : List Ev.Event) : Prop := Sl w 4 v l.length (l.flatMap evCells)
theorem Evs.below {w w' : World} {v : Value} {l : List Ev.Event} (h : Evs w v l) (hb : Below w.heap.size w w') : Evs w' v l := Sl.below h hb
theorem Evs.nil (w : World) (A : Option Addr) : Evs w (.slice A 0 0) [] := Sl.nil w 4 A
theorem Evs.own {w : World} {base : Nat} {e : TypeId} {v : Value} {l : List Ev.Event} (h : w.ownsRow base e 4 v l.length (l.flatMap evCells)) : Evs w v l := Sl.own h
theorem Evs.own_snoc {w : World} {base : Nat} {e : TypeId} {v : Value} {d : List Ev.Event} {x : Ev.Event} (h : w.ownsRow base e 4 v (d.length + 1) (d.flatMap evCells ++ evCells x)) : w.ownsRow base e 4 v (d ++ [x]).length ((d ++ [x]).flatMap evCells) := by
  rw [List.length_append, evCells_snoc]
  exact h
/-- The slice's head, and the four cells of each event. -/
theorem Evs.form {w : World} {v : Value} {l : List Ev.Event} (h : Evs w v l) :
    ∃ A c, v = .slice A l.length c ∧ ∀ (k : Nat) (hk : k < l.length), ∃ ad : Addr, A = some ad ∧ ad.block < w.heap.size ∧
      w.cell? (ad.add (k * 4)) = some (.int .i64 l[k].kind) ∧ w.cell? (ad.add (k * 4 + 1)) = some (.int .i64 l[k].session) ∧ w.cell? (ad.add (k * 4 + 2)) = some (.int .i64 l[k].key) ∧ w.cell? (ad.add (k * 4 + 3)) = some (.int .i64 l[k].value) := by
  obtain ⟨A, c, hv, hh⟩ := Sl.form h
  refine ⟨A, c, hv, fun k hk => ?_⟩
  obtain ⟨ad, e, hb, hc⟩ := hh (by omega)
  exact ⟨ad, e, hb, hc (k * 4) _ (evCells_at l k hk 0 (by omega)), hc _ _ (evCells_at l k hk 1 (by omega)), hc _ _ (evCells_at l k hk 2 (by omega)), hc _ _ (evCells_at l k hk 3 (by omega))⟩
theorem add_next (ad : Addr) (m j : Nat) (hj : 0 < j) : (⟨(ad.add m).block, (ad.add m).off + j, none⟩ : Addr) = ad.add (m + j) := by
  unfold Addr.add
  by_cases hm : m = 0
  · subst hm
    simp [show ¬ j = 0 by omega]
  · simp [hm]
    omega
/-- Element k of a slice is the event x, as the walk spells its cells' places. -/
structure EvIn (w : World) (ad : Addr) (k : Nat) (x : Ev.Event) : Prop where
  c0 : w.cell? (ad.add (k * 4)) = some (.int .i64 x.kind)
  c1 : w.cell? ⟨(ad.add (k * 4)).block, (ad.add (k * 4)).off + 1, none⟩ = some (.int .i64 x.session)
  c2 : w.cell? ⟨(ad.add (k * 4)).block, (ad.add (k * 4)).off + 2, none⟩ = some (.int .i64 x.key)
  c3 : w.cell? ⟨(ad.add (k * 4)).block, (ad.add (k * 4)).off + 3, none⟩ = some (.int .i64 x.value)
theorem EvIn.below {w w' : World} {ad : Addr} {k : Nat} {x : Ev.Event} (h : EvIn w ad k x) (hlt : ad.block < w.heap.size) (hb : Below w.heap.size w w') : EvIn w' ad k x := by
  have e : ad.block = (ad.add (k * 4)).block := (add_block ad _).symm
  refine ⟨(hb.cell ?_).trans h.c0, (hb.cell ?_).trans h.c1, (hb.cell ?_).trans h.c2, (hb.cell ?_).trans h.c3⟩
  all_goals exact e ▸ hlt
theorem Evs.spelled {w : World} {v : Value} {l : List Ev.Event} (h : Evs w v l) :
    ∃ A c, v = .slice A l.length c ∧ ∀ (k : Nat) (hk : k < l.length), ∃ ad : Addr, A = some ad ∧ ad.block < w.heap.size ∧ EvIn w ad k l[k] := by
  obtain ⟨A, c, hv, hh⟩ := h.form
  refine ⟨A, c, hv, fun k hk => ?_⟩
  obtain ⟨ad, e, hb, h0, h1, h2, h3⟩ := hh k hk
  refine ⟨ad, e, hb, h0, ?_, ?_, ?_⟩
  · rw [add_next ad _ 1 (by omega)]; exact h1
  · rw [add_next ad _ 2 (by omega)]; exact h2
  · rw [add_next ad _ 3 (by omega)]; exact h3
theorem Evs.none_ {w : World} {v : Value} {l : List Ev.Event} (h : Evs w v l) (hl : l = []) : ∃ A c, v = .slice A 0 c := by
  subst hl
  obtain ⟨A, c, hv, _⟩ := h.form
  exact ⟨A, c, hv⟩
/-- Events as cells of a call's own block. -/
theorem one_evs (x : Ev.Event) : ∀ u ∈ evCells x, u.oneCell' = true := by
  intro u hu
  simp only [evCells, List.mem_cons, List.not_mem_nil, or_false] at hu
  rcases hu with rfl | rfl | rfl | rfl
  all_goals rfl
theorem all_evs (l : List Ev.Event) : ∀ u ∈ l.flatMap evCells, u.oneCell' = true := by
  intro u hu
  obtain ⟨x, _, h⟩ := List.mem_flatMap.1 hu
  exact one_evs x u h

theorem ev_info : (Try.prog.info? 44).map (fun i => (i.zero, i.size, i.bytes)) = some (some (evV Ev.zero), 4, 32) := by kernel_rfl
/-- The four cells of a new block. -/
theorem new_ev (w : World) (x : Ev.Event) (e : TypeId) : ∀ j u, (evCells x)[j]? = some u → (w.alloc (.cells #[.int .i64 x.kind, .int .i64 x.session, .int .i64 x.key, .int .i64 x.value] e)).cell? ((⟨w.heap.size, 0, none⟩ : Addr).add j) = some u := by
  intro j u hj
  have e1 : (⟨w.heap.size, 0, none⟩ : Addr).add j = ⟨w.heap.size, j, none⟩ := by
    unfold Addr.add
    split
    · rename_i h; rw [h]
    · simp
  rw [e1]
  exact new_cell w _ _ j u (by rw [← hj, evCells, ← List.getElem?_toArray])

theorem new_ev2 (w : World) (o : Obj) (x : Ev.Event) (e : TypeId) : ∀ j u, (evCells x)[j]? = some u → ((w.alloc o).alloc (.cells #[.int .i64 x.kind, .int .i64 x.session, .int .i64 x.key, .int .i64 x.value] e)).cell? ((⟨w.heap.size + 1, 0, none⟩ : Addr).add j) = some u := by
  rw [← size_new w o]
  exact new_ev (w.alloc o) x e

/-- A literal of events. -/
theorem lit_evs (w : World) (e : TypeId) (l : List Ev.Event) (hl : l.length ≤ maxLen) : Evs (w.alloc (.cells (l.flatMap evCells).toArray e)) (.slice (some ⟨w.heap.size, 0, none⟩) l.length l.length) l := by
  have h := World.ownsRow_lit (base := 0) (e := e) (size := 4) w (l.flatMap evCells).toArray l.length (Nat.zero_le _) hl (by rw [List.size_toArray, evCells_len])
  exact Evs.own h

/-- Events, a place and an error: what a call hands back lies in memory of its own; what was there stays. -/
def RetEvs (w : World) (r : List Ev.Event × Int × Int) (e : Ending) (w' : World) : Prop := ∃ v, e = .returned (.tuple #[v, .int .i64 r.2.1, .int .i64 r.2.2]) ∧ Evs w' v r.1 ∧ Below w.heap.size w w'
theorem RetEvs.mk {w w' : World} {r : List Ev.Event × Int × Int} (v : Value) (n q : Int) (hn : r.2.1 = n) (hq : r.2.2 = q) (hs : Evs w' v r.1) (hb : Below w.heap.size w w') : RetEvs w r (.returned (.tuple #[v, .int .i64 n, .int .i64 q])) w' :=
  ⟨v, by rw [hn, hq], hs, hb⟩

/-- An event's session is a number of its kind (a key of a map may be nothing else). -/
def evWf (e : Ev.Event) : Prop := (Lit.int .i64 e.session).wf = true

section
variable {H : Type} {enc : TypeId × Value → H} {w : World} {base : Nat} {r : Reach} {b0 : Nat}
/-- Four cells that read as an event are an event's. -/
theorem cells_ev {spare : Nat → Bool} {held : Bool} {fuel : Nat} {cs : List Value} {x : DataW H × List MemPlace} (h : DataW.trod enc Try.prog w base spare held fuel 44 cs = some x) : ∃ e : Ev.Event, cs = evCells e ∧ evWf e := by
  obtain ⟨xs, n, _, _, hlen, hl, hg⟩ := DataW.trod_struct Try.underlying44 h
  have h4 : cs.length = 4 := hlen.trans (by kernel_rfl)
  match cs, h4 with
  | [c0, c1, c2, c3], _ =>
    have ci : Try.prog.cellsOf 3 = 1 := by kernel_rfl
    have g0 : DataW.trod enc Try.prog w base spare held n 3 (([c0, c1, c2, c3].drop 0).take (Try.prog.cellsOf 3)) = xs[0]? := hg 0 _ rfl
    have g1 : DataW.trod enc Try.prog w base spare held n 3 (([c0, c1, c2, c3].drop 1).take (Try.prog.cellsOf 3)) = xs[1]? := hg 1 _ rfl
    have g2 : DataW.trod enc Try.prog w base spare held n 3 (([c0, c1, c2, c3].drop 2).take (Try.prog.cellsOf 3)) = xs[2]? := hg 2 _ rfl
    have g3 : DataW.trod enc Try.prog w base spare held n 3 (([c0, c1, c2, c3].drop 3).take (Try.prog.cellsOf 3)) = xs[3]? := hg 3 _ rfl
    simp only [ci, List.drop_zero, List.drop_succ_cons, List.take_succ_cons, List.take_zero] at g0 g1 g2 g3
    have hx : xs.length = 4 := hl
    rw [List.getElem?_eq_getElem (by omega)] at g0 g1 g2 g3
    obtain ⟨z0, e0, _⟩ := DataW.trod_int Try.underlying3 g0
    obtain ⟨z1, e1, _, f1⟩ := DataW.trod_int Try.underlying3 g1
    obtain ⟨z2, e2, _⟩ := DataW.trod_int Try.underlying3 g2
    obtain ⟨z3, e3, _⟩ := DataW.trod_int Try.underlying3 g3
    cases e0
    cases e1
    cases e2
    cases e3
    exact ⟨⟨z0, z1, z2, z3⟩, rfl, f1⟩

/-- A cell that reads as a slice of events. -/
theorem cells_evs {t : TypeId} {fuel : Nat} {cs : List Value} {x : DataW H × List MemPlace} (ht : Try.prog.underlying t = some (.slice 44)) (hf : DataW.trod enc Try.prog w base (fun _ => true) true fuel t cs = some x) :
    ∃ (A : Option Addr) (n c : Nat), cs = [.slice A n c] ∧ ∃ l : List Ev.Event, Evs w (.slice A n c) l ∧ l.length ≤ maxLen ∧ ∀ e ∈ l, evWf e := by
  have ce : Try.prog.cellsOf 44 = 4 := by kernel_rfl
  rcases open_slice ht hf with ⟨hcs, _⟩ | ⟨a, len, cap, m, n, D, Pl, hcs, _, hl, hm, hmm, _, hi⟩
  · exact ⟨none, 0, 0, hcs, [], Evs.nil _ _, by simp, by simp⟩
  · simp only [if_true] at hmm
    have hall : ∀ k, k < len → ∃ e : Ev.Event, (∀ j, j < 4 → w.cell? (a.add (k * 4 + j)) = (evCells e)[j]?) ∧ evWf e := fun k hk => by
      obtain ⟨cs', hc, ht'⟩ := hi k (by omega)
      rw [ce] at hc
      obtain ⟨e, rfl, hwf⟩ := cells_ev ht'
      obtain ⟨_, _, hat⟩ := World.cells?_some hc
      exact ⟨e, fun j hj => by rw [← Go.Deep.add_add]; exact hat j hj, hwf⟩
    have hinh : Inhabited Ev.Event := ⟨Ev.zero⟩
    obtain ⟨f, hfn⟩ := choose_lt hall
    have hlen : ((List.range len).map f).length = len := by simp
    refine ⟨some a, len, cap, hcs, (List.range len).map f, ?_, by rw [hlen]; omega, fun e he => ?_⟩
    rotate_left
    · obtain ⟨k, hk, rfl⟩ := List.mem_map.1 he
      exact (hfn k (List.mem_range.1 hk)).2
    rw [Evs, hlen]
    refine ⟨by rw [evCells_len, hlen], some a, cap, rfl, hl, fun h => (by cases h), fun hn => ⟨a, rfl, ?_, fun j u hu => ?_⟩⟩
    · have h0 := (hfn 0 hn).1 0 (by omega)
      rw [Nat.zero_mul, Nat.zero_add, add_zero'] at h0
      exact World.block_lt_of_cell? w a (u := .int .i64 (f 0).kind) h0
    · have hj : j < len * 4 := by
        have := (List.getElem?_eq_some_iff.1 hu).1
        rw [evCells_len, hlen] at this
        exact this
      have hk : j / 4 < len := by omega
      have e1 : j / 4 * 4 + j % 4 = j := by omega
      have h1 := evCells_at ((List.range len).map f) (j / 4) (by rw [hlen]; exact hk) (j % 4) (by omega)
      rw [e1, hu] at h1
      have h2 := (hfn (j / 4) hk).1 (j % 4) (by omega)
      rw [e1] at h2
      rw [h2, h1]
      simp
/-- A slice of events among the arguments. -/
theorem arg_evs {t : TypeId} {v : Value} {d : DataW H} {ps : List MemPlace} (ht : Try.prog.underlying t = some (.slice 44)) (hval : Value.okWide Try.prog w r b0 t v) (h : DataW.Trod enc Try.prog w base (fun _ => true) true t v d ps) :
    ∃ l : List Ev.Event, Evs w v l ∧ l.length ≤ maxLen ∧ ∀ e ∈ l, evWf e := by
  obtain ⟨a0, len0, cap0, rfl⟩ := okWide_slice ht hval
  obtain ⟨fuel, hf⟩ := h
  obtain ⟨A, n, c, hcs, l, h1, h2, h3⟩ := cells_evs ht hf
  simp [Value.cells] at hcs
  obtain ⟨rfl, rfl, rfl⟩ := hcs
  exact ⟨l, h1, h2, h3⟩
end
end Go.Proofs.Ytkeaibngofbkhaa
