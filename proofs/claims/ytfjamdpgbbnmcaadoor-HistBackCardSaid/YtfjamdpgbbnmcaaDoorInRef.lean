/-
  Several texts in one, each with its own first words: InLawA, InRefP, InRefA, InRefB.
  Conditions: as each says.
-/
import Derived.Test.YtfjamdpgbbnmcaaDoorInAll
import Derived.Test.YtfjamdpgbbnmcaaDoorEvAll
import Derived.Deep.RegionHeld3
import Derived.Deep.LoopGhost
import Derived.Deep.DeepCutAuto
/-
  What the laws' and the reference's small functions of layer 6 answer: items (a row of items as the reference has it), plain (a face so), Items and Same (of two that are the same they say true); what was in memory stays as it was.
  Conditions: a row has at most 2^32 elements.
  (This program has not all of these functions: rit_info, OwnIts, OwnIts.its, OwnIts.below, OwnIts.less, OwnIts.set, OwnIts.form, RetIts, items_at, RetPlain, plain6_at, rItems_at, rSame6_at are left out here.)
-/
set_option maxRecDepth 4000
namespace Go.Proofs.YtfjamdpgbbnmcaaDoor
open Go.RowKit

theorem ItIn.on {w w' : World} {ad : Addr} {k : Nat} {y : Int × Int} (h : ItIn w ad k y) (hlt : ad.block < w.heap.size) (hb : Below w.heap.size w w') : w'.cell? (ad.add (k * 2)) = some (.int .i64 y.1) ∧ w'.cell? ⟨(ad.add (k * 2)).block, (ad.add (k * 2)).off + 1, none⟩ = some (.int .i64 y.2) := by
  have h2 := h.below hlt hb
  exact ⟨h2.c0, h2.c1⟩
theorem own_its {w : World} {base : Nat} {e : TypeId} {v : Value} (p : List (Int × Int)) (k : Nat) (hk : k < p.length) (h : w.ownsRow base e 2 v (k + 1) ((p.take k).flatMap itC ++ itC p[k])) : w.ownsRow base e 2 v (k + 1) ((p.take (k + 1)).flatMap itC) := by
  rw [List.take_succ_eq_append_getElem hk, flat_snoc]
  exact h
theorem set_far {w : World} {a p : Addr} {v : Value} (h : a.block ≠ p.block) : (w.setCell p v).cell? a = w.cell? a := World.cell?_of_block (Below.heap_setCell w p v a.block h)

end Go.Proofs.YtfjamdpgbbnmcaaDoor
/-
  Plain facts for the reference's walks of layer 6 (no Go in it): the place of the last op of a kind and a key ahead of a place, and of the first op of a key.
  Conditions: none beyond those that each theorem states.
-/
set_option maxRecDepth 4000
namespace Go.Proofs.YtfjamdpgbbnmcaaDoor.In
open Ev (right hasKey)

/-- The place of the last op of a kind and a key ahead of place i; -1: there is none. -/
def lastAt (kind key : Int) (l : List Ev.Event) : Nat → Int
  | 0 => -1
  | i + 1 => match l[i]? with
    | some e => if isK kind key e = true then (i : Int) else lastAt kind key l i
    | none => lastAt kind key l i
theorem lastAt_hit (kind key : Int) (l : List Ev.Event) (i : Nat) (hi : i < l.length) (h : isK kind key l[i] = true) : lastAt kind key l (i + 1) = (i : Int) := by
  rw [lastAt, List.getElem?_eq_getElem hi]
  simp only [h, if_true]
theorem lastAt_miss (kind key : Int) (l : List Ev.Event) (i : Nat) (hi : i < l.length) (h : isK kind key l[i] = false) : lastAt kind key l (i + 1) = lastAt kind key l i := by
  rw [lastAt, List.getElem?_eq_getElem hi]
  simp only [h, Bool.false_eq_true, if_false]
/-- By the value of that op. -/
theorem lastAt_cases (kind key : Int) (l : List Ev.Event) (i : Nat) (hi : i ≤ l.length) : (lastOf kind key (l.take i) = none ∧ lastAt kind key l i = -1) ∨ ∃ n, ∃ hn : n < l.length, lastOf kind key (l.take i) = some l[n].value ∧ lastAt kind key l i = (n : Int) := by
  induction i with
  | zero => exact .inl ⟨rfl, rfl⟩
  | succ i ih =>
    have hi' : i < l.length := by omega
    rw [take_cons_at l i hi', lastOf_snoc]
    cases h : isK kind key l[i] with
    | true =>
      rw [lastAt_hit _ _ _ _ hi' h, if_pos rfl]
      exact .inr ⟨i, hi', rfl, rfl⟩
    | false =>
      rw [lastAt_miss _ _ _ _ hi' h, if_neg (by simp)]
      exact ih (by omega)
/-- The place of the first op of a key from place i on; -1: there is none. -/
def firstAt (key : Int) (l : List Ev.Event) (i : Nat) : Int :=
  match (l.drop i).findIdx? fun e => decide (e.key = key) with
  | some j => ((i + j : Nat) : Int)
  | none => -1
theorem firstAt_hit (key : Int) (l : List Ev.Event) (i : Nat) (hi : i < l.length) (h : l[i].key = key) : firstAt key l i = (i : Int) := by
  rw [firstAt, List.drop_eq_getElem_cons hi, List.findIdx?_cons]
  simp [h]
theorem firstAt_miss (key : Int) (l : List Ev.Event) (i : Nat) (hi : i < l.length) (h : l[i].key ≠ key) : firstAt key l i = firstAt key l (i + 1) := by
  rw [firstAt, firstAt, List.drop_eq_getElem_cons hi, List.findIdx?_cons]
  simp only [h, decide_false, Bool.false_eq_true, if_false]
  cases (l.drop (i + 1)).findIdx? fun e => decide (e.key = key) with
  | none => rfl
  | some j =>
    simp only [Option.map_some]
    omega
theorem firstAt_end (key : Int) (l : List Ev.Event) : firstAt key l l.length = -1 := by
  rw [firstAt, List.drop_length]
  rfl
/-- By the first op of the key. -/
theorem firstAt_cases (l : List Ev.Event) (k : Nat) : (firstAt (k : Int) l 0 = -1 ∧ rd l k = none) ∨ ∃ n, ∃ hn : n < l.length, firstAt (k : Int) l 0 = (n : Int) ∧ rd l k = if l[n].kind = 1 then some ((k : Int), l[n].value) else none := by
  rw [firstAt, List.drop_zero]
  cases h : l.findIdx? fun e => decide (e.key = (k : Int)) with
  | none =>
    refine .inl ⟨rfl, ?_⟩
    have : (l.find? fun e => decide (e.key = (k : Int))) = none := by
      rw [List.find?_eq_none]
      rw [List.findIdx?_eq_none_iff] at h
      intro e he
      simpa using h e he
    rw [rd, this]
  | some j =>
    obtain ⟨hj, h1, h2⟩ := List.findIdx?_eq_some_iff_getElem.1 h
    refine .inr ⟨j, hj, by simp, ?_⟩
    have : (l.find? fun e => decide (e.key = (k : Int))) = some l[j] := by
      rw [List.find?_eq_some_iff_getElem]
      exact ⟨h1, j, hj, rfl, fun i hi => by simpa using h2 i hi⟩
    rw [rd, this]

/-- What the reference's 'wrong' comes to, case by case. -/
theorem errAt_arg (l : List Ev.Event) (i : Nat) (hi : i < l.length) (h : (right l[i] && hasKey l[i].kind) = false) : errAt l i = 1 := by
  rw [errAt_at l i hi, wrong, if_pos]
  rw [Bool.and_eq_false_iff] at h
  exact h
theorem errAt_read (l : List Ev.Event) (i : Nat) (hi : i < l.length) (h : (right l[i] && hasKey l[i].kind) = true) (h2 : l[i].kind ≠ 2) :
    (∃ n, ∃ hn : n < l.length, lastAt 2 l[i].key l i = (n : Int) ∧ errAt l i = if l[n].value = l[i].value then 0 else 10) ∨
    (lastAt 2 l[i].key l i = -1 ∧ ∃ n, ∃ hn : n < l.length, lastAt 1 l[i].key l i = (n : Int) ∧ errAt l i = if l[n].value = l[i].value then 0 else 11) ∨
    (lastAt 2 l[i].key l i = -1 ∧ lastAt 1 l[i].key l i = -1 ∧ errAt l i = if future l[i] (l.drop (i + 1)) = true then 9 else 0) := by
  rw [Bool.and_eq_true] at h
  have h1 : l[i].kind = 1 := ((Ev.hasKey_iff _).1 h.2).resolve_right h2
  have hw := wrong_read (l.take i) (l.drop (i + 1)) l[i] h.1 h1
  rw [← errAt_at l i hi] at hw
  rcases lastAt_cases 2 l[i].key l i (by omega) with ⟨a1, a2⟩ | ⟨n, hn, a1, a2⟩
  · rcases lastAt_cases 1 l[i].key l i (by omega) with ⟨b1, b2⟩ | ⟨n, hn, b1, b2⟩
    · rw [a1, b1] at hw
      exact .inr (.inr ⟨a2, b2, hw⟩)
    · rw [a1, b1] at hw
      exact .inr (.inl ⟨a2, n, hn, b2, hw⟩)
  · rw [a1] at hw
    exact .inl ⟨n, hn, a2, hw⟩
/-- A later write, place by place. -/
theorem future_at (e : Ev.Event) (l : List Ev.Event) (k : Nat) (hk : k < l.length) : future e (l.drop k) = ((isK 2 e.key l[k] && decide (l[k].value = e.value)) || future e (l.drop (k + 1))) := by
  rw [future, List.drop_eq_getElem_cons hk, List.any_cons]
  rfl
theorem future_end (e : Ev.Event) (l : List Ev.Event) (k : Nat) (hk : l.length ≤ k) : future e (l.drop k) = false := by
  rw [List.drop_eq_nil_of_le hk]
  rfl
end Go.Proofs.YtfjamdpgbbnmcaaDoor.In
/-
  What the reference's ahead and wrong of layer 6 answer: In.lastAt, In.errAt; what was in memory stays as it was.
  Conditions: a row has at most 2^32 elements.
  (This program has not all of these functions: rAhead_at, rWrong_at are left out here.)
-/
set_option maxRecDepth 4000
namespace Go.Proofs.YtfjamdpgbbnmcaaDoor
open Go.RowKit

theorem isK_parts (kind key : Int) (x : Ev.Event) : (x.kind == kind) = false ∧ Hid (In.isK kind key x = false) ∨ (x.kind == kind) = true ∧ ((x.key == key) = false ∧ Hid (In.isK kind key x = false) ∨ (x.key == key) = true ∧ Hid (In.isK kind key x = true)) := by
  unfold Hid In.isK
  by_cases h1 : x.kind = kind
  · by_cases h2 : x.key = key
    · exact .inr ⟨beq_iff_eq.2 h1, .inr ⟨beq_iff_eq.2 h2, by simp [h1, h2]⟩⟩
    · exact .inr ⟨beq_iff_eq.2 h1, .inl ⟨beq_eq_false_iff_ne.2 h2, by simp [h2]⟩⟩
  · exact .inl ⟨beq_eq_false_iff_ne.2 h1, by simp [h1]⟩
/-- A number, in whatever memory was made. -/
def RetNum (w : World) (n : Int) (e : Ending) (w' : World) : Prop := e = .returned (.int .i64 n) ∧ Below w.heap.size w w'
theorem wrong_ways (x : Ev.Event) : Hid (Ev.right x = false) ∧ Hid ((Ev.right x && Ev.hasKey x.kind) = false) ∨ Hid (Ev.right x = true) ∧ ((x.kind != 1) = false ∧ (x.kind == 2) = false ∧ Hid ((Ev.right x && Ev.hasKey x.kind) = true) ∧ Hid (x.kind ≠ 2) ∨ (x.kind != 1) = true ∧ ((x.kind != 2) = false ∧ (x.kind == 2) = true ∧ Hid ((Ev.right x && Ev.hasKey x.kind) = true) ∧ Hid (x.kind = 2) ∨ (x.kind != 2) = true ∧ Hid ((Ev.right x && Ev.hasKey x.kind) = false))) := by
  unfold Hid
  cases hr : Ev.right x with
  | false => exact .inl ⟨rfl, rfl⟩
  | true =>
    refine .inr ⟨rfl, ?_⟩
    simp only [Bool.true_and]
    by_cases h1 : x.kind = 1
    · exact .inl ⟨by simp [h1], by simp [h1], (Ev.hasKey_iff _).2 (.inl h1), by omega⟩
    · by_cases h2 : x.kind = 2
      · exact .inr ⟨by simp [h1], .inl ⟨by simp [h2], by simp [h2], (Ev.hasKey_iff _).2 (.inr h2), h2⟩⟩
      · refine .inr ⟨by simp [h1], .inr ⟨by simp [h2], ?_⟩⟩
        cases hk : Ev.hasKey x.kind with
        | false => rfl
        | true => rcases (Ev.hasKey_iff _).1 hk with h | h
                  · exact absurd h h1
                  · exact absurd h h2
theorem val_parts (y z : Int) : (y != z) = false ∧ Hid ((y = z) = True) ∨ (y != z) = true ∧ Hid ((y = z) = False) := by
  unfold Hid
  by_cases h : y = z
  · exact .inl ⟨by simp [h], by simp [h]⟩
  · exact .inr ⟨by simp [h], by simp [h]⟩
theorem eql_parts (y z : Int) : (y == z) = false ∧ Hid (decide (y = z) = false) ∨ (y == z) = true ∧ Hid (decide (y = z) = true) := by
  unfold Hid
  by_cases h : y = z
  · exact .inr ⟨beq_iff_eq.2 h, by simp [h]⟩
  · exact .inl ⟨beq_eq_false_iff_ne.2 h, by simp [h]⟩
end Go.Proofs.YtfjamdpgbbnmcaaDoor
/-
  What the reference's Look of layer 6 answers: In.lookR; what was in memory stays as it was.
  Conditions: a row has at most 2^32 elements.
  (This program has not all of these functions: rresults_face, rend_face, RefAt6, RefAt6.start, RefAt6.later, rend_bad, RFaceIs, RMid, rLook_at are left out here.)
-/
set_option maxRecDepth 4000
namespace Go.Proofs.YtfjamdpgbbnmcaaDoor
open Go.RowKit

end Go.Proofs.YtfjamdpgbbnmcaaDoor
