/-
  Several texts in one, each with its own first words: InLawA, InRefP, InRefA, InRefB.
  Conditions: as each says.
-/
import Derived.Test.YtfjamdpgbbnmcaaGreatDoorInAll
import Derived.Test.YtfjamdpgbbnmcaaGreatDoorEvAll
import Derived.Deep.RegionHeld3
import Derived.Deep.LoopGhost
import Derived.Deep.DeepCutAuto
/-
  What the laws' and the reference's small functions of layer 6 answer: items (a row of items as the reference has it), plain (a face so), Items and Same (of two that are the same they say true); what was in memory stays as it was.
  Conditions: a row has at most 2^32 elements.
  (This program has not all of these functions: items_at, plain6_at, rItems_at, rSame6_at are left out here.)
-/
set_option maxRecDepth 4000
namespace Go.Proofs.YtfjamdpgbbnmcaaGreatDoor
open Go.RowKit

theorem rit_info : (Tryz.prog.info? 121).map (fun i => (i.zero, i.size, i.bytes)) = some (some (.agg #[.int .i64 0, .int .i64 0]), 2, 16) := by kernel_rfl
theorem ItIn.on {w w' : World} {ad : Addr} {k : Nat} {y : Int × Int} (h : ItIn w ad k y) (hlt : ad.block < w.heap.size) (hb : Below w.heap.size w w') : w'.cell? (ad.add (k * 2)) = some (.int .i64 y.1) ∧ w'.cell? ⟨(ad.add (k * 2)).block, (ad.add (k * 2)).off + 1, none⟩ = some (.int .i64 y.2) := by
  have h2 := h.below hlt hb
  exact ⟨h2.c0, h2.c1⟩
theorem own_its {w : World} {base : Nat} {e : TypeId} {v : Value} (p : List (Int × Int)) (k : Nat) (hk : k < p.length) (h : w.ownsRow base e 2 v (k + 1) ((p.take k).flatMap itC ++ itC p[k])) : w.ownsRow base e 2 v (k + 1) ((p.take (k + 1)).flatMap itC) := by
  rw [List.take_succ_eq_append_getElem hk, flat_snoc]
  exact h
/-- A row of items that the call made. -/
def OwnIts (w : World) (base : Nat) (v : Value) (l : List (Int × Int)) : Prop := w.ownsRow base 121 2 v l.length (l.flatMap itC)
theorem OwnIts.its {w : World} {base : Nat} {v : Value} {l : List (Int × Int)} (h : OwnIts w base v l) : Its w v l := Rows'.own h
theorem OwnIts.below {w w' : World} {base : Nat} {v : Value} {l : List (Int × Int)} (h : OwnIts w base v l) (hb : Below w.heap.size w w') : OwnIts w' base v l := own_below h hb
theorem OwnIts.less {w : World} {base base' : Nat} {v : Value} {l : List (Int × Int)} (h : OwnIts w base v l) (hb : base' ≤ base) : OwnIts w base' v l := by
  obtain ⟨h1, h2⟩ := h
  refine ⟨h1, h2.imp id ?_⟩
  rintro ⟨g, cap, cur, e1, e2, r⟩
  exact ⟨g, cap, cur, e1, Nat.le_trans hb e2, r⟩
theorem OwnIts.set {w : World} {base : Nat} {v : Value} {l : List (Int × Int)} (h : OwnIts w base v l) {a : Addr} (ha : a.block < base) (u : Value) : OwnIts (w.setCell a u) base v l := ownsRow_setCell_below h ha u
theorem OwnIts.form {w : World} {base : Nat} {v : Value} {l : List (Int × Int)} (h : OwnIts w base v l) : ∃ A c, v = .slice A l.length c := own_form h
def RetIts (w : World) (l : List (Int × Int)) (e : Ending) (w' : World) : Prop := ∃ v, e = .returned v ∧ OwnIts w' w.heap.size v l ∧ Below w.heap.size w w'
theorem set_far {w : World} {a p : Addr} {v : Value} (h : a.block ≠ p.block) : (w.setCell p v).cell? a = w.cell? a := World.cell?_of_block (Below.heap_setCell w p v a.block h)

/-- A face as the laws hold it: two rows in memory of the call's own. -/
def RetPlain (w : World) (rs ws : List (Int × Int)) (e : Ending) (w' : World) : Prop := ∃ u v, e = .returned (.agg #[u, v]) ∧ OwnIts w' w.heap.size u rs ∧ OwnIts w' w.heap.size v ws ∧ Below w.heap.size w w'
end Go.Proofs.YtfjamdpgbbnmcaaGreatDoor
/-
  Plain facts for the reference's walks of layer 6 (no Go in it): the place of the last op of a kind and a key ahead of a place, and of the first op of a key.
  Conditions: none beyond those that each theorem states.
-/
set_option maxRecDepth 4000
namespace Go.Proofs.YtfjamdpgbbnmcaaGreatDoor.In
open Ev (right hasKey)

/-- The place of the last op of a kind and a key ahead of place i; -1: there is none. -/
def lastAt (kind key : Int) (l : List Ev.Event) : Nat → Int
  | 0 => -1
  | i + 1 => match l[i]? with
    | some e => if isK kind key e = true then (i : Int) else lastAt kind key l i
    | none => lastAt kind key l i
theorem lastAt_hit (kind key : Int) (l : List Ev.Event) (i : Nat) (hi : i < l.length) (h : isK kind key l[i] = true) : lastAt kind key l (i + 1) = (i : Int) := by
  rw [lastAt, List.getElem?_eq_getElem hi]
  simp only [h, if_true]
theorem lastAt_miss (kind key : Int) (l : List Ev.Event) (i : Nat) (hi : i < l.length) (h : isK kind key l[i] = false) : lastAt kind key l (i + 1) = lastAt kind key l i := by
  rw [lastAt, List.getElem?_eq_getElem hi]
  simp only [h, Bool.false_eq_true, if_false]
/-- By the value of that op. -/
theorem lastAt_cases (kind key : Int) (l : List Ev.Event) (i : Nat) (hi : i ≤ l.length) : (lastOf kind key (l.take i) = none ∧ lastAt kind key l i = -1) ∨ ∃ n, ∃ hn : n < l.length, lastOf kind key (l.take i) = some l[n].value ∧ lastAt kind key l i = (n : Int) := by
  induction i with
  | zero => exact .inl ⟨rfl, rfl⟩
  | succ i ih =>
    have hi' : i < l.length := by omega
    rw [take_cons_at l i hi', lastOf_snoc]
    cases h : isK kind key l[i] with
    | true =>
      rw [lastAt_hit _ _ _ _ hi' h, if_pos rfl]
      exact .inr ⟨i, hi', rfl, rfl⟩
    | false =>
      rw [lastAt_miss _ _ _ _ hi' h, if_neg (by simp)]
      exact ih (by omega)
/-- The place of the first op of a key from place i on; -1: there is none. -/
def firstAt (key : Int) (l : List Ev.Event) (i : Nat) : Int :=
  match (l.drop i).findIdx? fun e => decide (e.key = key) with
  | some j => ((i + j : Nat) : Int)
  | none => -1
theorem firstAt_hit (key : Int) (l : List Ev.Event) (i : Nat) (hi : i < l.length) (h : l[i].key = key) : firstAt key l i = (i : Int) := by
  rw [firstAt, List.drop_eq_getElem_cons hi, List.findIdx?_cons]
  simp [h]
theorem firstAt_miss (key : Int) (l : List Ev.Event) (i : Nat) (hi : i < l.length) (h : l[i].key ≠ key) : firstAt key l i = firstAt key l (i + 1) := by
  rw [firstAt, firstAt, List.drop_eq_getElem_cons hi, List.findIdx?_cons]
  simp only [h, decide_false, Bool.false_eq_true, if_false]
  cases (l.drop (i + 1)).findIdx? fun e => decide (e.key = key) with
  | none => rfl
  | some j =>
    simp only [Option.map_some]
    omega
theorem firstAt_end (key : Int) (l : List Ev.Event) : firstAt key l l.length = -1 := by
  rw [firstAt, List.drop_length]
  rfl
/-- By the first op of the key. -/
theorem firstAt_cases (l : List Ev.Event) (k : Nat) : (firstAt (k : Int) l 0 = -1 ∧ rd l k = none) ∨ ∃ n, ∃ hn : n < l.length, firstAt (k : Int) l 0 = (n : Int) ∧ rd l k = if l[n].kind = 1 then some ((k : Int), l[n].value) else none := by
  rw [firstAt, List.drop_zero]
  cases h : l.findIdx? fun e => decide (e.key = (k : Int)) with
  | none =>
    refine .inl ⟨rfl, ?_⟩
    have : (l.find? fun e => decide (e.key = (k : Int))) = none := by
      rw [List.find?_eq_none]
      rw [List.findIdx?_eq_none_iff] at h
      intro e he
      simpa using h e he
    rw [rd, this]
  | some j =>
    obtain ⟨hj, h1, h2⟩ := List.findIdx?_eq_some_iff_getElem.1 h
    refine .inr ⟨j, hj, by simp, ?_⟩
    have : (l.find? fun e => decide (e.key = (k : Int))) = some l[j] := by
      rw [List.find?_eq_some_iff_getElem]
      exact ⟨h1, j, hj, rfl, fun i hi => by simpa using h2 i hi⟩
    rw [rd, this]

/-- What the reference's 'wrong' comes to, case by case. -/
theorem errAt_arg (l : List Ev.Event) (i : Nat) (hi : i < l.length) (h : (right l[i] && hasKey l[i].kind) = false) : errAt l i = 1 := by
  rw [errAt_at l i hi, wrong, if_pos]
  rw [Bool.and_eq_false_iff] at h
  exact h
theorem errAt_read (l : List Ev.Event) (i : Nat) (hi : i < l.length) (h : (right l[i] && hasKey l[i].kind) = true) (h2 : l[i].kind ≠ 2) :
    (∃ n, ∃ hn : n < l.length, lastAt 2 l[i].key l i = (n : Int) ∧ errAt l i = if l[n].value = l[i].value then 0 else 10) ∨
    (lastAt 2 l[i].key l i = -1 ∧ ∃ n, ∃ hn : n < l.length, lastAt 1 l[i].key l i = (n : Int) ∧ errAt l i = if l[n].value = l[i].value then 0 else 11) ∨
    (lastAt 2 l[i].key l i = -1 ∧ lastAt 1 l[i].key l i = -1 ∧ errAt l i = if future l[i] (l.drop (i + 1)) = true then 9 else 0) := by
  rw [Bool.and_eq_true] at h
  have h1 : l[i].kind = 1 := ((Ev.hasKey_iff _).1 h.2).resolve_right h2
  have hw := wrong_read (l.take i) (l.drop (i + 1)) l[i] h.1 h1
  rw [← errAt_at l i hi] at hw
  rcases lastAt_cases 2 l[i].key l i (by omega) with ⟨a1, a2⟩ | ⟨n, hn, a1, a2⟩
  · rcases lastAt_cases 1 l[i].key l i (by omega) with ⟨b1, b2⟩ | ⟨n, hn, b1, b2⟩
    · rw [a1, b1] at hw
      exact .inr (.inr ⟨a2, b2, hw⟩)
    · rw [a1, b1] at hw
      exact .inr (.inl ⟨a2, n, hn, b2, hw⟩)
  · rw [a1] at hw
    exact .inl ⟨n, hn, a2, hw⟩
/-- A later write, place by place. -/
theorem future_at (e : Ev.Event) (l : List Ev.Event) (k : Nat) (hk : k < l.length) : future e (l.drop k) = ((isK 2 e.key l[k] && decide (l[k].value = e.value)) || future e (l.drop (k + 1))) := by
  rw [future, List.drop_eq_getElem_cons hk, List.any_cons]
  rfl
theorem future_end (e : Ev.Event) (l : List Ev.Event) (k : Nat) (hk : l.length ≤ k) : future e (l.drop k) = false := by
  rw [List.drop_eq_nil_of_le hk]
  rfl
end Go.Proofs.YtfjamdpgbbnmcaaGreatDoor.In
/-
  What the reference's ahead and wrong of layer 6 answer: In.lastAt, In.errAt; what was in memory stays as it was.
  Conditions: a row has at most 2^32 elements.
-/
set_option maxRecDepth 4000
namespace Go.Proofs.YtfjamdpgbbnmcaaGreatDoor
open Go.RowKit

theorem isK_parts (kind key : Int) (x : Ev.Event) : (x.kind == kind) = false ∧ Hid (In.isK kind key x = false) ∨ (x.kind == kind) = true ∧ ((x.key == key) = false ∧ Hid (In.isK kind key x = false) ∨ (x.key == key) = true ∧ Hid (In.isK kind key x = true)) := by
  unfold Hid In.isK
  by_cases h1 : x.kind = kind
  · by_cases h2 : x.key = key
    · exact .inr ⟨beq_iff_eq.2 h1, .inr ⟨beq_iff_eq.2 h2, by simp [h1, h2]⟩⟩
    · exact .inr ⟨beq_iff_eq.2 h1, .inl ⟨beq_eq_false_iff_ne.2 h2, by simp [h2]⟩⟩
  · exact .inl ⟨beq_eq_false_iff_ne.2 h1, by simp [h1]⟩
theorem rAhead_at (l : List Ev.Event) (v : Value) (i : Nat) (kind key : Int) (w : World) (hv : Evs w v l) (hi : i ≤ l.length) (hl : l.length ≤ 4294967296) : Calls Tryz.prog 64 #[v, .int .i64 (i : Int), .int .i64 kind, .int .i64 key] w fun e w' => e = .returned (.int .i64 (In.lastAt kind key l i)) ∧ w = w' := by
  obtain ⟨A, c, rfl, hform⟩ := hv.spelled
  have HF := Lib.hid hform
  clear hform hv
  go_enter Tryz.func64, Tryz.ntmps64
  go_wp2
  go_loop [9] (fun t => ∃ k : Nat, k ≤ i ∧ t = .int .i64 ((k : Int) - 1) ∧ Hid (In.lastAt kind key l i = In.lastAt kind key l k)) (fun t => (intOf t + 1).toNat)
  case atStart => exact ⟨i, Nat.le_refl _, rfl, rfl⟩
  case round =>
    obtain ⟨k, hk, rfl, hsame⟩ := hrel
    cases k with
    | zero =>
      rw [show ((0 : Nat) : Int) - 1 = -1 from rfl]
      go_wp2_with fail
      go_ret
      exact ⟨ret_int (by rw [hsame.out]; rfl), rfl⟩
    | succ k =>
      rw [show ((k + 1 : Nat) : Int) - 1 = (k : Int) by omega]
      have hlt : k < l.length := by omega
      obtain ⟨ad, rfl, hblk, hE⟩ := HF.out k hlt
      have HH := Lib.hid (In.lastAt_hit kind key l k hlt)
      have HM := Lib.hid (In.lastAt_miss kind key l k hlt)
      generalize l[k]'hlt = x at *
      obtain ⟨hc0, hc1, hc2, hc3⟩ := hE
      rcases isK_parts kind key x with ⟨k1, hK⟩ | ⟨k1, ⟨k2, hK⟩ | ⟨k2, hK⟩⟩
      · go_wp2_with fail
        go_round
        case rel => exact ⟨k, by omega, rfl, by rw [Hid, hsame.out, HM.out hK.out]⟩
        case measure => simp [intOf]
      · go_wp2_with fail
        go_round
        case rel => exact ⟨k, by omega, rfl, by rw [Hid, hsame.out, HM.out hK.out]⟩
        case measure => simp [intOf]
      · go_wp2_with fail
        go_ret
        exact ⟨ret_int (by rw [hsame.out, HH.out hK.out]), rfl⟩
/-- A number, in whatever memory was made. -/
def RetNum (w : World) (n : Int) (e : Ending) (w' : World) : Prop := e = .returned (.int .i64 n) ∧ Below w.heap.size w w'
theorem wrong_ways (x : Ev.Event) : Hid (Ev.right x = false) ∧ Hid ((Ev.right x && Ev.hasKey x.kind) = false) ∨ Hid (Ev.right x = true) ∧ ((x.kind != 1) = false ∧ (x.kind == 2) = false ∧ Hid ((Ev.right x && Ev.hasKey x.kind) = true) ∧ Hid (x.kind ≠ 2) ∨ (x.kind != 1) = true ∧ ((x.kind != 2) = false ∧ (x.kind == 2) = true ∧ Hid ((Ev.right x && Ev.hasKey x.kind) = true) ∧ Hid (x.kind = 2) ∨ (x.kind != 2) = true ∧ Hid ((Ev.right x && Ev.hasKey x.kind) = false))) := by
  unfold Hid
  cases hr : Ev.right x with
  | false => exact .inl ⟨rfl, rfl⟩
  | true =>
    refine .inr ⟨rfl, ?_⟩
    simp only [Bool.true_and]
    by_cases h1 : x.kind = 1
    · exact .inl ⟨by simp [h1], by simp [h1], (Ev.hasKey_iff _).2 (.inl h1), by omega⟩
    · by_cases h2 : x.kind = 2
      · exact .inr ⟨by simp [h1], .inl ⟨by simp [h2], by simp [h2], (Ev.hasKey_iff _).2 (.inr h2), h2⟩⟩
      · refine .inr ⟨by simp [h1], .inr ⟨by simp [h2], ?_⟩⟩
        cases hk : Ev.hasKey x.kind with
        | false => rfl
        | true => rcases (Ev.hasKey_iff _).1 hk with h | h
                  · exact absurd h h1
                  · exact absurd h h2
theorem val_parts (y z : Int) : (y != z) = false ∧ Hid ((y = z) = True) ∨ (y != z) = true ∧ Hid ((y = z) = False) := by
  unfold Hid
  by_cases h : y = z
  · exact .inl ⟨by simp [h], by simp [h]⟩
  · exact .inr ⟨by simp [h], by simp [h]⟩
theorem eql_parts (y z : Int) : (y == z) = false ∧ Hid (decide (y = z) = false) ∨ (y == z) = true ∧ Hid (decide (y = z) = true) := by
  unfold Hid
  by_cases h : y = z
  · exact .inr ⟨beq_iff_eq.2 h, by simp [h]⟩
  · exact .inl ⟨beq_eq_false_iff_ne.2 h, by simp [h]⟩
set_option maxHeartbeats 1000000 in
set_option maxRecDepth 4000 in
theorem rWrong_at (l : List Ev.Event) (v : Value) (i : Nat) (w : World) (hv : Evs w v l) (hi : i < l.length) (hl : l.length ≤ 4294967296) : Calls Tryz.prog 63 #[v, .int .i64 (i : Int)] w (RetNum w (In.errAt l i)) := by
  obtain ⟨A, c, rfl, hform⟩ := hv.spelled
  have HV := Lib.hid hv
  have HF := Lib.hid hform
  clear hform hv
  obtain ⟨ad, rfl, hblk, hE⟩ := HF.out i hi
  have HA := Lib.hid (In.errAt_arg l i hi)
  have HW := Lib.hid (In.at_write l i hi)
  have HR := Lib.hid (In.errAt_read l i hi)
  obtain ⟨x, hx⟩ : ∃ x, x = l[i]'hi := ⟨_, rfl⟩
  rw [← hx] at hE HA HW HR
  have HE := Lib.hid hE
  obtain ⟨hc0, hc1, hc2, hc3⟩ := hE
  clear hx
  go_enter Tryz.func63, Tryz.ntmps63
  go_wp2_with fail
  refine (rEvRight_at x _).mono ?_
  rintro e w1 ⟨rfl, hb1⟩
  obtain ⟨d0, d1, d2, d3⟩ := HE.out.below hblk hb1
  have V1 := Lib.hid (HV.out.below hb1)
  have B1 := Lib.hid hb1
  clear hb1 hc0 hc1 hc2 hc3
  rcases wrong_ways x with ⟨hr, hop⟩ | ⟨hr, ⟨k1, k2, hop, hk⟩ | ⟨k1, ⟨k2, k3, hop, hk⟩ | ⟨k2, hop⟩⟩⟩
  · rw [hr.out]
    go_wp2_with fail
    go_ret
    exact ⟨ret_int (by rw [HA.out hop.out]), B1.out⟩
  · rw [hr.out]
    rcases HR.out hop.out hk.out with ⟨n, hn, e1, e2⟩ | ⟨e1, n, hn, e2, e3⟩ | ⟨e1, e2, e3⟩
    · have E1 := Lib.hid e1
      have E2 := Lib.hid e2
      clear e1 e2
      obtain ⟨ad', hq, hblk', hE'⟩ := HF.out n hn
      cases hq
      have y3 := (hE'.below hblk' B1.out).c3
      generalize (l[n]'hn).value = y at *
      clear hE'
      have hn0 : (0 : Int) ≤ (n : Int) := by omega
      rcases val_parts y x.value with ⟨q, hq⟩ | ⟨q, hq⟩
      all_goals
        go_wp2_with fail
        refine (rAhead_at l _ i 2 x.key w1 V1.out (by omega) hl).mono ?_
        rintro e w' ⟨rfl, rfl⟩
        rw [E1.out]
        go_wp2_with fail
        go_quiet (fail)
        go_wp2_with fail
        go_ret
        exact ⟨ret_int (by rw [E2.out]; simp only [hq.out, if_true, if_false]), below_drewN B1.out _⟩
    · have E1 := Lib.hid e1
      have E2 := Lib.hid e2
      have E3 := Lib.hid e3
      clear e1 e2 e3
      obtain ⟨ad', hq, hblk', hE'⟩ := HF.out n hn
      cases hq
      have y3 := (hE'.below hblk' B1.out).c3
      generalize (l[n]'hn).value = y at *
      clear hE'
      have hn0 : (0 : Int) ≤ (n : Int) := by omega
      rcases val_parts y x.value with ⟨q, hq⟩ | ⟨q, hq⟩
      all_goals
        go_wp2_with fail
        refine (rAhead_at l _ i 2 x.key w1 V1.out (by omega) hl).mono ?_
        rintro e w' ⟨rfl, rfl⟩
        rw [E1.out]
        go_wp2_with fail
        refine (rAhead_at l _ i 1 x.key w1 V1.out (by omega) hl).mono ?_
        rintro e w' ⟨rfl, rfl⟩
        rw [E2.out]
        go_wp2_with fail
        go_quiet (fail)
        go_wp2_with fail
        go_ret
        exact ⟨ret_int (by rw [E3.out]; simp only [hq.out, if_true, if_false]), below_drewN B1.out _⟩
    · have E1 := Lib.hid e1
      have E2 := Lib.hid e2
      have E3 := Lib.hid e3
      clear e1 e2 e3
      go_wp2_with fail
      refine (rAhead_at l _ i 2 x.key w1 V1.out (by omega) hl).mono ?_
      rintro e w' ⟨rfl, rfl⟩
      rw [E1.out]
      go_wp2_with fail
      refine (rAhead_at l _ i 1 x.key w1 V1.out (by omega) hl).mono ?_
      rintro e w' ⟨rfl, rfl⟩
      rw [E2.out]
      have HE1 := Lib.hid (HE.out.below hblk B1.out)
      have hblk1 : ad.block < w1.heap.size := Nat.lt_of_lt_of_le hblk B1.out.size
      clear d0 d1 d2 d3
      go_wp2_with fail
      go_loopw [8] (fun t wr => ∃ k : Nat, i + 1 ≤ k ∧ k ≤ l.length ∧ t = .int .i64 k ∧ Hid (In.future x (l.drop (i + 1)) = In.future x (l.drop k)) ∧ Below w1.heap.size w1 wr) (fun t _ => l.length - (intOf t).toNat)
      case atStart => exact ⟨i + 1, Nat.le_refl _, hi, by go_num, rfl, Below.refl _ _⟩
      case round =>
        obtain ⟨k, hk0, hk1, rfl, hsame, hB⟩ := hrel
        have HB := Lib.hid hB
        clear hB
        by_cases hlt : k < l.length
        · obtain ⟨ad', hq, hblk', hE'⟩ := HF.out k hlt
          cases hq
          have HFU := Lib.hid (In.future_at x l k hlt)
          generalize l[k]'hlt = y at *
          obtain ⟨y0, y1, y2, y3⟩ := (hE'.below hblk' B1.out).below hblk1 HB.out
          obtain ⟨d0, d1, d2, d3⟩ := HE1.out.below hblk1 HB.out
          clear hE'
          rcases isK_parts 2 x.key y with ⟨q1, hK⟩ | ⟨q1, ⟨q2, hK⟩ | ⟨q2, hK⟩⟩
          · go_wp2_with fail
            go_quiet (fail)
            go_wp2_with fail
            go_roundw
            case rel => exact ⟨k + 1, by omega, by omega, by go_num, by rw [Hid, hsame.out, HFU.out, hK.out]; rfl, below_drewN HB.out _⟩
            case measure => simp [intOf]; omega
          · go_wp2_with fail
            go_quiet (fail)
            go_wp2_with fail
            go_roundw
            case rel => exact ⟨k + 1, by omega, by omega, by go_num, by rw [Hid, hsame.out, HFU.out, hK.out]; rfl, below_drewN HB.out _⟩
            case measure => simp [intOf]; omega
          · rcases eql_parts y.value x.value with ⟨q3, hV⟩ | ⟨q3, hV⟩
            · go_wp2_with fail
              go_quiet (fail)
              go_wp2_with fail
              go_roundw
              case rel => exact ⟨k + 1, by omega, by omega, by go_num, by rw [Hid, hsame.out, HFU.out, hK.out, hV.out]; rfl, below_drewN HB.out _⟩
              case measure => simp [intOf]; omega
            · go_wp2_with fail
              go_quiet (fail)
              go_wp2_with fail
              go_ret
              exact ⟨ret_int (by rw [E3.out, hsame.out, HFU.out, hK.out, hV.out]; rfl), below_all B1.out (below_drewN HB.out _)⟩
        · have HFE := Lib.hid (In.future_end x l k (by omega))
          go_wp2_with fail
          go_ret
          exact ⟨ret_int (by rw [E3.out, hsame.out, HFE.out]; rfl), below_all B1.out HB.out⟩
  · rw [hr.out]
    go_wp2_with fail
    go_ret
    exact ⟨ret_int (by rw [HW.out hop.out hk.out]), B1.out⟩
  · rw [hr.out]
    go_wp2_with fail
    go_ret
    exact ⟨ret_int (by rw [HA.out hop.out]), B1.out⟩
end Go.Proofs.YtfjamdpgbbnmcaaGreatDoor
/-
  What the reference's Look of layer 6 answers: In.lookR; what was in memory stays as it was.
  Conditions: a row has at most 2^32 elements.
-/
set_option maxRecDepth 4000
namespace Go.Proofs.YtfjamdpgbbnmcaaGreatDoor
open Go.RowKit

theorem rresults_face (X : World) (b : Nat) (tmps : Array Value) (x y : Value) (n q : Int) (hp : tmps.getD 2 undef = .pointer (some ⟨b, 0, none⟩)) (hn : tmps.getD 3 undef = .int .i64 n) (hq : tmps.getD 4 undef = .int .i64 q)
    (h0 : X.cell? ⟨b, 0, none⟩ = some x) (h1 : X.cell? ⟨b, 1, none⟩ = some y) : (results Tryz.f38 tmps).run Tryz.prog X = .ok (.tuple #[.agg #[x, y], .int .i64 n, .int .i64 q]) X := by
  rw [Array.getD_eq_getD_getElem?] at hp hn hq
  simp [results, Tryz.results38, hp, hn, hq, asAddr, go_sem, h0, h1]
theorem rend_face {w X : World} {r : (List (Int × Int) × List (Int × Int)) × Int × Int} {rs ws : List (Int × Int)} {n q : Int} (hr : r = ((rs, ws), n, q)) (tmps : Array Value) (b : Nat) (x y : Value) (h0 : X.cell? ⟨b, 0, none⟩ = some x) (h1 : X.cell? ⟨b, 1, none⟩ = some y)
    (hx : Its X x rs) (hy : Its X y ws) (hb : Below w.heap.size w X) (hp : tmps.getD 2 undef = .pointer (some ⟨b, 0, none⟩)) (hn : tmps.getD 3 undef = .int .i64 n) (hq : tmps.getD 4 undef = .int .i64 q) :
    bodyPost Tryz.prog Tryz.f38 (RetFace w r) Exit.ret { tmps := tmps, defers := [] } X := by
  refine bodyPost_ret (rresults_face X b tmps x y n q hp hn hq h0 h1) rfl ?_
  subst hr
  exact ⟨x, y, rfl, hx, hy, hb⟩
/-- While the ops are looked through: the result variable is as it was made; what was in memory stays. -/
structure RefAt6 (w wr : World) : Prop where
  below : Below w.heap.size w wr
  res : wr.heap[w.heap.size]? = some (.cells #[.slice none 0 0, .slice none 0 0] 84 (0, 0))
theorem RefAt6.start (w : World) : RefAt6 w (w.alloc (.cells #[.slice none 0 0, .slice none 0 0] 84)) := ⟨alloc_below _ _, heap_alloc_new _ _⟩
theorem RefAt6.later {w wr w1 : World} (h : RefAt6 w wr) (hb : Below wr.heap.size wr w1) : RefAt6 w w1 := ⟨below_all h.below hb, (hb.block _ (lt_of_block h.res)).trans h.res⟩
theorem rend_bad {w W : World} {r : (List (Int × Int) × List (Int × Int)) × Int × Int} {n q : Int} (h : RefAt6 w W) (hr : r = (([], []), n, q)) (tmps : Array Value) (hp : tmps.getD 2 undef = .pointer (some ⟨w.heap.size, 0, none⟩)) (hn : tmps.getD 3 undef = .int .i64 n) (hq : tmps.getD 4 undef = .int .i64 q) :
    bodyPost Tryz.prog Tryz.f38 (RetFace w r) Exit.ret { tmps := tmps, defers := [] } ((W.setCell ⟨w.heap.size, 0, none⟩ (.slice none 0 0)).setCell ⟨w.heap.size, 1, none⟩ (.slice none 0 0)) := by
  have hc := (two_set (two_set h.res (.slice none 0 0)).1 (.slice none 0 0)).2
  obtain ⟨e0, e1, _⟩ := two_cells hc
  exact rend_face hr tmps _ _ _ e0 e1 (Its.nil _ _) (Its.nil _ _) ((h.below.setCell (Nat.le_refl _) _).setCell (Nat.le_refl _) _) hp hn hq
/-- The face, as far as it is filled, behind what was in memory. -/
def RFaceIs (wr wx : World) (rs ws : List (Int × Int)) : Prop := ∃ u v, FaceAt 84 121 wx wr.heap.size rs ws u v ∧ Below wr.heap.size wr wx

def RMid (w0 : World) (l : List Ev.Event) (k : Nat) (wx : World) : Prop := ∃ u v, FaceAt 84 121 wx w0.heap.size (In.readsTo l (k + 1)) (In.writesTo l k) u v ∧ Below w0.heap.size w0 wx
set_option maxHeartbeats 4000000 in
set_option maxRecDepth 4000 in
theorem rLook_at (l : List Ev.Event) (v : Value) (w : World) (hv : Evs w v l) (hl : l.length ≤ 4294967296) : Calls Tryz.prog 38 #[v] w (RetFace w (In.lookR l)) := by
  obtain ⟨i0, hi0, hz0, hz1, hz2⟩ := info_parts rit_info
  have I0 := Lib.hid hi0
  have I1 := Lib.hid hz0
  have I2 := Lib.hid hz1
  have I3 := Lib.hid hz2
  clear hi0 hz0 hz1 hz2
  obtain ⟨A, c, rfl, hform⟩ := hv.spelled
  have HV := Lib.hid hv
  have HF := Lib.hid hform
  clear hform hv
  go_enter Tryz.func38, Tryz.ntmps38
  go_wp2
  go_loopw [5] (fun t wr => ∃ k : Nat, k ≤ l.length ∧ t = .int .i64 k ∧ Hid (∀ j, j < k → In.errAt l j = 0) ∧ RefAt6 w wr) (fun t _ => l.length - (intOf t).toNat)
  case atStart => exact ⟨0, Nat.zero_le _, rfl, fun j hj => absurd hj (by omega), RefAt6.start w⟩
  case round =>
    obtain ⟨k, hk, rfl, hno, hat⟩ := hrel
    have HA := Lib.hid hat
    clear hat
    by_cases hlt : k < l.length
    · have V1 := Lib.hid (HV.out.below HA.out.below)
      by_cases hq : In.errAt l k = 0
      · have HQ := Lib.hid hq
        clear hq
        go_wp2_with fail
        refine (rWrong_at l _ k _ V1.out hlt hl).mono ?_
        rintro e w1 ⟨rfl, hb1⟩
        rw [HQ.out]
        have HN := Lib.hid (HA.out.later hb1)
        clear hb1
        go_wp2_with fail
        go_roundw
        case rel => exact ⟨k + 1, by omega, by go_num, In.next_ok l k hno.out HQ.out, HN.out⟩
        case measure => simp [intOf]; omega
      · have hqb : (In.errAt l k != 0) = true := by rw [bne_iff_ne]; exact hq
        have HR := Lib.hid (In.look_bad l k hno.out hq)
        clear hq
        go_wp2_with fail
        refine (rWrong_at l _ k _ V1.out hlt hl).mono ?_
        rintro e w1 ⟨rfl, hb1⟩
        have HN := Lib.hid (HA.out.later hb1)
        obtain ⟨r0, r1, r2⟩ := two_cells HN.out.res
        have t0 := r2 0
        have t1 := r2 1
        clear hb1 r2
        go_wp2_with fail
        exact rend_bad HN.out HR.out _ rfl rfl rfl
    · have HR := Lib.hid (In.all_ok l k (by omega) hno.out)
      have HFS := Lib.hid (face_start 84 121 wr)
      go_wp2_with fail
      clear hno hlt
      obtain ⟨w0, rfl⟩ : ∃ w0, w0 = wr := ⟨_, rfl⟩
      have hlt0 := lt_of_block HA.out.res
      go_loopg [8] 16 (fun g t wx => ∃ k : Nat, k ≤ 16 ∧ g = 16 - k ∧ t = .int .i64 k ∧ RFaceIs w0 wx (In.readsTo l k) (In.writesTo l k))
      case atStart => exact ⟨0, Nat.zero_le _, rfl, rfl, _, _, HFS.out, (Below.refl _ _).alloc (Nat.le_refl _) _⟩
      case round =>
        clear HFS hk
        rename_i k0
        obtain ⟨k, hk, rfl, rfl, hface⟩ := hrel
        have HFC := Lib.hid hface
        clear hface
        by_cases hlt : k < 16
        · have hd16 : decide ((k : Int) < 16) = true := by simp; omega
          go_wp2_with fail
          obtain ⟨wq, rfl⟩ : ∃ wq, wq = wr := ⟨_, rfl⟩
          have HBQ := Lib.hid (below_all HA.out.below HFC.out.choose_spec.choose_spec.2)
          go_loopg [9, 10] l.length (fun g s9 s10 wx => wq = wx ∧ ∃ j : Nat, j ≤ l.length ∧ j = g ∧ s10 = .int .i64 ((j : Int) - 1) ∧ s9 = .int .i64 (In.firstAt (k : Int) l j))
          case atStart => exact ⟨rfl, l.length, Nat.le_refl _, rfl, rfl, by rw [In.firstAt_end]⟩
          case round =>
            obtain ⟨rfl, j, hj, rfl, rfl, rfl⟩ := hrel
            cases j with
            | zero =>
              rw [show ((0 : Nat) : Int) - 1 = -1 from rfl]
              have hcase := In.firstAt_cases l k
              obtain ⟨rb, hrb⟩ : ∃ rb, rb = (In.rd l k).isSome := ⟨_, rfl⟩
              generalize In.firstAt (k : Int) l 0 = fa at hcase ⊢
              have HRB := Lib.hid hrb
              have HCS := Lib.hid hcase
              clear hcase hrb
              go_upto_region 17 with fail
              go_cut [54] (fun s54 wx => s54 = .bool rb ∧ wq = wx)
              case first =>
                rcases HCS.out with ⟨rfl, e2⟩ | ⟨n, hn, rfl, e2⟩
                · have E2 := Lib.hid e2
                  clear e2 HCS
                  go_wp2_with fail
                  go_meet
                  exact ⟨by rw [HRB.out, E2.out]; rfl, rfl⟩
                · obtain ⟨ad, rfl, hblk, hE⟩ := HF.out n hn
                  obtain ⟨hc0, hc1, hc2, hc3⟩ := hE.below hblk HBQ.out
                  have hn0 : (0 : Int) ≤ (n : Int) := by omega
                  have E2 := Lib.hid e2
                  clear e2 hE HCS
                  generalize l[n]'hn = x at *
                  rcases eql_parts x.kind 1 with ⟨q, hK⟩ | ⟨q, hK⟩
                  · go_wp2_with fail
                    go_meet
                    exact ⟨by rw [HRB.out, E2.out, if_neg (by simpa using hK.out)]; rfl, rfl⟩
                  · go_wp2_with fail
                    go_meet
                    exact ⟨by rw [HRB.out, E2.out, if_pos (by simpa using hK.out)]; rfl, rfl⟩
              case rest =>
                obtain ⟨rfl, rfl⟩ := hcut
                go_upto_if 54 with fail
                go_cut [] (fun wx => RMid w0 l k wx)
                case first =>
                  obtain ⟨fu, fv, hFA, hFB⟩ := HFC.out
                  obtain ⟨d0, _, _⟩ := two_cells hFA.cell
                  obtain ⟨A3, c3, rfl⟩ := own_form hFA.reads
                  have HFA0 := Lib.hid hFA
                  have HFB := Lib.hid hFB
                  have hrl := In.reads_len l k
                  have HS := Lib.hid hFA.lt
                  clear hFA hFB HFC
                  rcases HCS.out with ⟨rfl, e2⟩ | ⟨n, hn, rfl, e2⟩
                  · have E2 := Lib.hid e2
                    obtain rfl : rb = false := by rw [HRB.out, e2]; rfl
                    clear e2 HCS HRB
                    go_wp2_with fail
                    go_meet
                    exact ⟨_, _, by rw [In.readsTo_succ, E2.out]; simpa using HFA0.out, HFB.out⟩
                  · obtain ⟨ad, rfl, hblk, hE⟩ := HF.out n hn
                    obtain ⟨hc0, hc1, hc2, hc3⟩ := hE.below hblk HBQ.out
                    have hn0 : (0 : Int) ≤ (n : Int) := by omega
                    have E2 := Lib.hid e2
                    clear e2 hE HCS
                    generalize l[n]'hn = x at *
                    by_cases hK : x.kind = 1
                    · obtain rfl : rb = true := by rw [HRB.out, E2.out, if_pos hK]; rfl
                      have HRD : Hid (In.rd l k = some ((k : Int), x.value)) := by rw [Hid, E2.out, if_pos hK]
                      clear hK E2
                      have HFA := Lib.hid (tell_ready HFA0.out (.cells #[.int .i64 (k : Int), .int .i64 x.value] 121))
                      have d2 := cell_new d0 (.cells #[.int .i64 (k : Int), .int .i64 x.value] 121)
                      have hc3' := cell_new hc3 (.cells #[.int .i64 (k : Int), .int .i64 x.value] 121)
                      have HN := Lib.hid (new_row wq (itC ((k : Int), x.value)) 121)
                      go_wp2_with fail
                      go_region_law (refine step_append_lies _ rfl (.tmp 56) (.tmp 64) 82 rfl (w0.heap.size + 1) 121 i0 _ 2 16 Tryz.underlying82 I0.out I1.out I2.out I3.out rfl (by decide) (.slice A3 (In.readsTo l k).length c3) (In.readsTo l k).length ((In.readsTo l k).flatMap itC) (by simp [Act.eval]) HFA.out.1.reads ⟨wq.heap.size, 0, none⟩ 1 1 (itC ((k : Int), x.value)) (by simp [Act.eval]) rfl HN.out (one_its _) (by decide) (by simp only [maxLen]; omega) (by omega) (by have := HS.out; simp; omega) (wq.heap.size + 1) (by simp) ?_; intro g2 cap2 w2 hown2 hgrow2 hat2 hlt2; obtain ⟨e3, f3⟩ := HFA.out.2.2.1 w2 hgrow2; have HO2 := Lib.hid hown2; have HG2 := Lib.hid hgrow2; have HA2 := Lib.hid hat2; clear hown2 hgrow2 hat2 hlt2)
                      all_goals
                        go_wp2_with fail
                        go_meet
                        obtain ⟨h1, h2⟩ := HFA.out.1.addRead ((k : Int), x.value) HO2.out HG2.out (HA2.out.imp id (fun e => by rw [e]; simp [World.drewN]))
                        exact ⟨_, _, by rw [In.readsTo_succ, HRD.out]; exact h1, HFB.out.trans (HFA.out.2.1.trans h2)⟩
                    · obtain rfl : rb = false := by rw [HRB.out, E2.out, if_neg hK]; rfl
                      have HRD : Hid (In.rd l k = none) := by rw [Hid, E2.out, if_neg hK]
                      clear hK E2
                      go_wp2_with fail
                      go_meet
                      exact ⟨_, _, by rw [In.readsTo_succ, HRD.out]; simpa using HFA0.out, HFB.out⟩
                case rest =>
                  obtain ⟨fu, fv, hFA, hFB⟩ := hcut
                  obtain ⟨_, d1, _⟩ := two_cells hFA.cell
                  obtain ⟨A4, c4, rfl⟩ := own_form hFA.writes
                  have HFA0 := Lib.hid hFA
                  have HFB := Lib.hid hFB
                  have hwl := In.writes_len l k
                  have HS := Lib.hid hFA.lt
                  have VC := Lib.hid (HV.out.below (below_all HA.out.below hFB))
                  have HBC := Lib.hid (below_all HA.out.below hFB)
                  clear hFA hFB HFC
                  go_wp2_with fail
                  refine (rAhead_at l _ l.length 2 (k : Int) wc VC.out (Nat.le_refl _) hl).mono ?_
                  rintro e w' ⟨rfl, rfl⟩
                  have hcs := In.lastAt_cases 2 (k : Int) l l.length (Nat.le_refl _)
                  rw [List.take_length] at hcs
                  rcases hcs with ⟨e2, e1⟩ | ⟨n, hn, e2, e1⟩
                  · rw [e1]
                    have HWR : Hid (In.wr l k = none) := by rw [Hid, In.wr, e2]; rfl
                    clear e1 e2
                    go_wp2_with fail
                    go_roundg (16 - (k + 1))
                    case measure => omega
                    case rel => exact ⟨k + 1, by omega, rfl, by go_num, _, _, by rw [In.writesTo_succ, HWR.out]; simpa using HFA0.out, HFB.out⟩
                  · obtain ⟨ad, rfl, hblk, hE⟩ := HF.out n hn
                    obtain ⟨hc0, hc1, hc2, hc3⟩ := hE.below hblk HBC.out
                    have hn0 : (0 : Int) ≤ (n : Int) := by omega
                    have HWR : Hid (In.wr l k = some ((k : Int), (l[n]'hn).value)) := by rw [Hid, In.wr, e2]; rfl
                    rw [e1]
                    clear e1 e2 hE
                    generalize l[n]'hn = x at *
                    have HFA := Lib.hid (tell_ready HFA0.out (.cells #[.int .i64 (k : Int), .int .i64 x.value] 121))
                    have d2 := cell_new d1 (.cells #[.int .i64 (k : Int), .int .i64 x.value] 121)
                    have hc3' := cell_new hc3 (.cells #[.int .i64 (k : Int), .int .i64 x.value] 121)
                    have HN := Lib.hid (new_row wc (itC ((k : Int), x.value)) 121)
                    go_wp2_with fail
                    go_region_law (refine step_append_lies _ rfl (.tmp 75) (.tmp 83) 82 rfl (w0.heap.size + 1) 121 i0 _ 2 16 Tryz.underlying82 I0.out I1.out I2.out I3.out rfl (by decide) (.slice A4 (In.writesTo l k).length c4) (In.writesTo l k).length ((In.writesTo l k).flatMap itC) (by simp [Act.eval]) HFA.out.1.writes ⟨wc.heap.size, 0, none⟩ 1 1 (itC ((k : Int), x.value)) (by simp [Act.eval]) rfl HN.out (one_its _) (by decide) (by simp only [maxLen]; omega) (by omega) (by have := HS.out; simp; omega) (wc.heap.size + 1) (by simp) ?_; intro g2 cap2 w2 hown2 hgrow2 hat2 hlt2; obtain ⟨e3, f3⟩ := HFA.out.2.2.2 w2 hgrow2; have HO2 := Lib.hid hown2; have HG2 := Lib.hid hgrow2; have HA2 := Lib.hid hat2; clear hown2 hgrow2 hat2 hlt2)
                    all_goals
                      go_wp2_with fail
                      go_roundg (16 - (k + 1))
                      case measure => omega
                      case rel =>
                        obtain ⟨h1, h2⟩ := HFA.out.1.addWrite ((k : Int), x.value) HO2.out HG2.out (HA2.out.imp id (fun e => by rw [e]; simp [World.drewN]))
                        exact ⟨k + 1, by omega, rfl, by go_num, _, _, by rw [In.writesTo_succ, HWR.out]; exact h1, HFB.out.trans (HFA.out.2.1.trans h2)⟩
            | succ j =>
              rw [show ((j + 1 : Nat) : Int) - 1 = (j : Int) by omega]
              have hlt2 : j < l.length := by omega
              obtain ⟨ad, rfl, hblk, hE⟩ := HF.out j hlt2
              have HH := Lib.hid (In.firstAt_hit (k : Int) l j hlt2)
              have HM := Lib.hid (In.firstAt_miss (k : Int) l j hlt2)
              have hE2 := hE.below hblk HBQ.out
              generalize l[j]'hlt2 = x at *
              obtain ⟨hc0, hc1, hc2, hc3⟩ := hE2
              rcases eql_parts x.key (k : Int) with ⟨q, hK⟩ | ⟨q, hK⟩
              · rw [← HM.out (by simpa using hK.out)]
                go_wp2_with fail
                go_roundg j
                case measure => omega
                case rel => exact ⟨rfl, j, by omega, rfl, rfl, rfl⟩
              · go_wp2_with fail
                go_roundg j
                case measure => omega
                case rel => exact ⟨rfl, j, by omega, rfl, rfl, by rw [HH.out (by simpa using hK.out)]⟩
        · obtain rfl : k = 16 := by omega
          obtain ⟨fu, fv, hFA, hFB⟩ := HFC.out
          have HRS : Hid (wr.heap[w.heap.size]? = some (.cells #[.slice none 0 0, .slice none 0 0] 84 (0, 0))) := (hFB.block _ hlt0).trans HA.out.res
          obtain ⟨r0, r1, r2⟩ := two_cells HRS.out
          have t0 := r2 0
          have t1 := r2 1
          obtain ⟨d0, d1, _⟩ := two_cells hFA.cell
          obtain ⟨A3, c3, rfl⟩ := own_form hFA.reads
          obtain ⟨A4, c4, rfl⟩ := own_form hFA.writes
          have HFA0 := Lib.hid hFA
          have HFB := Lib.hid hFB
          clear r2 hFA hFB HFC
          go_wp2_with fail
          obtain ⟨e0, e1, _⟩ := two_cells (two_set (two_set HRS.out (.slice A3 (In.readsTo l 16).length c3)).1 (.slice A4 (In.writesTo l 16).length c4)).2
          have hlo : w.heap.size < w0.heap.size + 1 := by omega
          exact rend_face HR.out _ _ _ _ e0 e1 (Rows'.own (ownsRow_setCell_below (ownsRow_setCell_below HFA0.out.reads hlo _) hlo _)) (Rows'.own (ownsRow_setCell_below (ownsRow_setCell_below HFA0.out.writes hlo _) hlo _))
            (((below_all HA.out.below HFB.out).setCell (Nat.le_refl _) _).setCell (Nat.le_refl _) _) rfl rfl rfl
end Go.Proofs.YtfjamdpgbbnmcaaGreatDoor
