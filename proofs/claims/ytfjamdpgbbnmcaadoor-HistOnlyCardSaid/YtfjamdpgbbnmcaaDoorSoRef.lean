/-
  Several texts in one, each with its own first words: SoRefA, SoRefB, SoRefT, SoRefC, SoRefD, SoRefE, SoRefG.
  Conditions: as each says.
-/
import Derived.Test.YtfjamdpgbbnmcaaDoorSoAll
import Derived.Test.YtfjamdpgbbnmcaaDoorInRef
import Derived.Test.YtfjamdpgbbnmcaaDoorGrAll
/-
  What the reference's small functions of layer 7 answer: may, writes, Number; and Ints, takes and Same of what is one; what was in memory stays as it was.
  Conditions: a row has at most 2^32 elements.
  (This program has not all of these functions: rMay_at, rWrites_at, rNumber_at are left out here.)
-/
set_option maxRecDepth 4000
namespace Go.Proofs.YtfjamdpgbbnmcaaDoor
open Go.RowKit

/-- A variable that holds a transaction as the reference has it. -/
theorem TxVar.at {w w' : World} {b : Nat} {t : Gr.Tx} {u : Value} (h : TxVar w b t u) (hb : Below w.heap.size w w') : TxVar w' b t u := h.below hb
theorem right_parts (x : Ev.Event) : Hid (Ev.right x = false ∧ isOpB x = false) ∨ Hid (Ev.right x = true) ∧ ((x.kind != 1) = false ∧ Hid (isOpB x = true) ∨ (x.kind != 1) = true ∧ ((x.kind != 2) = false ∧ Hid (isOpB x = true) ∨ (x.kind != 2) = true ∧ Hid (isOpB x = false))) := by
  unfold Hid isOpB
  cases hr : Ev.right x with
  | false => exact .inl ⟨rfl, rfl⟩
  | true =>
    refine .inr ⟨rfl, ?_⟩
    rw [Bool.true_and]
    by_cases h1 : x.kind = 1
    · exact .inl ⟨by rw [h1]; rfl, (Ev.hasKey_iff _).2 (.inl h1)⟩
    · by_cases h2 : x.kind = 2
      · exact .inr ⟨by rw [bne_iff_ne]; exact h1, .inl ⟨by rw [h2]; rfl, (Ev.hasKey_iff _).2 (.inr h2)⟩⟩
      · refine .inr ⟨by rw [bne_iff_ne]; exact h1, .inr ⟨by rw [bne_iff_ne]; exact h2, ?_⟩⟩
        cases hk : Ev.hasKey x.kind with
        | false => rfl
        | true => rcases (Ev.hasKey_iff _).1 hk with h | h
                  · exact absurd h h1
                  · exact absurd h h2
theorem isW_parts (key value : Int) (x : Ev.Event) : ((x.kind == 2) = false ∧ Hid (So.isW key value x = false)) ∨ (x.kind == 2) = true ∧ (((x.key == key) = false ∧ Hid (So.isW key value x = false)) ∨ (x.key == key) = true ∧ (((x.value == value) = false ∧ Hid (So.isW key value x = false)) ∨ (x.value == value) = true ∧ Hid (So.isW key value x = true))) := by
  unfold Hid
  by_cases h1 : x.kind = 2
  · refine .inr ⟨beq_iff_eq.2 h1, ?_⟩
    by_cases h2 : x.key = key
    · refine .inr ⟨beq_iff_eq.2 h2, ?_⟩
      by_cases h3 : x.value = value
      · exact .inr ⟨beq_iff_eq.2 h3, (So.isW_iff _ _ _).2 ⟨h1, h2, h3⟩⟩
      · exact .inl ⟨beq_eq_false_iff_ne.2 h3, isW_no (fun q => h3 q.2.2)⟩
    · exact .inl ⟨beq_eq_false_iff_ne.2 h2, isW_no (fun q => h2 q.2.1)⟩
  · exact .inl ⟨beq_eq_false_iff_ne.2 h1, isW_no (fun q => h1 q.1)⟩
set_option maxHeartbeats 1000000 in
theorem rInts_at (l : List Int) (u v : Value) (w : World) (hu : Ns w u l) (hv : Ns w v l) (hl : l.length ≤ 4294967296) : Calls Tryd.prog 23 #[u, v] w (RetBool w true) := by
  obtain ⟨A, c, rfl, hf⟩ := hu.spelled
  obtain ⟨B, c', rfl, hg⟩ := hv.spelled
  have HF := Lib.hid hf
  have HG := Lib.hid hg
  clear hf hg hu hv
  have hb : (((l.length : Nat) : Int) != ((l.length : Nat) : Int)) = false := by simp
  go_enter Tryd.func23, Tryd.ntmps23
  go_wp2
  go_loopw [5] (fun i wr => ∃ k : Nat, k ≤ l.length ∧ i = .int .i64 k ∧ Below w.heap.size w wr) (fun i _ => l.length - (intOf i).toNat)
  case atStart => exact ⟨0, Nat.zero_le _, rfl, Below.refl _ _⟩
  case round =>
    obtain ⟨k, hk, rfl, hB⟩ := hrel
    have HB := Lib.hid hB
    clear hB
    by_cases hlt : k < l.length
    · obtain ⟨ad, rfl, hblk, hE⟩ := HF.out k hlt
      obtain ⟨ad', rfl, hblk', hE'⟩ := HG.out k hlt
      have c0 : wr.cell? (ad.add k) = some (.int .i64 (l[k]'hlt)) := (HB.out.cell (by rw [add_block]; exact hblk)).trans hE
      have c1 : wr.cell? (ad'.add k) = some (.int .i64 (l[k]'hlt)) := (HB.out.cell (by rw [add_block]; exact hblk')).trans hE'
      generalize l[k]'hlt = x at *
      have hne : (x != x) = false := by simp
      clear hE hE'
      go_wp2_with fail
      go_quiet (fail)
      go_wp2_with fail
      go_roundw
      case rel => exact ⟨k + 1, by omega, by go_num, below_drewN HB.out _⟩
      case measure => simp [intOf]; omega
    · go_wp2_with fail
      go_ret
      exact ⟨rfl, HB.out⟩
set_option maxHeartbeats 1000000 in
theorem rTakes_at (l : List (Int × Int)) (u v : Value) (w : World) (hu : Its w u l) (hv : Its w v l) (hl : l.length ≤ 4294967296) : Calls Tryd.prog 24 #[u, v] w (RetBool w true) := by
  obtain ⟨A, c, rfl, hf⟩ := hu.spelled
  obtain ⟨B, c', rfl, hg⟩ := hv.spelled
  have HF := Lib.hid hf
  have HG := Lib.hid hg
  clear hf hg hu hv
  have hb : (((l.length : Nat) : Int) != ((l.length : Nat) : Int)) = false := by simp
  go_enter Tryd.func24, Tryd.ntmps24
  go_wp2
  go_loopw [5] (fun i wr => ∃ k : Nat, k ≤ l.length ∧ i = .int .i64 k ∧ Below w.heap.size w wr) (fun i _ => l.length - (intOf i).toNat)
  case atStart => exact ⟨0, Nat.zero_le _, rfl, Below.refl _ _⟩
  case round =>
    obtain ⟨k, hk, rfl, hB⟩ := hrel
    have HB := Lib.hid hB
    clear hB
    by_cases hlt : k < l.length
    · obtain ⟨ad, rfl, hblk, hE⟩ := HF.out k hlt
      obtain ⟨ad', rfl, hblk', hE'⟩ := HG.out k hlt
      obtain ⟨c0, c1⟩ := hE.below hblk HB.out
      obtain ⟨d0, d1⟩ := hE'.below hblk' HB.out
      generalize l[k]'hlt = x at *
      have hne : (x.1 == x.1) = true := by simp
      have hne2 : (x.2 == x.2) = true := by simp
      clear hE hE'
      go_wp2_with fail
      go_quiet (fail)
      go_wp2_with fail
      go_roundw
      case rel => exact ⟨k + 1, by omega, by go_num, below_drewN HB.out _⟩
      case measure => simp [intOf]; omega
    · go_wp2_with fail
      go_ret
      exact ⟨rfl, HB.out⟩
end Go.Proofs.YtfjamdpgbbnmcaaDoor
/-
  What the reference's Same of layer 7 answers of two histories that are one, and the laws' small functions few, op and plain of layer 7; what was in memory stays as it was.
  Conditions: a row has at most 2^32 elements.
  (This program has not all of these functions: few_at, op_at, plain7_at are left out here.)
-/
set_option maxRecDepth 4000
namespace Go.Proofs.YtfjamdpgbbnmcaaDoor
open Go.RowKit

/-- A variable that holds a transaction of a history. -/
structure TxnVar (w : World) (b : Nat) (t : So.Txn) (u v : Value) : Prop where
  c0 : w.cell? ⟨b, 0, none⟩ = some (.int .i64 t.session)
  c1 : w.cell? ⟨b, 1, none⟩ = some u
  c2 : w.cell? ⟨b, 2, none⟩ = some v
theorem TxnVar.new (w : World) (t : So.Txn) (u v : Value) (ty : TypeId) : TxnVar (w.alloc (.cells #[.int .i64 t.session, u, v] ty)) w.heap.size t u v :=
  ⟨new_cell w _ _ 0 _ rfl, new_cell w _ _ 1 _ rfl, new_cell w _ _ 2 _ rfl⟩
theorem TxnVar.below {w w' : World} {b : Nat} {t : So.Txn} {u v : Value} (h : TxnVar w b t u v) (hb : Below w.heap.size w w') : TxnVar w' b t u v := by
  have hlt := World.block_lt_of_cell? w _ h.c0
  exact ⟨(hb.cell (p := ⟨b, 0, none⟩) hlt).trans h.c0, (hb.cell (p := ⟨b, 1, none⟩) hlt).trans h.c1, (hb.cell (p := ⟨b, 2, none⟩) hlt).trans h.c2⟩
/-- Two variables of one cell each. -/
def Boxes (w : World) (b : Nat) (u v : Value) : Prop := w.cell? ⟨b, 0, none⟩ = some u ∧ w.cell? ⟨b + 1, 0, none⟩ = some v
theorem Boxes.below {w w' : World} {b : Nat} {u v : Value} (h : Boxes w b u v) (hb : Below w.heap.size w w') : Boxes w' b u v :=
  ⟨(hb.cell (World.block_lt_of_cell? w _ h.1)).trans h.1, (hb.cell (World.block_lt_of_cell? w _ h.2)).trans h.2⟩
theorem boxes_new (w : World) (u v : Value) (t t' : TypeId) : Boxes ((w.alloc (.cells #[u] t)).alloc (.cells #[v] t')) w.heap.size u v := by
  refine ⟨cell_new (new_cell w _ _ 0 _ rfl) _, ?_⟩
  have := new_cell (w.alloc (.cells #[u] t)) #[v] t' 0 _ rfl
  rwa [size_new] at this
set_option maxHeartbeats 2000000 in
theorem rSame7_at (ts : List So.Txn) (u v : Value) (w : World) (hu : Txns w u ts) (hv : Txns w v ts) (hl : ts.length ≤ 4294967296) (ho : ∀ t ∈ ts, t.writes.length ≤ 4294967296 ∧ t.reads.length ≤ 4294967296) : Calls Tryd.prog 12 #[.agg #[u], .agg #[v]] w (RetBool w true) := by
  obtain ⟨A, c, rfl, hf⟩ := hu.spelled
  obtain ⟨B, c', rfl, hg⟩ := hv.spelled
  have HF := Lib.hid hf
  have HG := Lib.hid hg
  have HO := Lib.hid ho
  have HX0 := Lib.hid (boxes_new w (.slice A ts.length c) (.slice B ts.length c') 24 24)
  have HB0 := Lib.hid (below_all (alloc_below w (.cells #[.slice A ts.length c] 24)) (alloc_below _ (.cells #[.slice B ts.length c'] 24)))
  clear hf hg hu hv ho
  have hb : (((ts.length : Nat) : Int) != ((ts.length : Nat) : Int)) = false := by simp
  go_enter Tryd.func12, Tryd.ntmps12
  go_wp2
  go_loopw [5] (fun i wr => ∃ k : Nat, k ≤ ts.length ∧ i = .int .i64 k ∧ Boxes wr w.heap.size (.slice A ts.length c) (.slice B ts.length c') ∧ Below w.heap.size w wr) (fun i _ => ts.length - (intOf i).toNat)
  case atStart => exact ⟨0, Nat.zero_le _, rfl, HX0.out, HB0.out⟩
  case round =>
    clear HX0 HB0
    obtain ⟨k, hk, rfl, hX, hB⟩ := hrel
    have HB := Lib.hid hB
    have HX := Lib.hid hX
    obtain ⟨b0, b1⟩ := hX
    clear hB
    by_cases hlt : k < ts.length
    · obtain ⟨ad, x, y, rfl, hblk, hE, hx, hy⟩ := HF.out k hlt
      obtain ⟨ad', x', y', rfl, hblk', hE', hx', hy'⟩ := HG.out k hlt
      obtain ⟨t, ht⟩ : ∃ t, t = ts[k]'hlt := ⟨_, rfl⟩
      have HL : Hid (t.writes.length ≤ 4294967296 ∧ t.reads.length ≤ 4294967296) := by rw [ht]; exact HO.out _ (List.getElem_mem _)
      rw [← ht] at hE hE' hx hy hx' hy'
      obtain ⟨Ax, cx, rfl, _⟩ := hx.spelled
      obtain ⟨Ay, cy, rfl, _⟩ := hy.spelled
      obtain ⟨Ax', cx', rfl, _⟩ := hx'.spelled
      obtain ⟨Ay', cy', rfl, _⟩ := hy'.spelled
      obtain ⟨c0, c1, c2⟩ := hE.below hblk HB.out
      have hW1 := alloc_below wr (.cells #[.int .i64 t.session, .slice Ax t.writes.length cx, .slice Ay t.reads.length cy] 47)
      have hW2 := alloc_below (wr.alloc (.cells #[.int .i64 t.session, .slice Ax t.writes.length cx, .slice Ay t.reads.length cy] 47)) (.cells #[.int .i64 t.session, .slice Ax' t.writes.length cx', .slice Ay' t.reads.length cy'] 47)
      obtain ⟨g0, g1⟩ := HX.out.below hW1
      obtain ⟨d0, d1, d2⟩ := hE'.below hblk' (below_all HB.out hW1)
      have HX2 := Lib.hid ((HX.out.below hW1).below hW2)
      have HB2 := Lib.hid (below_all (below_all HB.out hW1) hW2)
      have HV1 := Lib.hid ((TxnVar.new wr t (.slice Ax t.writes.length cx) (.slice Ay t.reads.length cy) 47).below hW2)
      have hv2 := TxnVar.new (wr.alloc (.cells #[.int .i64 t.session, .slice Ax t.writes.length cx, .slice Ay t.reads.length cy] 47)) t (.slice Ax' t.writes.length cx') (.slice Ay' t.reads.length cy') 47
      rw [size_new] at hv2
      have HV2 := Lib.hid hv2
      have HXW := Lib.hid (hx.below HB2.out)
      have HYW := Lib.hid (hy.below HB2.out)
      have HXW' := Lib.hid (hx'.below HB2.out)
      have HYW' := Lib.hid (hy'.below HB2.out)
      clear hE hE' hx hy hx' hy' ht hW1 hW2 hv2
      go_wp2_with fail
      refine (rInts_at t.writes _ _ _ HXW.out HXW'.out HL.out.1).mono ?_
      rintro e w2 ⟨rfl, hb2⟩
      have HB3 := Lib.hid (below_all HB2.out hb2)
      have HX3 := Lib.hid (HX2.out.below hb2)
      have HV3 := Lib.hid (HV1.out.below hb2)
      have HV4 := Lib.hid (HV2.out.below hb2)
      have HY3 := Lib.hid (HYW.out.below hb2)
      have HY4 := Lib.hid (HYW'.out.below hb2)
      obtain ⟨p0, p1, p2⟩ := HV3.out
      obtain ⟨q0, q1, q2⟩ := HV4.out
      clear hb2 c0 c1 c2 d0 d1 d2 b0 b1 g0 g1 HX2 HB2 HV1 HV2 HXW HYW HXW' HYW' HX HB
      go_wp2_with fail
      refine (rTakes_at t.reads _ _ _ HY3.out HY4.out HL.out.2).mono ?_
      rintro e w3 ⟨rfl, hb3⟩
      have HB5 := Lib.hid (below_all HB3.out hb3)
      have HX5 := Lib.hid (HX3.out.below hb3)
      obtain ⟨s0, _, _⟩ := HV3.out.below hb3
      obtain ⟨r0, _, _⟩ := HV4.out.below hb3
      have hne : (t.session != t.session) = false := by simp
      clear hb3 p0 p1 p2 q0 q1 q2 HX3 HB3 HV3 HV4 HY3 HY4
      go_wp2_with fail
      go_roundw
      case rel => exact ⟨k + 1, by omega, by go_num, HX5.out, HB5.out⟩
      case measure => simp [intOf]; omega
    · go_wp2_with fail
      go_ret
      exact ⟨rfl, HB.out⟩

/-- Few, and short. -/
def fewB (l : List Gr.Tx) : Bool := decide (l.length ≤ 40) && l.all (fun t => decide (t.ops.length ≤ 40))
theorem fewB_iff (l : List Gr.Tx) : fewB l = true ↔ l.length ≤ 40 ∧ ∀ t ∈ l, t.ops.length ≤ 40 := by
  rw [fewB, Bool.and_eq_true, decide_eq_true_eq, List.all_eq_true]
  simp
end Go.Proofs.YtfjamdpgbbnmcaaDoor
/-
  Words for a variable of two cells: how it lasts.
  Conditions: none beyond those that each theorem states.
-/
set_option maxRecDepth 4000
namespace Go.Proofs.YtfjamdpgbbnmcaaDoor
open Go.RowKit

/-- A variable of two cells. -/
def TwoV (w : World) (b : Nat) (x y : Value) : Prop := w.cell? ⟨b, 0, none⟩ = some x ∧ w.cell? ⟨b, 1, none⟩ = some y
theorem TwoV.below {w w' : World} {b : Nat} {x y : Value} (h : TwoV w b x y) (hb : Below w.heap.size w w') : TwoV w' b x y :=
  ⟨(hb.cell (World.block_lt_of_cell? w _ h.1)).trans h.1, (hb.cell (World.block_lt_of_cell? w _ h.2)).trans h.2⟩
theorem twoV_new (w : World) (x y : Value) (t : TypeId) : TwoV (w.alloc (.cells #[x, y] t)) w.heap.size x y := ⟨new_cell w _ _ 0 _ rfl, new_cell w _ _ 1 _ rfl⟩
end Go.Proofs.YtfjamdpgbbnmcaaDoor
/-
  What the reference's unlike and from of layer 7 answer: what is wrong with a transaction's writes (So.phase 1), and whose a value is (So.fromR); what was in memory stays as it was.
  Conditions: at most 32 transactions, a row of ops has at most 2^32 elements; from: keys are 0 to 15, and what was committed may be looked at.
  (This program has not all of these functions: rUnlike_at is left out here.)
-/
set_option maxRecDepth 4000
namespace Go.Proofs.YtfjamdpgbbnmcaaDoor
open Go.RowKit

theorem phase1 (l : List Gr.Tx) (m : Nat) (hm : m < l.length) : So.phase l 1 m = So.unlikeR ((l.take m).flatMap (·.ops)) l[m].ops := by rw [So.phase_at l 1 m hm]; simp [So.phaseT]
theorem times_cap (key v : Int) (l : List Gr.Tx) (ho : ∀ t ∈ l, t.ops.length ≤ 4294967296) (q : Nat) (hq : q ≤ l.length) : So.times key v ((l.take q).flatMap (·.ops)) ≤ q * 4294967296 := by
  induction q with
  | zero => simp [So.times]
  | succ q ih =>
    rw [So.times_flat key v l q (by omega)]
    have h1 := ih (by omega)
    have h2 := So.times_le key v (l[q]'(by omega)).ops
    have h3 := ho (l[q]'(by omega)) (List.getElem_mem _)
    omega
end Go.Proofs.YtfjamdpgbbnmcaaDoor
/-
  What the reference's from of layer 7 answers: whose a value is (So.fromR); what was in memory stays as it was.
  Conditions: at most 32 transactions, a row of ops has at most 2^32 elements; the key is 0 to 15, and what was committed may be looked at.
  (This program has not all of these functions: rFrom_at is left out here.)
-/
set_option maxRecDepth 4000
namespace Go.Proofs.YtfjamdpgbbnmcaaDoor
open Go.RowKit

theorem from_at (l : List Gr.Tx) (y : Int × Int) (h0 : y.2 ≠ 0) (m : Nat) (hm : m < l.length) (hno : ∀ a (ha : a < l.length), a < m → So.wrote y.1 y.2 l[a].ops = false) (hw : So.wrote y.1 y.2 l[m].ops = true) :
    So.fromR l y = if l[m].done = false then (0, 13) else if In.lastOf 2 y.1 l[m].ops ≠ some y.2 then (0, 14) else ((((l.take m).filter (·.done)).length : Int), 0) := by
  rw [So.fromR, if_neg h0, So.from_number y.1 y.2 l m (by omega) hno, So.from_hit _ _ _ _ _ hm hw]
theorem from_none (l : List Gr.Tx) (y : Int × Int) (h0 : y.2 ≠ 0) (hno : ∀ a (ha : a < l.length), a < l.length → So.wrote y.1 y.2 l[a].ops = false) : So.fromR l y = (0, 12) := by
  rw [So.fromR, if_neg h0, So.from_number y.1 y.2 l l.length (Nat.le_refl _) hno, So.from_end _ _ _ _ _ (Nat.le_refl _)]
theorem key_parts (z y : Int × Int) : ((z.1 == y.1) = false ∧ Hid (¬ (z.1 = y.1 ∧ z.2 ≠ y.2))) ∨ (z.1 == y.1) = true ∧ (((z.2 != y.2) = false ∧ Hid (¬ (z.1 = y.1 ∧ z.2 ≠ y.2))) ∨ (z.2 != y.2) = true ∧ Hid (z.1 = y.1 ∧ z.2 ≠ y.2)) := by
  unfold Hid
  by_cases h1 : z.1 = y.1
  · refine .inr ⟨beq_iff_eq.2 h1, ?_⟩
    by_cases h2 : z.2 = y.2
    · exact .inl ⟨by rw [h2]; simp, fun q => q.2 h2⟩
    · exact .inr ⟨by rw [bne_iff_ne]; exact h2, h1, h2⟩
  · exact .inl ⟨beq_eq_false_iff_ne.2 h1, fun q => h1 q.1⟩
end Go.Proofs.YtfjamdpgbbnmcaaDoor
/-
  What the reference's one of layer 7 answers: a committed transaction, as a history has it (So.txnOf), or the first error of its reads; what was in memory stays as it was.
  Conditions: at most 32 transactions, a row of ops has at most 2^32 elements; the ops may be, and what was committed may be looked at.
  (This program has not all of these functions: results_one, end_one, rOne7_at are left out here.)
-/
set_option maxRecDepth 4000
namespace Go.Proofs.YtfjamdpgbbnmcaaDoor
open Go.RowKit

theorem three_get {w : World} {b : Nat} {x0 x1 x2 : Value} {t : TypeId} (h : w.heap[b]? = some (.cells #[x0, x1, x2] t (0, 0))) : (w.cell? ⟨b, 0, none⟩ = some x0 ∧ w.cell? ⟨b, 1, none⟩ = some x1 ∧ w.cell? ⟨b, 2, none⟩ = some x2) ∧ ∀ k, w.frozen? ⟨b, k, none⟩ = false := by
  refine ⟨⟨?_, ?_, ?_⟩, fun k => ?_⟩
  · simp [World.cell?, h]
  · simp [World.cell?, h]
  · simp [World.cell?, h]
  · simp [World.frozen?, h]
theorem three_set {w : World} {b : Nat} {x0 x1 x2 : Value} {t : TypeId} (h : w.heap[b]? = some (.cells #[x0, x1, x2] t (0, 0))) (y0 y1 y2 : Value) : (((w.setCell ⟨b, 0, none⟩ y0).setCell ⟨b, 1, none⟩ y1).setCell ⟨b, 2, none⟩ y2).heap[b]? = some (.cells #[y0, y1, y2] t (0, 0)) := by
  simp [World.setCell, Array.getElem?_modify, h]
theorem three_one {w : World} {b : Nat} {x0 x1 x2 : Value} {t : TypeId} (h : w.heap[b]? = some (.cells #[x0, x1, x2] t (0, 0))) (y : Value) : (w.setCell ⟨b, 1, none⟩ y).heap[b]? = some (.cells #[x0, y, x2] t (0, 0)) ∧ (w.setCell ⟨b, 2, none⟩ y).heap[b]? = some (.cells #[x0, x1, y] t (0, 0)) := by
  simp [World.setCell, Array.getElem?_modify, h]
/-- While one fills its variable, which lies at W's end. -/
structure OneMid (W wx : World) (s : Int) (ks : List Int) (ys : List (Int × Int)) (kv rv : Value) : Prop where
  cell : wx.heap[W.heap.size]? = some (.cells #[.int .i64 s, kv, rv] 47 (0, 0))
  writes : wx.ownsRow (W.heap.size + 1) 3 1 kv ks.length (ks.flatMap nC)
  reads : wx.ownsRow (W.heap.size + 1) 49 2 rv ys.length (ys.flatMap itC)
  below : Below W.heap.size W wx
section
variable {W wx w3 : World} {s : Int} {ks : List Int} {ys : List (Int × Int)} {kv rv v' : Value}
theorem OneMid.later (h : OneMid W wx s ks ys kv rv) (hb : Below wx.heap.size wx w3) : OneMid W w3 s ks ys kv rv :=
  ⟨(hb.block _ (lt_of_block h.cell)).trans h.cell, own_below h.writes hb, own_below h.reads hb, below_all h.below hb⟩
theorem one_start (W : World) (s : Int) : OneMid W (W.alloc (.cells #[.int .i64 s, .slice none 0 0, .slice none 0 0] 47)) s [] [] (.slice none 0 0) (.slice none 0 0) :=
  ⟨heap_alloc_new _ _, World.ownsRow_nil _ _ _ _, World.ownsRow_nil _ _ _ _, alloc_below _ _⟩
theorem OneMid.ready (h : OneMid W wx s ks ys kv rv) (o : Obj) : OneMid W ((wx.alloc o).drewN 1) s ks ys kv rv ∧
    (∀ w2, ((wx.alloc o).drewN 1).grownBy w2 kv.ownBlock → w2.cell? ⟨W.heap.size, 1, none⟩ = some kv ∧ w2.frozen? ⟨W.heap.size, 1, none⟩ = false) ∧ (∀ w2, ((wx.alloc o).drewN 1).grownBy w2 rv.ownBlock → w2.cell? ⟨W.heap.size, 2, none⟩ = some rv ∧ w2.frozen? ⟨W.heap.size, 2, none⟩ = false) := by
  have h2 : OneMid W ((wx.alloc o).drewN 1) s ks ys kv rv := (h.later (alloc_below wx o)).later (drewN_below _ 1)
  refine ⟨h2, fun w2 hg => ?_, fun w2 hg => ?_⟩
  · have := three_get ((hg.block _ (lt_of_block h2.cell) (fun e => own_above h2.writes e.symm)).trans h2.cell)
    exact ⟨this.1.2.1, this.2 1⟩
  · have := three_get ((hg.block _ (lt_of_block h2.cell) (fun e => own_above h2.reads e.symm)).trans h2.cell)
    exact ⟨this.1.2.2, this.2 2⟩
theorem OneMid.addWrite (h : OneMid W wx s ks ys kv rv) (n : Int) (hrow : w3.ownsRow (W.heap.size + 1) 3 1 v' (ks.length + 1) (ks.flatMap nC ++ nC n)) (hg : wx.grownBy w3 kv.ownBlock) : OneMid W (w3.setCell ⟨W.heap.size, 1, none⟩ v') s (ks ++ [n]) ys v' rv := by
  have hc := (hg.block _ (lt_of_block h.cell) (fun e => own_above h.writes e.symm)).trans h.cell
  refine ⟨(three_one hc v').1, ownsRow_setCell_below (Rows'.own_snoc hrow) (by show W.heap.size < W.heap.size + 1; omega) _, ownsRow_setCell_below (h.reads.kept hg (own_types h.reads h.writes (by decide))) (by show W.heap.size < W.heap.size + 1; omega) _, ?_⟩
  exact (h.below.grown hg h.below.size (fun j hj => by have := (h.writes.lt j hj).1; omega)).setCell (Nat.le_refl _) _
theorem OneMid.addRead (h : OneMid W wx s ks ys kv rv) (y : Int × Int) (hrow : w3.ownsRow (W.heap.size + 1) 49 2 v' (ys.length + 1) (ys.flatMap itC ++ itC y)) (hg : wx.grownBy w3 rv.ownBlock) : OneMid W (w3.setCell ⟨W.heap.size, 2, none⟩ v') s ks (ys ++ [y]) kv v' := by
  have hc := (hg.block _ (lt_of_block h.cell) (fun e => own_above h.reads e.symm)).trans h.cell
  refine ⟨(three_one hc v').2, ownsRow_setCell_below (h.writes.kept hg (own_types h.writes h.reads (by decide))) (by show W.heap.size < W.heap.size + 1; omega) _, ownsRow_setCell_below (Rows'.own_snoc hrow) (by show W.heap.size < W.heap.size + 1; omega) _, ?_⟩
  exact (h.below.grown hg h.below.size (fun j hj => by have := (h.reads.lt j hj).1; omega)).setCell (Nat.le_refl _) _
end
/-- A transaction of a history, and an error: where there is none its rows are in memory of the call's own. -/
def RetTxn (w : World) (t : So.Txn) (q : Int) (e : Ending) (w' : World) : Prop := ∃ (s : Int) (A : Option Addr) (n c : Nat) (A' : Option Addr) (n' c' : Nat), e = .returned (.tuple #[.agg #[.int .i64 s, .slice A n c, .slice A' n' c'], .int .i64 q]) ∧
  (q = 0 → s = t.session ∧ w'.ownsRow w.heap.size 3 1 (.slice A n c) t.writes.length (t.writes.flatMap nC) ∧ w'.ownsRow w.heap.size 49 2 (.slice A' n' c') t.reads.length (t.reads.flatMap itC)) ∧ Below w.heap.size w w'
theorem keys_take (ws : List (Int × Int)) (k : Nat) (hk : k < ws.length) : (ws.take (k + 1)).map (·.1) = (ws.take k).map (·.1) ++ [ws[k].1] := by rw [List.take_succ_eq_append_getElem hk, List.map_append]; rfl
end Go.Proofs.YtfjamdpgbbnmcaaDoor
/-
  What the reference's Hist of layer 7 answers: So.histR; what was in memory stays as it was.
  Conditions: a row of ops has at most 2^32 elements.
  (This program has not all of these functions: rresults_hist, rend_hist, rhist_no, rHist7_at are left out here.)
-/
set_option maxRecDepth 4000
namespace Go.Proofs.YtfjamdpgbbnmcaaDoor
open Go.RowKit

/-- While the history is filled: its variable lies at W's end. -/
structure RHistMid (W wx : World) (l : List Gr.Tx) (k : Nat) (V : Value) (p : List (So.Txn × Value × Value)) : Prop where
  cell : wx.heap[W.heap.size]? = some (.cells #[V] 24 (0, 0))
  own : OwnTxns 47 3 49 wx (W.heap.size + 1) V p
  same : p.map (·.1) = ((l.take k).filter (·.done)).map (So.txnOf l)
  below : Below W.heap.size W wx
section
variable {W wx w3 : World} {l : List Gr.Tx} {k : Nat} {V v' kv rv : Value} {p : List (So.Txn × Value × Value)}
theorem RHistMid.later (h : RHistMid W wx l k V p) (hb : Below wx.heap.size wx w3) : RHistMid W w3 l k V p := ⟨(hb.block _ (lt_of_block h.cell)).trans h.cell, h.own.below hb, h.same, below_all h.below hb⟩
theorem rhist_start (W : World) (l : List Gr.Tx) : RHistMid W (W.alloc (.cells #[.slice none 0 0] 24)) l 0 (.slice none 0 0) [] := ⟨heap_alloc_new _ _, OwnTxns.nil _ _ _ _ _, rfl, alloc_below _ _⟩
theorem RHistMid.skip (h : RHistMid W wx l k V p) (hk : k < l.length) (hd : l[k].done = false) : RHistMid W wx l (k + 1) V p := by
  refine ⟨h.cell, h.own, ?_, h.below⟩
  rw [So.txns_step l k hk, hd, h.same]
  simp
theorem RHistMid.free (h : RHistMid W wx l k V p) (hg : wx.grownBy w3 V.ownBlock) : w3.cell? ⟨W.heap.size, 0, none⟩ = some V ∧ w3.frozen? ⟨W.heap.size, 0, none⟩ = false :=
  one_cell ((hg.block _ (lt_of_block h.cell) (fun e => own_above h.own.row e.symm)).trans h.cell)
theorem RHistMid.more (h : RHistMid W wx l k V p) (hk : k < l.length) (hd : l[k].done = true)
    (hkv : wx.ownsRow (W.heap.size + 1) 3 1 kv (So.txnOf l l[k]).writes.length ((So.txnOf l l[k]).writes.flatMap nC)) (hrv : wx.ownsRow (W.heap.size + 1) 49 2 rv (So.txnOf l l[k]).reads.length ((So.txnOf l l[k]).reads.flatMap itC))
    (hrow : w3.ownsRow (W.heap.size + 1) 47 3 v' (p.length + 1) (p.flatMap txnC ++ txnC (So.txnOf l l[k], kv, rv))) (hg : wx.grownBy w3 V.ownBlock) :
    RHistMid W (w3.setCell ⟨W.heap.size, 0, none⟩ v') l (k + 1) v' (p ++ [(So.txnOf l l[k], kv, rv)]) := by
  have hc := (hg.block _ (lt_of_block h.cell) (fun e => own_above h.own.row e.symm)).trans h.cell
  refine ⟨one_set hc v', (h.own.snoc (by decide) (by decide) hkv hrv hrow hg).set (by show W.heap.size < W.heap.size + 1; omega) _, ?_, ?_⟩
  · rw [So.txns_step l k hk, hd, List.map_append, h.same]
    simp
  · exact (h.below.grown hg h.below.size (fun j hj => by have := (h.own.row.lt j hj).1; omega)).setCell (Nat.le_refl _) _
end
end Go.Proofs.YtfjamdpgbbnmcaaDoor
