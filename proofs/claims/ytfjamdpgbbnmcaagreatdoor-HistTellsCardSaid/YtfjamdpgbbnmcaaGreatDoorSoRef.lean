/-
  Several texts in one, each with its own first words: SoRefA, SoRefB, SoRefT, SoRefC, SoRefD, SoRefE, SoRefG.
  Conditions: as each says.
-/
import Derived.Test.YtfjamdpgbbnmcaaGreatDoorSoAll
import Derived.Test.YtfjamdpgbbnmcaaGreatDoorInRef
import Derived.Test.YtfjamdpgbbnmcaaGreatDoorGrAll
/-
  What the reference's small functions of layer 7 answer: may, writes, Number; and Ints, takes and Same of what is one; what was in memory stays as it was.
  Conditions: a row has at most 2^32 elements.
-/
set_option maxRecDepth 4000
namespace Go.Proofs.YtfjamdpgbbnmcaaGreatDoor
open Go.RowKit

/-- A variable that holds a transaction as the reference has it. -/
theorem TxVar.at {w w' : World} {b : Nat} {t : Gr.Tx} {u : Value} (h : TxVar w b t u) (hb : Below w.heap.size w w') : TxVar w' b t u := h.below hb
theorem right_parts (x : Ev.Event) : Hid (Ev.right x = false ∧ isOpB x = false) ∨ Hid (Ev.right x = true) ∧ ((x.kind != 1) = false ∧ Hid (isOpB x = true) ∨ (x.kind != 1) = true ∧ ((x.kind != 2) = false ∧ Hid (isOpB x = true) ∨ (x.kind != 2) = true ∧ Hid (isOpB x = false))) := by
  unfold Hid isOpB
  cases hr : Ev.right x with
  | false => exact .inl ⟨rfl, rfl⟩
  | true =>
    refine .inr ⟨rfl, ?_⟩
    rw [Bool.true_and]
    by_cases h1 : x.kind = 1
    · exact .inl ⟨by rw [h1]; rfl, (Ev.hasKey_iff _).2 (.inl h1)⟩
    · by_cases h2 : x.kind = 2
      · exact .inr ⟨by rw [bne_iff_ne]; exact h1, .inl ⟨by rw [h2]; rfl, (Ev.hasKey_iff _).2 (.inr h2)⟩⟩
      · refine .inr ⟨by rw [bne_iff_ne]; exact h1, .inr ⟨by rw [bne_iff_ne]; exact h2, ?_⟩⟩
        cases hk : Ev.hasKey x.kind with
        | false => rfl
        | true => rcases (Ev.hasKey_iff _).1 hk with h | h
                  · exact absurd h h1
                  · exact absurd h h2
set_option maxHeartbeats 1000000 in
theorem rMay_at (t : Gr.Tx) (u : Value) (w : World) (hu : Evs w u t.ops) (ho : t.ops.length ≤ 4294967296) : Calls Tryz.prog 36 #[.agg #[.int .i64 t.session, .bool t.done, .int .i64 t.first, u]] w (RetBool w (So.mayT t)) := by
  obtain ⟨A, c, rfl, hform⟩ := hu.spelled
  have HF := Lib.hid hform
  have HV := Lib.hid (TxVar.new w t (.slice A t.ops.length c) 53)
  have HB0 := Lib.hid (alloc_below w (.cells #[.int .i64 t.session, .bool t.done, .int .i64 t.first, .slice A t.ops.length c] 53))
  have hs0 : w.heap.size < (w.alloc (.cells #[.int .i64 t.session, .bool t.done, .int .i64 t.first, .slice A t.ops.length c] 53)).heap.size := by simp
  clear hform hu
  go_enter Tryz.func36, Tryz.ntmps36
  go_wp2
  generalize w.alloc (.cells #[.int .i64 t.session, .bool t.done, .int .i64 t.first, .slice A t.ops.length c] 53) = W at *
  go_loopw [3] (fun i wr => ∃ k : Nat, k ≤ t.ops.length ∧ i = .int .i64 k ∧ Hid (∀ e ∈ t.ops.take k, isOpB e = true) ∧ TxVar wr w.heap.size t (.slice A t.ops.length c) ∧ Below w.heap.size w wr) (fun i _ => t.ops.length - (intOf i).toNat)
  case atStart => exact ⟨0, Nat.zero_le _, rfl, (fun e he => by cases he), HV.out, HB0.out⟩
  case round =>
    clear HV HB0 hs0
    obtain ⟨k, hk, rfl, hall, hv, hb⟩ := hrel
    have HV := Lib.hid hv
    have HB := Lib.hid hb
    obtain ⟨v0, v1, v2, v3⟩ := hv
    clear hb
    by_cases hlt : k < t.ops.length
    · obtain ⟨ad, rfl, hblk, hE⟩ := HF.out k hlt
      obtain ⟨x, hx⟩ : ∃ x, x = t.ops[k]'hlt := ⟨_, rfl⟩
      have HE := Lib.hid hE
      rw [← hx] at HE
      obtain ⟨e0, e1, e2, e3⟩ := HE.out.below hblk HB.out
      have HX := Lib.hid hx
      clear hE hx
      have key := right_parts x
      go_wp2_with fail
      refine (rEvRight_at x _).mono ?_
      rintro e w1 ⟨rfl, hb1⟩
      have HB1 := Lib.hid (below_all HB.out hb1)
      have HV1 := Lib.hid (HV.out.below hb1)
      obtain ⟨x0, x1, x2, x3⟩ := HV1.out
      obtain ⟨y0, y1, y2, y3⟩ := HE.out.below hblk HB1.out
      clear hb1 e0 e1 e2 e3 v0 v1 v2 v3
      have HBAD : Hid (isOpB x = false → So.mayT t = false) := fun h => by
        cases hq : So.mayT t with
        | false => rfl
        | true =>
          have := ((So.mayT_iff t).1 hq).1 x (by rw [HX.out]; exact List.getElem_mem _)
          rw [isOpB] at h
          rw [h] at this
          cases this
      have HN : Hid (isOpB x = true → ∀ e ∈ t.ops.take (k + 1), isOpB e = true) := fun h e he => by
        rw [List.take_succ_eq_append_getElem hlt] at he
        rcases List.mem_append.1 he with he | he
        · exact hall.out e he
        · rw [List.mem_singleton.1 he, ← HX.out]; exact h
      rcases key with hr | ⟨hr, ⟨k1, hv⟩ | ⟨k1, ⟨k2, hv⟩ | ⟨k2, hv⟩⟩⟩
      · rw [hr.out.1]
        have HR := Lib.hid (HBAD.out hr.out.2)
        go_wp2_with fail
        go_ret
        exact ⟨ret_bool HR.out.symm, HB1.out⟩
      · rw [hr.out]
        go_wp2_with fail
        go_roundw
        case rel => exact ⟨k + 1, by omega, by go_num, HN.out hv.out, HV1.out, HB1.out⟩
        case measure => simp [intOf]; omega
      · rw [hr.out]
        go_wp2_with fail
        go_roundw
        case rel => exact ⟨k + 1, by omega, by go_num, HN.out hv.out, HV1.out, HB1.out⟩
        case measure => simp [intOf]; omega
      · rw [hr.out]
        have HR := Lib.hid (HBAD.out hv.out)
        go_wp2_with fail
        go_ret
        exact ⟨ret_bool HR.out.symm, HB1.out⟩
    · have HA : Hid (∀ e ∈ t.ops, isOpB e = true) := fun e he => hall.out e (by rw [List.take_of_length_le (by omega)]; exact he)
      have HR : Hid (So.mayT t = decide (0 ≤ t.session ∧ t.session < 8)) := by
        rw [Hid, So.mayT]
        have : t.ops.all (fun e => Ev.right e && Ev.hasKey e.kind) = true := List.all_eq_true.2 HA.out
        rw [this, Bool.true_and]
      by_cases hs : 0 ≤ t.session
      · by_cases hs7 : t.session ≤ 7
        · have hd : decide (t.session ≥ 0) = true := by simpa using hs
          have hd2 : decide (t.session ≤ 7) = true := by simpa using hs7
          have HR2 : Hid (So.mayT t = true) := by rw [Hid, HR.out]; exact decide_eq_true (by omega)
          clear hs hs7
          go_wp2_with fail
          go_ret
          exact ⟨ret_bool HR2.out.symm, HB.out⟩
        · have hd : decide (t.session ≥ 0) = true := by simpa using hs
          have hd2 : decide (t.session ≤ 7) = false := by simpa using hs7
          have HR2 : Hid (So.mayT t = false) := by rw [Hid, HR.out]; exact decide_eq_false (by omega)
          clear hs hs7
          go_wp2_with fail
          go_ret
          exact ⟨ret_bool HR2.out.symm, HB.out⟩
      · have hd : decide (t.session ≥ 0) = false := by simpa using hs
        have HR2 : Hid (So.mayT t = false) := by rw [Hid, HR.out]; exact decide_eq_false (by omega)
        clear hs
        go_wp2_with fail
        go_ret
        exact ⟨ret_bool HR2.out.symm, HB.out⟩

theorem isW_parts (key value : Int) (x : Ev.Event) : ((x.kind == 2) = false ∧ Hid (So.isW key value x = false)) ∨ (x.kind == 2) = true ∧ (((x.key == key) = false ∧ Hid (So.isW key value x = false)) ∨ (x.key == key) = true ∧ (((x.value == value) = false ∧ Hid (So.isW key value x = false)) ∨ (x.value == value) = true ∧ Hid (So.isW key value x = true))) := by
  unfold Hid
  by_cases h1 : x.kind = 2
  · refine .inr ⟨beq_iff_eq.2 h1, ?_⟩
    by_cases h2 : x.key = key
    · refine .inr ⟨beq_iff_eq.2 h2, ?_⟩
      by_cases h3 : x.value = value
      · exact .inr ⟨beq_iff_eq.2 h3, (So.isW_iff _ _ _).2 ⟨h1, h2, h3⟩⟩
      · exact .inl ⟨beq_eq_false_iff_ne.2 h3, isW_no (fun q => h3 q.2.2)⟩
    · exact .inl ⟨beq_eq_false_iff_ne.2 h2, isW_no (fun q => h2 q.2.1)⟩
  · exact .inl ⟨beq_eq_false_iff_ne.2 h1, isW_no (fun q => h1 q.1)⟩
set_option maxHeartbeats 1000000 in
theorem rWrites_at (t : Gr.Tx) (u : Value) (m : Nat) (key value : Int) (w : World) (hu : Evs w u t.ops) (hm : m ≤ t.ops.length) (ho : t.ops.length ≤ 4294967296) : Calls Tryz.prog 62 #[.agg #[.int .i64 t.session, .bool t.done, .int .i64 t.first, u], .int .i64 (m : Int), .int .i64 key, .int .i64 value] w fun e w' => e = .returned (.int .i64 (So.times key value (t.ops.take m) : Int)) ∧ Below w.heap.size w w' := by
  obtain ⟨A, c, rfl, hform⟩ := hu.spelled
  have HF := Lib.hid hform
  obtain ⟨v0, v1, v2, v3⟩ := TxVar.new w t (.slice A t.ops.length c) 53
  have HB0 := Lib.hid (alloc_below w (.cells #[.int .i64 t.session, .bool t.done, .int .i64 t.first, .slice A t.ops.length c] 53))
  clear hform hu
  go_enter Tryz.func62, Tryz.ntmps62
  go_wp2
  generalize w.alloc (.cells #[.int .i64 t.session, .bool t.done, .int .i64 t.first, .slice A t.ops.length c] 53) = W at *
  go_loop [9, 10] (fun n i => ∃ k : Nat, k ≤ m ∧ i = .int .i64 k ∧ n = .int .i64 (So.times key value (t.ops.take k) : Int)) (fun _ i => m - (intOf i).toNat)
  case atStart => exact ⟨0, Nat.zero_le _, rfl, rfl⟩
  case round =>
    obtain ⟨k, hk, rfl, rfl⟩ := hrel
    have hn : So.times key value (t.ops.take k) ≤ 4294967296 := Nat.le_trans (So.times_le _ _ _) (by rw [List.length_take]; omega)
    by_cases hlt : k < m
    · have hlt2 : k < t.ops.length := by omega
      obtain ⟨ad, rfl, hblk, hE⟩ := HF.out k hlt2
      have HT := Lib.hid (So.times_take key value t.ops k hlt2)
      generalize t.ops[k]'hlt2 = x at *
      obtain ⟨e0, e1, e2, e3⟩ := hE.below hblk HB0.out
      clear hE
      generalize So.times key value (t.ops.take k) = n1 at *
      rcases isW_parts key value x with ⟨q1, hW⟩ | ⟨q1, ⟨q2, hW⟩ | ⟨q2, ⟨q3, hW⟩ | ⟨q3, hW⟩⟩⟩
      all_goals
        rw [hW.out] at HT
        go_wp2_with fail
        go_round
        case rel => exact ⟨k + 1, by omega, by go_num, by rw [HT.out]; go_num⟩
        case measure => simp [intOf]; omega
    · obtain rfl : k = m := by omega
      go_wp2_with fail
      go_ret
      exact ⟨rfl, HB0.out⟩

set_option maxHeartbeats 1000000 in
theorem rNumber_at (l : List Gr.Tx) (v : Value) (m : Nat) (w : World) (hv : Txs w v l) (hm : m ≤ l.length) (hl : l.length ≤ 4294967296) : Calls Tryz.prog 83 #[v, .int .i64 (m : Int)] w fun e w' => e = .returned (.int .i64 (((l.take m).filter (·.done)).length : Int)) ∧ w = w' := by
  obtain ⟨A, c, rfl, hform⟩ := hv.spelled
  have HF := Lib.hid hform
  clear hform hv
  go_enter Tryz.func83, Tryz.ntmps83
  go_wp2
  go_loop [5, 6] (fun n i => ∃ k : Nat, k ≤ m ∧ i = .int .i64 k ∧ n = .int .i64 (((l.take k).filter (·.done)).length : Int)) (fun _ i => m - (intOf i).toNat)
  case atStart => exact ⟨0, Nat.zero_le _, rfl, rfl⟩
  case round =>
    obtain ⟨k, hk, rfl, rfl⟩ := hrel
    have hcl : ((l.take k).filter (·.done)).length ≤ 4294967296 := Nat.le_trans (List.length_filter_le _ _) (by rw [List.length_take]; omega)
    by_cases hlt : k < m
    · have hlt2 : k < l.length := by omega
      obtain ⟨ad, u, rfl, hblk, hT, _⟩ := HF.out k hlt2
      have HNX := Lib.hid (So.done_next l k hlt2)
      generalize l[k]'hlt2 = t at *
      have hc1 := hT.c1
      generalize ((l.take k).filter (·.done)).length = n1 at *
      cases hd : t.done with
      | true =>
        rw [hd] at HNX hc1
        clear hT
        go_wp2_with fail
        go_round
        case rel => exact ⟨k + 1, by omega, by go_num, by rw [HNX.out]; go_num⟩
        case measure => simp [intOf]; omega
      | false =>
        rw [hd] at HNX hc1
        clear hT
        go_wp2_with fail
        go_round
        case rel => exact ⟨k + 1, by omega, by go_num, by rw [HNX.out]; go_num⟩
        case measure => simp [intOf]; omega
    · obtain rfl : k = m := by omega
      go_wp2_with fail
      go_ret
      exact ⟨rfl, rfl⟩

set_option maxHeartbeats 1000000 in
theorem rInts_at (l : List Int) (u v : Value) (w : World) (hu : Ns w u l) (hv : Ns w v l) (hl : l.length ≤ 4294967296) : Calls Tryz.prog 22 #[u, v] w (RetBool w true) := by
  obtain ⟨A, c, rfl, hf⟩ := hu.spelled
  obtain ⟨B, c', rfl, hg⟩ := hv.spelled
  have HF := Lib.hid hf
  have HG := Lib.hid hg
  clear hf hg hu hv
  have hb : (((l.length : Nat) : Int) != ((l.length : Nat) : Int)) = false := by simp
  go_enter Tryz.func22, Tryz.ntmps22
  go_wp2
  go_loopw [5] (fun i wr => ∃ k : Nat, k ≤ l.length ∧ i = .int .i64 k ∧ Below w.heap.size w wr) (fun i _ => l.length - (intOf i).toNat)
  case atStart => exact ⟨0, Nat.zero_le _, rfl, Below.refl _ _⟩
  case round =>
    obtain ⟨k, hk, rfl, hB⟩ := hrel
    have HB := Lib.hid hB
    clear hB
    by_cases hlt : k < l.length
    · obtain ⟨ad, rfl, hblk, hE⟩ := HF.out k hlt
      obtain ⟨ad', rfl, hblk', hE'⟩ := HG.out k hlt
      have c0 : wr.cell? (ad.add k) = some (.int .i64 (l[k]'hlt)) := (HB.out.cell (by rw [add_block]; exact hblk)).trans hE
      have c1 : wr.cell? (ad'.add k) = some (.int .i64 (l[k]'hlt)) := (HB.out.cell (by rw [add_block]; exact hblk')).trans hE'
      generalize l[k]'hlt = x at *
      have hne : (x != x) = false := by simp
      clear hE hE'
      go_wp2_with fail
      go_quiet (fail)
      go_wp2_with fail
      go_roundw
      case rel => exact ⟨k + 1, by omega, by go_num, below_drewN HB.out _⟩
      case measure => simp [intOf]; omega
    · go_wp2_with fail
      go_ret
      exact ⟨rfl, HB.out⟩
set_option maxHeartbeats 1000000 in
theorem rTakes_at (l : List (Int × Int)) (u v : Value) (w : World) (hu : Its w u l) (hv : Its w v l) (hl : l.length ≤ 4294967296) : Calls Tryz.prog 23 #[u, v] w (RetBool w true) := by
  obtain ⟨A, c, rfl, hf⟩ := hu.spelled
  obtain ⟨B, c', rfl, hg⟩ := hv.spelled
  have HF := Lib.hid hf
  have HG := Lib.hid hg
  clear hf hg hu hv
  have hb : (((l.length : Nat) : Int) != ((l.length : Nat) : Int)) = false := by simp
  go_enter Tryz.func23, Tryz.ntmps23
  go_wp2
  go_loopw [5] (fun i wr => ∃ k : Nat, k ≤ l.length ∧ i = .int .i64 k ∧ Below w.heap.size w wr) (fun i _ => l.length - (intOf i).toNat)
  case atStart => exact ⟨0, Nat.zero_le _, rfl, Below.refl _ _⟩
  case round =>
    obtain ⟨k, hk, rfl, hB⟩ := hrel
    have HB := Lib.hid hB
    clear hB
    by_cases hlt : k < l.length
    · obtain ⟨ad, rfl, hblk, hE⟩ := HF.out k hlt
      obtain ⟨ad', rfl, hblk', hE'⟩ := HG.out k hlt
      obtain ⟨c0, c1⟩ := hE.below hblk HB.out
      obtain ⟨d0, d1⟩ := hE'.below hblk' HB.out
      generalize l[k]'hlt = x at *
      have hne : (x.1 == x.1) = true := by simp
      have hne2 : (x.2 == x.2) = true := by simp
      clear hE hE'
      go_wp2_with fail
      go_quiet (fail)
      go_wp2_with fail
      go_roundw
      case rel => exact ⟨k + 1, by omega, by go_num, below_drewN HB.out _⟩
      case measure => simp [intOf]; omega
    · go_wp2_with fail
      go_ret
      exact ⟨rfl, HB.out⟩
end Go.Proofs.YtfjamdpgbbnmcaaGreatDoor
/-
  What the reference's Same of layer 7 answers of two histories that are one, and the laws' small functions few, op and plain of layer 7; what was in memory stays as it was.
  Conditions: a row has at most 2^32 elements.
  (This program has not all of these functions: few_at, op_at, plain7_at are left out here.)
-/
set_option maxRecDepth 4000
namespace Go.Proofs.YtfjamdpgbbnmcaaGreatDoor
open Go.RowKit

/-- A variable that holds a transaction of a history. -/
structure TxnVar (w : World) (b : Nat) (t : So.Txn) (u v : Value) : Prop where
  c0 : w.cell? ⟨b, 0, none⟩ = some (.int .i64 t.session)
  c1 : w.cell? ⟨b, 1, none⟩ = some u
  c2 : w.cell? ⟨b, 2, none⟩ = some v
theorem TxnVar.new (w : World) (t : So.Txn) (u v : Value) (ty : TypeId) : TxnVar (w.alloc (.cells #[.int .i64 t.session, u, v] ty)) w.heap.size t u v :=
  ⟨new_cell w _ _ 0 _ rfl, new_cell w _ _ 1 _ rfl, new_cell w _ _ 2 _ rfl⟩
theorem TxnVar.below {w w' : World} {b : Nat} {t : So.Txn} {u v : Value} (h : TxnVar w b t u v) (hb : Below w.heap.size w w') : TxnVar w' b t u v := by
  have hlt := World.block_lt_of_cell? w _ h.c0
  exact ⟨(hb.cell (p := ⟨b, 0, none⟩) hlt).trans h.c0, (hb.cell (p := ⟨b, 1, none⟩) hlt).trans h.c1, (hb.cell (p := ⟨b, 2, none⟩) hlt).trans h.c2⟩
/-- Two variables of one cell each. -/
def Boxes (w : World) (b : Nat) (u v : Value) : Prop := w.cell? ⟨b, 0, none⟩ = some u ∧ w.cell? ⟨b + 1, 0, none⟩ = some v
theorem Boxes.below {w w' : World} {b : Nat} {u v : Value} (h : Boxes w b u v) (hb : Below w.heap.size w w') : Boxes w' b u v :=
  ⟨(hb.cell (World.block_lt_of_cell? w _ h.1)).trans h.1, (hb.cell (World.block_lt_of_cell? w _ h.2)).trans h.2⟩
theorem boxes_new (w : World) (u v : Value) (t t' : TypeId) : Boxes ((w.alloc (.cells #[u] t)).alloc (.cells #[v] t')) w.heap.size u v := by
  refine ⟨cell_new (new_cell w _ _ 0 _ rfl) _, ?_⟩
  have := new_cell (w.alloc (.cells #[u] t)) #[v] t' 0 _ rfl
  rwa [size_new] at this
set_option maxHeartbeats 2000000 in
theorem rSame7_at (ts : List So.Txn) (u v : Value) (w : World) (hu : Txns w u ts) (hv : Txns w v ts) (hl : ts.length ≤ 4294967296) (ho : ∀ t ∈ ts, t.writes.length ≤ 4294967296 ∧ t.reads.length ≤ 4294967296) : Calls Tryz.prog 10 #[.agg #[u], .agg #[v]] w (RetBool w true) := by
  obtain ⟨A, c, rfl, hf⟩ := hu.spelled
  obtain ⟨B, c', rfl, hg⟩ := hv.spelled
  have HF := Lib.hid hf
  have HG := Lib.hid hg
  have HO := Lib.hid ho
  have HX0 := Lib.hid (boxes_new w (.slice A ts.length c) (.slice B ts.length c') 24 24)
  have HB0 := Lib.hid (below_all (alloc_below w (.cells #[.slice A ts.length c] 24)) (alloc_below _ (.cells #[.slice B ts.length c'] 24)))
  clear hf hg hu hv ho
  have hb : (((ts.length : Nat) : Int) != ((ts.length : Nat) : Int)) = false := by simp
  go_enter Tryz.func10, Tryz.ntmps10
  go_wp2
  go_loopw [5] (fun i wr => ∃ k : Nat, k ≤ ts.length ∧ i = .int .i64 k ∧ Boxes wr w.heap.size (.slice A ts.length c) (.slice B ts.length c') ∧ Below w.heap.size w wr) (fun i _ => ts.length - (intOf i).toNat)
  case atStart => exact ⟨0, Nat.zero_le _, rfl, HX0.out, HB0.out⟩
  case round =>
    clear HX0 HB0
    obtain ⟨k, hk, rfl, hX, hB⟩ := hrel
    have HB := Lib.hid hB
    have HX := Lib.hid hX
    obtain ⟨b0, b1⟩ := hX
    clear hB
    by_cases hlt : k < ts.length
    · obtain ⟨ad, x, y, rfl, hblk, hE, hx, hy⟩ := HF.out k hlt
      obtain ⟨ad', x', y', rfl, hblk', hE', hx', hy'⟩ := HG.out k hlt
      obtain ⟨t, ht⟩ : ∃ t, t = ts[k]'hlt := ⟨_, rfl⟩
      have HL : Hid (t.writes.length ≤ 4294967296 ∧ t.reads.length ≤ 4294967296) := by rw [ht]; exact HO.out _ (List.getElem_mem _)
      rw [← ht] at hE hE' hx hy hx' hy'
      obtain ⟨Ax, cx, rfl, _⟩ := hx.spelled
      obtain ⟨Ay, cy, rfl, _⟩ := hy.spelled
      obtain ⟨Ax', cx', rfl, _⟩ := hx'.spelled
      obtain ⟨Ay', cy', rfl, _⟩ := hy'.spelled
      obtain ⟨c0, c1, c2⟩ := hE.below hblk HB.out
      have hW1 := alloc_below wr (.cells #[.int .i64 t.session, .slice Ax t.writes.length cx, .slice Ay t.reads.length cy] 38)
      have hW2 := alloc_below (wr.alloc (.cells #[.int .i64 t.session, .slice Ax t.writes.length cx, .slice Ay t.reads.length cy] 38)) (.cells #[.int .i64 t.session, .slice Ax' t.writes.length cx', .slice Ay' t.reads.length cy'] 38)
      obtain ⟨g0, g1⟩ := HX.out.below hW1
      obtain ⟨d0, d1, d2⟩ := hE'.below hblk' (below_all HB.out hW1)
      have HX2 := Lib.hid ((HX.out.below hW1).below hW2)
      have HB2 := Lib.hid (below_all (below_all HB.out hW1) hW2)
      have HV1 := Lib.hid ((TxnVar.new wr t (.slice Ax t.writes.length cx) (.slice Ay t.reads.length cy) 38).below hW2)
      have hv2 := TxnVar.new (wr.alloc (.cells #[.int .i64 t.session, .slice Ax t.writes.length cx, .slice Ay t.reads.length cy] 38)) t (.slice Ax' t.writes.length cx') (.slice Ay' t.reads.length cy') 38
      rw [size_new] at hv2
      have HV2 := Lib.hid hv2
      have HXW := Lib.hid (hx.below HB2.out)
      have HYW := Lib.hid (hy.below HB2.out)
      have HXW' := Lib.hid (hx'.below HB2.out)
      have HYW' := Lib.hid (hy'.below HB2.out)
      clear hE hE' hx hy hx' hy' ht hW1 hW2 hv2
      go_wp2_with fail
      refine (rInts_at t.writes _ _ _ HXW.out HXW'.out HL.out.1).mono ?_
      rintro e w2 ⟨rfl, hb2⟩
      have HB3 := Lib.hid (below_all HB2.out hb2)
      have HX3 := Lib.hid (HX2.out.below hb2)
      have HV3 := Lib.hid (HV1.out.below hb2)
      have HV4 := Lib.hid (HV2.out.below hb2)
      have HY3 := Lib.hid (HYW.out.below hb2)
      have HY4 := Lib.hid (HYW'.out.below hb2)
      obtain ⟨p0, p1, p2⟩ := HV3.out
      obtain ⟨q0, q1, q2⟩ := HV4.out
      clear hb2 c0 c1 c2 d0 d1 d2 b0 b1 g0 g1 HX2 HB2 HV1 HV2 HXW HYW HXW' HYW' HX HB
      go_wp2_with fail
      refine (rTakes_at t.reads _ _ _ HY3.out HY4.out HL.out.2).mono ?_
      rintro e w3 ⟨rfl, hb3⟩
      have HB5 := Lib.hid (below_all HB3.out hb3)
      have HX5 := Lib.hid (HX3.out.below hb3)
      obtain ⟨s0, _, _⟩ := HV3.out.below hb3
      obtain ⟨r0, _, _⟩ := HV4.out.below hb3
      have hne : (t.session != t.session) = false := by simp
      clear hb3 p0 p1 p2 q0 q1 q2 HX3 HB3 HV3 HV4 HY3 HY4
      go_wp2_with fail
      go_roundw
      case rel => exact ⟨k + 1, by omega, by go_num, HX5.out, HB5.out⟩
      case measure => simp [intOf]; omega
    · go_wp2_with fail
      go_ret
      exact ⟨rfl, HB.out⟩

/-- Few, and short. -/
def fewB (l : List Gr.Tx) : Bool := decide (l.length ≤ 40) && l.all (fun t => decide (t.ops.length ≤ 40))
theorem fewB_iff (l : List Gr.Tx) : fewB l = true ↔ l.length ≤ 40 ∧ ∀ t ∈ l, t.ops.length ≤ 40 := by
  rw [fewB, Bool.and_eq_true, decide_eq_true_eq, List.all_eq_true]
  simp
end Go.Proofs.YtfjamdpgbbnmcaaGreatDoor
/-
  Words for a variable of two cells: how it lasts.
  Conditions: none beyond those that each theorem states.
-/
set_option maxRecDepth 4000
namespace Go.Proofs.YtfjamdpgbbnmcaaGreatDoor
open Go.RowKit

/-- A variable of two cells. -/
def TwoV (w : World) (b : Nat) (x y : Value) : Prop := w.cell? ⟨b, 0, none⟩ = some x ∧ w.cell? ⟨b, 1, none⟩ = some y
theorem TwoV.below {w w' : World} {b : Nat} {x y : Value} (h : TwoV w b x y) (hb : Below w.heap.size w w') : TwoV w' b x y :=
  ⟨(hb.cell (World.block_lt_of_cell? w _ h.1)).trans h.1, (hb.cell (World.block_lt_of_cell? w _ h.2)).trans h.2⟩
theorem twoV_new (w : World) (x y : Value) (t : TypeId) : TwoV (w.alloc (.cells #[x, y] t)) w.heap.size x y := ⟨new_cell w _ _ 0 _ rfl, new_cell w _ _ 1 _ rfl⟩
end Go.Proofs.YtfjamdpgbbnmcaaGreatDoor
/-
  What the reference's unlike and from of layer 7 answer: what is wrong with a transaction's writes (So.phase 1), and whose a value is (So.fromR); what was in memory stays as it was.
  Conditions: at most 32 transactions, a row of ops has at most 2^32 elements; from: keys are 0 to 15, and what was committed may be looked at.
-/
set_option maxRecDepth 4000
namespace Go.Proofs.YtfjamdpgbbnmcaaGreatDoor
open Go.RowKit

theorem phase1 (l : List Gr.Tx) (m : Nat) (hm : m < l.length) : So.phase l 1 m = So.unlikeR ((l.take m).flatMap (·.ops)) l[m].ops := by rw [So.phase_at l 1 m hm]; simp [So.phaseT]
theorem times_cap (key v : Int) (l : List Gr.Tx) (ho : ∀ t ∈ l, t.ops.length ≤ 4294967296) (q : Nat) (hq : q ≤ l.length) : So.times key v ((l.take q).flatMap (·.ops)) ≤ q * 4294967296 := by
  induction q with
  | zero => simp [So.times]
  | succ q ih =>
    rw [So.times_flat key v l q (by omega)]
    have h1 := ih (by omega)
    have h2 := So.times_le key v (l[q]'(by omega)).ops
    have h3 := ho (l[q]'(by omega)) (List.getElem_mem _)
    omega
set_option maxHeartbeats 2000000 in
theorem rUnlike_at (l : List Gr.Tx) (v : Value) (m : Nat) (w : World) (hv : Txs w v l) (hm : m < l.length) (hl : l.length ≤ 32) (ho : ∀ t ∈ l, t.ops.length ≤ 4294967296) : Calls Tryz.prog 37 #[v, .int .i64 (m : Int)] w fun e w' => e = .returned (.int .i64 (So.phase l 1 m)) ∧ Below w.heap.size w w' := by
  obtain ⟨A, c, rfl, hform⟩ := hv.spelled
  have HF := Lib.hid hform
  have HO := Lib.hid ho
  have HCAP := Lib.hid (fun key v => times_cap key v l ho)
  have HFL := Lib.hid (fun key v => So.times_flat key v l)
  obtain ⟨ad, u, rfl, hblk, hT, hU⟩ := hform m hm
  have HP := Lib.hid (phase1 l m hm)
  obtain ⟨t, ht⟩ : ∃ t, t = l[m]'hm := ⟨_, rfl⟩
  have hol : t.ops.length ≤ 4294967296 := by rw [ht]; exact ho _ (List.getElem_mem _)
  rw [← ht] at hT hU HP
  obtain ⟨Au, cu, rfl, hev⟩ := hU.spelled
  have HT := Lib.hid hT
  have HU := Lib.hid hU
  have HE := Lib.hid hev
  have hm0 : (0 : Int) ≤ (m : Int) := by omega
  have hm1 : (m : Int) < (l.length : Int) := by omega
  clear hform hv ho hT hU hev ht
  go_enter Tryz.func37, Tryz.ntmps37
  go_wp2
  go_loopw [5] (fun i wr => ∃ k : Nat, k ≤ t.ops.length ∧ i = .int .i64 k ∧ Hid (So.phase l 1 m = So.unlikeR ((l.take m).flatMap (·.ops) ++ t.ops.take k) (t.ops.drop k)) ∧ Below w.heap.size w wr) (fun i _ => t.ops.length - (intOf i).toNat)
  case atStart => exact ⟨0, Nat.zero_le _, rfl, by rw [Hid, HP.out]; simp, Below.refl _ _⟩
  case round =>
    obtain ⟨k, hk, rfl, hun, hb⟩ := hrel
    have HB := Lib.hid hb
    obtain ⟨k0, k1, k2, k3⟩ := HT.out.below hblk hb
    clear hb
    by_cases hlt : k < t.ops.length
    · obtain ⟨ad2, rfl, hblk2, hE⟩ := HE.out k hlt
      have HST := Lib.hid (So.unlike_step ((l.take m).flatMap (·.ops)) t.ops k hlt)
      obtain ⟨x, hx⟩ : ∃ x, x = t.ops[k]'hlt := ⟨_, rfl⟩
      rw [← hx] at hE HST
      obtain ⟨e0, e1, e2, e3⟩ := hE.below hblk2 HB.out
      clear hE hx
      rcases So.opBad_cases ((l.take m).flatMap (·.ops) ++ t.ops.take k) x with ⟨hk2, hbad⟩ | ⟨hk2, ⟨hv0, hbad⟩ | ⟨hv0, hrest⟩⟩
      · have q2 : (x.kind != 2) = true := by rw [bne_iff_ne]; exact hk2
        have HN : Hid (So.phase l 1 m = So.unlikeR ((l.take m).flatMap (·.ops) ++ t.ops.take (k + 1)) (t.ops.drop (k + 1))) := by rw [Hid, hun.out, HST.out, if_neg (by rw [hbad]; decide)]
        clear hk2 hbad
        go_wp2_with fail
        go_roundw
        case rel => exact ⟨k + 1, by omega, by go_num, HN, below_all HB.out (alloc_below _ _)⟩
        case measure => simp [intOf]; omega
      · have q2 : (x.kind != 2) = false := by rw [hk2]; rfl
        have q0 : (x.value == 0) = true := by rw [hv0]; rfl
        have HR : Hid (So.phase l 1 m = 7) := by rw [Hid, hun.out, HST.out, if_pos (by rw [hbad]; decide), hbad]
        clear hk2 hbad hv0
        go_wp2_with fail
        go_ret
        exact ⟨ret_int HR.out.symm, below_all HB.out (alloc_below _ _)⟩
      · have q2 : (x.kind != 2) = false := by rw [hk2]; rfl
        have q0 : (x.value == 0) = false := by rw [beq_eq_false_iff_ne]; exact hv0
        have HRS := Lib.hid hrest
        have HB1 := Lib.hid (below_all HB.out (alloc_below wr (.cells #[.int .i64 x.kind, .int .i64 x.session, .int .i64 x.key, .int .i64 x.value] 74)))
        have HX1 := Lib.hid (four_new wr (.int .i64 x.kind) (.int .i64 x.session) (.int .i64 x.key) (.int .i64 x.value) 74)
        have HS1 : Hid (wr.heap.size < (wr.alloc (.cells #[.int .i64 x.kind, .int .i64 x.session, .int .i64 x.key, .int .i64 x.value] 74)).heap.size) := by simp [Hid]
        clear hk2 hv0 hrest k0 k1 k2
        go_wp2_with fail
        obtain ⟨n1, hn1⟩ : ∃ n1, n1 = wr.heap.size := ⟨_, rfl⟩
        rw [← hn1] at HX1 HS1 ⊢
        generalize wr.alloc (.cells #[.int .i64 x.kind, .int .i64 x.session, .int .i64 x.key, .int .i64 x.value] 74) = W1 at *
        clear hn1 e0 e1 e2 e3 k3
        obtain ⟨k0, k1, k2, k3⟩ := HT.out.below hblk HB1.out
        obtain ⟨x0, x1, x2, x3⟩ := HX1.out
        go_still_tail 9, (by kernel_rfl)
        change wpList _ _ _ _ _ W1.drew
        have HU2 := Lib.hid ((HU.out.below HB1.out).below ((Below.refl _ W1).drew))
        have HB2 := Lib.hid (below_all HB1.out ((Below.refl _ W1).drew))
        have HX2 := Lib.hid (HX1.out.below HS1.out ((Below.refl _ W1).drew))
        have HS2 : Hid (n1 < W1.drew.heap.size) := HS1.out
        clear k0 k1 k2 k3 x0 x1 x2 x3 HX1 HB1 HS1
        generalize W1.drew = W2 at *
        have ht1 : So.times x.key x.value (t.ops.take k) ≤ 4294967296 := Nat.le_trans (So.times_le _ _ _) (by rw [List.length_take]; omega)
        go_wp2_with (go_at_call 62; refine (rWrites_at t _ k x.key x.value _ HU2.out (by omega) hol).mono ?_; rintro e w3 ⟨rfl, hb3⟩; have HB3 := Lib.hid (below_all HB2.out hb3); have HX3 := Lib.hid (HX2.out.below HS2.out hb3); have HS3 : Hid (n1 < w3.heap.size) := (Nat.lt_of_lt_of_le HS2.out hb3.size); clear hb3)
        clear HU2 HB2 HX2 HS2
        obtain ⟨T1, hT1⟩ : ∃ T1, T1 = So.times x.key x.value (t.ops.take k) := ⟨_, rfl⟩
        rw [← hT1] at ht1 ⊢
        have HT1 := Lib.hid hT1
        clear hT1
        go_loopw [7, 8] (fun s7 s8 wx => ∃ (q n : Nat), q ≤ m ∧ s8 = .int .i64 q ∧ s7 = .int .i64 n ∧ Hid (n = T1 + So.times x.key x.value ((l.take q).flatMap (·.ops))) ∧ Four wx n1 (.int .i64 x.kind) (.int .i64 x.session) (.int .i64 x.key) (.int .i64 x.value) ∧ Hid (n1 < wx.heap.size) ∧ Below w.heap.size w wx) (fun _ i _ => m - (intOf i).toNat)
        case atStart => exact ⟨0, T1, Nat.zero_le _, rfl, rfl, by simp [Hid, So.times], HX3.out, HS3, HB3.out⟩
        case round =>
          clear HX3 HS3 HB3
          obtain ⟨q, n, hq, rfl, rfl, hn, hx, hs, hb⟩ := hrel
          have HB := Lib.hid hb
          have HX := Lib.hid hx
          clear hb
          have hcap := HCAP.out x.key x.value q (by omega)
          have hnle : n ≤ (q + 1) * 4294967296 := by rw [hn.out]; omega
          have hn33 : n ≤ 141733920768 := by omega
          clear hnle
          by_cases hqm : q < m
          · have hql : q < l.length := by omega
            obtain ⟨_, u', ead, hblk', hT', hU'⟩ := HF.out q hql
            cases ead
            have HFLQ := Lib.hid (HFL.out x.key x.value q hql)
            have HOQ := HO.out _ (List.getElem_mem hql)
            generalize l[q]'hql = t' at *
            obtain ⟨Au', cu', rfl, _⟩ := hU'.spelled
            obtain ⟨k0, k1, k2, k3⟩ := hT'.below hblk' HB.out
            obtain ⟨x0, x1, x2, x3⟩ := hx
            have hq0 : (0 : Int) ≤ (q : Int) := by omega
            have hq1 : (q : Int) < (l.length : Int) := by omega
            have HU4 := Lib.hid ((hU'.below HB.out).below ((Below.refl _ wr).drew))
            have HB4 := Lib.hid (below_all HB.out ((Below.refl _ wr).drew))
            have HX4 := Lib.hid (HX.out.below hs.out ((Below.refl _ wr).drew))
            have HS4 : Hid (n1 < wr.drew.heap.size) := hs.out
            have htq : So.times x.key x.value t'.ops ≤ 4294967296 := Nat.le_trans (So.times_le _ _ _) HOQ
            have hbsz := Lib.hid HB.out.size
            obtain ⟨T2, hT2⟩ : ∃ T2, T2 = So.times x.key x.value t'.ops := ⟨_, rfl⟩
            have HT2 := Lib.hid hT2
            rw [← hT2] at htq
            clear hT' hU' HB HX hs hT2
            go_wp2_with fail
            have HK : Hid (TxIn wr ad q t' (.slice Au' t'.ops.length cu')) := ⟨k0, k1, k2, k3⟩
            have hbw : ad.block < wr.heap.size := Nat.lt_of_lt_of_le hblk' hbsz.out
            go_region_held3 (fun w' => (w'.cell? (ad.add (q * 4)) = some (.int .i64 t'.session) ∧ w'.cell? ⟨(ad.add (q * 4)).block, (ad.add (q * 4)).off + 1, none⟩ = some (.bool t'.done) ∧ w'.cell? ⟨(ad.add (q * 4)).block, (ad.add (q * 4)).off + 2, none⟩ = some (.int .i64 t'.first) ∧ w'.cell? ⟨(ad.add (q * 4)).block, (ad.add (q * 4)).off + 3, none⟩ = some (.slice Au' t'.ops.length cu')) ∧ w'.cell? ⟨n1, 2, none⟩ = some (.int .i64 x.key) ∧ w'.cell? ⟨n1, 3, none⟩ = some (.int .i64 x.value))
              (first | (exact ⟨⟨k0, k1, k2, k3⟩, x2, x3⟩) | (exact ⟨HK.out.on hbw HB6.out, HX5.out.2.2.1, HX5.out.2.2.2⟩))
              (first | (go_at_call 62; (with_reducible refine (rWrites_at t' _ t'.ops.length x.key x.value _ HU4.out (Nat.le_refl _) HOQ).mono ?_); rw [List.take_length, ← HT2.out]; rintro e w5 ⟨rfl, hb5⟩; have HB5 := Lib.hid (below_all HB4.out hb5); have HB6 := Lib.hid (below_all ((Below.refl _ wr).drew) hb5); have HX5 := Lib.hid (HX4.out.below HS4.out hb5); have HS5 : Hid (n1 < w5.heap.size) := (Nat.lt_of_lt_of_le HS4.out hb5.size); clear hb5))
            all_goals
              go_wp2_with fail
              go_roundw
              case rel =>
                refine ⟨q + 1, n + T2, by omega, by go_num, ?_, ?_, HX5.out, HS5, HB5.out⟩
                · exact congrArg (Value.int .i64) ((IntWalk.i64_in _ (by omega)).trans (by omega))
                · rw [Hid, HFLQ.out, HT2.out]
                  exact (congrArg (· + So.times x.key x.value t'.ops) hn.out).trans (Nat.add_assoc _ _ _)
              case measure => simp [intOf]; omega
          · obtain rfl : q = m := by omega
            have HTOT : Hid (n = So.times x.key x.value ((l.take q).flatMap (·.ops) ++ t.ops.take k)) := by rw [Hid, hn.out, So.times_append, HT1.out]; omega
            rcases HRS.out with ⟨hz, hbad⟩ | ⟨hz, hbad⟩
            · rw [← HTOT.out] at hz
              have p0 : decide ((0 : Int) < (n : Int)) = false := decide_eq_false (by omega)
              have p1 : decide (0 < n) = false := decide_eq_false (by omega)
              have HN : Hid (So.phase l 1 q = So.unlikeR ((l.take q).flatMap (·.ops) ++ t.ops.take (k + 1)) (t.ops.drop (k + 1))) := by rw [Hid, hun.out, HST.out, if_neg (by rw [hbad]; decide)]
              clear hz hbad
              go_wp2_with fail
              go_roundw
              case rel => exact ⟨k + 1, by omega, by go_num, HN, HB.out⟩
              case measure => simp [intOf]; omega
            · rw [← HTOT.out] at hz
              have p0 : decide ((0 : Int) < (n : Int)) = true := decide_eq_true (by omega)
              have p1 : decide (0 < n) = true := decide_eq_true (by omega)
              have HR : Hid (So.phase l 1 q = 8) := by rw [Hid, hun.out, HST.out, if_pos (by rw [hbad]; decide), hbad]
              clear hz hbad
              go_wp2_with fail
              go_ret
              exact ⟨ret_int HR.out.symm, HB.out⟩
    · have HR : Hid (So.phase l 1 m = 0) := by rw [Hid, hun.out, So.unlike_end _ _ _ (by omega)]
      go_wp2_with fail
      go_ret
      exact ⟨ret_int HR.out.symm, HB.out⟩
end Go.Proofs.YtfjamdpgbbnmcaaGreatDoor
/-
  What the reference's from of layer 7 answers: whose a value is (So.fromR); what was in memory stays as it was.
  Conditions: at most 32 transactions, a row of ops has at most 2^32 elements; the key is 0 to 15, and what was committed may be looked at.
-/
set_option maxRecDepth 4000
namespace Go.Proofs.YtfjamdpgbbnmcaaGreatDoor
open Go.RowKit

theorem from_at (l : List Gr.Tx) (y : Int × Int) (h0 : y.2 ≠ 0) (m : Nat) (hm : m < l.length) (hno : ∀ a (ha : a < l.length), a < m → So.wrote y.1 y.2 l[a].ops = false) (hw : So.wrote y.1 y.2 l[m].ops = true) :
    So.fromR l y = if l[m].done = false then (0, 13) else if In.lastOf 2 y.1 l[m].ops ≠ some y.2 then (0, 14) else ((((l.take m).filter (·.done)).length : Int), 0) := by
  rw [So.fromR, if_neg h0, So.from_number y.1 y.2 l m (by omega) hno, So.from_hit _ _ _ _ _ hm hw]
theorem from_none (l : List Gr.Tx) (y : Int × Int) (h0 : y.2 ≠ 0) (hno : ∀ a (ha : a < l.length), a < l.length → So.wrote y.1 y.2 l[a].ops = false) : So.fromR l y = (0, 12) := by
  rw [So.fromR, if_neg h0, So.from_number y.1 y.2 l l.length (Nat.le_refl _) hno, So.from_end _ _ _ _ _ (Nat.le_refl _)]
theorem key_parts (z y : Int × Int) : ((z.1 == y.1) = false ∧ Hid (¬ (z.1 = y.1 ∧ z.2 ≠ y.2))) ∨ (z.1 == y.1) = true ∧ (((z.2 != y.2) = false ∧ Hid (¬ (z.1 = y.1 ∧ z.2 ≠ y.2))) ∨ (z.2 != y.2) = true ∧ Hid (z.1 = y.1 ∧ z.2 ≠ y.2)) := by
  unfold Hid
  by_cases h1 : z.1 = y.1
  · refine .inr ⟨beq_iff_eq.2 h1, ?_⟩
    by_cases h2 : z.2 = y.2
    · exact .inl ⟨by rw [h2]; simp, fun q => q.2 h2⟩
    · exact .inr ⟨by rw [bne_iff_ne]; exact h2, h1, h2⟩
  · exact .inl ⟨beq_eq_false_iff_ne.2 h1, fun q => h1 q.1⟩
set_option maxHeartbeats 2000000 in
theorem rFrom_at (l : List Gr.Tx) (v : Value) (y : Int × Int) (w : World) (hv : Txs w v l) (hl : l.length ≤ 32) (ho : ∀ t ∈ l, t.ops.length ≤ 4294967296) (hc : So.Clean l 2) (j : Nat) (hj : j < 16) (hy : y.1 = (j : Int)) : Calls Tryz.prog 65 #[v, .int .i64 y.1, .int .i64 y.2] w (RetTwo w (So.fromR l y)) := by
  obtain ⟨A, c, rfl, hform⟩ := hv.spelled
  have HF := Lib.hid hform
  have HO := Lib.hid ho
  have HV := Lib.hid hv
  have HY := Lib.hid hy
  have HC := Lib.hid ((So.clean_look l).1 hc)
  clear hform hv ho hc hy
  go_enter Tryz.func65, Tryz.ntmps65
  by_cases h0 : y.2 = 0
  · have q0 : (y.2 == 0) = true := by rw [h0]; rfl
    have HR : Hid (So.fromR l y = (-1, 0)) := by rw [Hid, So.fromR, if_pos h0]
    clear h0
    go_wp2_with fail
    go_ret2
    exact RetTwo.mk HR.out (Below.refl _ _)
  have q0 : (y.2 == 0) = false := by rw [beq_eq_false_iff_ne]; exact h0
  have H0 := Lib.hid h0
  clear h0
  go_wp2_with fail
  go_loopw [8] (fun i wr => ∃ k : Nat, k ≤ l.length ∧ i = .int .i64 k ∧ Hid (∀ a (ha : a < l.length), a < k → So.wrote y.1 y.2 l[a].ops = false) ∧ Below w.heap.size w wr) (fun i _ => l.length - (intOf i).toNat)
  case atStart => exact ⟨0, Nat.zero_le _, rfl, (fun a _ h => absurd h (by omega)), Below.refl _ _⟩
  case round =>
    obtain ⟨k, hk, rfl, hno, hb⟩ := hrel
    have HB := Lib.hid hb
    clear hb
    by_cases hlt : k < l.length
    · obtain ⟨ad, u, rfl, hblk, hT, hU⟩ := HF.out k hlt
      have HFR := Lib.hid (from_at l y H0.out k hlt hno.out)
      have HNX : Hid (So.wrote y.1 y.2 (l[k]'hlt).ops = false → ∀ a (ha : a < l.length), a < k + 1 → So.wrote y.1 y.2 l[a].ops = false) := fun h a ha hak => by
        by_cases e : a = k
        · subst e; exact h
        · exact hno.out a ha (by omega)
      have HCK := Lib.hid (HC.out _ (List.getElem_mem hlt))
      have hol := HO.out _ (List.getElem_mem hlt)
      obtain ⟨t, ht⟩ : ∃ t, t = l[k]'hlt := ⟨_, rfl⟩
      rw [← ht] at hT hU HFR HNX HCK hol
      obtain ⟨Au, cu, rfl, _⟩ := hU.spelled
      have HT := Lib.hid hT
      have HU := Lib.hid hU
      obtain ⟨k0, k1, k2, k3⟩ := hT.below hblk HB.out
      have hk0 : (0 : Int) ≤ (k : Int) := by omega
      have hk1 : (k : Int) < (l.length : Int) := by omega
      clear hT hU ht
      go_wp2_with fail
      go_still_tail 12, (by kernel_rfl)
      change wpList _ _ _ _ _ wr.drew
      have HU2 := Lib.hid ((HU.out.below HB.out).below ((Below.refl _ wr).drew))
      have HB2 := Lib.hid (below_all HB.out ((Below.refl _ wr).drew))
      clear k0 k1 k2 k3 HB
      generalize wr.drew = W2 at *
      have htm := So.times_le y.1 y.2 t.ops
      cases hw : So.wrote y.1 y.2 t.ops with
      | false =>
        have HZ := Lib.hid ((So.times_zero _ _ _).2 hw)
        have HN := Lib.hid (HNX.out hw)
        clear hw
        go_wp2_with (go_at_call 62; refine (rWrites_at t _ t.ops.length y.1 y.2 _ HU2.out (Nat.le_refl _) hol).mono ?_; rw [List.take_length, HZ.out]; rintro e w3 ⟨rfl, hb3⟩; have HB3 := Lib.hid (below_all HB2.out hb3); clear hb3)
        go_roundw
        case rel => exact ⟨k + 1, by omega, by go_num, HN, HB3.out⟩
        case measure => simp [intOf]; omega
      | true =>
        have HF2 := Lib.hid (HFR.out hw)
        have HMI := Lib.hid (So.middle_iff t.ops j hj y.2 (by rw [← HY.out]; exact hw))
        have hnz : 0 < So.times y.1 y.2 t.ops := Nat.pos_of_ne_zero fun e => by
          rw [(So.times_zero _ _ _).1 e] at hw
          cases hw
        obtain ⟨T, hT⟩ : ∃ T, T = So.times y.1 y.2 t.ops := ⟨_, rfl⟩
        rw [← hT] at hnz htm
        have HTT := Lib.hid hT
        have qz : ((T : Int) == 0) = false := by rw [beq_eq_false_iff_ne]; omega
        have qz2 : (T == 0) = false := by rw [beq_eq_false_iff_ne]; omega
        clear hw hT HNX
        by_cases hd : t.done = false
        · have HD := Lib.hid hd
          have HR : Hid (So.fromR l y = (0, 13)) := by rw [Hid, HF2.out, if_pos hd]
          clear hd
          go_wp2_with (go_at_call 62; refine (rWrites_at t _ t.ops.length y.1 y.2 _ HU2.out (Nat.le_refl _) hol).mono ?_; rw [List.take_length, ← HTT.out]; rintro e w3 ⟨rfl, hb3⟩; have HB3 := Lib.hid (below_all HB2.out hb3); obtain ⟨k0, k1, k2, k3⟩ := HT.out.below hblk HB3.out; rw [HD.out] at k1; clear hb3)
          go_ret2
          exact RetTwo.mk HR.out HB3.out
        · have HD : Hid (t.done = true) := by rw [Hid]; simpa using hd
          have HG2 : Hid (So.fromR l y = if In.lastOf 2 y.1 t.ops ≠ some y.2 then (0, 14) else ((((l.take k).filter (·.done)).length : Int), 0)) := by rw [Hid, HF2.out, if_neg hd]
          have HGD := Lib.hid (good_of_zero t.ops (HCK.out HD.out))
          clear hd
          go_wp2_with (go_at_call 62; refine (rWrites_at t _ t.ops.length y.1 y.2 _ HU2.out (Nat.le_refl _) hol).mono ?_; rw [List.take_length, ← HTT.out]; rintro e w3 ⟨rfl, hb3⟩; have HB3 := Lib.hid (below_all HB2.out hb3); have HU3 := Lib.hid (HU2.out.below hb3); obtain ⟨k0, k1, k2, k3⟩ := HT.out.below hblk HB3.out; rw [HD.out] at k1; clear hb3)
          refine (rLook_at t.ops _ _ HU3.out hol).mono ?_
          rintro e w4 ⟨fx, fy, rfl, hx4, hy4, hb4⟩
          rw [HGD.out] at hx4 hy4 ⊢
          dsimp only at hx4 hy4 ⊢
          obtain ⟨Ax, cx, rfl, _⟩ := hx4.spelled
          obtain ⟨Ay, cy, rfl, hys⟩ := hy4.spelled
          have HYS := Lib.hid hys
          have hwl := In.writes_len t.ops 16
          have HB4 := Lib.hid (below_all HB3.out hb4)
          have HX4 := Lib.hid (twoV_new w4 (.slice Ax (In.readsTo t.ops 16).length cx) (.slice Ay (In.writesTo t.ops 16).length cy) 84)
          have HW4 := Lib.hid (alloc_below w4 (.cells #[.slice Ax (In.readsTo t.ops 16).length cx, .slice Ay (In.writesTo t.ops 16).length cy] 84))
          clear hx4 hy4 hb4 hys k0 k1 k2 k3 HB3 HU3 HU2 HB2
          go_wp2_with fail
          obtain ⟨n2, hn2⟩ : ∃ n2, n2 = w4.heap.size := ⟨_, rfl⟩
          rw [← hn2] at HX4 ⊢
          generalize w4.alloc (.cells #[.slice Ax (In.readsTo t.ops 16).length cx, .slice Ay (In.writesTo t.ops 16).length cy] 84) = W5 at *
          clear hn2
          generalize In.writesTo t.ops 16 = ws at *
          go_loopw [12] (fun i wx => ∃ q : Nat, q ≤ ws.length ∧ i = .int .i64 q ∧ Hid (∀ a (ha : a < ws.length), a < q → ¬ (ws[a].1 = y.1 ∧ ws[a].2 ≠ y.2)) ∧ W5 = wx) (fun i _ => ws.length - (intOf i).toNat)
          case atStart => exact ⟨0, Nat.zero_le _, rfl, (fun a _ h => absurd h (by omega)), rfl⟩
          case round =>
            obtain ⟨q, hq, rfl, hmiss, rfl⟩ := hrel
            obtain ⟨x0, x1⟩ := HX4.out
            by_cases hqt : q < ws.length
            · obtain ⟨ad5, rfl, hblk5, hI⟩ := HYS.out q hqt
              obtain ⟨c0, c1⟩ := hI.below hblk5 HW4.out
              have HHIT : Hid ((ws[q]'hqt).1 = y.1 ∧ (ws[q]'hqt).2 ≠ y.2 → So.fromR l y = (0, 14)) := fun h => by
                rw [HG2.out, if_pos]
                rw [HY.out]
                exact HMI.out.1 ⟨ws[q]'hqt, List.getElem_mem _, by rw [← HY.out]; exact h.1, h.2⟩
              have HSTEP : Hid (¬ ((ws[q]'hqt).1 = y.1 ∧ (ws[q]'hqt).2 ≠ y.2) → ∀ a (ha : a < ws.length), a < q + 1 → ¬ (ws[a].1 = y.1 ∧ ws[a].2 ≠ y.2)) := fun h a ha haq => by
                by_cases e : a = q
                · subst e; exact h
                · exact hmiss.out a ha (by omega)
              have key := key_parts (ws[q]'hqt) y
              generalize ws[q]'hqt = z at *
              clear hI
              rcases key with ⟨p1, hz⟩ | ⟨p1, ⟨p2, hz⟩ | ⟨p2, hz⟩⟩
              · have HN := Lib.hid (HSTEP.out hz.out)
                go_wp2_with fail
                go_roundw
                case rel => exact ⟨q + 1, by omega, by go_num, HN, trivial⟩
                case measure => simp [intOf]; omega
              · have HN := Lib.hid (HSTEP.out hz.out)
                go_wp2_with fail
                go_roundw
                case rel => exact ⟨q + 1, by omega, by go_num, HN, trivial⟩
                case measure => simp [intOf]; omega
              · have HR := Lib.hid (HHIT.out hz.out)
                go_wp2_with fail
                go_ret2
                exact RetTwo.mk HR.out (below_all HB4.out HW4.out)
            · have HR : Hid (So.fromR l y = ((((l.take k).filter (·.done)).length : Int), 0)) := by
                rw [Hid, HG2.out, if_neg]
                intro hne
                rw [HY.out] at hne
                obtain ⟨z, hzm, hz1, hz2⟩ := HMI.out.2 hne
                obtain ⟨a, ha, rfl⟩ := List.getElem_of_mem hzm
                exact hmiss.out a ha (by omega) ⟨by rw [HY.out]; exact hz1, hz2⟩
              have HVV := Lib.hid (HV.out.below (below_all HB4.out HW4.out))
              go_wp2_with fail
              refine (rNumber_at l _ k _ HVV.out (by omega) (by omega)).mono ?_
              rintro e w6 ⟨rfl, rfl⟩
              go_wp2_with fail
              go_ret2
              exact RetTwo.mk HR.out (below_all HB4.out HW4.out)
    · have HR := Lib.hid (from_none l y H0.out (fun a ha _ => hno.out a ha (by omega)))
      go_wp2_with fail
      go_ret2
      exact RetTwo.mk HR.out HB.out
end Go.Proofs.YtfjamdpgbbnmcaaGreatDoor
/-
  What the reference's one of layer 7 answers: a committed transaction, as a history has it (So.txnOf), or the first error of its reads; what was in memory stays as it was.
  Conditions: at most 32 transactions, a row of ops has at most 2^32 elements; the ops may be, and what was committed may be looked at.
-/
set_option maxRecDepth 4000
namespace Go.Proofs.YtfjamdpgbbnmcaaGreatDoor
open Go.RowKit

theorem three_get {w : World} {b : Nat} {x0 x1 x2 : Value} {t : TypeId} (h : w.heap[b]? = some (.cells #[x0, x1, x2] t (0, 0))) : (w.cell? ⟨b, 0, none⟩ = some x0 ∧ w.cell? ⟨b, 1, none⟩ = some x1 ∧ w.cell? ⟨b, 2, none⟩ = some x2) ∧ ∀ k, w.frozen? ⟨b, k, none⟩ = false := by
  refine ⟨⟨?_, ?_, ?_⟩, fun k => ?_⟩
  · simp [World.cell?, h]
  · simp [World.cell?, h]
  · simp [World.cell?, h]
  · simp [World.frozen?, h]
theorem three_set {w : World} {b : Nat} {x0 x1 x2 : Value} {t : TypeId} (h : w.heap[b]? = some (.cells #[x0, x1, x2] t (0, 0))) (y0 y1 y2 : Value) : (((w.setCell ⟨b, 0, none⟩ y0).setCell ⟨b, 1, none⟩ y1).setCell ⟨b, 2, none⟩ y2).heap[b]? = some (.cells #[y0, y1, y2] t (0, 0)) := by
  simp [World.setCell, Array.getElem?_modify, h]
theorem three_one {w : World} {b : Nat} {x0 x1 x2 : Value} {t : TypeId} (h : w.heap[b]? = some (.cells #[x0, x1, x2] t (0, 0))) (y : Value) : (w.setCell ⟨b, 1, none⟩ y).heap[b]? = some (.cells #[x0, y, x2] t (0, 0)) ∧ (w.setCell ⟨b, 2, none⟩ y).heap[b]? = some (.cells #[x0, x1, y] t (0, 0)) := by
  simp [World.setCell, Array.getElem?_modify, h]
/-- While one fills its variable, which lies at W's end. -/
structure OneMid (W wx : World) (s : Int) (ks : List Int) (ys : List (Int × Int)) (kv rv : Value) : Prop where
  cell : wx.heap[W.heap.size]? = some (.cells #[.int .i64 s, kv, rv] 38 (0, 0))
  writes : wx.ownsRow (W.heap.size + 1) 3 1 kv ks.length (ks.flatMap nC)
  reads : wx.ownsRow (W.heap.size + 1) 40 2 rv ys.length (ys.flatMap itC)
  below : Below W.heap.size W wx
section
variable {W wx w3 : World} {s : Int} {ks : List Int} {ys : List (Int × Int)} {kv rv v' : Value}
theorem OneMid.later (h : OneMid W wx s ks ys kv rv) (hb : Below wx.heap.size wx w3) : OneMid W w3 s ks ys kv rv :=
  ⟨(hb.block _ (lt_of_block h.cell)).trans h.cell, own_below h.writes hb, own_below h.reads hb, below_all h.below hb⟩
theorem one_start (W : World) (s : Int) : OneMid W (W.alloc (.cells #[.int .i64 s, .slice none 0 0, .slice none 0 0] 38)) s [] [] (.slice none 0 0) (.slice none 0 0) :=
  ⟨heap_alloc_new _ _, World.ownsRow_nil _ _ _ _, World.ownsRow_nil _ _ _ _, alloc_below _ _⟩
theorem OneMid.ready (h : OneMid W wx s ks ys kv rv) (o : Obj) : OneMid W ((wx.alloc o).drewN 1) s ks ys kv rv ∧
    (∀ w2, ((wx.alloc o).drewN 1).grownBy w2 kv.ownBlock → w2.cell? ⟨W.heap.size, 1, none⟩ = some kv ∧ w2.frozen? ⟨W.heap.size, 1, none⟩ = false) ∧ (∀ w2, ((wx.alloc o).drewN 1).grownBy w2 rv.ownBlock → w2.cell? ⟨W.heap.size, 2, none⟩ = some rv ∧ w2.frozen? ⟨W.heap.size, 2, none⟩ = false) := by
  have h2 : OneMid W ((wx.alloc o).drewN 1) s ks ys kv rv := (h.later (alloc_below wx o)).later (drewN_below _ 1)
  refine ⟨h2, fun w2 hg => ?_, fun w2 hg => ?_⟩
  · have := three_get ((hg.block _ (lt_of_block h2.cell) (fun e => own_above h2.writes e.symm)).trans h2.cell)
    exact ⟨this.1.2.1, this.2 1⟩
  · have := three_get ((hg.block _ (lt_of_block h2.cell) (fun e => own_above h2.reads e.symm)).trans h2.cell)
    exact ⟨this.1.2.2, this.2 2⟩
theorem OneMid.addWrite (h : OneMid W wx s ks ys kv rv) (n : Int) (hrow : w3.ownsRow (W.heap.size + 1) 3 1 v' (ks.length + 1) (ks.flatMap nC ++ nC n)) (hg : wx.grownBy w3 kv.ownBlock) : OneMid W (w3.setCell ⟨W.heap.size, 1, none⟩ v') s (ks ++ [n]) ys v' rv := by
  have hc := (hg.block _ (lt_of_block h.cell) (fun e => own_above h.writes e.symm)).trans h.cell
  refine ⟨(three_one hc v').1, ownsRow_setCell_below (Rows'.own_snoc hrow) (by show W.heap.size < W.heap.size + 1; omega) _, ownsRow_setCell_below (h.reads.kept hg (own_types h.reads h.writes (by decide))) (by show W.heap.size < W.heap.size + 1; omega) _, ?_⟩
  exact (h.below.grown hg h.below.size (fun j hj => by have := (h.writes.lt j hj).1; omega)).setCell (Nat.le_refl _) _
theorem OneMid.addRead (h : OneMid W wx s ks ys kv rv) (y : Int × Int) (hrow : w3.ownsRow (W.heap.size + 1) 40 2 v' (ys.length + 1) (ys.flatMap itC ++ itC y)) (hg : wx.grownBy w3 rv.ownBlock) : OneMid W (w3.setCell ⟨W.heap.size, 2, none⟩ v') s ks (ys ++ [y]) kv v' := by
  have hc := (hg.block _ (lt_of_block h.cell) (fun e => own_above h.reads e.symm)).trans h.cell
  refine ⟨(three_one hc v').2, ownsRow_setCell_below (h.writes.kept hg (own_types h.writes h.reads (by decide))) (by show W.heap.size < W.heap.size + 1; omega) _, ownsRow_setCell_below (Rows'.own_snoc hrow) (by show W.heap.size < W.heap.size + 1; omega) _, ?_⟩
  exact (h.below.grown hg h.below.size (fun j hj => by have := (h.reads.lt j hj).1; omega)).setCell (Nat.le_refl _) _
end
/-- A transaction of a history, and an error: where there is none its rows are in memory of the call's own. -/
def RetTxn (w : World) (t : So.Txn) (q : Int) (e : Ending) (w' : World) : Prop := ∃ (s : Int) (A : Option Addr) (n c : Nat) (A' : Option Addr) (n' c' : Nat), e = .returned (.tuple #[.agg #[.int .i64 s, .slice A n c, .slice A' n' c'], .int .i64 q]) ∧
  (q = 0 → s = t.session ∧ w'.ownsRow w.heap.size 3 1 (.slice A n c) t.writes.length (t.writes.flatMap nC) ∧ w'.ownsRow w.heap.size 40 2 (.slice A' n' c') t.reads.length (t.reads.flatMap itC)) ∧ Below w.heap.size w w'
theorem results_one (X : World) (b : Nat) (tmps : Array Value) (x0 x1 x2 : Value) (q : Int) (hp : tmps.getD 4 undef = .pointer (some ⟨b, 0, none⟩)) (hq : tmps.getD 5 undef = .int .i64 q) (h0 : X.cell? ⟨b, 0, none⟩ = some x0) (h1 : X.cell? ⟨b, 1, none⟩ = some x1) (h2 : X.cell? ⟨b, 2, none⟩ = some x2) :
    (results Tryz.f39 tmps).run Tryz.prog X = .ok (.tuple #[.agg #[x0, x1, x2], .int .i64 q]) X := by
  rw [Array.getD_eq_getD_getElem?] at hp hq
  simp [results, Tryz.results39, hp, hq, asAddr, go_sem, h0, h1, h2]
theorem end_one {w X : World} {t : So.Txn} {q : Int} (tmps : Array Value) (b : Nat) (s : Int) (A : Option Addr) (n c : Nat) (A' : Option Addr) (n' c' : Nat) (hres : X.heap[b]? = some (.cells #[.int .i64 s, .slice A n c, .slice A' n' c'] 38 (0, 0)))
    (hf : q = 0 → s = t.session ∧ X.ownsRow w.heap.size 3 1 (.slice A n c) t.writes.length (t.writes.flatMap nC) ∧ X.ownsRow w.heap.size 40 2 (.slice A' n' c') t.reads.length (t.reads.flatMap itC)) (hb : Below w.heap.size w X)
    (hp : tmps.getD 4 undef = .pointer (some ⟨b, 0, none⟩)) (hq : tmps.getD 5 undef = .int .i64 q) :
    bodyPost Tryz.prog Tryz.f39 (RetTxn w t q) Exit.ret { tmps := tmps, defers := [] } X := by
  obtain ⟨⟨h0, h1, h2⟩, _⟩ := three_get hres
  exact bodyPost_ret (results_one X b tmps _ _ _ q hp hq h0 h1 h2) rfl ⟨s, A, n, c, A', n', c', rfl, hf, hb⟩
theorem keys_take (ws : List (Int × Int)) (k : Nat) (hk : k < ws.length) : (ws.take (k + 1)).map (·.1) = (ws.take k).map (·.1) ++ [ws[k].1] := by rw [List.take_succ_eq_append_getElem hk, List.map_append]; rfl
set_option maxHeartbeats 4000000 in
theorem rOne7_at (l : List Gr.Tx) (v : Value) (m : Nat) (w : World) (hv : Txs w v l) (hm : m < l.length) (hl : l.length ≤ 32) (ho : ∀ t ∈ l, t.ops.length ≤ 4294967296) (hc0 : So.Clean l 0) (hc2 : So.Clean l 2) (hd : l[m].done = true) :
    Calls Tryz.prog 39 #[v, .int .i64 (m : Int)] w (RetTxn w (So.txnOf l l[m]) (So.readsErr l (In.readsTo l[m].ops 16))) := by
  obtain ⟨i0, hi0, hz0, hz1, hz2⟩ := info_parts int_info
  have I0 := Lib.hid hi0
  have I1 := Lib.hid hz0
  have I2 := Lib.hid hz1
  have I3 := Lib.hid hz2
  clear hi0 hz0 hz1 hz2
  obtain ⟨j0, hi0, hz0, hz1, hz2⟩ := info_parts take_info
  have J0 := Lib.hid hi0
  have J1 := Lib.hid hz0
  have J2 := Lib.hid hz1
  have J3 := Lib.hid hz2
  clear hi0 hz0 hz1 hz2
  have HV := Lib.hid hv
  have HO := Lib.hid ho
  have HC2 := Lib.hid hc2
  obtain ⟨A, c, rfl, hform⟩ := hv.spelled
  obtain ⟨ad, u, rfl, hblk, hT, hU⟩ := hform m hm
  have HGD := Lib.hid (good_of_zero _ ((So.clean_look l).1 hc2 _ (List.getElem_mem hm) hd))
  have HROK := Lib.hid (reads_ok _ ((So.mayT_iff _).1 ((So.clean_may l).1 hc0 _ (List.getElem_mem hm))).1)
  have hol := ho _ (List.getElem_mem hm)
  obtain ⟨t, ht⟩ : ∃ t, t = l[m]'hm := ⟨_, rfl⟩
  rw [← ht] at hT hU HGD HROK hol ⊢
  obtain ⟨Au, cu, rfl, _⟩ := hU.spelled
  have HT := Lib.hid hT
  have HB0 := Lib.hid (alloc_below w (.cells #[.int .i64 0, .slice none 0 0, .slice none 0 0] 38))
  have HRES := Lib.hid (heap_alloc_new w (.cells #[.int .i64 0, .slice none 0 0, .slice none 0 0] 38))
  have HU := Lib.hid (hU.below HB0.out)
  obtain ⟨k0, k1, k2, k3⟩ := hT.below hblk HB0.out
  have hm0 : (0 : Int) ≤ (m : Int) := by omega
  have hm1 : (m : Int) < (l.length : Int) := by omega
  rw [show So.txnOf l t = ⟨t.session, (In.writesTo t.ops 16).map (·.1), takesL l (In.readsTo t.ops 16)⟩ from rfl]
  have hrl := In.reads_len t.ops 16
  have hwl := In.writes_len t.ops 16
  generalize In.readsTo t.ops 16 = rs at *
  generalize In.writesTo t.ops 16 = ws at *
  clear hform hv ho hT hU ht hc0 hc2 hd
  go_enter Tryz.func39, Tryz.ntmps39
  go_wp2_with fail
  refine (rLook_at t.ops _ _ HU.out hol).mono ?_
  rintro e w1 ⟨fx, fy, rfl, hx, hy, hb1⟩
  rw [HGD.out] at hx hy ⊢
  dsimp only at hx hy ⊢
  obtain ⟨Ax, cx, rfl, hxs⟩ := hx.spelled
  obtain ⟨Ay, cy, rfl, hys⟩ := hy.spelled
  have HW1 := Lib.hid (alloc_below w1 (.cells #[.slice Ax rs.length cx, .slice Ay ws.length cy] 84))
  have HX1 := Lib.hid (twoV_new w1 (.slice Ax rs.length cx) (.slice Ay ws.length cy) 84)
  have HBW := Lib.hid (below_all (below_all HB0.out hb1) HW1.out)
  have HR1 : Hid ((w1.alloc (.cells #[.slice Ax rs.length cx, .slice Ay ws.length cy] 84)).heap[w.heap.size]? = some (.cells #[.int .i64 0, .slice none 0 0, .slice none 0 0] 38 (0, 0))) := ((below_all hb1 HW1.out).block _ (lt_of_block HRES.out)).trans HRES.out
  have HXS := Lib.hid hxs
  have HYS := Lib.hid hys
  obtain ⟨g0, g1, g2, g3⟩ := HT.out.below hblk HBW.out
  clear hx hy hxs hys hb1 HB0 HRES HU k0 k1 k2 k3
  go_wp2_with fail
  obtain ⟨b1, hb1⟩ : ∃ b1, b1 = w1.heap.size := ⟨_, rfl⟩
  have HSZ : Hid ((w1.alloc (.cells #[.slice Ax rs.length cx, .slice Ay ws.length cy] 84)).heap.size = b1 + 1) := by rw [Hid, hb1]; exact size_new _ _
  rw [← hb1] at HX1 ⊢
  generalize w1.alloc (.cells #[.slice Ax rs.length cx, .slice Ay ws.length cy] 84) = W at *
  have HST := Lib.hid (one_start W t.session)
  rw [← HSZ.out]
  have HXW := Lib.hid (fun wx (hb : Below W.heap.size W wx) => HX1.out.below hb)
  have HXI : Hid (∀ wx, Below W.heap.size W wx → ∀ (k : Nat) (hk : k < rs.length), ∃ ad : Addr, Ax = some ad ∧ ItIn wx ad k rs[k]) := fun wx hb k hk => by
    obtain ⟨a, e, hl, hi⟩ := HXS.out k hk
    exact ⟨a, e, hi.below hl (HW1.out.trans (hb.mono HW1.out.size))⟩
  have HYI : Hid (∀ wx, Below W.heap.size W wx → ∀ (k : Nat) (hk : k < ws.length), ∃ ad : Addr, Ay = some ad ∧ ItIn wx ad k ws[k]) := fun wx hb k hk => by
    obtain ⟨a, e, hl, hi⟩ := HYS.out k hk
    exact ⟨a, e, hi.below hl (HW1.out.trans (hb.mono HW1.out.size))⟩
  have HILT : Hid (∀ (k : Nat) (_ : k < rs.length), ∀ ad : Addr, Ax = some ad → ad.block < W.heap.size) := fun k hk ad e => by
    obtain ⟨a, e', hl, _⟩ := HXS.out k hk
    rw [e'] at e
    cases e
    exact Nat.lt_of_lt_of_le hl HW1.out.size
  clear hb1 HXS HYS HX1 g0 g1 g2 g3
  have hbW : b1 < W.heap.size := by have := HSZ.out; omega
  go_loopw [10] (fun i wx => ∃ (k : Nat) (kv : Value), k ≤ ws.length ∧ i = .int .i64 k ∧ OneMid W wx t.session ((ws.take k).map (·.1)) [] kv (.slice none 0 0)) (fun i _ => ws.length - (intOf i).toNat)
  case atStart => exact ⟨0, _, Nat.zero_le _, rfl, HST.out⟩
  case round =>
    clear HST
    obtain ⟨k, kv, hk, rfl, hmid⟩ := hrel
    have HM := Lib.hid hmid
    obtain ⟨⟨c0, c1, c2⟩, _⟩ := three_get hmid.cell
    obtain ⟨x0, x1⟩ := HXW.out _ hmid.below
    obtain ⟨AV, nV, cV, rfl⟩ := own_any hmid.writes
    clear hmid
    by_cases hlt : k < ws.length
    · obtain ⟨ad2, rfl, hI⟩ := HYI.out _ HM.out.below k hlt
      have HTK := Lib.hid (keys_take ws k hlt)
      have hkl : ((ws.take k).map (·.1)).length = k := by simp; omega
      obtain ⟨y0, y1⟩ := hI
      generalize ws[k]'hlt = z at *
      have HLK := Lib.hid hkl
      clear hkl
      generalize (ws.take k).map (·.1) = d at *
      have HRDY := Lib.hid (HM.out.ready (.cells #[.int .i64 z.1] 3))
      have e1 := cell_new c1 (.cells #[.int .i64 z.1] 3)
      have e2 := cell_new x1 (.cells #[.int .i64 z.1] 3)
      have e3 := cell_new y0 (.cells #[.int .i64 z.1] 3)
      have HN := Lib.hid (new_nC wr z.1 3)
      have HSW := Lib.hid (lt_of_block HM.out.cell)
      go_wp2_with fail
      go_region_law (refine step_append_lies _ rfl (.tmp 38) (.tmp 45) 35 rfl (W.heap.size + 1) 3 i0 _ 1 8 Tryz.underlying35 I0.out I1.out I2.out I3.out rfl (by decide) (.slice AV nV cV) d.length (d.flatMap nC) (by simp [Act.eval]) HRDY.out.1.writes ⟨wr.heap.size, 0, none⟩ 1 1 (nC z.1) (by simp [Act.eval]) rfl HN.out (one_nC _) (by decide) (by have := HLK.out; simp only [maxLen]; omega) (by have := HLK.out; omega) (by have := HSW.out; simp; omega) (wr.heap.size + 1) (by simp) ?_; intro g2 cap2 w2 hown2 hgrow2 hat2 hlt2; obtain ⟨f1, f2⟩ := HRDY.out.2.1 w2 hgrow2; have HN2 := Lib.hid (HRDY.out.1.addWrite z.1 hown2 hgrow2); clear hown2 hgrow2 hat2 hlt2)
      all_goals
        go_wp2_with fail
        go_roundw
        case rel => exact ⟨k + 1, _, by omega, by go_num, by rw [HTK.out]; exact HN2.out⟩
        case measure => simp [intOf]; omega
    · have HTA : Hid ((ws.take k).map (·.1) = ws.map (·.1)) := by rw [Hid, List.take_of_length_le (by omega)]
      have HMA := HM.out
      rw [HTA.out] at HMA
      have HM0 := Lib.hid HMA
      have HVW := Lib.hid (HV.out.below HBW.out)
      have hwW : w.heap.size < W.heap.size := lt_of_block HR1.out
      clear HM HMA HTA c0 c1 c2
      go_wp2_with fail
      clear hk hlt
      go_loopw [11] (fun i wx => ∃ (k : Nat) (rv : Value), k ≤ rs.length ∧ i = .int .i64 k ∧ Hid (So.readsErr l rs = So.readsErr l (rs.drop k)) ∧ OneMid W wx t.session (ws.map (·.1)) (takesL l (rs.take k)) (.slice AV nV cV) rv) (fun i _ => rs.length - (intOf i).toNat)
      case atStart => exact ⟨0, _, Nat.zero_le _, rfl, rfl, HM0.out⟩
      case round =>
        clear HM0 x0 x1
        rename_i k9
        obtain ⟨k, rv, hk, rfl, hre, hmid⟩ := hrel
        have HM := Lib.hid hmid
        obtain ⟨⟨c0, c1, c2⟩, _⟩ := three_get hmid.cell
        obtain ⟨x0, x1⟩ := HXW.out _ hmid.below
        obtain ⟨AR, nR, cR, rfl⟩ := own_any hmid.reads
        have HRR : Hid (wr.heap[w.heap.size]? = some (.cells #[.int .i64 0, .slice none 0 0, .slice none 0 0] 38 (0, 0))) := (hmid.below.block _ hwW).trans HR1.out
        clear hmid
        by_cases hlt : k < rs.length
        · obtain ⟨ad2, rfl, hI⟩ := HXI.out _ HM.out.below k hlt
          have HTK := Lib.hid (takesL_take l rs k hlt)
          have HLK := Lib.hid (takesL_len l rs k hk)
          have HST := Lib.hid (So.readsErr_step l rs k hlt)
          obtain ⟨⟨j, hj, hyj⟩, _⟩ := HROK.out _ (List.getElem_mem hlt)
          have HII := Lib.hid hI
          have hIlt := HILT.out k hlt ad2 rfl
          obtain ⟨y0, y1⟩ := hI
          generalize rs[k]'hlt = y at *
          generalize takesL l (rs.take k) = d at *
          have HYJ := Lib.hid hyj
          have HV2 := Lib.hid ((HVW.out.below HM.out.below).below ((Below.refl _ wr).drew))
          have HMD := Lib.hid (HM.out.later ((Below.refl _ wr).drew))
          clear hyj
          go_wp2_with fail
          go_region_held3 (fun w' => w'.cell? ⟨b1, 0, none⟩ = some (.slice (some ad2) rs.length cx) ∧ w'.cell? (ad2.add (k * 2)) = some (.int .i64 y.1) ∧ w'.cell? ⟨(ad2.add (k * 2)).block, (ad2.add (k * 2)).off + 1, none⟩ = some (.int .i64 y.2))
            (first | (exact ⟨x0, y0, y1⟩) | (exact HKEEP.out))
            (first | (go_at_call 65; (with_reducible refine (rFrom_at l _ y _ HV2.out hl HO.out HC2.out j hj HYJ.out).mono ?_); rintro e w3 ⟨rfl, hb3⟩; have HM3 := Lib.hid (HMD.out.later hb3); have hb4 := below_all ((Below.refl _ wr).drew) hb3; have HK3 := Lib.hid (HII.out.below (Nat.lt_of_lt_of_le hIlt HM.out.below.size) hb4); have HKEEP : Hid (w3.cell? ⟨b1, 0, none⟩ = some (.slice (some ad2) rs.length cx) ∧ w3.cell? (ad2.add (k * 2)) = some (.int .i64 y.1) ∧ w3.cell? ⟨(ad2.add (k * 2)).block, (ad2.add (k * 2)).off + 1, none⟩ = some (.int .i64 y.2)) := (⟨(HXW.out _ HM3.out.below).1, HK3.out.c0, HK3.out.c1⟩); have HR3 : Hid (w3.heap[w.heap.size]? = some (.cells #[.int .i64 0, .slice none 0 0, .slice none 0 0] 38 (0, 0))) := ((HM3.out.below.block _ hwW).trans HR1.out); clear hb3 hb4))
          all_goals
            by_cases hq : (So.fromR l y).2 = 0
            · have HRE : Hid (So.readsErr l rs = So.readsErr l (rs.drop (k + 1))) := by rw [Hid, hre.out, HST.out, if_neg (by simpa using hq)]
              rw [hq]
              generalize (So.fromR l y).1 = r at *
              obtain ⟨⟨_, _, d2⟩, _⟩ := three_get HM3.out.cell
              obtain ⟨z0, z1, z2⟩ := HKEEP.out
              have HRDY := Lib.hid (HM3.out.ready (.cells #[.int .i64 y.1, .int .i64 r] 40))
              have e1 := cell_new d2 (.cells #[.int .i64 y.1, .int .i64 r] 40)
              have e2 := cell_new z0 (.cells #[.int .i64 y.1, .int .i64 r] 40)
              have e3 := cell_new z1 (.cells #[.int .i64 y.1, .int .i64 r] 40)
              have HN := Lib.hid (new_row w3 (itC (y.1, r)) 40)
              have HSW := Lib.hid (lt_of_block HM3.out.cell)
              clear hq c0 c1 c2 x0 x1 y0 y1
              go_wp2_with fail
              go_region_law (refine step_append_lies _ rfl (.tmp 77) (.tmp 86) 36 rfl (W.heap.size + 1) 40 j0 _ 2 16 Tryz.underlying36 J0.out J1.out J2.out J3.out rfl (by decide) (.slice AR nR cR) d.length (d.flatMap itC) (by simp [Act.eval]) HRDY.out.1.reads ⟨w3.heap.size, 0, none⟩ 1 1 (itC (y.1, r)) (by simp [Act.eval]) rfl HN.out (one_its _) (by decide) (by have := HLK.out; simp only [maxLen]; omega) (by have := HLK.out; omega) (by have := HSW.out; simp; omega) (w3.heap.size + 1) (by simp) ?_; intro g2 cap2 w4 hown2 hgrow2 hat2 hlt2; obtain ⟨f1, f2⟩ := HRDY.out.2.2 w4 hgrow2; have HN2 := Lib.hid (HRDY.out.1.addRead (y.1, r) hown2 hgrow2); clear hown2 hgrow2 hat2 hlt2)
              all_goals
                go_wp2_with fail
                go_roundw
                case rel => exact ⟨k + 1, _, by omega, by go_num, HRE, by rw [HTK.out]; exact HN2.out⟩
                case measure => simp [intOf]; omega
            · have hqb : ((So.fromR l y).2 != 0) = true := by rw [bne_iff_ne]; exact hq
              have HRE : Hid (So.readsErr l rs = (So.fromR l y).2) := by rw [Hid, hre.out, HST.out, if_pos (by simpa using hq)]
              have HNZ := Lib.hid hq
              obtain ⟨⟨r0, r1, r2⟩, r3⟩ := three_get HR3.out
              have s0 := r3 0
              have s1 := r3 1
              have s2 := r3 2
              have HBX := Lib.hid (HBW.out.trans (HM3.out.below.mono (Nat.le_of_lt hwW)))
              clear hq r3
              go_wp2_with fail
              rw [HRE.out]
              exact end_one _ _ _ _ _ _ _ _ _ (three_set HR3.out _ _ _) (fun h => absurd h HNZ.out) (((HBX.out.setCell (Nat.le_refl _) _).setCell (Nat.le_refl _) _).setCell (Nat.le_refl _) _) rfl rfl
        · have HRE : Hid (So.readsErr l rs = 0) := by rw [Hid, hre.out, So.readsErr_end _ _ _ (by omega)]
          have HTA : Hid (rs.take k = rs) := List.take_of_length_le (by omega)
          have HMA := HM.out
          rw [HTA.out] at HMA
          have HM9 := Lib.hid HMA
          obtain ⟨⟨r0, r1, r2⟩, r3⟩ := three_get HRR.out
          have s0 := r3 0
          have s1 := r3 1
          have s2 := r3 2
          have HBX := Lib.hid (HBW.out.trans (HM.out.below.mono (Nat.le_of_lt hwW)))
          clear r3 HMA HM HTA
          go_wp2_with fail
          rw [HRE.out]
          refine end_one _ _ _ _ _ _ _ _ _ (three_set HRR.out _ _ _) (fun _ => ⟨rfl, ?_, ?_⟩) (((HBX.out.setCell (Nat.le_refl _) _).setCell (Nat.le_refl _) _).setCell (Nat.le_refl _) _) rfl rfl
          · exact (ownsRow_setCell_below (ownsRow_setCell_below (ownsRow_setCell_below HM9.out.writes (by show w.heap.size < W.heap.size + 1; omega) _) (by show w.heap.size < W.heap.size + 1; omega) _) (by show w.heap.size < W.heap.size + 1; omega) _).mono (by omega)
          · exact (ownsRow_setCell_below (ownsRow_setCell_below (ownsRow_setCell_below HM9.out.reads (by show w.heap.size < W.heap.size + 1; omega) _) (by show w.heap.size < W.heap.size + 1; omega) _) (by show w.heap.size < W.heap.size + 1; omega) _).mono (by omega)
end Go.Proofs.YtfjamdpgbbnmcaaGreatDoor
/-
  What the reference's Hist of layer 7 answers: So.histR; what was in memory stays as it was.
  Conditions: a row of ops has at most 2^32 elements.
-/
set_option maxRecDepth 4000
namespace Go.Proofs.YtfjamdpgbbnmcaaGreatDoor
open Go.RowKit

theorem rresults_hist (X : World) (b : Nat) (tmps : Array Value) (x : Value) (n q : Int) (hp : tmps.getD 2 undef = .pointer (some ⟨b, 0, none⟩)) (hn : tmps.getD 3 undef = .int .i64 n) (hq : tmps.getD 4 undef = .int .i64 q) (h0 : X.cell? ⟨b, 0, none⟩ = some x) :
    (results Tryz.f16 tmps).run Tryz.prog X = .ok (.tuple #[.agg #[x], .int .i64 n, .int .i64 q]) X := by
  rw [Array.getD_eq_getD_getElem?] at hp hn hq
  simp [results, Tryz.results16, hp, hn, hq, asAddr, go_sem, h0]
theorem rend_hist {w X : World} {r : List So.Txn × Int × Int} {ts : List So.Txn} {n q : Int} (hr : r = (ts, n, q)) (tmps : Array Value) (b : Nat) (x : Value) (h0 : X.cell? ⟨b, 0, none⟩ = some x) (hx : Txns X x ts) (hb : Below w.heap.size w X)
    (hp : tmps.getD 2 undef = .pointer (some ⟨b, 0, none⟩)) (hn : tmps.getD 3 undef = .int .i64 n) (hq : tmps.getD 4 undef = .int .i64 q) :
    bodyPost Tryz.prog Tryz.f16 (RetHist w r) Exit.ret { tmps := tmps, defers := [] } X := by
  refine bodyPost_ret (rresults_hist X b tmps x n q hp hn hq h0) rfl ?_
  subst hr
  exact ⟨x, rfl, hx, hb⟩
theorem rhist_no {w W : World} {r : List So.Txn × Int × Int} {n q : Int} (h : HistRes w W) (hr : r = ([], n, q)) (tmps : Array Value) (hp : tmps.getD 2 undef = .pointer (some ⟨w.heap.size, 0, none⟩)) (hn : tmps.getD 3 undef = .int .i64 n) (hq : tmps.getD 4 undef = .int .i64 q) :
    bodyPost Tryz.prog Tryz.f16 (RetHist w r) Exit.ret { tmps := tmps, defers := [] } (W.setCell ⟨w.heap.size, 0, none⟩ (.slice none 0 0)) :=
  rend_hist hr tmps _ _ (one_cell (one_set h.res _)).1 (Txns.nil _ _) (h.below.setCell (Nat.le_refl _) _) hp hn hq
/-- While the history is filled: its variable lies at W's end. -/
structure RHistMid (W wx : World) (l : List Gr.Tx) (k : Nat) (V : Value) (p : List (So.Txn × Value × Value)) : Prop where
  cell : wx.heap[W.heap.size]? = some (.cells #[V] 24 (0, 0))
  own : OwnTxns 38 3 40 wx (W.heap.size + 1) V p
  same : p.map (·.1) = ((l.take k).filter (·.done)).map (So.txnOf l)
  below : Below W.heap.size W wx
section
variable {W wx w3 : World} {l : List Gr.Tx} {k : Nat} {V v' kv rv : Value} {p : List (So.Txn × Value × Value)}
theorem RHistMid.later (h : RHistMid W wx l k V p) (hb : Below wx.heap.size wx w3) : RHistMid W w3 l k V p := ⟨(hb.block _ (lt_of_block h.cell)).trans h.cell, h.own.below hb, h.same, below_all h.below hb⟩
theorem rhist_start (W : World) (l : List Gr.Tx) : RHistMid W (W.alloc (.cells #[.slice none 0 0] 24)) l 0 (.slice none 0 0) [] := ⟨heap_alloc_new _ _, OwnTxns.nil _ _ _ _ _, rfl, alloc_below _ _⟩
theorem RHistMid.skip (h : RHistMid W wx l k V p) (hk : k < l.length) (hd : l[k].done = false) : RHistMid W wx l (k + 1) V p := by
  refine ⟨h.cell, h.own, ?_, h.below⟩
  rw [So.txns_step l k hk, hd, h.same]
  simp
theorem RHistMid.free (h : RHistMid W wx l k V p) (hg : wx.grownBy w3 V.ownBlock) : w3.cell? ⟨W.heap.size, 0, none⟩ = some V ∧ w3.frozen? ⟨W.heap.size, 0, none⟩ = false :=
  one_cell ((hg.block _ (lt_of_block h.cell) (fun e => own_above h.own.row e.symm)).trans h.cell)
theorem RHistMid.more (h : RHistMid W wx l k V p) (hk : k < l.length) (hd : l[k].done = true)
    (hkv : wx.ownsRow (W.heap.size + 1) 3 1 kv (So.txnOf l l[k]).writes.length ((So.txnOf l l[k]).writes.flatMap nC)) (hrv : wx.ownsRow (W.heap.size + 1) 40 2 rv (So.txnOf l l[k]).reads.length ((So.txnOf l l[k]).reads.flatMap itC))
    (hrow : w3.ownsRow (W.heap.size + 1) 38 3 v' (p.length + 1) (p.flatMap txnC ++ txnC (So.txnOf l l[k], kv, rv))) (hg : wx.grownBy w3 V.ownBlock) :
    RHistMid W (w3.setCell ⟨W.heap.size, 0, none⟩ v') l (k + 1) v' (p ++ [(So.txnOf l l[k], kv, rv)]) := by
  have hc := (hg.block _ (lt_of_block h.cell) (fun e => own_above h.own.row e.symm)).trans h.cell
  refine ⟨one_set hc v', (h.own.snoc (by decide) (by decide) hkv hrv hrow hg).set (by show W.heap.size < W.heap.size + 1; omega) _, ?_, ?_⟩
  · rw [So.txns_step l k hk, hd, List.map_append, h.same]
    simp
  · exact (h.below.grown hg h.below.size (fun j hj => by have := (h.own.row.lt j hj).1; omega)).setCell (Nat.le_refl _) _
end
set_option maxHeartbeats 4000000 in
theorem rHist7_at (l : List Gr.Tx) (v : Value) (w : World) (hv : Txs w v l) (hl : l.length ≤ 4294967296) (ho : ∀ t ∈ l, t.ops.length ≤ 4294967296) : Calls Tryz.prog 16 #[v] w (RetHist w (So.histR l)) := by
  obtain ⟨j0, hi0, hz0, hz1, hz2⟩ := info_parts txn_info
  have J0 := Lib.hid hi0
  have J1 := Lib.hid hz0
  have J2 := Lib.hid hz1
  have J3 := Lib.hid hz2
  clear hi0 hz0 hz1 hz2
  obtain ⟨A, c, rfl, hform⟩ := hv.spelled
  have HF := Lib.hid hform
  have HR0 := Lib.hid (HistRes.start w)
  have HV := Lib.hid hv
  have HO := Lib.hid ho
  obtain ⟨r0, r1⟩ := one_cell HR0.out.res
  clear hv ho hform
  go_enter Tryz.func16, Tryz.ntmps16
  by_cases h32 : 32 < l.length
  · have hd : decide ((32 : Int) < (l.length : Int)) = true := by simp; omega
    have HR := Lib.hid (So.hist_many l h32)
    go_wp2_with fail
    exact rend_hist HR.out _ _ _ r0 (Txns.nil _ _) HR0.out.below rfl rfl rfl
  have hd : decide ((32 : Int) < (l.length : Int)) = false := by simp; omega
  have hl32 : l.length ≤ 32 := by omega
  clear h32
  go_wp2_with fail
  go_loopw [5] (fun i wr => ∃ k : Nat, k ≤ l.length ∧ i = .int .i64 k ∧ Hid (∀ j, j < k → So.phase l 0 j = 0) ∧ HistRes w wr) (fun i _ => l.length - (intOf i).toNat)
  case atStart => exact ⟨0, Nat.zero_le _, rfl, (fun j hj => absurd hj (by omega)), HR0.out⟩
  case round =>
    clear HR0 r0 r1
    obtain ⟨k, hk, rfl, hno, hat⟩ := hrel
    have HA := Lib.hid hat
    clear hat
    by_cases hlt : k < l.length
    · obtain ⟨ad, u, rfl, hblk, hT, hU⟩ := HF.out k hlt
      have HBAD := Lib.hid (So.may_bad l k hlt)
      have HGOOD := Lib.hid (So.may_good l k hlt)
      have hol := HO.out _ (List.getElem_mem hlt)
      obtain ⟨t, ht⟩ : ∃ t, t = l[k]'hlt := ⟨_, rfl⟩
      rw [← ht] at hT hU HBAD HGOOD hol
      obtain ⟨Au, cu, rfl, _⟩ := hU.form
      obtain ⟨k0, k1, k2, k3⟩ := hT.below hblk HA.out.below
      have HU := Lib.hid (hU.below HA.out.below)
      clear hT hU ht
      go_wp2_with fail
      refine (rMay_at t _ _ HU.out hol).mono ?_
      rintro e w1 ⟨rfl, hb1⟩
      have HN := Lib.hid (HA.out.later hb1)
      clear hb1 k0 k1 k2 k3
      cases hmay : So.mayT t with
      | true =>
        have HZ := Lib.hid (HGOOD.out hmay)
        clear hmay
        go_wp2_with fail
        go_roundw
        case rel => exact ⟨k + 1, by omega, by go_num, So.next_zero hno.out HZ.out, HN.out⟩
        case measure => simp [intOf]; omega
      | false =>
        have HZ := Lib.hid (HBAD.out (by rw [hmay]; simp))
        have HR : Hid (So.histR l = ([], (k : Int), 1)) := by rw [Hid, So.hist_bad l hl32 0 k (by omega) hlt (fun q hq => absurd hq (by omega)) hno.out (by rw [HZ.out]; decide), HZ.out]
        obtain ⟨r0, r1⟩ := one_cell HN.out.res
        clear hmay
        go_wp2_with fail
        exact rhist_no HN.out HR.out _ rfl rfl rfl
    · have HC0 : Hid (So.Clean l 0) := fun j hj => hno.out j (by omega)
      go_wp2_with fail
      clear hno hk hlt
      obtain ⟨wa, rfl⟩ : ∃ wa, wa = wr := ⟨_, rfl⟩
      rename_i ka
      go_loopw [7] (fun i wr => ∃ k : Nat, k ≤ l.length ∧ i = .int .i64 k ∧ Hid (∀ j, j < k → So.phase l 1 j = 0) ∧ HistRes w wr) (fun i _ => l.length - (intOf i).toNat)
      case atStart => exact ⟨0, Nat.zero_le _, rfl, (fun j hj => absurd hj (by omega)), HA.out⟩
      case round =>
        clear HA
        obtain ⟨k, hk, rfl, hno, hat⟩ := hrel
        have HA := Lib.hid hat
        clear hat
        by_cases hlt : k < l.length
        · have HVW := Lib.hid (HV.out.below HA.out.below)
          by_cases hq : So.phase l 1 k = 0
          · have HQ := Lib.hid hq
            clear hq
            go_wp2_with fail
            refine (rUnlike_at l _ k _ HVW.out hlt hl32 HO.out).mono ?_
            rintro e w1 ⟨rfl, hb1⟩
            rw [HQ.out]
            have HN := Lib.hid (HA.out.later hb1)
            clear hb1
            go_wp2_with fail
            go_roundw
            case rel => exact ⟨k + 1, by omega, by go_num, So.next_zero hno.out HQ.out, HN.out⟩
            case measure => simp [intOf]; omega
          · have hqb : (So.phase l 1 k != 0) = true := by rw [bne_iff_ne]; exact hq
            have HR := Lib.hid (So.hist_bad l hl32 1 k (by omega) hlt (fun q hq' => by
              obtain rfl : q = 0 := by omega
              exact HC0.out) hno.out hq)
            clear hq
            go_wp2_with fail
            refine (rUnlike_at l _ k _ HVW.out hlt hl32 HO.out).mono ?_
            rintro e w1 ⟨rfl, hb1⟩
            have HN := Lib.hid (HA.out.later hb1)
            obtain ⟨r0, r1⟩ := one_cell HN.out.res
            clear hb1
            go_wp2_with fail
            exact rhist_no HN.out HR.out _ rfl rfl rfl
        · have HC1 : Hid (So.Clean l 1) := fun j hj => hno.out j (by omega)
          go_wp2_with fail
          clear hno hk hlt
          obtain ⟨wb, rfl⟩ : ∃ wb, wb = wr := ⟨_, rfl⟩
          go_loopw [9] (fun i wr => ∃ k : Nat, k ≤ l.length ∧ i = .int .i64 k ∧ Hid (∀ j, j < k → So.phase l 2 j = 0) ∧ HistRes w wr) (fun i _ => l.length - (intOf i).toNat)
          case atStart => exact ⟨0, Nat.zero_le _, rfl, (fun j hj => absurd hj (by omega)), HA.out⟩
          case round =>
            clear HA
            obtain ⟨k, hk, rfl, hno, hat⟩ := hrel
            have HA := Lib.hid hat
            clear hat
            by_cases hlt : k < l.length
            · obtain ⟨ad, u, rfl, hblk, hT, hU⟩ := HF.out k hlt
              have HPH := Lib.hid (So.phase_at l 2 k hlt)
              have hol := HO.out _ (List.getElem_mem hlt)
              obtain ⟨t, ht⟩ : ∃ t, t = l[k]'hlt := ⟨_, rfl⟩
              rw [← ht] at hT hU HPH hol
              obtain ⟨Au, cu, rfl, _⟩ := hU.form
              obtain ⟨k0, k1, k2, k3⟩ := hT.below hblk HA.out.below
              have HT := Lib.hid hT
              have HU := Lib.hid (hU.below HA.out.below)
              clear hT hU ht
              go_wp2_with fail
              refine (rLook_at t.ops _ _ HU.out hol).mono ?_
              rintro e w1 ⟨fx, fy, rfl, hx, hy, hb1⟩
              obtain ⟨Ax, cx, rfl, _⟩ := hx.spelled
              obtain ⟨Ay, cy, rfl, _⟩ := hy.spelled
              have HN := Lib.hid ((HA.out.later hb1).later (alloc_below w1 (.cells #[.slice Ax (In.lookR t.ops).1.1.length cx, .slice Ay (In.lookR t.ops).1.2.length cy] 84)))
              obtain ⟨g0, g1, g2, g3⟩ := HT.out.below hblk HN.out.below
              obtain ⟨r0, r1⟩ := one_cell HN.out.res
              clear hx hy hb1 k0 k1 k2 k3
              by_cases hd : t.done = true
              · have HPE : Hid (So.phase l 2 k = (In.lookR t.ops).2.2) := by rw [Hid, HPH.out]; simp [So.phaseT, hd]
                rw [hd] at g1
                by_cases hq : (In.lookR t.ops).2.2 = 0
                · have HPZ : Hid (So.phase l 2 k = 0) := by rw [Hid, HPE.out]; exact hq
                  have hqb : ((In.lookR t.ops).2.2 != 0) = false := by rw [hq]; rfl
                  clear hq hd
                  go_wp2_with fail
                  go_roundw
                  case rel => exact ⟨k + 1, by omega, by go_num, So.next_zero hno.out HPZ.out, HN.out⟩
                  case measure => simp [intOf]; omega
                · have hqb : ((In.lookR t.ops).2.2 != 0) = true := by rw [bne_iff_ne]; exact hq
                  have HR : Hid (So.histR l = ([], (k : Int), (In.lookR t.ops).2.2)) := by
                    rw [Hid, So.hist_bad l hl32 2 k (by omega) hlt (fun q hq' => by
                      obtain rfl | rfl : q = 0 ∨ q = 1 := by omega
                      · exact HC0.out
                      · exact HC1.out) hno.out (by rw [HPE.out]; exact hq), HPE.out]
                  clear hq hd
                  go_wp2_with fail
                  exact rhist_no HN.out HR.out _ rfl rfl rfl
              · have hd' : t.done = false := by simpa using hd
                have HPZ : Hid (So.phase l 2 k = 0) := by rw [Hid, HPH.out]; simp [So.phaseT, hd']
                rw [hd'] at g1
                clear hd hd'
                go_wp2_with fail
                go_roundw
                case rel => exact ⟨k + 1, by omega, by go_num, So.next_zero hno.out HPZ.out, HN.out⟩
                case measure => simp [intOf]; omega
            · have HC2 : Hid (So.Clean l 2) := fun j hj => hno.out j (by omega)
              have HEND := Lib.hid (So.hist_end l hl32 (fun p hp => by
                obtain rfl | rfl | rfl : p = 0 ∨ p = 1 ∨ p = 2 := by omega
                · exact HC0.out
                · exact HC1.out
                · exact HC2.out))
              have HST := Lib.hid (rhist_start wr l)
              go_wp2_with fail
              clear hno hk hlt HC1
              obtain ⟨W, rfl⟩ : ∃ W, W = wr := ⟨_, rfl⟩
              have hwW := lt_of_block HA.out.res
              go_loopw [14] (fun i wr => ∃ (k : Nat) (V : Value) (p : List (So.Txn × Value × Value)), k ≤ l.length ∧ i = .int .i64 k ∧ Hid (∀ j, j < k → So.phase l 3 j = 0) ∧ RHistMid W wr l k V p) (fun i _ => l.length - (intOf i).toNat)
              case atStart => exact ⟨0, _, _, Nat.zero_le _, rfl, (fun j hj => absurd hj (by omega)), HST.out⟩
              case round =>
                clear HST
                obtain ⟨k, V, p, hk, rfl, hno, hmid⟩ := hrel
                have HM := Lib.hid hmid
                obtain ⟨AV, nV, cV, rfl⟩ := own_any hmid.own.row
                obtain ⟨c0, c1⟩ := one_cell hmid.cell
                have HBW := Lib.hid (HA.out.below.trans (hmid.below.mono (Nat.le_of_lt hwW)))
                have HRS : Hid (wr.heap[w.heap.size]? = some (.cells #[.slice none 0 0] 24 (0, 0))) := (hmid.below.block _ hwW).trans HA.out.res
                clear hmid
                by_cases hlt : k < l.length
                · obtain ⟨ad, u, rfl, hblk, hT, hU⟩ := HF.out k hlt
                  have HPH := Lib.hid (So.phase_at l 3 k hlt)
                  have HSK := Lib.hid (fun hd => HM.out.skip hlt hd)
                  have HVW := Lib.hid (HV.out.below HBW.out)
                  have HON := Lib.hid (fun hd => rOne7_at l _ k _ HVW.out hlt hl32 HO.out HC0.out HC2.out hd)
                  have HMO := Lib.hid (fun (wx w3 : World) (v' kv rv : Value) (hm : RHistMid W wx l k (.slice AV nV cV) p) => hm.more (w3 := w3) (v' := v') (kv := kv) (rv := rv) hlt)
                  obtain ⟨t, ht⟩ : ∃ t, t = l[k]'hlt := ⟨_, rfl⟩
                  rw [← ht] at hT hU HPH HSK HON HMO
                  obtain ⟨k0, k1, k2, k3⟩ := hT.below hblk HBW.out
                  clear hT hU ht
                  by_cases hd : t.done = true
                  · have HPE : Hid (So.phase l 3 k = So.readsErr l (In.readsTo t.ops 16)) := by rw [Hid, HPH.out]; simp [So.phaseT, hd]
                    have HONE := Lib.hid (HON.out hd)
                    have HD := Lib.hid hd
                    rw [hd] at k1
                    clear hd HON HSK
                    go_wp2_with fail
                    refine HONE.out.mono ?_
                    rintro e w1 ⟨s, A1, n1, e1, A2, n2, e2, rfl, hrow, hb1⟩
                    have HM1 := Lib.hid (HM.out.later hb1)
                    have HR1 : Hid (w1.heap[w.heap.size]? = some (.cells #[.slice none 0 0] 24 (0, 0))) := (HM1.out.below.block _ hwW).trans HA.out.res
                    have HB1 := Lib.hid (below_all HBW.out hb1)
                    have HSZ := Lib.hid (lt_of_block HM.out.cell)
                    by_cases hq : So.readsErr l (In.readsTo t.ops 16) = 0
                    · have HPZ : Hid (So.phase l 3 k = 0) := by rw [Hid, HPE.out]; exact hq
                      rw [hq]
                      obtain ⟨rfl, hkv, hrv⟩ := hrow hq
                      have hvn := TxnVar.new w1 (So.txnOf l t) (.slice A1 n1 e1) (.slice A2 n2 e2) 38
                      have HKV := Lib.hid (((hkv.mono (base' := W.heap.size + 1) HSZ.out).alloc (.cells #[.int .i64 (So.txnOf l t).session, .slice A1 n1 e1, .slice A2 n2 e2] 38)).alloc (.cells #[.int .i64 (So.txnOf l t).session, .slice A1 n1 e1, .slice A2 n2 e2] 38))
                      have HRV := Lib.hid (((hrv.mono (base' := W.heap.size + 1) HSZ.out).alloc (.cells #[.int .i64 (So.txnOf l t).session, .slice A1 n1 e1, .slice A2 n2 e2] 38)).alloc (.cells #[.int .i64 (So.txnOf l t).session, .slice A1 n1 e1, .slice A2 n2 e2] 38))
                      have HM2 := Lib.hid ((HM1.out.later (alloc_below w1 (.cells #[.int .i64 (So.txnOf l t).session, .slice A1 n1 e1, .slice A2 n2 e2] 38))).later (alloc_below _ (.cells #[.int .i64 (So.txnOf l t).session, .slice A1 n1 e1, .slice A2 n2 e2] 38)))
                      have g0 := (one_cell (HM1.out.later (alloc_below w1 (.cells #[.int .i64 (So.txnOf l t).session, .slice A1 n1 e1, .slice A2 n2 e2] 38))).cell).1
                      have HNT : Hid (∀ j x, (txnC (So.txnOf l t, .slice A1 n1 e1, .slice A2 n2 e2))[j]? = some x → ((w1.alloc (.cells #[.int .i64 (So.txnOf l t).session, .slice A1 n1 e1, .slice A2 n2 e2] 38)).alloc (.cells #[.int .i64 (So.txnOf l t).session, .slice A1 n1 e1, .slice A2 n2 e2] 38)).cell? ((⟨w1.heap.size + 1, 0, none⟩ : Addr).add j) = some x) := by
                        have := new_txn (w1.alloc (.cells #[.int .i64 (So.txnOf l t).session, .slice A1 n1 e1, .slice A2 n2 e2] 38)) (So.txnOf l t) (.slice A1 n1 e1) (.slice A2 n2 e2) 38
                        rw [size_new] at this
                        exact this
                      have hp32 : p.length ≤ 32 := by
                        have e := congrArg List.length HM.out.same
                        rw [List.length_map, List.length_map] at e
                        have := List.length_filter_le (·.done) (l.take k)
                        rw [List.length_take] at this
                        omega
                      have hWS := lt_of_block HM2.out.cell
                      generalize So.txnOf l t = T at *
                      clear hkv hrv hrow hq hb1 c0 c1 k0 k1 k2 k3 hvn
                      go_wp2_with (at_builtin; refine wpList_append_own_at _ rfl _ _ 22 rfl (W.heap.size + 1) 38 j0 _ 3 56 Tryz.underlying22 J0.out J1.out J2.out J3.out rfl (by decide) _ p.length _ rfl HM2.out.own.row ⟨w1.heap.size + 1, 0, none⟩ 1 1 (txnC (T, .slice A1 n1 e1, .slice A2 n2 e2)) rfl rfl HNT.out (one_txnC _ _ _ _ _ _ _) (by simp only [maxLen]; omega) (by omega) hWS ?_; intro v5 w5 hown5 hgrow5 hnil5 hat5; have HN5 := Lib.hid (HMO.out _ w5 v5 _ _ HM2.out HD.out HKV.out HRV.out hown5 hgrow5); obtain ⟨f0, f1⟩ := HM2.out.free hgrow5; obtain ⟨A5, n5, c5, rfl⟩ := own_any hown5; clear hown5 hgrow5 hnil5 hat5)
                      go_roundw
                      case rel => exact ⟨k + 1, _, _, by omega, by go_num, So.next_zero hno.out HPZ.out, HN5.out⟩
                      case measure => simp [intOf]; omega
                    · have hqb : (So.readsErr l (In.readsTo t.ops 16) != 0) = true := by rw [bne_iff_ne]; exact hq
                      have HR : Hid (So.histR l = ([], (k : Int), So.readsErr l (In.readsTo t.ops 16))) := by rw [Hid, HEND.out, So.end_bad l k hlt hno.out (by rw [HPE.out]; exact hq), HPE.out]
                      have HQR : Hid (HistRes w (w1.alloc (.cells #[.int .i64 s, .slice A1 n1 e1, .slice A2 n2 e2] 38))) := (HistRes.mk HB1.out HR1.out).later (alloc_below _ _)
                      obtain ⟨r0, r1⟩ := one_cell HQR.out.res
                      clear hq hrow hb1 c0 c1 k0 k1 k2 k3
                      go_wp2_with fail
                      exact rhist_no HQR.out HR.out _ rfl rfl rfl
                  · have hd' : t.done = false := by simpa using hd
                    have HPZ : Hid (So.phase l 3 k = 0) := by rw [Hid, HPH.out]; simp [So.phaseT, hd']
                    have HN := Lib.hid (HSK.out hd')
                    rw [hd'] at k1
                    clear hd hd' HON HMO HSK
                    go_wp2_with fail
                    go_roundw
                    case rel => exact ⟨k + 1, _, _, by omega, by go_num, So.next_zero hno.out HPZ.out, HN.out⟩
                    case measure => simp [intOf]; omega
                · have HR : Hid (So.histR l = (So.txns l, 0, 0)) := by rw [Hid, HEND.out, So.end_ok l (fun j hj => hno.out j (by omega))]
                  have HSA : Hid (p.map (·.1) = So.txns l) := by rw [Hid, HM.out.same, List.take_of_length_le (by omega)]; rfl
                  obtain ⟨r0, r1⟩ := one_cell HRS.out
                  go_wp2_with fail
                  refine rend_hist HR.out _ _ _ (one_cell (one_set HRS.out _)).1 ?_ (HBW.out.setCell (Nat.le_refl _) _) rfl rfl rfl
                  have := (HM.out.own.set (a := ⟨w.heap.size, 0, none⟩) (by show w.heap.size < W.heap.size + 1; omega) (.slice AV nV cV)).txns
                  rw [HSA.out] at this
                  exact this
end Go.Proofs.YtfjamdpgbbnmcaaGreatDoor
