/-
  What the reference's small functions of layer 7 answer: may, writes, Number; and Ints, takes and Same of what is one; what was in memory stays as it was.
  Conditions: a row has at most 2^32 elements.
-/
import Derived.Test.YtodahdnooidmaaaSoWalkA
import Derived.Test.YtodahdnooidmaaaInRef
set_option maxRecDepth 4000
namespace Go.Proofs.Ytodahdnooidmaaa
open Go.RowKit

/-- A variable that holds a transaction as the reference has it. -/
theorem TxVar.at {w w' : World} {b : Nat} {t : Gr.Tx} {u : Value} (h : TxVar w b t u) (hb : Below w.heap.size w w') : TxVar w' b t u := h.below hb
theorem right_parts (x : Ev.Event) : Hid (Ev.right x = false ∧ isOpB x = false) ∨ Hid (Ev.right x = true) ∧ ((x.kind != 1) = false ∧ Hid (isOpB x = true) ∨ (x.kind != 1) = true ∧ ((x.kind != 2) = false ∧ Hid (isOpB x = true) ∨ (x.kind != 2) = true ∧ Hid (isOpB x = false))) := by
  unfold Hid isOpB
  cases hr : Ev.right x with
  | false => exact .inl ⟨rfl, rfl⟩
  | true =>
    refine .inr ⟨rfl, ?_⟩
    rw [Bool.true_and]
    by_cases h1 : x.kind = 1
    · exact .inl ⟨by rw [h1]; rfl, (Ev.hasKey_iff _).2 (.inl h1)⟩
    · by_cases h2 : x.kind = 2
      · exact .inr ⟨by rw [bne_iff_ne]; exact h1, .inl ⟨by rw [h2]; rfl, (Ev.hasKey_iff _).2 (.inr h2)⟩⟩
      · refine .inr ⟨by rw [bne_iff_ne]; exact h1, .inr ⟨by rw [bne_iff_ne]; exact h2, ?_⟩⟩
        cases hk : Ev.hasKey x.kind with
        | false => rfl
        | true => rcases (Ev.hasKey_iff _).1 hk with h | h
                  · exact absurd h h1
                  · exact absurd h h2
set_option maxHeartbeats 1000000 in
theorem rMay_at (t : Gr.Tx) (u : Value) (w : World) (hu : Evs w u t.ops) (ho : t.ops.length ≤ 4294967296) : Calls Try.prog 19 #[.agg #[.int .i64 t.session, .bool t.done, .int .i64 t.first, u]] w (RetBool w (So.mayT t)) := by
  obtain ⟨A, c, rfl, hform⟩ := hu.spelled
  have HF := Lib.hid hform
  have HV := Lib.hid (TxVar.new w t (.slice A t.ops.length c) 61)
  have HB0 := Lib.hid (alloc_below w (.cells #[.int .i64 t.session, .bool t.done, .int .i64 t.first, .slice A t.ops.length c] 61))
  have hs0 : w.heap.size < (w.alloc (.cells #[.int .i64 t.session, .bool t.done, .int .i64 t.first, .slice A t.ops.length c] 61)).heap.size := by simp
  clear hform hu
  go_enter Try.func19, Try.ntmps19
  go_wp2
  generalize w.alloc (.cells #[.int .i64 t.session, .bool t.done, .int .i64 t.first, .slice A t.ops.length c] 61) = W at *
  go_loopw [3] (fun i wr => ∃ k : Nat, k ≤ t.ops.length ∧ i = .int .i64 k ∧ Hid (∀ e ∈ t.ops.take k, isOpB e = true) ∧ TxVar wr w.heap.size t (.slice A t.ops.length c) ∧ Below w.heap.size w wr) (fun i _ => t.ops.length - (intOf i).toNat)
  case atStart => exact ⟨0, Nat.zero_le _, rfl, (fun e he => by cases he), HV.out, HB0.out⟩
  case round =>
    clear HV HB0 hs0
    obtain ⟨k, hk, rfl, hall, hv, hb⟩ := hrel
    have HV := Lib.hid hv
    have HB := Lib.hid hb
    obtain ⟨v0, v1, v2, v3⟩ := hv
    clear hb
    by_cases hlt : k < t.ops.length
    · obtain ⟨ad, rfl, hblk, hE⟩ := HF.out k hlt
      obtain ⟨x, hx⟩ : ∃ x, x = t.ops[k]'hlt := ⟨_, rfl⟩
      have HE := Lib.hid hE
      rw [← hx] at HE
      obtain ⟨e0, e1, e2, e3⟩ := HE.out.below hblk HB.out
      have HX := Lib.hid hx
      clear hE hx
      have key := right_parts x
      go_wp2_with fail
      refine (rEvRight_at x _).mono ?_
      rintro e w1 ⟨rfl, hb1⟩
      have HB1 := Lib.hid (below_all HB.out hb1)
      have HV1 := Lib.hid (HV.out.below hb1)
      obtain ⟨x0, x1, x2, x3⟩ := HV1.out
      obtain ⟨y0, y1, y2, y3⟩ := HE.out.below hblk HB1.out
      clear hb1 e0 e1 e2 e3 v0 v1 v2 v3
      have HBAD : Hid (isOpB x = false → So.mayT t = false) := fun h => by
        cases hq : So.mayT t with
        | false => rfl
        | true =>
          have := ((So.mayT_iff t).1 hq).1 x (by rw [HX.out]; exact List.getElem_mem _)
          rw [isOpB] at h
          rw [h] at this
          cases this
      have HN : Hid (isOpB x = true → ∀ e ∈ t.ops.take (k + 1), isOpB e = true) := fun h e he => by
        rw [List.take_succ_eq_append_getElem hlt] at he
        rcases List.mem_append.1 he with he | he
        · exact hall.out e he
        · rw [List.mem_singleton.1 he, ← HX.out]; exact h
      rcases key with hr | ⟨hr, ⟨k1, hv⟩ | ⟨k1, ⟨k2, hv⟩ | ⟨k2, hv⟩⟩⟩
      · rw [hr.out.1]
        have HR := Lib.hid (HBAD.out hr.out.2)
        go_wp2_with fail
        go_ret
        exact ⟨ret_bool HR.out.symm, HB1.out⟩
      · rw [hr.out]
        go_wp2_with fail
        go_roundw
        case rel => exact ⟨k + 1, by omega, by go_num, HN.out hv.out, HV1.out, HB1.out⟩
        case measure => simp [intOf]; omega
      · rw [hr.out]
        go_wp2_with fail
        go_roundw
        case rel => exact ⟨k + 1, by omega, by go_num, HN.out hv.out, HV1.out, HB1.out⟩
        case measure => simp [intOf]; omega
      · rw [hr.out]
        have HR := Lib.hid (HBAD.out hv.out)
        go_wp2_with fail
        go_ret
        exact ⟨ret_bool HR.out.symm, HB1.out⟩
    · have HA : Hid (∀ e ∈ t.ops, isOpB e = true) := fun e he => hall.out e (by rw [List.take_of_length_le (by omega)]; exact he)
      have HR : Hid (So.mayT t = decide (0 ≤ t.session ∧ t.session < 8)) := by
        rw [Hid, So.mayT]
        have : t.ops.all (fun e => Ev.right e && Ev.hasKey e.kind) = true := List.all_eq_true.2 HA.out
        rw [this, Bool.true_and]
      by_cases hs : 0 ≤ t.session
      · by_cases hs7 : t.session ≤ 7
        · have hd : decide (t.session ≥ 0) = true := by simpa using hs
          have hd2 : decide (t.session ≤ 7) = true := by simpa using hs7
          have HR2 : Hid (So.mayT t = true) := by rw [Hid, HR.out]; exact decide_eq_true (by omega)
          clear hs hs7
          go_wp2_with fail
          go_ret
          exact ⟨ret_bool HR2.out.symm, HB.out⟩
        · have hd : decide (t.session ≥ 0) = true := by simpa using hs
          have hd2 : decide (t.session ≤ 7) = false := by simpa using hs7
          have HR2 : Hid (So.mayT t = false) := by rw [Hid, HR.out]; exact decide_eq_false (by omega)
          clear hs hs7
          go_wp2_with fail
          go_ret
          exact ⟨ret_bool HR2.out.symm, HB.out⟩
      · have hd : decide (t.session ≥ 0) = false := by simpa using hs
        have HR2 : Hid (So.mayT t = false) := by rw [Hid, HR.out]; exact decide_eq_false (by omega)
        clear hs
        go_wp2_with fail
        go_ret
        exact ⟨ret_bool HR2.out.symm, HB.out⟩

theorem isW_parts (key value : Int) (x : Ev.Event) : ((x.kind == 2) = false ∧ Hid (So.isW key value x = false)) ∨ (x.kind == 2) = true ∧ (((x.key == key) = false ∧ Hid (So.isW key value x = false)) ∨ (x.key == key) = true ∧ (((x.value == value) = false ∧ Hid (So.isW key value x = false)) ∨ (x.value == value) = true ∧ Hid (So.isW key value x = true))) := by
  unfold Hid
  by_cases h1 : x.kind = 2
  · refine .inr ⟨beq_iff_eq.2 h1, ?_⟩
    by_cases h2 : x.key = key
    · refine .inr ⟨beq_iff_eq.2 h2, ?_⟩
      by_cases h3 : x.value = value
      · exact .inr ⟨beq_iff_eq.2 h3, (So.isW_iff _ _ _).2 ⟨h1, h2, h3⟩⟩
      · exact .inl ⟨beq_eq_false_iff_ne.2 h3, isW_no (fun q => h3 q.2.2)⟩
    · exact .inl ⟨beq_eq_false_iff_ne.2 h2, isW_no (fun q => h2 q.2.1)⟩
  · exact .inl ⟨beq_eq_false_iff_ne.2 h1, isW_no (fun q => h1 q.1)⟩
set_option maxHeartbeats 1000000 in
theorem rWrites_at (t : Gr.Tx) (u : Value) (m : Nat) (key value : Int) (w : World) (hu : Evs w u t.ops) (hm : m ≤ t.ops.length) (ho : t.ops.length ≤ 4294967296) : Calls Try.prog 30 #[.agg #[.int .i64 t.session, .bool t.done, .int .i64 t.first, u], .int .i64 (m : Int), .int .i64 key, .int .i64 value] w fun e w' => e = .returned (.int .i64 (So.times key value (t.ops.take m) : Int)) ∧ Below w.heap.size w w' := by
  obtain ⟨A, c, rfl, hform⟩ := hu.spelled
  have HF := Lib.hid hform
  obtain ⟨v0, v1, v2, v3⟩ := TxVar.new w t (.slice A t.ops.length c) 61
  have HB0 := Lib.hid (alloc_below w (.cells #[.int .i64 t.session, .bool t.done, .int .i64 t.first, .slice A t.ops.length c] 61))
  clear hform hu
  go_enter Try.func30, Try.ntmps30
  go_wp2
  generalize w.alloc (.cells #[.int .i64 t.session, .bool t.done, .int .i64 t.first, .slice A t.ops.length c] 61) = W at *
  go_loop [9, 10] (fun n i => ∃ k : Nat, k ≤ m ∧ i = .int .i64 k ∧ n = .int .i64 (So.times key value (t.ops.take k) : Int)) (fun _ i => m - (intOf i).toNat)
  case atStart => exact ⟨0, Nat.zero_le _, rfl, rfl⟩
  case round =>
    obtain ⟨k, hk, rfl, rfl⟩ := hrel
    have hn : So.times key value (t.ops.take k) ≤ 4294967296 := Nat.le_trans (So.times_le _ _ _) (by rw [List.length_take]; omega)
    by_cases hlt : k < m
    · have hlt2 : k < t.ops.length := by omega
      obtain ⟨ad, rfl, hblk, hE⟩ := HF.out k hlt2
      have HT := Lib.hid (So.times_take key value t.ops k hlt2)
      generalize t.ops[k]'hlt2 = x at *
      obtain ⟨e0, e1, e2, e3⟩ := hE.below hblk HB0.out
      clear hE
      generalize So.times key value (t.ops.take k) = n1 at *
      rcases isW_parts key value x with ⟨q1, hW⟩ | ⟨q1, ⟨q2, hW⟩ | ⟨q2, ⟨q3, hW⟩ | ⟨q3, hW⟩⟩⟩
      all_goals
        rw [hW.out] at HT
        go_wp2_with fail
        go_round
        case rel => exact ⟨k + 1, by omega, by go_num, by rw [HT.out]; go_num⟩
        case measure => simp [intOf]; omega
    · obtain rfl : k = m := by omega
      go_wp2_with fail
      go_ret
      exact ⟨rfl, HB0.out⟩

set_option maxHeartbeats 1000000 in
theorem rNumber_at (l : List Gr.Tx) (v : Value) (m : Nat) (w : World) (hv : Txs w v l) (hm : m ≤ l.length) (hl : l.length ≤ 4294967296) : Calls Try.prog 39 #[v, .int .i64 (m : Int)] w fun e w' => e = .returned (.int .i64 (((l.take m).filter (·.done)).length : Int)) ∧ w = w' := by
  obtain ⟨A, c, rfl, hform⟩ := hv.spelled
  have HF := Lib.hid hform
  clear hform hv
  go_enter Try.func39, Try.ntmps39
  go_wp2
  go_loop [5, 6] (fun n i => ∃ k : Nat, k ≤ m ∧ i = .int .i64 k ∧ n = .int .i64 (((l.take k).filter (·.done)).length : Int)) (fun _ i => m - (intOf i).toNat)
  case atStart => exact ⟨0, Nat.zero_le _, rfl, rfl⟩
  case round =>
    obtain ⟨k, hk, rfl, rfl⟩ := hrel
    have hcl : ((l.take k).filter (·.done)).length ≤ 4294967296 := Nat.le_trans (List.length_filter_le _ _) (by rw [List.length_take]; omega)
    by_cases hlt : k < m
    · have hlt2 : k < l.length := by omega
      obtain ⟨ad, u, rfl, hblk, hT, _⟩ := HF.out k hlt2
      have HNX := Lib.hid (So.done_next l k hlt2)
      generalize l[k]'hlt2 = t at *
      have hc1 := hT.c1
      generalize ((l.take k).filter (·.done)).length = n1 at *
      cases hd : t.done with
      | true =>
        rw [hd] at HNX hc1
        clear hT
        go_wp2_with fail
        go_round
        case rel => exact ⟨k + 1, by omega, by go_num, by rw [HNX.out]; go_num⟩
        case measure => simp [intOf]; omega
      | false =>
        rw [hd] at HNX hc1
        clear hT
        go_wp2_with fail
        go_round
        case rel => exact ⟨k + 1, by omega, by go_num, by rw [HNX.out]; go_num⟩
        case measure => simp [intOf]; omega
    · obtain rfl : k = m := by omega
      go_wp2_with fail
      go_ret
      exact ⟨rfl, rfl⟩

set_option maxHeartbeats 1000000 in
theorem rInts_at (l : List Int) (u v : Value) (w : World) (hu : Ns w u l) (hv : Ns w v l) (hl : l.length ≤ 4294967296) : Calls Try.prog 23 #[u, v] w (RetBool w true) := by
  obtain ⟨A, c, rfl, hf⟩ := hu.spelled
  obtain ⟨B, c', rfl, hg⟩ := hv.spelled
  have HF := Lib.hid hf
  have HG := Lib.hid hg
  clear hf hg hu hv
  have hb : (((l.length : Nat) : Int) != ((l.length : Nat) : Int)) = false := by simp
  go_enter Try.func23, Try.ntmps23
  go_wp2
  go_loopw [5] (fun i wr => ∃ k : Nat, k ≤ l.length ∧ i = .int .i64 k ∧ Below w.heap.size w wr) (fun i _ => l.length - (intOf i).toNat)
  case atStart => exact ⟨0, Nat.zero_le _, rfl, Below.refl _ _⟩
  case round =>
    obtain ⟨k, hk, rfl, hB⟩ := hrel
    have HB := Lib.hid hB
    clear hB
    by_cases hlt : k < l.length
    · obtain ⟨ad, rfl, hblk, hE⟩ := HF.out k hlt
      obtain ⟨ad', rfl, hblk', hE'⟩ := HG.out k hlt
      have c0 : wr.cell? (ad.add k) = some (.int .i64 (l[k]'hlt)) := (HB.out.cell (by rw [add_block]; exact hblk)).trans hE
      have c1 : wr.cell? (ad'.add k) = some (.int .i64 (l[k]'hlt)) := (HB.out.cell (by rw [add_block]; exact hblk')).trans hE'
      generalize l[k]'hlt = x at *
      have hne : (x != x) = false := by simp
      clear hE hE'
      go_wp2_with fail
      go_quiet (fail)
      go_wp2_with fail
      go_roundw
      case rel => exact ⟨k + 1, by omega, by go_num, below_drewN HB.out _⟩
      case measure => simp [intOf]; omega
    · go_wp2_with fail
      go_ret
      exact ⟨rfl, HB.out⟩
set_option maxHeartbeats 1000000 in
theorem rTakes_at (l : List (Int × Int)) (u v : Value) (w : World) (hu : Its w u l) (hv : Its w v l) (hl : l.length ≤ 4294967296) : Calls Try.prog 24 #[u, v] w (RetBool w true) := by
  obtain ⟨A, c, rfl, hf⟩ := hu.spelled
  obtain ⟨B, c', rfl, hg⟩ := hv.spelled
  have HF := Lib.hid hf
  have HG := Lib.hid hg
  clear hf hg hu hv
  have hb : (((l.length : Nat) : Int) != ((l.length : Nat) : Int)) = false := by simp
  go_enter Try.func24, Try.ntmps24
  go_wp2
  go_loopw [5] (fun i wr => ∃ k : Nat, k ≤ l.length ∧ i = .int .i64 k ∧ Below w.heap.size w wr) (fun i _ => l.length - (intOf i).toNat)
  case atStart => exact ⟨0, Nat.zero_le _, rfl, Below.refl _ _⟩
  case round =>
    obtain ⟨k, hk, rfl, hB⟩ := hrel
    have HB := Lib.hid hB
    clear hB
    by_cases hlt : k < l.length
    · obtain ⟨ad, rfl, hblk, hE⟩ := HF.out k hlt
      obtain ⟨ad', rfl, hblk', hE'⟩ := HG.out k hlt
      obtain ⟨c0, c1⟩ := hE.below hblk HB.out
      obtain ⟨d0, d1⟩ := hE'.below hblk' HB.out
      generalize l[k]'hlt = x at *
      have hne : (x.1 == x.1) = true := by simp
      have hne2 : (x.2 == x.2) = true := by simp
      clear hE hE'
      go_wp2_with fail
      go_quiet (fail)
      go_wp2_with fail
      go_roundw
      case rel => exact ⟨k + 1, by omega, by go_num, below_drewN HB.out _⟩
      case measure => simp [intOf]; omega
    · go_wp2_with fail
      go_ret
      exact ⟨rfl, HB.out⟩
end Go.Proofs.Ytodahdnooidmaaa
