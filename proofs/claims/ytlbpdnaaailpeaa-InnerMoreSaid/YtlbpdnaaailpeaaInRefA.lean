/-
  What the reference's ahead and wrong of layer 6 answer: In.lastAt, In.errAt; what was in memory stays as it was.
  Conditions: a row has at most 2^32 elements.
-/
import Derived.Test.YtlbpdnaaailpeaaInRefP
import Derived.Test.YtlbpdnaaailpeaaInMem
import Derived.Test.YtlbpdnaaailpeaaEvAll
namespace Go.Proofs.Ytlbpdnaaailpeaa
open Go.RowKit

theorem isK_parts (kind key : Int) (x : Ev.Event) : (x.kind == kind) = false ∧ Hid (In.isK kind key x = false) ∨ (x.kind == kind) = true ∧ ((x.key == key) = false ∧ Hid (In.isK kind key x = false) ∨ (x.key == key) = true ∧ Hid (In.isK kind key x = true)) := by
  unfold Hid In.isK
  by_cases h1 : x.kind = kind
  · by_cases h2 : x.key = key
    · exact .inr ⟨beq_iff_eq.2 h1, .inr ⟨beq_iff_eq.2 h2, by simp [h1, h2]⟩⟩
    · exact .inr ⟨beq_iff_eq.2 h1, .inl ⟨beq_eq_false_iff_ne.2 h2, by simp [h2]⟩⟩
  · exact .inl ⟨beq_eq_false_iff_ne.2 h1, by simp [h1]⟩
theorem rAhead_at (l : List Ev.Event) (v : Value) (i : Nat) (kind key : Int) (w : World) (hv : Evs w v l) (hi : i ≤ l.length) (hl : l.length ≤ 4294967296) : Calls Try.prog 18 #[v, .int .i64 (i : Int), .int .i64 kind, .int .i64 key] w fun e w' => e = .returned (.int .i64 (In.lastAt kind key l i)) ∧ w = w' := by
  obtain ⟨A, c, rfl, hform⟩ := hv.spelled
  have HF := Lib.hid hform
  clear hform hv
  go_enter Try.func18, Try.ntmps18
  go_wp2
  go_loop [9] (fun t => ∃ k : Nat, k ≤ i ∧ t = .int .i64 ((k : Int) - 1) ∧ Hid (In.lastAt kind key l i = In.lastAt kind key l k)) (fun t => (intOf t + 1).toNat)
  case atStart => exact ⟨i, Nat.le_refl _, rfl, rfl⟩
  case round =>
    obtain ⟨k, hk, rfl, hsame⟩ := hrel
    cases k with
    | zero =>
      rw [show ((0 : Nat) : Int) - 1 = -1 from rfl]
      go_wp2_with fail
      go_ret
      exact ⟨ret_int (by rw [hsame.out]; rfl), rfl⟩
    | succ k =>
      rw [show ((k + 1 : Nat) : Int) - 1 = (k : Int) by omega]
      have hlt : k < l.length := by omega
      obtain ⟨ad, rfl, hblk, hE⟩ := HF.out k hlt
      have HH := Lib.hid (In.lastAt_hit kind key l k hlt)
      have HM := Lib.hid (In.lastAt_miss kind key l k hlt)
      generalize l[k]'hlt = x at *
      obtain ⟨hc0, hc1, hc2, hc3⟩ := hE
      rcases isK_parts kind key x with ⟨k1, hK⟩ | ⟨k1, ⟨k2, hK⟩ | ⟨k2, hK⟩⟩
      · go_wp2_with fail
        go_round
        case rel => exact ⟨k, by omega, rfl, by rw [Hid, hsame.out, HM.out hK.out]⟩
        case measure => simp [intOf]
      · go_wp2_with fail
        go_round
        case rel => exact ⟨k, by omega, rfl, by rw [Hid, hsame.out, HM.out hK.out]⟩
        case measure => simp [intOf]
      · go_wp2_with fail
        go_ret
        exact ⟨ret_int (by rw [hsame.out, HH.out hK.out]), rfl⟩
/-- A number, in whatever memory was made. -/
def RetNum (w : World) (n : Int) (e : Ending) (w' : World) : Prop := e = .returned (.int .i64 n) ∧ Below w.heap.size w w'
theorem wrong_ways (x : Ev.Event) : Hid (Ev.right x = false) ∧ Hid ((Ev.right x && Ev.hasKey x.kind) = false) ∨ Hid (Ev.right x = true) ∧ ((x.kind != 1) = false ∧ (x.kind == 2) = false ∧ Hid ((Ev.right x && Ev.hasKey x.kind) = true) ∧ Hid (x.kind ≠ 2) ∨ (x.kind != 1) = true ∧ ((x.kind != 2) = false ∧ (x.kind == 2) = true ∧ Hid ((Ev.right x && Ev.hasKey x.kind) = true) ∧ Hid (x.kind = 2) ∨ (x.kind != 2) = true ∧ Hid ((Ev.right x && Ev.hasKey x.kind) = false))) := by
  unfold Hid
  cases hr : Ev.right x with
  | false => exact .inl ⟨rfl, rfl⟩
  | true =>
    refine .inr ⟨rfl, ?_⟩
    simp only [Bool.true_and]
    by_cases h1 : x.kind = 1
    · exact .inl ⟨by simp [h1], by simp [h1], (Ev.hasKey_iff _).2 (.inl h1), by omega⟩
    · by_cases h2 : x.kind = 2
      · exact .inr ⟨by simp [h1], .inl ⟨by simp [h2], by simp [h2], (Ev.hasKey_iff _).2 (.inr h2), h2⟩⟩
      · refine .inr ⟨by simp [h1], .inr ⟨by simp [h2], ?_⟩⟩
        cases hk : Ev.hasKey x.kind with
        | false => rfl
        | true => rcases (Ev.hasKey_iff _).1 hk with h | h
                  · exact absurd h h1
                  · exact absurd h h2
theorem val_parts (y z : Int) : (y != z) = false ∧ Hid ((y = z) = True) ∨ (y != z) = true ∧ Hid ((y = z) = False) := by
  unfold Hid
  by_cases h : y = z
  · exact .inl ⟨by simp [h], by simp [h]⟩
  · exact .inr ⟨by simp [h], by simp [h]⟩
theorem eql_parts (y z : Int) : (y == z) = false ∧ Hid (decide (y = z) = false) ∨ (y == z) = true ∧ Hid (decide (y = z) = true) := by
  unfold Hid
  by_cases h : y = z
  · exact .inr ⟨beq_iff_eq.2 h, by simp [h]⟩
  · exact .inl ⟨beq_eq_false_iff_ne.2 h, by simp [h]⟩
set_option maxHeartbeats 1000000 in
set_option maxRecDepth 4000 in
theorem rWrong_at (l : List Ev.Event) (v : Value) (i : Nat) (w : World) (hv : Evs w v l) (hi : i < l.length) (hl : l.length ≤ 4294967296) : Calls Try.prog 17 #[v, .int .i64 (i : Int)] w (RetNum w (In.errAt l i)) := by
  obtain ⟨A, c, rfl, hform⟩ := hv.spelled
  have HV := Lib.hid hv
  have HF := Lib.hid hform
  clear hform hv
  obtain ⟨ad, rfl, hblk, hE⟩ := HF.out i hi
  have HA := Lib.hid (In.errAt_arg l i hi)
  have HW := Lib.hid (In.at_write l i hi)
  have HR := Lib.hid (In.errAt_read l i hi)
  obtain ⟨x, hx⟩ : ∃ x, x = l[i]'hi := ⟨_, rfl⟩
  rw [← hx] at hE HA HW HR
  have HE := Lib.hid hE
  obtain ⟨hc0, hc1, hc2, hc3⟩ := hE
  clear hx
  go_enter Try.func17, Try.ntmps17
  go_wp2_with fail
  refine (rEvRight_at x _).mono ?_
  rintro e w1 ⟨rfl, hb1⟩
  obtain ⟨d0, d1, d2, d3⟩ := HE.out.below hblk hb1
  have V1 := Lib.hid (HV.out.below hb1)
  have B1 := Lib.hid hb1
  clear hb1 hc0 hc1 hc2 hc3
  rcases wrong_ways x with ⟨hr, hop⟩ | ⟨hr, ⟨k1, k2, hop, hk⟩ | ⟨k1, ⟨k2, k3, hop, hk⟩ | ⟨k2, hop⟩⟩⟩
  · rw [hr.out]
    go_wp2_with fail
    go_ret
    exact ⟨ret_int (by rw [HA.out hop.out]), B1.out⟩
  · rw [hr.out]
    rcases HR.out hop.out hk.out with ⟨n, hn, e1, e2⟩ | ⟨e1, n, hn, e2, e3⟩ | ⟨e1, e2, e3⟩
    · have E1 := Lib.hid e1
      have E2 := Lib.hid e2
      clear e1 e2
      obtain ⟨ad', hq, hblk', hE'⟩ := HF.out n hn
      cases hq
      have y3 := (hE'.below hblk' B1.out).c3
      generalize (l[n]'hn).value = y at *
      clear hE'
      have hn0 : (0 : Int) ≤ (n : Int) := by omega
      rcases val_parts y x.value with ⟨q, hq⟩ | ⟨q, hq⟩
      all_goals
        go_wp2_with fail
        refine (rAhead_at l _ i 2 x.key w1 V1.out (by omega) hl).mono ?_
        rintro e w' ⟨rfl, rfl⟩
        rw [E1.out]
        go_wp2_with fail
        go_quiet (fail)
        go_wp2_with fail
        go_ret
        exact ⟨ret_int (by rw [E2.out]; simp only [hq.out, if_true, if_false]), below_drewN B1.out _⟩
    · have E1 := Lib.hid e1
      have E2 := Lib.hid e2
      have E3 := Lib.hid e3
      clear e1 e2 e3
      obtain ⟨ad', hq, hblk', hE'⟩ := HF.out n hn
      cases hq
      have y3 := (hE'.below hblk' B1.out).c3
      generalize (l[n]'hn).value = y at *
      clear hE'
      have hn0 : (0 : Int) ≤ (n : Int) := by omega
      rcases val_parts y x.value with ⟨q, hq⟩ | ⟨q, hq⟩
      all_goals
        go_wp2_with fail
        refine (rAhead_at l _ i 2 x.key w1 V1.out (by omega) hl).mono ?_
        rintro e w' ⟨rfl, rfl⟩
        rw [E1.out]
        go_wp2_with fail
        refine (rAhead_at l _ i 1 x.key w1 V1.out (by omega) hl).mono ?_
        rintro e w' ⟨rfl, rfl⟩
        rw [E2.out]
        go_wp2_with fail
        go_quiet (fail)
        go_wp2_with fail
        go_ret
        exact ⟨ret_int (by rw [E3.out]; simp only [hq.out, if_true, if_false]), below_drewN B1.out _⟩
    · have E1 := Lib.hid e1
      have E2 := Lib.hid e2
      have E3 := Lib.hid e3
      clear e1 e2 e3
      go_wp2_with fail
      refine (rAhead_at l _ i 2 x.key w1 V1.out (by omega) hl).mono ?_
      rintro e w' ⟨rfl, rfl⟩
      rw [E1.out]
      go_wp2_with fail
      refine (rAhead_at l _ i 1 x.key w1 V1.out (by omega) hl).mono ?_
      rintro e w' ⟨rfl, rfl⟩
      rw [E2.out]
      have HE1 := Lib.hid (HE.out.below hblk B1.out)
      have hblk1 : ad.block < w1.heap.size := Nat.lt_of_lt_of_le hblk B1.out.size
      clear d0 d1 d2 d3
      go_wp2_with fail
      go_loopw [8] (fun t wr => ∃ k : Nat, i + 1 ≤ k ∧ k ≤ l.length ∧ t = .int .i64 k ∧ Hid (In.future x (l.drop (i + 1)) = In.future x (l.drop k)) ∧ Below w1.heap.size w1 wr) (fun t _ => l.length - (intOf t).toNat)
      case atStart => exact ⟨i + 1, Nat.le_refl _, hi, by go_num, rfl, Below.refl _ _⟩
      case round =>
        obtain ⟨k, hk0, hk1, rfl, hsame, hB⟩ := hrel
        have HB := Lib.hid hB
        clear hB
        by_cases hlt : k < l.length
        · obtain ⟨ad', hq, hblk', hE'⟩ := HF.out k hlt
          cases hq
          have HFU := Lib.hid (In.future_at x l k hlt)
          generalize l[k]'hlt = y at *
          obtain ⟨y0, y1, y2, y3⟩ := (hE'.below hblk' B1.out).below hblk1 HB.out
          obtain ⟨d0, d1, d2, d3⟩ := HE1.out.below hblk1 HB.out
          clear hE'
          rcases isK_parts 2 x.key y with ⟨q1, hK⟩ | ⟨q1, ⟨q2, hK⟩ | ⟨q2, hK⟩⟩
          · go_wp2_with fail
            go_quiet (fail)
            go_wp2_with fail
            go_roundw
            case rel => exact ⟨k + 1, by omega, by omega, by go_num, by rw [Hid, hsame.out, HFU.out, hK.out]; rfl, below_drewN HB.out _⟩
            case measure => simp [intOf]; omega
          · go_wp2_with fail
            go_quiet (fail)
            go_wp2_with fail
            go_roundw
            case rel => exact ⟨k + 1, by omega, by omega, by go_num, by rw [Hid, hsame.out, HFU.out, hK.out]; rfl, below_drewN HB.out _⟩
            case measure => simp [intOf]; omega
          · rcases eql_parts y.value x.value with ⟨q3, hV⟩ | ⟨q3, hV⟩
            · go_wp2_with fail
              go_quiet (fail)
              go_wp2_with fail
              go_roundw
              case rel => exact ⟨k + 1, by omega, by omega, by go_num, by rw [Hid, hsame.out, HFU.out, hK.out, hV.out]; rfl, below_drewN HB.out _⟩
              case measure => simp [intOf]; omega
            · go_wp2_with fail
              go_quiet (fail)
              go_wp2_with fail
              go_ret
              exact ⟨ret_int (by rw [E3.out, hsame.out, HFU.out, hK.out, hV.out]; rfl), below_all B1.out (below_drewN HB.out _)⟩
        · have HFE := Lib.hid (In.future_end x l k (by omega))
          go_wp2_with fail
          go_ret
          exact ⟨ret_int (by rw [E3.out, hsame.out, HFE.out]; rfl), below_all B1.out HB.out⟩
  · rw [hr.out]
    go_wp2_with fail
    go_ret
    exact ⟨ret_int (by rw [HW.out hop.out hk.out]), B1.out⟩
  · rw [hr.out]
    go_wp2_with fail
    go_ret
    exact ⟨ret_int (by rw [HA.out hop.out]), B1.out⟩
end Go.Proofs.Ytlbpdnaaailpeaa
