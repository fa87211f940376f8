/-
  The law StackTurns: what is pushed is popped, the last first, and then there is nothing.
  Conditions: the argument reads as a row of numbers.
-/
import Derived.Test.YteccllhbacjhbaaStAwake
set_option maxRecDepth 4000
namespace Go.Proofs.Yteccllhbacjhbaa
open Go.RowKit

theorem St.take_next {α : Type} {l : List α} {k : Nat} (h : k < l.length) : l.take k ++ [l[k]] = l.take (k + 1) := (List.take_succ_eq_append_getElem h).symm
theorem St.take_len {α : Type} {l : List α} {k : Nat} (h : k ≤ l.length) : (l.take k).length = k := by rw [List.length_take]; omega
theorem St.take_back {α : Type} (l : List α) (k : Nat) : (l.take (k + 1)).take k = l.take k := by rw [List.take_take, Nat.min_eq_left (Nat.le_succ k)]
theorem St.take_at {α : Type} {l : List α} {k : Nat} (h : k < l.length) : (l.take (k + 1))[k]? = some l[k] := by rw [List.getElem?_take, if_pos (Nat.lt_succ_self k), List.getElem?_eq_getElem h]

set_option maxHeartbeats 4000000 in
theorem lawStackTurns (l : List Int) (v : Value) (w : World) (hv : Ns w v l) : Calls Try.prog 4 #[v] w (RetBool w true) := by
  have HV := Lib.hid hv
  obtain ⟨A, c, rfl, hf⟩ := hv.spelled
  have HF := Lib.hid hf
  clear hv hf
  go_enter Try.func4, Try.ntmps4
  go_wp2_with fail
  refine (stAwake_at _).mono ?_
  rintro e w1 ⟨rfl, hb⟩
  have B1 := Lib.hid hb
  clear hb
  by_cases hl : 300 < l.length
  · have d0 : decide ((300 : Int) < (l.length : Int)) = true := decide_eq_true (by omega)
    clear hl
    go_wp2_with fail
    go_ret
    exact ⟨rfl, B1.out⟩
  have d0 : decide ((300 : Int) < (l.length : Int)) = false := decide_eq_false (by omega)
  go_wp2_with fail
  refine (stInts_at (l.length : Int) _).mono ?_
  rintro e w2 ⟨rfl, hs, hb⟩
  have B2 := Lib.hid (below_all B1.out hb)
  have S2 := Lib.hid hs
  have LB : Hid (w.heap.size ≤ w1.heap.size) := B1.out.size
  clear hs hb d0
  generalize w1.heap.size = B at *
  go_wp2_with fail
  go_loopw [5] (fun i wr => ∃ (k : Nat) (r : Option Nat), k ≤ l.length ∧ i = .int .i64 k ∧ Hid (Stk 57 3 1 nC B (l.length : Int) r (l.take k) wr) ∧ Hid (Below w.heap.size w wr)) (fun i _ => l.length - (intOf i).toNat)
  case atStart => exact ⟨0, none, Nat.zero_le _, rfl, S2.out, B2.out⟩
  case round =>
    obtain ⟨k, r, hk, rfl, HS, HB⟩ := hrel
    by_cases hlt : k < l.length
    · obtain ⟨ad, rfl, hblk, hE⟩ := HF.out k hlt
      have e0 := (HB.out.cell (by rw [add_block]; exact hblk)).trans hE
      have HN := Lib.hid (St.take_next hlt)
      have HT := Lib.hid (St.take_len hk)
      clear hE
      generalize l[k] = x at *
      go_wp2_with fail
      refine (stPush_yes x _ HS.out (by rw [HT.out]; omega) (by rw [HT.out]; omega)).mono ?_
      rintro e w3 ⟨rfl, r3, hs, -, ht⟩
      rw [HN.out] at hs
      have HS3 := Lib.hid hs
      have HB3 := Lib.hid (HS.out.still HB.out LB.out ht)
      clear hs ht e0
      go_wp2_with fail
      go_roundw
      case rel => exact ⟨k + 1, r3, by omega, by go_num, HS3, HB3⟩
      case measure => simp [intOf]; omega
    · obtain rfl : k = l.length := by omega
      rw [List.take_length] at HS
      go_wp2_with fail
      refine (stPush_no 0 _ HS.out (Int.le_refl _)).mono ?_
      rintro e w4 ⟨rfl, hs, ht⟩
      have HS4 := Lib.hid hs
      have HB4 := Lib.hid (HS.out.still HB.out LB.out ht)
      clear hs ht HS HB S2 B2
      go_wp2_with fail
      refine (stAll_at _ HS4.out (by omega)).mono ?_
      rintro e w5 ⟨v5, rfl, ho, hb⟩
      have HS5 := Lib.hid (HS4.out.later hb)
      have HB5 := Lib.hid (below_all HB4.out hb)
      have N5 := Lib.hid (show Ns w5 v5 l from Rows'.own ho)
      obtain ⟨A5, n5, c5, rfl⟩ := own_any ho
      clear ho hb HS4 HB4
      go_wp2_with fail
      refine (rInts_at l _ _ _ N5.out (HV.out.below HB5.out) (by omega)).mono ?_
      rintro e w6 ⟨rfl, hb⟩
      have HS6 := Lib.hid (HS5.out.later hb)
      have HB6 := Lib.hid (below_all HB5.out hb)
      clear hb HS5 HB5 N5 hlt
      go_wp2_with fail
      have hlb : (l.length : Int) ≤ 300 := by omega
      go_loopw [6, 7, 8] (fun iv xv bv wr => ∃ (k : Nat) (i : Int), k ≤ l.length ∧ iv = .int .i64 i ∧ Hid (i = (k : Int) - 1) ∧ Hid (Stk 57 3 1 nC B (l.length : Int) r (l.take k) wr) ∧ Hid (Below w.heap.size w wr)) (fun iv _ _ _ => (intOf iv + 1).toNat)
      case atStart => exact ⟨l.length, (l.length : Int) - 1, Nat.le_refl _, rfl, rfl, by rw [List.take_length]; exact HS6.out, HB6.out⟩
      case round =>
        clear HS6 HB6
        obtain ⟨k, i, hk2, rfl, HI, HS, HB⟩ := hrel
        rcases Nat.eq_zero_or_pos k with h0 | hpos
        · subst h0
          obtain rfl : i = -1 := by have := HI.out; omega
          rw [List.take_zero] at HS
          clear HI hk2
          go_wp2_with fail
          refine (stPop_none _ HS.out rfl).mono ?_
          rintro e w7 ⟨rfl, rfl⟩
          go_wp2_with fail
          refine (stTop_none _ HS.out rfl).mono ?_
          rintro e w8 ⟨rfl, rfl⟩
          go_wp2_with fail
          refine (stAll_at _ HS.out (Nat.zero_le _)).mono ?_
          rintro e w9 ⟨v9, rfl, ho, hb⟩
          have HB9 := Lib.hid (below_all HB.out hb)
          obtain ⟨A9, c9, rfl⟩ := own_form ho
          clear ho hb
          dsimp only [List.length_nil]
          go_wp2_with fail
          go_ret
          exact ⟨rfl, HB9.out⟩
        · obtain ⟨m, rfl⟩ : ∃ m, k = m + 1 := ⟨k - 1, by omega⟩
          obtain rfl : i = (m : Int) := by have := HI.out; omega
          have hml : m < l.length := by omega
          obtain ⟨ad, rfl, hblk, hE⟩ := HF.out m hml
          have HX := Lib.hid (St.take_at hml)
          have HE := Lib.hid hE
          have HK := Lib.hid hblk
          clear HI hpos hE hblk
          generalize l[m] = x at *
          go_wp2_with fail
          refine (stPop_some _ HS.out m (St.take_len hk2) (by omega) x HX.out).mono ?_
          rintro e w7 ⟨rfl, hs, ht⟩
          rw [St.take_back] at hs
          have HS7 := Lib.hid hs
          have HB7 := Lib.hid (HS.out.still HB.out LB.out ht)
          have e0 := (HB7.out.cell (by rw [add_block]; exact HK.out)).trans HE.out
          have hx : (x != x) = false := by simp
          have hm1 : ((m : Int) != (m : Int)) = false := by simp
          have hmi : (m : Int) < (l.length : Int) := by omega
          have HLM := Lib.hid (St.take_len (l := l) (k := m) (by omega))
          clear hs ht HS HB
          go_wp2_with fail
          refine (stLen_at _ HS7.out).mono ?_
          rintro e w8 ⟨rfl, rfl⟩
          rw [HLM.out]
          go_wp2_with fail
          go_roundw
          case rel => exact ⟨m, (m : Int) - 1, by omega, rfl, rfl, HS7, HB7⟩
          case measure => simp [intOf]
end Go.Proofs.Yteccllhbacjhbaa
