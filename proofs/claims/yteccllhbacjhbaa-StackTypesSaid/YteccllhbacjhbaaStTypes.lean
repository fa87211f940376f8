/-
  The law StackTypes: a stack of choices is one of choices: what is pushed is told, and popped, whole, the last first; where there is none the zero choice is told.
  Conditions: the first argument reads as a row of choices (three integers each).
-/
import Derived.Test.YteccllhbacjhbaaStWalkB
import Derived.Test.YteccllhbacjhbaaStTurns
set_option maxRecDepth 4000
namespace Go.Proofs.Yteccllhbacjhbaa
open Go.RowKit

section
variable {B : Nat} {most : Int} {r : Option Nat} {l : List (Int × Int × Int)}
/-! The calls, as the walk spells choices. -/
theorem stcPush_go (x y z : Int) (w : World) (h : Stk 60 50 3 triC B most r l w) (hl : l.length ≤ 4294967296) (hm : (l.length : Int) < most) : Calls Try.prog 20 #[.pointer (some ⟨B, 0, none⟩), .agg #[.int .i64 x, .int .i64 y, .int .i64 z]] w (RetStk 60 50 3 triC B most r w (.bool true) (l ++ [(x, y, z)])) := stcPush_yes x y z w h hl hm
theorem stcPush_full (x y z : Int) (w : World) (h : Stk 60 50 3 triC B most r l w) (hm : most ≤ (l.length : Int)) : Calls Try.prog 20 #[.pointer (some ⟨B, 0, none⟩), .agg #[.int .i64 x, .int .i64 y, .int .i64 z]] w (RetStay 60 50 3 triC B most r w (.bool false) l) := stcPush_no x y z w h hm
theorem stcTop_go (w : World) (h : Stk 60 50 3 triC B most r l w) (m : Nat) (hl : l.length = m + 1) (hm : m < 4294967296) (x y z : Int) (hx : l[m]? = some (x, y, z)) : Calls Try.prog 23 #[.pointer (some ⟨B, 0, none⟩)] w (RetMade w (.tuple #[.agg #[.int .i64 x, .int .i64 y, .int .i64 z], .bool true])) := stcTop_some w h m hl hm x y z hx
theorem stcPop_go (w : World) (h : Stk 60 50 3 triC B most r l w) (m : Nat) (hl : l.length = m + 1) (hm : m < 4294967296) (x y z : Int) (hx : l[m]? = some (x, y, z)) : Calls Try.prog 24 #[.pointer (some ⟨B, 0, none⟩)] w (RetStay 60 50 3 triC B most r w (.tuple #[.agg #[.int .i64 x, .int .i64 y, .int .i64 z], .bool true]) (l.take m)) := stcPop_some w h m hl hm x y z hx
theorem stcPop_empty (w : World) (h : Stk 60 50 3 triC B most r l w) (hl : l.length = 0) : Calls Try.prog 24 #[.pointer (some ⟨B, 0, none⟩)] w (RetMade w (.tuple #[.agg #[.int .i64 0, .int .i64 0, .int .i64 0], .bool false])) := stcPop_none w h hl
end

set_option maxHeartbeats 4000000 in
theorem lawStackTypes (l : List (Int × Int × Int)) (v : Value) (most : Int) (w : World) (hv : Tris w v l) : Calls Try.prog 6 #[v, .int .i64 most] w (RetBool w true) := by
  obtain ⟨A, c, rfl, hf⟩ := hv.spelled
  have HF := Lib.hid hf
  clear hv hf
  go_enter Try.func6, Try.ntmps6
  go_wp2_with fail
  refine (stAwake_at _).mono ?_
  rintro e w1 ⟨rfl, hb⟩
  have B1 := Lib.hid hb
  clear hb
  by_cases hl : 300 < l.length
  · have d0 : decide ((300 : Int) < (l.length : Int)) = true := decide_eq_true (by omega)
    clear hl
    go_wp2_with fail
    go_ret
    exact ⟨rfl, B1.out⟩
  have d0 : decide ((300 : Int) < (l.length : Int)) = false := decide_eq_false (by omega)
  have hlb : l.length ≤ 300 := by omega
  clear hl
  go_wp2_with fail
  refine (stcNew_at most _).mono ?_
  rintro e w2 ⟨rfl, hs, hb⟩
  have B2 := Lib.hid (below_all B1.out hb)
  have S2 := Lib.hid hs
  have LB : Hid (w.heap.size ≤ w1.heap.size) := B1.out.size
  clear hs hb d0 B1
  generalize w1.heap.size = B at *
  obtain ⟨room, hr⟩ : ∃ room : Nat, max 0 (min most (l.length : Int)) = (room : Int) := ⟨(max 0 (min most (l.length : Int))).toNat, by omega⟩
  have hrl : room ≤ l.length := by omega
  have HR2 := Lib.hid (show ∀ k : Nat, k < room → (k : Int) < most from fun k hk => by omega)
  have HR3 := Lib.hid (show room < l.length → most ≤ (room : Int) from fun hk => by omega)
  go_wp2_with fail
  clear hr
  go_loopw [8] (fun iv wr => ∃ (k : Nat) (r : Option Nat), k ≤ l.length ∧ iv = .int .i64 k ∧ Hid (Stk 60 50 3 triC B most r (l.take (min k room)) wr) ∧ Hid (Below w.heap.size w wr)) (fun iv _ => l.length - (intOf iv).toNat)
  case atStart => exact ⟨0, none, Nat.zero_le _, rfl, by rw [Nat.zero_min]; exact S2.out, B2.out⟩
  case round =>
    clear S2 B2
    obtain ⟨k, r, hk, rfl, HS, HB⟩ := hrel
    by_cases hlt : k < l.length
    · obtain ⟨ad, rfl, hblk, hE⟩ := HF.out k hlt
      obtain ⟨e0, e1, e2⟩ := hE.below hblk HB.out
      have HN := Lib.hid (St.take_next hlt)
      clear hE
      generalize l[k] = x at *
      obtain ⟨x, y, z⟩ := x
      dsimp only at e0 e1 e2
      have hki : (k : Int) < (l.length : Int) := by omega
      by_cases hkr : k < room
      · have d1 : decide ((k : Int) < (room : Int)) = true := decide_eq_true (by omega)
        have d2 : decide (k < room) = true := decide_eq_true hkr
        have HT := Lib.hid (St.take_len (l := l) (k := k) (by omega))
        have HM := Lib.hid (show min (k + 1) room = k + 1 by omega)
        rw [show min k room = k by omega] at HS
        go_wp2_with fail
        refine (stcPush_go x y z _ HS.out (by rw [HT.out]; omega) (by rw [HT.out]; exact HR2.out k hkr)).mono ?_
        rintro e w3 ⟨rfl, r3, hs, -, ht⟩
        rw [HN.out] at hs
        have HS3 := Lib.hid hs
        have HB3 := Lib.hid (HS.out.still HB.out LB.out ht)
        clear hs ht e0 e1 e2
        go_wp2_with fail
        go_roundw
        case rel => exact ⟨k + 1, r3, by omega, by go_num, by rw [HM.out]; exact HS3.out, HB3⟩
        case measure => simp [intOf]; omega
      · have d1 : decide ((k : Int) < (room : Int)) = false := decide_eq_false (by omega)
        have d2 : decide (k < room) = false := decide_eq_false hkr
        have HT := Lib.hid (St.take_len hrl)
        have HM := Lib.hid (show min (k + 1) room = room by omega)
        rw [show min k room = room by omega] at HS
        go_wp2_with fail
        refine (stcPush_full x y z _ HS.out (by rw [HT.out]; exact HR3.out (by omega))).mono ?_
        rintro e w3 ⟨rfl, hs, ht⟩
        have HS3 := Lib.hid hs
        have HB3 := Lib.hid (HS.out.still HB.out LB.out ht)
        clear hs ht e0 e1 e2
        go_wp2_with fail
        go_roundw
        case rel => exact ⟨k + 1, r, by omega, by go_num, by rw [HM.out]; exact HS3.out, HB3⟩
        case measure => simp [intOf]; omega
    · obtain rfl : k = l.length := by omega
      rw [show min l.length room = room by omega] at HS
      have HT := Lib.hid (St.take_len hrl)
      have HBD := Lib.hid HS.out.lt
      have HRD := Lib.hid (fun k q => (HS.out.row_lt k q).2)
      clear hlt hk
      go_wp2_with fail
      refine (stcAll_at _ HS.out (by rw [HT.out]; omega)).mono ?_
      rintro e w5 ⟨v5, rfl, ho, hb⟩
      rw [HT.out] at ho
      obtain ⟨A5, c5, rfl⟩ := own_form ho
      have O5 := Lib.hid ho
      have HS5 := Lib.hid (HS.out.later hb)
      have HB5 := Lib.hid (below_all HB.out hb)
      clear ho hb HS HB
      have hne : ((room : Int) != (room : Int)) = false := by simp
      go_wp2_with fail
      refine (stcLen_at _ HS5.out).mono ?_
      rintro e w6 ⟨rfl, rfl⟩
      rw [HT.out]
      generalize wr.heap.size = D at *
      have hrb : (room : Int) ≤ 300 := by omega
      go_wp2_with fail
      go_loopw [10] (fun iv wu => ∃ (k : Nat) (i : Int), k ≤ room ∧ iv = .int .i64 i ∧ Hid (i = (k : Int) - 1) ∧ Hid (Stk 60 50 3 triC B most r (l.take k) wu) ∧ Hid (wu.ownsRow D 50 3 (.slice A5 room c5) room ((l.take room).flatMap triC)) ∧ Hid (Below w.heap.size w wu)) (fun iv _ => (intOf iv + 1).toNat)
      case atStart => exact ⟨room, (room : Int) - 1, Nat.le_refl _, rfl, rfl, HS5.out, O5.out, HB5.out⟩
      case round =>
        clear HS5 O5 HB5
        obtain ⟨k, i, hk2, rfl, HI, HS, HO, HB⟩ := hrel
        rcases Nat.eq_zero_or_pos k with h0 | hpos
        · subst h0
          obtain rfl : i = -1 := by have := HI.out; omega
          rw [List.take_zero] at HS
          clear HI hk2
          go_wp2_with fail
          refine (stcPop_empty _ HS.out rfl).mono ?_
          rintro e w7 ⟨rfl, hb⟩
          have HB7 := Lib.hid (below_all (below_all HB.out hb) (alloc_below w7 (.cells #[.int .i64 0, .int .i64 0, .int .i64 0] 50)))
          clear hb
          go_wp2_with fail
          go_ret
          exact ⟨rfl, HB7.out⟩
        · obtain ⟨m, rfl⟩ : ∃ m, k = m + 1 := ⟨k - 1, by omega⟩
          obtain rfl : i = (m : Int) := by have := HI.out; omega
          have hml : m < l.length := by omega
          obtain ⟨ad, rfl, hblk, hE⟩ := HF.out m hml
          have HX := Lib.hid (St.take_at hml)
          have HE := Lib.hid hE
          have HK := Lib.hid hblk
          have hmt : m < (l.take room).length := by rw [HT.out]; omega
          have HGT := Lib.hid (show (l.take room)[m]'hmt = l[m] from List.getElem_take)
          clear HI hpos hE hblk
          generalize l[m] = x at *
          obtain ⟨x, y, z⟩ := x
          go_wp2_with fail
          refine (stcTop_go _ HS.out m (St.take_len (by omega)) (by omega) x y z HX.out).mono ?_
          rintro e w7 ⟨rfl, hb⟩
          have HS7 := Lib.hid ((HS.out.later hb).alloc (.cells #[.int .i64 x, .int .i64 y, .int .i64 z] 50))
          have HO7 := Lib.hid ((own_below HO.out hb).alloc (.cells #[.int .i64 x, .int .i64 y, .int .i64 z] 50))
          have HB7 := Lib.hid (below_all (below_all HB.out hb) (alloc_below w7 (.cells #[.int .i64 x, .int .i64 y, .int .i64 z] 50)))
          have HX7 := Lib.hid (Three.new w7 50 (.int .i64 x) (.int .i64 y) (.int .i64 z))
          have HXB := Lib.hid (show w7.heap.size ≠ B by have := (HS.out.later hb).lt; omega)
          have HXR := Lib.hid (show some w7.heap.size ≠ r from fun q => by have := ((HS.out.later hb).row_lt _ q.symm).2; omega)
          clear hb HS HO HB
          go_wp2_with fail
          generalize w7.alloc (.cells #[.int .i64 x, .int .i64 y, .int .i64 z] 50) = w8 at *
          generalize w7.heap.size = X at *
          refine (stcPop_go _ HS7.out m (St.take_len (by omega)) (by omega) x y z HX.out).mono ?_
          rintro e w9 ⟨rfl, hs, ht⟩
          rw [St.take_back] at hs
          have HS9 := Lib.hid (hs.alloc (.cells #[.int .i64 x, .int .i64 y, .int .i64 z] 50))
          have HO9 := Lib.hid ((ht.own HO7.out (fun q => by have h1 := (HO7.out.lt B q).1; have h2 := HBD.out; omega) (fun j q e => by have h1 := (HO7.out.lt j q).1; have h2 := HRD.out j e.symm; omega)).alloc (.cells #[.int .i64 x, .int .i64 y, .int .i64 z] 50))
          have HB9 := Lib.hid (below_all (HS7.out.still HB7.out LB.out ht) (alloc_below w9 (.cells #[.int .i64 x, .int .i64 y, .int .i64 z] 50)))
          have HX9 := Lib.hid (Three.later (show Three w9 X 50 (.int .i64 x) (.int .i64 y) (.int .i64 z) from ht.keeps HX7.out HXB.out HXR.out) (alloc_below w9 (.cells #[.int .i64 x, .int .i64 y, .int .i64 z] 50)))
          have HY9 := Lib.hid (Three.new w9 50 (.int .i64 x) (.int .i64 y) (.int .i64 z))
          clear hs ht HS7 HO7 HB7 HX7
          go_wp2_with fail
          generalize w9.alloc (.cells #[.int .i64 x, .int .i64 y, .int .i64 z] 50) = W at *
          generalize w9.heap.size = Y at *
          obtain ⟨x0, x1, x2⟩ := HX9.out.cells
          obtain ⟨y0, y1, y2⟩ := HY9.out.cells
          obtain ⟨e0, e1, e2⟩ := HE.out.below HK.out HB9.out
          obtain ⟨A6, c6, e6, hf6⟩ := Tris.spelled (show Tris W (.slice A5 room c5) (l.take room) by have := Sl.own HO9.out; rw [Tris, Rows', HT.out]; exact this)
          rw [HT.out] at e6
          cases e6
          obtain ⟨ad6, rfl, -, hE6⟩ := hf6 m hmt
          rw [HGT.out] at hE6
          obtain ⟨b0, b1, b2⟩ := hE6
          dsimp only at e0 e1 e2 b0 b1 b2
          have hmi : (m : Int) < (l.length : Int) := by omega
          have hmr : (m : Int) < (room : Int) := by omega
          clear hf6
          go_quiet (fail)
          have HB10 := Lib.hid (below_drewN HB9.out nq)
          have HS10 := Lib.hid (HS9.out.drewN nq)
          have HO10 := Lib.hid (own_drewN HO9.out nq)
          go_wp2_with fail
          go_roundw
          case rel => exact ⟨m, (m : Int) - 1, by omega, rfl, rfl, HS10, HO10, HB10⟩
          case measure => simp [intOf]
end Go.Proofs.Yteccllhbacjhbaa
