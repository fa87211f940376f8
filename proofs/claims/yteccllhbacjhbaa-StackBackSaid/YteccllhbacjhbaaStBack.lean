/-
  The law StackBack: what is popped, and pushed again, is where it was; what All told is its own: changed, it changes nothing.
  Conditions: the first argument reads as a row of numbers.
-/
import Derived.Test.YteccllhbacjhbaaStTurns
set_option maxRecDepth 4000
namespace Go.Proofs.Yteccllhbacjhbaa
open Go.RowKit

theorem St.gone_len {α : Type} {l : List α} {k m : Nat} (h : k + m = l.length) : ((l.drop m).reverse).length = k := by rw [List.length_reverse, List.length_drop]; omega
theorem St.gone_next {α : Type} {l : List α} {m : Nat} (h : m < l.length) : (l.drop (m + 1)).reverse ++ [l[m]] = (l.drop m).reverse := by rw [List.drop_eq_getElem_cons h, List.reverse_cons]
theorem St.gone_at {α : Type} {l : List α} {k m i j : Nat} (h : k + m = l.length) (hi : i < k) (hj : j + i + 1 = l.length) : ((l.drop m).reverse)[i]'(by rw [St.gone_len h]; exact hi) = l[j]'(by omega) := by
  rw [List.getElem_reverse, List.getElem_drop]
  congr 1
  rw [List.length_drop]
  omega

/-- What stands behind the pops: a row of the call's own beside the stack. -/
structure GoneAt (B P : Nat) (most : Int) (r : Option Nat) (l : List Int) (g : List Int) (v : Value) (W : World) : Prop where
  stk : Stk 57 3 1 nC B most r l W
  row : W.ownsRow P 3 1 v g.length (g.flatMap nC)
  above : B < P
  apart : ∀ k, v.ownBlock = some k → some k ≠ r
  size : P ≤ W.heap.size
section
variable {B P : Nat} {most : Int} {r : Option Nat} {l g : List Int} {v : Value} {W : World}
theorem GoneAt.start (h : Stk 57 3 1 nC B most r l W) : GoneAt B W.heap.size most r l [] (.slice none 0 0) W :=
  ⟨h, World.ownsRow_nil _ _ _ _, h.lt, fun k q => by simp [Value.ownBlock] at q, Nat.le_refl _⟩
theorem GoneAt.not_block (h : GoneAt B P most r l g v W) : v.ownBlock ≠ some B := fun q => by
  have := (h.row.lt B q).1
  have := h.above
  omega
/-- A call on the stack. -/
theorem GoneAt.call {W' : World} {l' : List Int} {r' : Option Nat} (h : GoneAt B P most r l g v W) (hs : Stk 57 3 1 nC B most r' l' W') (hm : Moved W r r') (ht : Touch B r W W') : GoneAt B P most r' l' g v W' := by
  refine ⟨hs, ht.own h.row h.not_block h.apart, h.above, fun k q => ?_, Nat.le_trans h.size ht.size⟩
  rcases hm with e | ⟨j, e, hj⟩
  · rw [e]; exact h.apart k q
  · have := (h.row.lt k q).2
    rw [e]
    intro e2
    cases e2
    omega
/-- One more in the row beside it. -/
theorem GoneAt.more {W' : World} {v' : Value} {x : Int} {o : Obj} (h : GoneAt B P most r l g v W) (ho : W'.ownsRow P 3 1 v' (g.length + 1) (g.flatMap nC ++ nC x)) (hg : (W.alloc o).grownBy W' v.ownBlock) (hat : v'.ownBlock = v.ownBlock ∨ v'.ownBlock = some (W.alloc o).heap.size) : GoneAt B P most r l (g ++ [x]) v' W' := by
  have h1 := h.stk.alloc o
  refine ⟨h1.kept hg (fun q => h.not_block q.symm) ?_, by rw [List.length_append, flat_snoc]; exact ho, h.above, fun k q => ?_, Nat.le_trans h.size (Nat.le_trans (by simp) hg.size)⟩
  · cases hv : v.ownBlock with
    | none => cases r with
      | none => exact .inl rfl
      | some j => exact .inr (by simp)
    | some j => exact .inr fun q => h.apart j hv q.symm
  · rcases hat with e | e
    · rw [e] at q; exact h.apart k q
    · rw [e] at q
      cases q
      intro q2
      have := (h.stk.row_lt _ q2.symm).2
      simp at this
      omega
end

set_option maxHeartbeats 4000000 in
theorem lawStackBack (l : List Int) (v : Value) (n : Int) (w : World) (hv : Ns w v l) : Calls Try.prog 5 #[v, .int .i64 n] w (RetBool w true) := by
  obtain ⟨i0, hi0, hz0, hz1, hz2⟩ := info_parts int_info
  have I0 := Lib.hid hi0
  have I1 := Lib.hid hz0
  have I2 := Lib.hid hz1
  have I3 := Lib.hid hz2
  clear hi0 hz0 hz1 hz2
  have HV := Lib.hid hv
  obtain ⟨A, c, rfl, hf⟩ := hv.spelled
  have HF := Lib.hid hf
  clear hv hf
  go_enter Try.func5, Try.ntmps5
  go_wp2_with fail
  refine (stAwake_at _).mono ?_
  rintro e w1 ⟨rfl, hb⟩
  have B1 := Lib.hid hb
  clear hb
  by_cases hl : 300 < l.length
  · have d0 : decide ((300 : Int) < (l.length : Int)) = true := decide_eq_true (by omega)
    clear hl
    go_wp2_with fail
    go_ret
    exact ⟨rfl, B1.out⟩
  have d0 : decide ((300 : Int) < (l.length : Int)) = false := decide_eq_false (by omega)
  have hlb : l.length ≤ 300 := by omega
  clear hl
  go_wp2_with fail
  refine (stInts_at (l.length : Int) _).mono ?_
  rintro e w2 ⟨rfl, hs, hb⟩
  have B2 := Lib.hid (below_all B1.out hb)
  have S2 := Lib.hid hs
  have LB : Hid (w.heap.size ≤ w1.heap.size) := B1.out.size
  clear hs hb d0 B1
  generalize w1.heap.size = B at *
  go_wp2_with fail
  go_loopw [7] (fun i wr => ∃ (k : Nat) (r : Option Nat), k ≤ l.length ∧ i = .int .i64 k ∧ Hid (Stk 57 3 1 nC B (l.length : Int) r (l.take k) wr) ∧ Hid (Below w.heap.size w wr)) (fun i _ => l.length - (intOf i).toNat)
  case atStart => exact ⟨0, none, Nat.zero_le _, rfl, S2.out, B2.out⟩
  case round =>
    clear S2 B2
    obtain ⟨k, r, hk, rfl, HS, HB⟩ := hrel
    by_cases hlt : k < l.length
    · obtain ⟨ad, rfl, hblk, hE⟩ := HF.out k hlt
      have e0 := (HB.out.cell (by rw [add_block]; exact hblk)).trans hE
      have HN := Lib.hid (St.take_next hlt)
      have HT := Lib.hid (St.take_len hk)
      clear hE
      generalize l[k] = x at *
      go_wp2_with fail
      refine (stPush_yes x _ HS.out (by rw [HT.out]; omega) (by rw [HT.out]; omega)).mono ?_
      rintro e w3 ⟨rfl, r3, hs, -, ht⟩
      rw [HN.out] at hs
      have HS3 := Lib.hid hs
      have HB3 := Lib.hid (HS.out.still HB.out LB.out ht)
      clear hs ht e0
      go_wp2_with fail
      go_roundw
      case rel => exact ⟨k + 1, r3, by omega, by go_num, HS3, HB3⟩
      case measure => simp [intOf]; omega
    · obtain rfl : k = l.length := by omega
      rw [List.take_length] at HS
      have HG0 := Lib.hid (GoneAt.start HS.out)
      clear hlt hk HS
      go_wp2_with fail
      generalize hP : wr.heap.size = P at *
      clear hP
      go_loopw [8, 9, 10, 11] (fun gv iv xv bv ws => ∃ (k m : Nat), k + m = l.length ∧ iv = .int .i64 k ∧ Hid (GoneAt B P (l.length : Int) r (l.take m) (l.drop m).reverse gv ws) ∧ Hid (Below w.heap.size w ws)) (fun _ iv _ _ _ => l.length - (intOf iv).toNat)
      case atStart => exact ⟨0, l.length, Nat.zero_add _, rfl, by rw [List.take_length, List.drop_length]; exact HG0.out, HB.out⟩
      case round =>
        clear HG0 HB
        obtain ⟨k, m, hkm, rfl, HG, HB⟩ := hrel
        have HGL := Lib.hid (St.gone_len hkm)
        by_cases hgo : (k : Int) < n ∧ k < l.length
        · obtain ⟨h1, h2⟩ := hgo
          obtain ⟨q, rfl⟩ : ∃ q, m = q + 1 := ⟨m - 1, by omega⟩
          have hq : q < l.length := by omega
          have HX := Lib.hid (St.take_at hq)
          have HN := Lib.hid (St.gone_next hq)
          obtain ⟨A8, c8, rfl⟩ := own_form HG.out.row
          generalize l[q] = x at *
          rw [HGL.out]
          go_wp2_with fail
          refine (stPop_some _ HG.out.stk q (St.take_len (by omega)) (by omega) x HX.out).mono ?_
          rintro e w7 ⟨rfl, hs, ht⟩
          rw [St.take_back] at hs
          have HG7 := Lib.hid (HG.out.call hs (Moved.refl _ _) ht)
          have HB7 := Lib.hid (HG.out.stk.still HB.out LB.out ht)
          have HO7 := Lib.hid (HG7.out.row.alloc (.cells #[.int .i64 x] 3))
          have HP7 := Lib.hid HG7.out.size
          rw [HGL.out] at HO7
          clear hs ht HG HB
          go_wp2_with (at_builtin; (refine wpList_append_own_at _ rfl _ _ 26 rfl P 3 i0 _ 1 8 Try.underlying26 I0.out I1.out I2.out I3.out rfl (by decide) (.slice A8 k c8) k _ rfl HO7.out ⟨w7.heap.size, 0, none⟩ 1 1 (nC x) rfl rfl (new_nC w7 x 3) (one_nC _) (by simp only [maxLen]; omega) (by omega) (by have := HP7.out; simp; omega) ?_; intro v8 w8 hown8 hgrow8 _ hat8; have hg8 := GoneAt.more (x := x) (v' := v8) (W' := w8) HG7.out (by rw [HGL.out]; exact hown8) (by rw [HGL.out]; exact hgrow8) (by rw [HGL.out]; exact hat8); rw [HN.out] at hg8; have HG8 := Lib.hid hg8; have HB8 := Lib.hid ((below_all HB7.out (alloc_below w7 _)).grown hgrow8 (below_all HB7.out (alloc_below w7 _)).size (fun k q => by have h1 := (HO7.out.lt k q).1; have h2 := LB.out; have h3 := HG7.out.above; omega)); clear hown8 hgrow8 hat8 hg8))
          go_roundw
          case rel => exact ⟨k + 1, q, by omega, by go_num, HG8, HB8⟩
          case measure => simp [intOf]; omega
        · have hex : ∃ b b' : Bool, decide ((k : Int) < n) = b ∧ decide ((k : Int) < (l.length : Int)) = b' ∧ decide (k < l.length) = b' ∧ ((b = true ∧ b' = false) ∨ b = false) := by
            by_cases h1 : (k : Int) < n
            · exact ⟨true, false, decide_eq_true h1, decide_eq_false (by omega), decide_eq_false (by omega), .inl ⟨rfl, rfl⟩⟩
            · exact ⟨false, decide (k < l.length), decide_eq_false h1, by simp, rfl, .inr rfl⟩
          obtain ⟨b, b', d1, d2, d3, hbb⟩ := hex
          obtain ⟨A8, c8, rfl⟩ := own_form HG.out.row
          rw [HGL.out] at HG ⊢
          clear hgo
          rcases hbb with ⟨rfl, rfl⟩ | rfl
          all_goals
            go_wp2_with fail
            clear d1 d2 d3
            have hkb : (k : Int) ≤ 300 := by omega
            have HKM := Lib.hid hkm
            go_loopw [12] (fun iv wt => ∃ (j q : Nat) (i : Int) (r' : Option Nat), q + j = l.length ∧ j ≤ k ∧ iv = .int .i64 i ∧ Hid (i = (j : Int) - 1) ∧ Hid (GoneAt B P (l.length : Int) r' (l.take q) (l.drop m).reverse (.slice A8 k c8) wt) ∧ Hid (Below w.heap.size w wt)) (fun iv _ => (intOf iv + 1).toNat)
            case atStart => exact ⟨k, m, (k : Int) - 1, r, by have := HKM.out; omega, Nat.le_refl _, rfl, rfl, HG.out, HB.out⟩
            case round =>
              clear HG HB
              obtain ⟨j, q, i, r', hqj, hjk, rfl, HI, HG, HB⟩ := hrel
              rcases Nat.eq_zero_or_pos j with h0 | hpos
              · subst h0
                obtain rfl : i = -1 := by have := HI.out; omega
                obtain rfl : q = l.length := by omega
                rw [List.take_length] at HG
                clear HI hqj hjk
                have HS := Lib.hid HG.out.stk
                clear HG
                have HLS := Lib.hid (fun W hb => HS.out.later (W' := W) hb)
                have HLV := Lib.hid (fun W (hb : Below wr.heap.size wr W) => HV.out.below (below_all HB.out hb))
                have HLB := Lib.hid (fun W (hb : Below wr.heap.size wr W) => below_all HB.out hb)
                go_wp2_with fail
                refine (stAll_at _ HS.out (by omega)).mono ?_
                rintro e w5 ⟨v5, rfl, ho, hb⟩
                have B5 := Lib.hid hb
                have O5 := Lib.hid ho
                have N5 := Lib.hid (show Ns w5 v5 l from Rows'.own ho)
                obtain ⟨A5, c5, rfl⟩ := own_form ho
                clear ho hb HS HB
                go_wp2_with fail
                refine (rInts_at l _ _ _ N5.out (HLV.out _ B5.out) (by omega)).mono ?_
                rintro e w6 ⟨rfl, hb⟩
                have O6 := Lib.hid (own_below O5.out hb)
                have B6 := Lib.hid (below_all B5.out hb)
                clear hb O5 N5 B5
                generalize wr.heap.size = D at *
                go_wp2_with fail
                go_loopw [14] (fun iv wu => ∃ (k2 : Nat) (a : List Int), k2 ≤ l.length ∧ a.length = l.length ∧ iv = .int .i64 k2 ∧ Hid (wu.ownsRow D 3 1 (.slice A5 l.length c5) l.length (a.flatMap nC)) ∧ Hid (Below D wr wu)) (fun iv _ => l.length - (intOf iv).toNat)
                case atStart => exact ⟨0, l, Nat.zero_le _, rfl, rfl, O6.out, B6.out⟩
                case round =>
                  clear O6 B6
                  obtain ⟨k2, a, hk2, hal, rfl, HO, HB⟩ := hrel
                  have HAL := Lib.hid hal
                  clear hal
                  by_cases hlt : k2 < l.length
                  · obtain ⟨gg, cap, e, hgD, _⟩ := World.ownsRow.form HO.out (by omega)
                    cases e
                    have hka : k2 < a.length := by have := HAL.out; omega
                    have e1 : wr.cell? ⟨gg, k2, none⟩ = some (.int .i64 (a[k2]'hka)) := by
                      have h1 := HO.out.cellAt k2 (by omega)
                      have h2 := flat_at nC_len a k2 hka 0 (by omega)
                      rw [Nat.mul_one, Nat.add_zero] at h2
                      rw [h1, h2]
                      rfl
                    have f1 := HO.out.frozenAt k2
                    have HST := Lib.hid (HO.out.stored k2 (.int .i64 (IntKind.i64.wrap (a[k2]'hka + 1)))).1
                    have HFS := Lib.hid (flat_set nC_len a k2 hka 0 (by omega) (IntKind.i64.wrap (a[k2]'hka + 1)) (.int .i64 (IntKind.i64.wrap (a[k2]'hka + 1))) rfl)
                    rw [Nat.mul_one, Nat.add_zero] at HFS
                    have HBS := Lib.hid (HB.out.setCell (p := ⟨gg, k2, none⟩) hgD (.int .i64 (IntKind.i64.wrap (a[k2]'hka + 1))))
                    have HSL := Lib.hid (show (a.set k2 (IntKind.i64.wrap (a[k2]'hka + 1))).length = a.length from List.length_set)
                    generalize a[k2] = x at *
                    generalize hy : IntKind.i64.wrap (x + 1) = y at *
                    go_wp2_with fail
                    go_roundw
                    case rel => exact ⟨k2 + 1, a.set k2 y, by omega, by rw [HSL.out, HAL.out], by go_num, by rw [← HFS.out]; exact HST.out, HBS.out⟩
                    case measure => simp [intOf]; omega
                  · obtain rfl : k2 = l.length := by omega
                    have HBB := Lib.hid (HLB.out _ HB.out)
                    go_wp2_with fail
                    refine (stAll_at _ (HLS.out _ HB.out) (by omega)).mono ?_
                    rintro e w7 ⟨v7, rfl, ho, hb⟩
                    have N7 := Lib.hid (show Ns w7 v7 l from Rows'.own ho)
                    have B7 := Lib.hid (below_all HBB.out hb)
                    obtain ⟨A7, c7, rfl⟩ := own_form ho
                    clear ho hb
                    go_wp2_with fail
                    refine (rInts_at l _ _ _ N7.out (HV.out.below B7.out) (by omega)).mono ?_
                    rintro e w8 ⟨rfl, hb⟩
                    have B8 := Lib.hid (below_all B7.out hb)
                    clear hb
                    go_wp2_with fail
                    go_ret
                    exact ⟨rfl, B8.out⟩
              · obtain ⟨j, rfl⟩ : ∃ j', j = j' + 1 := ⟨j - 1, by omega⟩
                obtain rfl : i = (j : Int) := by have := HI.out; omega
                have hql : q < l.length := by omega
                have hjl : j < ((l.drop m).reverse).length := by rw [HGL.out]; omega
                have HR := HG.out.row
                rw [← HGL.out] at HR
                obtain ⟨A9, c9, e9, hf9⟩ := Ns.spelled (Rows'.own HR)
                cases e9
                obtain ⟨ad, rfl, -, e0⟩ := hf9 j hjl
                rw [St.gone_at HKM.out (by omega) (by omega : q + j + 1 = l.length)] at e0
                have HN := Lib.hid (St.take_next hql)
                have HT := Lib.hid (St.take_len (l := l) (k := q) (by omega))
                have hji : (j : Int) < (k : Int) := by omega
                clear HI hpos HR hf9 hjl
                generalize l[q] = x at *
                go_wp2_with fail
                refine (stPush_yes x _ HG.out.stk (by rw [HT.out]; omega) (by rw [HT.out]; omega)).mono ?_
                rintro e w9 ⟨rfl, r9, hs, hm, ht⟩
                rw [HN.out] at hs
                have HG9 := Lib.hid (HG.out.call hs hm ht)
                have HB9 := Lib.hid (HG.out.stk.still HB.out LB.out ht)
                clear hs hm ht HG HB e0
                go_wp2_with fail
                go_roundw
                case rel => exact ⟨j, q + 1, (j : Int) - 1, r9, by omega, by omega, rfl, rfl, HG9, HB9⟩
                case measure => simp [intOf]
end Go.Proofs.Yteccllhbacjhbaa
