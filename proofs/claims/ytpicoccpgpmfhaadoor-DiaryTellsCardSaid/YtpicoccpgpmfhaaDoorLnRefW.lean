/-
  What the reference's sign and Words of layer 2 answer: Ln.sign and Ln.wordsR; what was in memory stays as it was.
  Conditions: a line has at most 2^32 bytes.
-/
import Derived.Test.YtpicoccpgpmfhaaDoorLnWalkC
namespace Go.Proofs.YtpicoccpgpmfhaaDoor
open Go.RowKit

theorem rsign_at (c : UInt8) (w : World) :
    Calls Tryd.prog 48 #[.int .u8 (c.toNat : Int)] w fun e w' => e = .returned (.bool (Ln.sign c)) ∧ w = w' := by
  by_cases h : 33 ≤ c.toNat
  · have HR : Hid (decide ((c.toNat : Int) ≤ 126) = Ln.sign c) := by
      rw [Hid, Ln.sign, decide_eq_true h, Bool.true_and, decide_eq_decide]; omega
    go_enter Tryd.func48, Tryd.ntmps48
    go_wp2
    go_ret
    exact ⟨ret_bool (by rw [← HR.out]), rfl⟩
  · have HR := Lib.hid ((Ln.sign_not c).2 (.inl (by omega)))
    go_enter Tryd.func48, Tryd.ntmps48
    go_wp2
    go_ret
    exact ⟨ret_bool HR.out.symm, rfl⟩

/-- What the reference's Words holds at the head of each round: the words that have ended; the next one begins here. -/
def RWordsRel (w : World) (s : List UInt8) (v b : Value) (wr : World) : Prop :=
  ∃ (k : Nat) (d : List (List UInt8)), k ≤ s.length ∧ b = .int .i64 k ∧ d.length ≤ k ∧ Ln.wrun (s.take k) = some (d, []) ∧ wr.ownsRow w.heap.size 9 1 v d.length (d.map strV) ∧ Below w.heap.size w wr

theorem rWords_at (s : List UInt8) (w : World) (hs : s.length ≤ 4294967296) : Calls Tryd.prog 32 #[.string (Ln.bs s)] w (RetStrs w (Ln.wordsR s)) := by
  obtain ⟨i0, hi0, hz0, hz1, hz2⟩ := info_parts str_info
  have I0 := Lib.hid hi0
  have I1 := Lib.hid hz0
  have I2 := Lib.hid hz1
  have I3 := Lib.hid hz2
  clear hi0 hz0 hz1 hz2
  have hsz1 : (Ln.bs s).size ≤ s.length := by rw [Ln.bs_size]; exact Nat.le_refl _
  have hsz2 : s.length ≤ (Ln.bs s).size := by rw [Ln.bs_size]; exact Nat.le_refl _
  go_enter Tryd.func32, Tryd.ntmps32
  go_wp2
  go_loopw [4, 5] (fun v b wr => RWordsRel w s v b wr) (fun _ b _ => s.length - (intOf b).toNat)
  case atStart => exact ⟨0, [], Nat.zero_le _, rfl, by simp, rfl, World.ownsRow_nil _ _ _ _, Below.refl _ _⟩
  case round =>
    obtain ⟨k, d, hk, rfl, hdk, hw, hown, hb⟩ := hrel
    obtain ⟨A, cp, rfl⟩ := own_form hown
    have HW := Lib.hid hw
    have HO := Lib.hid hown
    have HB := Lib.hid hb
    clear hw hown hb
    go_wp2
    go_loop [6] (fun i => ∃ j : Nat, k ≤ j ∧ j ≤ s.length ∧ i = .int .i64 j ∧ Ln.wrun (s.take j) = some (d, (s.take j).drop k)) (fun i => s.length - (intOf i).toNat)
    case atStart => exact ⟨k, Nat.le_refl _, hk, rfl, by rw [drop_none]; exact HW.out⟩
    case round =>
      obtain ⟨j, hkj, hj, rfl, hw2⟩ := hrel
      have HW2 := Lib.hid hw2
      clear hw2
      by_cases hlt : j < s.length
      · have hjb : j < (Ln.bs s).size := by omega
        have HG := Lib.hid (Ln.bs_get s j hjb hlt)
        cases hsg : Ln.sign (s[j]'hlt) with
        | true =>
          have hsg2 : Ln.sign ((Ln.bs s)[j]'hjb) = true := by rw [HG.out]; exact hsg
          have HSG := Lib.hid hsg
          clear hsg
          go_wp2_with fail
          refine (rsign_at _ _).mono ?_
          rintro e w' ⟨rfl, rfl⟩
          rw [hsg2]
          go_wp2
          go_round
          case rel =>
            refine ⟨j + 1, by omega, by omega, by go_num, ?_⟩
            rw [Ln.wrun_take s j hlt, HW2.out, Ln.wstep_sign HSG.out, drop_more s k j hkj hlt]
          case measure => simp [intOf]; omega
        | false =>
          have hsg2 : Ln.sign ((Ln.bs s)[j]'hjb) = false := by rw [HG.out]; exact hsg
          have HSG := Lib.hid hsg
          clear hsg
          by_cases hjk : j = k
          · have hjq : ((j : Int) == (k : Int)) = true := by rw [beq_iff_eq]; omega
            have HR : Hid (Ln.wordsR s = ([], 2)) := by
              refine Ln.wordsR_none s (j + 1) ?_
              rw [Ln.wrun_take s j hlt, HW2.out]
              refine Ln.wstep_no HSG.out fun h => h.2 ?_
              rw [hjk, drop_none]
            clear hjk
            go_wp2_with fail
            refine (rsign_at _ _).mono ?_
            rintro e w' ⟨rfl, rfl⟩
            rw [hsg2]
            go_wp2
            go_ret2
            exact RetStrs.mk _ _ (by rw [HR.out]) (by rw [HR.out]; exact Strs.nil _ _) HB.out
          · have hjq : ((j : Int) == (k : Int)) = false := by rw [beq_eq_false_iff_ne]; omega
            have hkj2 : k < j := by omega
            clear hjk
            obtain ⟨x, hx⟩ : ∃ x, x = (s.take j).drop k := ⟨_, rfl⟩
            have hcut : (Ln.bs s).extract k j = Ln.bs x := by rw [bs_cut, hx]
            have hxn : x ≠ [] := by rw [hx]; exact drop_some s k j hkj2 hj
            rw [← hx] at HW2
            have HXN := Lib.hid hxn
            have hown2 := HO.out.alloc (.cells #[strV x] 9)
            have hBw : Below w.heap.size w (wr.alloc (.cells #[strV x] 9)) := HB.out.alloc HB.out.size _
            have HO2 := Lib.hid hown2
            have HBW := Lib.hid hBw
            have HB0 := Lib.hid hBw.size
            clear hx hxn hown2 hBw HO
            have hje : ((j : Int) == ((Ln.bs s).size : Int)) = false := by rw [beq_eq_false_iff_ne]; omega
            by_cases h32 : (s[j]'hlt) = 32
            · have hb32 : ((((Ln.bs s)[j]'hjb).toNat : Int) != 32) = false := by rw [HG.out, h32]; rfl
              have H32 := Lib.hid h32
              clear h32
              go_wp2_with fail
              refine (rsign_at _ _).mono ?_
              rintro e w' ⟨rfl, rfl⟩
              rw [hsg2]
              go_wp2_with (at_builtin; refine wpList_append_own_at _ rfl _ _ 31 rfl w.heap.size 9 i0 _ 1 16 Tryd.underlying31 I0.out I1.out I2.out I3.out rfl (by decide) _ d.length (d.map strV) rfl HO2.out ⟨wr.heap.size, 0, none⟩ 1 1 [strV x] rfl rfl (new_one _ _ _) (one_strs x) (by simp only [maxLen]; omega) (by omega) HB0.out ?_; intro v' w3 hown' hgrow hnil hat; have HO3 := Lib.hid hown'; have HG3 := Lib.hid hgrow; clear hown' hgrow hnil hat)
              go_roundw
              case rel =>
                refine ⟨j + 1, d ++ [x], by omega, by go_num, by simp; omega, ?_, Strs.own_snoc HO3.out, below_append HBW.out HB0.out HO2.out HG3.out⟩
                rw [Ln.wrun_take s j hlt, HW2.out, H32.out, Ln.wstep_space HXN.out]
              case measure => simp [intOf]; omega
            · have hb32 : ((((Ln.bs s)[j]'hjb).toNat : Int) != 32) = true := by
                rw [HG.out, bne_iff_ne]
                intro h
                exact h32 (UInt8.toNat.inj (by show _ = 32; omega))
              have HR : Hid (Ln.wordsR s = ([], 2)) := by
                refine Ln.wordsR_none s (j + 1) ?_
                rw [Ln.wrun_take s j hlt, HW2.out]
                exact Ln.wstep_no HSG.out fun h => h32 h.1
              clear h32
              go_wp2_with fail
              refine (rsign_at _ _).mono ?_
              rintro e w' ⟨rfl, rfl⟩
              rw [hsg2]
              go_wp2_with (at_builtin; refine wpList_append_own_at _ rfl _ _ 31 rfl w.heap.size 9 i0 _ 1 16 Tryd.underlying31 I0.out I1.out I2.out I3.out rfl (by decide) _ d.length (d.map strV) rfl HO2.out ⟨wr.heap.size, 0, none⟩ 1 1 [strV x] rfl rfl (new_one _ _ _) (one_strs x) (by simp only [maxLen]; omega) (by omega) HB0.out ?_; intro v' w3 hown' hgrow hnil hat; have HO3 := Lib.hid hown'; have HG3 := Lib.hid hgrow; clear hown' hgrow hnil hat)
              go_ret2
              exact RetStrs.mk _ _ (by rw [HR.out]) (by rw [HR.out]; exact Strs.nil _ _) (below_append HBW.out HB0.out HO2.out HG3.out)
      · have HT : Hid (s.take j = s) := by rw [Hid, List.take_of_length_le (by omega)]
        have hje : ((j : Int) == ((Ln.bs s).size : Int)) = true := by rw [beq_iff_eq]; omega
        by_cases hjk : j = k
        · have hjq : ((j : Int) == (k : Int)) = true := by rw [beq_iff_eq]; omega
          have HR : Hid (Ln.wordsR s = ([], 2)) := by
            have h := HW2.out
            rw [hjk, drop_none, ← hjk, HT.out] at h
            rw [Hid, Ln.wordsR_some s d [] h, if_neg (by simp)]
          clear hjk
          go_wp2
          go_ret2
          exact RetStrs.mk _ _ (by rw [HR.out]) (by rw [HR.out]; exact Strs.nil _ _) HB.out
        · have hjq : ((j : Int) == (k : Int)) = false := by rw [beq_eq_false_iff_ne]; omega
          have hkj2 : k < j := by omega
          clear hjk
          obtain ⟨x, hx⟩ : ∃ x, x = (s.take j).drop k := ⟨_, rfl⟩
          have hcut : (Ln.bs s).extract k j = Ln.bs x := by rw [bs_cut, hx]
          have hxn : x ≠ [] := by rw [hx]; exact drop_some s k j hkj2 hj
          rw [← hx] at HW2
          have hown2 := HO.out.alloc (.cells #[strV x] 9)
          have hBw : Below w.heap.size w (wr.alloc (.cells #[strV x] 9)) := HB.out.alloc HB.out.size _
          have HO2 := Lib.hid hown2
          have HBW := Lib.hid hBw
          have HB0 := Lib.hid hBw.size
          have HR0 := Lib.hid (Ln.wordsR_some s d x (by rw [← HT.out]; exact HW2.out))
          have HXN := Lib.hid hxn
          clear hx hxn hown2 hBw HO
          by_cases h8 : d.length ≤ 7
          · have HR : Hid (Ln.wordsR s = (d ++ [x], 0)) := by rw [Hid, HR0.out, if_pos ⟨HXN.out, h8⟩]
            go_wp2_with (at_builtin; refine wpList_append_own_at _ rfl _ _ 31 rfl w.heap.size 9 i0 _ 1 16 Tryd.underlying31 I0.out I1.out I2.out I3.out rfl (by decide) _ d.length (d.map strV) rfl HO2.out ⟨wr.heap.size, 0, none⟩ 1 1 [strV x] rfl rfl (new_one _ _ _) (one_strs x) (by simp only [maxLen]; omega) (by omega) HB0.out ?_; intro v' w3 hown' hgrow hnil hat; obtain ⟨A', cp', hv'⟩ := own_form hown'; subst hv'; have HO3 := Lib.hid hown'; have HG3 := Lib.hid hgrow; clear hown' hgrow hnil hat)
            go_ret2
            refine RetStrs.mk _ _ (by rw [HR.out]) ?_ (below_append HBW.out HB0.out HO2.out HG3.out)
            rw [HR.out]
            exact Strs.own (Strs.own_snoc HO3.out)
          · have HR : Hid (Ln.wordsR s = ([], 2)) := by rw [Hid, HR0.out, if_neg (fun h => h8 h.2)]
            go_wp2_with (at_builtin; refine wpList_append_own_at _ rfl _ _ 31 rfl w.heap.size 9 i0 _ 1 16 Tryd.underlying31 I0.out I1.out I2.out I3.out rfl (by decide) _ d.length (d.map strV) rfl HO2.out ⟨wr.heap.size, 0, none⟩ 1 1 [strV x] rfl rfl (new_one _ _ _) (one_strs x) (by simp only [maxLen]; omega) (by omega) HB0.out ?_; intro v' w3 hown' hgrow hnil hat; obtain ⟨A', cp', hv'⟩ := own_form hown'; subst hv'; have HO3 := Lib.hid hown'; have HG3 := Lib.hid hgrow; clear hown' hgrow hnil hat)
            go_ret2
            exact RetStrs.mk _ _ (by rw [HR.out]) (by rw [HR.out]; exact Strs.nil _ _) (below_append HBW.out HB0.out HO2.out HG3.out)
end Go.Proofs.YtpicoccpgpmfhaaDoor
