/-
  What line.isOfWord and line.Words answer, for every text that a string may hold: Ln.sign and Ln.wordsR; what was in memory stays as it was.
  Conditions: a string's length is at most the model's greatest.
-/
import Derived.Test.YtpicoccpgpmfhaaDoorLnOwn
namespace Go.Proofs.YtpicoccpgpmfhaaDoor
open Go.RowKit

theorem ofWord_at (c : UInt8) (w : World) :
    Calls Tryd.prog 45 #[.int .u8 (c.toNat : Int)] w fun e w' => e = .returned (.bool (Ln.sign c)) ∧ w = w' := by
  by_cases h : 33 ≤ c.toNat
  · have HR : Hid (decide ((c.toNat : Int) ≤ 126) = Ln.sign c) := by
      rw [Hid, Ln.sign, decide_eq_true h, Bool.true_and, decide_eq_decide]; omega
    go_enter Tryd.func45, Tryd.ntmps45
    go_wp2
    go_ret
    exact ⟨ret_bool (by rw [← HR.out]), rfl⟩
  · have HR := Lib.hid ((Ln.sign_not c).2 (.inl (by omega)))
    go_enter Tryd.func45, Tryd.ntmps45
    go_wp2
    go_ret
    exact ⟨ret_bool HR.out.symm, rfl⟩

theorem bs_cut (s : List UInt8) (a b : Nat) : (Ln.bs s).extract a b = Ln.bs ((s.take b).drop a) := by
  rw [← Ln.bs_of (ByteArray.extract _ _ _), Lib.extract_data, Ln.bs_data, List.drop_take]
theorem bs_from (s : List UInt8) (a : Nat) : (Ln.bs s).extract a (Ln.bs s).size = Ln.bs (s.drop a) := by
  rw [bs_cut, Ln.bs_size, List.take_length]
theorem drop_more (s : List UInt8) (j k : Nat) (hj : j ≤ k) (hk : k < s.length) : (s.take (k + 1)).drop j = (s.take k).drop j ++ [s[k]] := by
  rw [List.take_succ_eq_append_getElem hk, List.drop_append_of_le_length (by simp; omega)]
theorem drop_none (s : List UInt8) (k : Nat) : (s.take k).drop k = [] := by simp
theorem drop_some (s : List UInt8) (j k : Nat) (hj : j < k) (hk : k ≤ s.length) : (s.take k).drop j ≠ [] := by
  intro h
  have := congrArg List.length h
  simp at this
  omega

/-- What Words' loop holds at the head of each round: the words that have ended, and where the last one began. -/
def WordsRel (w : World) (s : List UInt8) (v b i : Value) (wr : World) : Prop :=
  ∃ (k j : Nat) (d : List (List UInt8)), k ≤ s.length ∧ j ≤ k ∧ b = .int .i64 j ∧ i = .int .i64 k ∧ d.length ≤ 7 ∧ Ln.wrun (s.take k) = some (d, (s.take k).drop j) ∧ wr.ownsRow w.heap.size 9 1 v d.length (d.map strV) ∧ Below w.heap.size w wr

theorem words_at (s : List UInt8) (w : World) (hs : s.length ≤ maxLen) : Calls Tryd.prog 27 #[.string (Ln.bs s)] w (RetStrs w (Ln.wordsR s)) := by
  obtain ⟨i0, hi0, hz0, hz1, hz2⟩ := info_parts str_info
  have I0 := Lib.hid hi0
  have I1 := Lib.hid hz0
  have I2 := Lib.hid hz1
  have I3 := Lib.hid hz2
  clear hi0 hz0 hz1 hz2
  unfold maxLen at hs
  have HSZ := Lib.hid (Ln.bs_size s)
  have hsz1 : (Ln.bs s).size ≤ s.length := by rw [Ln.bs_size]; exact Nat.le_refl _
  have hsz2 : s.length ≤ (Ln.bs s).size := by rw [Ln.bs_size]; exact Nat.le_refl _
  go_enter Tryd.func27, Tryd.ntmps27
  go_wp2
  go_step3
  go_wp2
  go_step3
  go_wp2
  go_loopw [4, 5, 6] (fun v b i wr => WordsRel w s v b i wr) (fun _ _ i _ => s.length - (intOf i).toNat)
  case atStart =>
    exact ⟨0, 0, [], Nat.zero_le _, Nat.le_refl _, rfl, rfl, by simp, rfl, World.ownsRow_lit w #[] 0 (Nat.le_refl _) (by simp [maxLen]) (by simp), (Below.refl _ _).alloc (Nat.le_refl _) _⟩
  case round =>
    obtain ⟨k, j, d, hk, hj, rfl, rfl, hd7, hw, hown, hb⟩ := hrel
    obtain ⟨A, cp, rfl⟩ := own_form hown
    have HW := Lib.hid hw
    have HO := Lib.hid hown
    have HB := Lib.hid hb
    clear hw hown hb
    by_cases hlt : k < s.length
    · have hkb : k < (Ln.bs s).size := by omega
      have HG := Lib.hid (Ln.bs_get s k hkb hlt)
      cases hsg : Ln.sign (s[k]'hlt) with
      | true =>
        have hsg2 : Ln.sign ((Ln.bs s)[k]'hkb) = true := by rw [HG.out]; exact hsg
        have HSG := Lib.hid hsg
        clear hsg
        go_wp2_with fail
        refine (ofWord_at _ _).mono ?_
        rintro e w' ⟨rfl, rfl⟩
        rw [hsg2]
        go_wp2
        go_roundw
        case rel =>
          refine ⟨k + 1, j, d, by omega, by omega, rfl, by go_num, hd7, ?_, HO.out, HB.out⟩
          rw [Ln.wrun_take s k hlt, HW.out, Ln.wstep_sign HSG.out, drop_more s j k hj hlt]
        case measure => simp [intOf]; omega
      | false =>
        have hsg2 : Ln.sign ((Ln.bs s)[k]'hkb) = false := by rw [HG.out]; exact hsg
        have HSG := Lib.hid hsg
        clear hsg
        by_cases hsp : (s[k]'hlt) = 32 ∧ j < k
        · obtain ⟨h32, hjk⟩ := hsp
          have hb32 : ((((Ln.bs s)[k]'hkb).toNat : Int) == 32) = true := by rw [HG.out, h32]; rfl
          have H32 := Lib.hid h32
          clear h32
          by_cases h7 : d.length < 7
          · go_wp2_with fail
            refine (ofWord_at _ _).mono ?_
            rintro e w' ⟨rfl, rfl⟩
            rw [hsg2]
            go_wp2_with fail
            refine (own_at _ _).mono ?_
            rintro e w2 ⟨rfl, hb2⟩
            rw [bs_cut]
            have hown2 := (own_below HO.out hb2).alloc (.cells #[strV ((s.take k).drop j)] 9)
            have hBw : Below w.heap.size w (w2.alloc (.cells #[strV ((s.take k).drop j)] 9)) := (HB.out.trans (hb2.mono HB.out.size)).alloc (Nat.le_trans HB.out.size hb2.size) _
            have HO2 := Lib.hid hown2
            have HBW := Lib.hid hBw
            have HB0 := Lib.hid hBw.size
            clear hb2 hown2 hBw HO
            obtain ⟨x, hx⟩ : ∃ x, x = (s.take k).drop j := ⟨_, rfl⟩
            rw [← hx] at HO2 HBW HB0 HW ⊢
            have HX := Lib.hid hx
            clear hx
            go_wp2_with (at_builtin; refine wpList_append_own_at _ rfl _ _ 31 rfl w.heap.size 9 i0 _ 1 16 Tryd.underlying31 I0.out I1.out I2.out I3.out rfl (by decide) _ d.length (d.map strV) rfl HO2.out ⟨w2.heap.size, 0, none⟩ 1 1 [strV x] rfl rfl (new_one _ _ _) (one_strs x) (by simp only [maxLen]; omega) (by omega) HB0.out ?_; intro v' w3 hown' hgrow hnil hat; have HO3 := Lib.hid hown'; have HG3 := Lib.hid hgrow; clear hown' hgrow hnil hat)
            go_roundw
            case rel =>
              refine ⟨k + 1, k + 1, d ++ [x], by omega, by omega, by go_num, by go_num, by simp; omega, ?_, Strs.own_snoc HO3.out, below_append HBW.out HB0.out HO2.out HG3.out⟩
              rw [Ln.wrun_take s k hlt, HW.out, H32.out, Ln.wstep_space (by rw [HX.out]; exact drop_some s j k hjk hk), drop_none]
            case measure => simp [intOf]; omega
          · have hd8 : d.length = 7 := by omega
            have HR : Hid (Ln.wordsR s = ([], 2)) := by
              refine Ln.wordsR_many s (k + 1) (d ++ [(s.take k).drop j]) [] ?_ (by simp; omega)
              rw [Ln.wrun_take s k hlt, HW.out, H32.out, Ln.wstep_space (drop_some s j k hjk hk)]
            clear hd8
            go_wp2_with fail
            refine (ofWord_at _ _).mono ?_
            rintro e w' ⟨rfl, rfl⟩
            rw [hsg2]
            go_wp2
            rw [Exit.noGoto_ret]
            go_ret2
            exact RetStrs.mk _ _ (by rw [HR.out]) (by rw [HR.out]; exact Strs.nil _ _) HB.out
        · have HR : Hid (Ln.wordsR s = ([], 2)) := by
            refine Ln.wordsR_none s (k + 1) ?_
            rw [Ln.wrun_take s k hlt, HW.out]
            refine Ln.wstep_no HSG.out fun h => hsp ⟨h.1, ?_⟩
            rcases Nat.lt_or_ge j k with h1 | h1
            · exact h1
            · obtain rfl : j = k := by omega
              exact absurd (drop_none s j) h.2
          by_cases h32 : (s[k]'hlt) = 32
          · have hb32 : ((((Ln.bs s)[k]'hkb).toNat : Int) == 32) = true := by rw [HG.out, h32]; rfl
            have hjk : ¬ j < k := fun h => hsp ⟨h32, h⟩
            clear h32 hsp
            go_wp2_with fail
            refine (ofWord_at _ _).mono ?_
            rintro e w' ⟨rfl, rfl⟩
            rw [hsg2]
            go_wp2
            rw [Exit.noGoto_ret]
            go_ret2
            exact RetStrs.mk _ _ (by rw [HR.out]) (by rw [HR.out]; exact Strs.nil _ _) HB.out
          · have hb32 : ((((Ln.bs s)[k]'hkb).toNat : Int) == 32) = false := by
              rw [HG.out, beq_eq_false_iff_ne]
              intro h
              exact h32 (UInt8.toNat.inj (by show _ = 32; omega))
            clear h32 hsp
            go_wp2_with fail
            refine (ofWord_at _ _).mono ?_
            rintro e w' ⟨rfl, rfl⟩
            rw [hsg2]
            go_wp2
            rw [Exit.noGoto_ret]
            go_ret2
            exact RetStrs.mk _ _ (by rw [HR.out]) (by rw [HR.out]; exact Strs.nil _ _) HB.out
    · have hke : k = s.length := by omega
      have HT : Hid (s.take k = s) := by rw [Hid, hke, List.take_length]
      have HKE := Lib.hid hke
      clear hke
      by_cases hjk : j = k
      · have HR : Hid (Ln.wordsR s = ([], 2)) := by
          have h := HW.out
          rw [hjk, drop_none, HT.out] at h
          rw [Hid, Ln.wordsR_some s d [] h, if_neg (by simp)]
        have hjb : ((j : Int) == (k : Int)) = true := by rw [beq_iff_eq]; omega
        clear hjk
        go_wp2
        rw [Exit.noGoto_ret]
        go_ret2
        exact RetStrs.mk _ _ (by rw [HR.out]) (by rw [HR.out]; exact Strs.nil _ _) HB.out
      · have hjk2 : j < k := by omega
        have hjb : ((j : Int) == (k : Int)) = false := by rw [beq_eq_false_iff_ne]; omega
        have HR : Hid (Ln.wordsR s = (d ++ [s.drop j], 0)) := by
          have h := HW.out
          have hne := drop_some s j k hjk2 hk
          rw [HT.out] at h hne
          rw [Hid, Ln.wordsR_some s d _ h, if_pos ⟨hne, hd7⟩]
        clear hjk
        go_wp2_with fail
        refine (own_at _ _).mono ?_
        rintro e w2 ⟨rfl, hb2⟩
        rw [bs_from]
        obtain ⟨x, hx⟩ : ∃ x, x = s.drop j := ⟨_, rfl⟩
        rw [← hx] at HR ⊢
        have hown2 := (own_below HO.out hb2).alloc (.cells #[strV x] 9)
        have hBw : Below w.heap.size w (w2.alloc (.cells #[strV x] 9)) := (HB.out.trans (hb2.mono HB.out.size)).alloc (Nat.le_trans HB.out.size hb2.size) _
        have HO2 := Lib.hid hown2
        have HBW := Lib.hid hBw
        have HB0 := Lib.hid hBw.size
        clear hb2 hown2 hBw HO hx
        go_wp2_with (at_builtin; refine wpList_append_own_at _ rfl _ _ 31 rfl w.heap.size 9 i0 _ 1 16 Tryd.underlying31 I0.out I1.out I2.out I3.out rfl (by decide) _ d.length (d.map strV) rfl HO2.out ⟨w2.heap.size, 0, none⟩ 1 1 [strV x] rfl rfl (new_one _ _ _) (one_strs x) (by simp only [maxLen]; omega) (by omega) HB0.out ?_; intro v' w3 hown' hgrow hnil hat; have HO3 := Lib.hid hown'; have HG3 := Lib.hid hgrow; clear hown' hgrow hnil hat)
        rw [Exit.noGoto_ret]
        go_ret2
        refine RetStrs.mk _ _ (by rw [HR.out]) ?_ (below_append HBW.out HB0.out HO2.out HG3.out)
        rw [HR.out]
        exact Strs.own (Strs.own_snoc HO3.out)
end Go.Proofs.YtpicoccpgpmfhaaDoor
