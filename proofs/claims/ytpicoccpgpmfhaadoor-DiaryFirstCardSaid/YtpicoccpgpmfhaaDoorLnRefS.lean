/-
  What the reference's Split of layer 2 answers: Ln.splitR; what was in memory stays as it was.
  Conditions: a text that is split has at most 2^32 bytes.
-/
import Derived.Test.YtpicoccpgpmfhaaDoorLnWalkB
import Derived.Test.YtpicoccpgpmfhaaDoorLnWalkC
namespace Go.Proofs.YtpicoccpgpmfhaaDoor
open Go.RowKit

/-- What the reference's Split holds at the head of each round. -/
def RSplitRel (w : World) (s : List UInt8) (v b i : Value) (wr : World) : Prop :=
  ∃ (k j : Nat) (d : List (List UInt8)), k ≤ s.length ∧ j ≤ k ∧ b = .int .i64 j ∧ i = .int .i64 k ∧ (s.take k).drop j = Ln.rest (s.take k) ∧ d = Ln.full (s.take k) ∧ wr.ownsRow w.heap.size 9 1 v d.length (d.map strV) ∧ Below w.heap.size w wr

theorem rSplit_at (s : List UInt8) (w : World) (hs : s.length ≤ 4294967296) : Calls Tryd.prog 18 #[.string (Ln.bs s)] w (RetStrs w (Ln.splitR s)) := by
  obtain ⟨i0, hi0, hz0, hz1, hz2⟩ := info_parts str_info
  have I0 := Lib.hid hi0
  have I1 := Lib.hid hz0
  have I2 := Lib.hid hz1
  have I3 := Lib.hid hz2
  clear hi0 hz0 hz1 hz2
  have hsz1 : (Ln.bs s).size ≤ s.length := by rw [Ln.bs_size]; exact Nat.le_refl _
  have hsz2 : s.length ≤ (Ln.bs s).size := by rw [Ln.bs_size]; exact Nat.le_refl _
  by_cases hn : s = []
  · have HR : Hid (Ln.splitR s = ([], 0)) := by rw [hn]; rfl
    have hz : ¬ 0 < (Ln.bs s).size := by rw [Ln.bs_size, hn]; simp
    clear hn
    go_enter Tryd.func18, Tryd.ntmps18
    go_wp2
    refine wp_loop_rounds 1 ?_
    rw [rounds_succ]
    go_wp2
    go_ret2
    exact RetStrs.mk _ _ (by rw [HR.out]) (by rw [HR.out]; exact Strs.nil _ _) (Below.refl _ _)
  have hpos : 0 < s.length := List.length_pos_iff.2 hn
  have hp : 0 < (Ln.bs s).size := by omega
  have hp1 : (1 : Int) ≤ ((Ln.bs s).size : Int) := by omega
  have hp2 : ((Ln.bs s).size : Int) - 1 < ((Ln.bs s).size : Int) := by omega
  have HL : Hid ((Ln.bs s)[(Ln.bs s).size - 1] = s.getLast hn) := by
    rw [Hid, Ln.bs_get s _ _ (by omega), List.getLast_eq_getElem]
    congr 1
  have HSH : Hid (Ln.shut s = (s.getLast hn == 10)) := by
    have e := Ln.shut_snoc s.dropLast (s.getLast hn)
    rw [List.dropLast_concat_getLast hn] at e
    exact e
  cases hsh : Ln.shut s with
  | false =>
    have HR := Lib.hid (Ln.splitR_form s hsh)
    have hl : ((((Ln.bs s)[(Ln.bs s).size - 1]).toNat : Int) != 10) = true := by
      rw [HSH.out, beq_eq_false_iff_ne] at hsh
      rw [HL.out, bne_iff_ne]
      intro h
      exact hsh (UInt8.toNat.inj (by show _ = 10; omega))
    clear hsh
    go_enter Tryd.func18, Tryd.ntmps18
    go_wp2
    go_ret2
    exact RetStrs.mk _ _ (by rw [HR.out]) (by rw [HR.out]; exact Strs.nil _ _) (Below.refl _ _)
  | true =>
    have HS := Lib.hid hsh
    have hl : ((((Ln.bs s)[(Ln.bs s).size - 1]).toNat : Int) != 10) = false := by
      rw [HSH.out, beq_iff_eq] at hsh
      rw [HL.out, hsh]
      rfl
    clear hsh
    go_enter Tryd.func18, Tryd.ntmps18
    go_wp2
    clear hl
    go_loopw [4, 5, 6] (fun v b i wr => RSplitRel w s v b i wr) (fun _ _ i _ => s.length - (intOf i).toNat)
    case atStart => exact ⟨0, 0, [], Nat.zero_le _, Nat.le_refl _, rfl, rfl, rfl, rfl, World.ownsRow_nil _ _ _ _, Below.refl _ _⟩
    case round =>
      obtain ⟨k, j, d, hk, hj, rfl, rfl, hr, hd, hown, hb⟩ := hrel
      obtain ⟨A, cp, rfl⟩ := own_form hown
      have hfl : d.length ≤ k := by
        rw [hd, Ln.full_len]
        exact Nat.le_trans (List.count_le_length) (by simp; omega)
      have HD := Lib.hid hd
      have HRR := Lib.hid hr
      have HO := Lib.hid hown
      have HB := Lib.hid hb
      clear hd hr hown hb
      by_cases hlt : k < s.length
      · have hkb : k < (Ln.bs s).size := by omega
        have HG := Lib.hid (Ln.bs_get s k hkb hlt)
        have HTK := Lib.hid (List.take_succ_eq_append_getElem hlt)
        by_cases h10 : (s[k]'hlt) = 10
        · have hb10 : ((((Ln.bs s)[k]'hkb).toNat : Int) == 10) = true := by rw [HG.out, h10]; rfl
          have H10 := Lib.hid h10
          clear h10
          obtain ⟨x, hx⟩ : ∃ x, x = (s.take k).drop j := ⟨_, rfl⟩
          have hcut : (Ln.bs s).extract j k = Ln.bs x := by rw [bs_cut, hx]
          have HX := Lib.hid hx
          have hown2 := HO.out.alloc (.cells #[strV x] 9)
          have hBw : Below w.heap.size w (wr.alloc (.cells #[strV x] 9)) := HB.out.alloc HB.out.size _
          have HO2 := Lib.hid hown2
          have HBW := Lib.hid hBw
          have HB0 := Lib.hid hBw.size
          clear hx hown2 hBw HO
          go_wp2_with (at_builtin; refine wpList_append_own_at _ rfl _ _ 31 rfl w.heap.size 9 i0 _ 1 16 Tryd.underlying31 I0.out I1.out I2.out I3.out rfl (by decide) _ d.length (d.map strV) rfl HO2.out ⟨wr.heap.size, 0, none⟩ 1 1 [strV x] rfl rfl (new_one _ _ _) (one_strs x) (by simp only [maxLen]; omega) (by omega) HB0.out ?_; intro v' w3 hown' hgrow hnil hat; have HO3 := Lib.hid hown'; have HG3 := Lib.hid hgrow; clear hown' hgrow hnil hat)
          go_roundw
          case rel =>
            refine ⟨k + 1, k + 1, d ++ [x], by omega, by omega, by go_num, by go_num, ?_, ?_, Strs.own_snoc HO3.out, below_append HBW.out HB0.out HO2.out HG3.out⟩
            · rw [drop_none, HTK.out, H10.out, Ln.rest_nl]
            · rw [HTK.out, H10.out, Ln.full_nl, ← HD.out, ← HRR.out, ← HX.out]
          case measure => simp [intOf]; omega
        · have hb10 : ((((Ln.bs s)[k]'hkb).toNat : Int) == 10) = false := by
            rw [HG.out, beq_eq_false_iff_ne]
            intro h
            exact h10 (UInt8.toNat.inj (by show _ = 10; omega))
          have H10 := Lib.hid h10
          clear h10
          go_wp2
          go_roundw
          case rel =>
            refine ⟨k + 1, j, d, by omega, by omega, rfl, by go_num, ?_, ?_, HO.out, HB.out⟩
            · rw [drop_more s j k hj hlt, HRR.out, HTK.out, Ln.rest_other _ _ H10.out]
            · rw [HTK.out, Ln.full_other _ _ H10.out, ← HD.out]
          case measure => simp [intOf]; omega
      · have HT : Hid (s.take k = s) := by rw [Hid, List.take_of_length_le (by omega)]
        have HC : Hid (s.count 10 = d.length) := by rw [Hid, HD.out, HT.out, Ln.full_len]
        by_cases h400 : 400 < d.length
        · have HR := Lib.hid (Ln.splitR_many s HS.out (by rw [HC.out]; exact h400))
          have h4 : decide ((400 : Int) < (d.length : Int)) = true := by simp; omega
          go_wp2
          go_ret2
          exact RetStrs.mk _ _ (by rw [HR.out]) (by rw [HR.out]; exact Strs.nil _ _) HB.out
        · have HR := Lib.hid (Ln.splitR_ok s HS.out (by rw [HC.out]; omega))
          have h4 : decide ((400 : Int) < (d.length : Int)) = false := by simp; omega
          go_wp2
          go_ret2
          refine RetStrs.mk _ _ (by rw [HR.out]) ?_ HB.out
          rw [HR.out]
          show Strs _ _ (Ln.full s)
          have e : Ln.full s = d := by rw [HD.out, HT.out]
          rw [e]
          exact Strs.own HO.out
end Go.Proofs.YtpicoccpgpmfhaaDoor
