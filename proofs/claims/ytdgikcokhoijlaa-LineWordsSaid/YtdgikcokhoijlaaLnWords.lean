/-
  LineWords answers true for every text: words, with one byte 32 between, are the line; each is some bytes of 33 to 126; there are 1 to 8.
  Conditions: a string's length is at most the model's greatest.
-/
import Derived.Test.YtdgikcokhoijlaaLnAwake
namespace Go.Proofs.Ytdgikcokhoijlaa
open Go.RowKit

set_option maxHeartbeats 1000000 in
theorem lawLineWords (s : List UInt8) (w : World) (hs : s.length ≤ maxLen) :
    Calls Try.prog 6 #[.string (Ln.bs s)] w (RetBool w true) := by
  have HM := Lib.hid hs
  unfold maxLen at hs
  have hz1 : (Ln.bs s).size ≤ s.length := by rw [Ln.bs_size]; exact Nat.le_refl _
  have hz2 : s.length ≤ (Ln.bs s).size := by rw [Ln.bs_size]; exact Nat.le_refl _
  go_enter Try.func6, Try.ntmps6
  go_wp2_with fail
  refine (lineAwake_at w).mono ?_
  rintro e w1 ⟨rfl, hb1⟩
  have B1 := Lib.hid hb1
  clear hb1
  by_cases h3 : 2000 < s.length
  · have hd : decide ((2000 : Int) < ((Ln.bs s).size : Int)) = true := by simp; omega
    go_wp2_with fail
    go_ret
    exact ⟨rfl, B1.out⟩
  have hd : decide ((2000 : Int) < ((Ln.bs s).size : Int)) = false := by simp; omega
  go_wp2_with fail
  refine (words_at s w1 HM.out).mono ?_
  rintro e w2 ⟨v2, rfl, hs2, hb2⟩
  have B2 := Lib.hid (below_all B1.out hb2)
  by_cases hq : (Ln.wordsR s).2 = 0
  · obtain ⟨hsp, hl1, hall⟩ := Ln.wordsR_is s hq
    have hl8 := Ln.wordsR_len s
    rw [hq]
    obtain ⟨l, hl⟩ : ∃ l, l = (Ln.wordsR s).1 := ⟨_, rfl⟩
    rw [← hl] at hsp hl1 hall hs2 hl8
    obtain ⟨A, c, rfl, hform⟩ := hs2.form
    have HF := Lib.hid hform
    have HSP := Lib.hid hsp
    have HALL := Lib.hid hall
    clear hs2 hb2 hq hl hform hsp hall
    go_wp2_with fail
    go_loop [6, 7] (fun t i => ∃ k : Nat, k ≤ l.length ∧ i = .int .i64 k ∧ t = .string (Ln.bs (Ln.spaced (l.take k)))) (fun _ i => l.length - (intOf i).toNat)
    case atStart => exact ⟨0, Nat.zero_le _, rfl, rfl⟩
    case round =>
      obtain ⟨k, hk, rfl, rfl⟩ := hrel
      by_cases hlt : k < l.length
      · obtain ⟨ad, rfl, hblk, hcell⟩ := HF.out k hlt
        obtain ⟨x, hx⟩ : ∃ x, x = l[k]'hlt := ⟨_, rfl⟩
        have hc1 : w2.cell? (ad.add k) = some (.string (Ln.bs x)) := by rw [hx]; exact hcell
        have HX := Lib.hid hx
        have hxa := HALL.out x (by rw [hx]; exact List.getElem_mem _)
        have hx1 : (Ln.bs x).size ≤ x.length := by rw [Ln.bs_size]; exact Nat.le_refl _
        have hx2 : x.length ≤ (Ln.bs x).size := by rw [Ln.bs_size]; exact Nat.le_refl _
        have hx3 : 0 < x.length := List.length_pos_iff.2 hxa.1
        have hx4 : (((Ln.bs x).size : Int) == 0) = false := by rw [beq_eq_false_iff_ne]; omega
        have HXA := Lib.hid hxa.2
        have HST := Lib.hid (Ln.spaced_take l k hlt)
        have hle := Ln.spaced_take_le l (k + 1)
        rw [HST.out, HSP.out, ← hx] at hle
        clear hcell hx hxa
        obtain ⟨t, ht⟩ : ∃ t, t = Ln.spaced (l.take k) := ⟨_, rfl⟩
        rw [← ht] at hle HST ⊢
        have HT := Lib.hid ht
        clear ht
        have ht1 : (Ln.bs t).size ≤ t.length := by rw [Ln.bs_size]; exact Nat.le_refl _
        by_cases h0 : k = 0
        · have hk0 : ¬ 0 < k := by omega
          have HT0 : Hid (t = []) := by rw [Hid, HT.out, h0]; rfl
          have hz0 : (Ln.bs t).size + (Ln.bs x).size ≤ 2000 := by
            rw [if_pos h0] at hle
            rw [HT0.out, Ln.bs_size, Ln.bs_size]
            simp
            omega
          have hzz : ¬ 9223372036854775807 < (Ln.bs t).size + (Ln.bs x).size := by omega
          have hadd : Ln.bs t ++ Ln.bs x = Ln.bs (Ln.spaced (l.take (k + 1))) := by
            rw [bs_add, HST.out, if_pos h0, HT0.out, List.nil_append, HX.out]
          have HADD := Lib.hid hadd
          clear h0 hle hadd
          go_wp2_with fail
          go_loop [8] (fun i => ∃ j : Nat, j ≤ x.length ∧ i = .int .i64 j) (fun i => x.length - (intOf i).toNat)
          case atStart => exact ⟨0, Nat.zero_le _, rfl⟩
          case round =>
            obtain ⟨j, hj, rfl⟩ := hrel
            by_cases hjl : j < x.length
            · have hjb : j < (Ln.bs x).size := by omega
              have HG := Lib.hid (Ln.bs_get x j hjb hjl)
              have hsg := (Ln.sign_iff _).1 (HXA.out (x[j]'hjl) (List.getElem_mem _))
              rw [← HG.out] at hsg
              obtain ⟨g1, g2⟩ := hsg
              have q1 : decide ((((Ln.bs x)[j]'hjb).toNat : Int) < 33) = false := by simp; omega
              have q2 : decide ((126 : Int) < (((Ln.bs x)[j]'hjb).toNat : Int)) = false := by simp; omega
              go_wp2_with fail
              go_round
              case rel => exact ⟨j + 1, by omega, by go_num⟩
              case measure => simp [intOf]; omega
            · go_wp2_with fail
              go_round
              case rel =>
                refine ⟨k + 1, by omega, by go_num, ?_⟩
                rw [← HADD.out]
              case measure => simp [intOf]; omega
        · have hk0 : 0 < k := by omega
          have hz0 : (Ln.bs t).size + 1 + (Ln.bs x).size ≤ 2000 := by
            rw [if_neg h0, List.length_append, List.length_append, List.length_singleton] at hle
            rw [Ln.bs_size, Ln.bs_size]
            omega
          have hzz : ¬ 9223372036854775807 < (Ln.bs t).size + 1 := by omega
          have hzz2 : ¬ 9223372036854775807 < (Ln.bs t).size + 1 + (Ln.bs x).size := by omega
          have hadd : Ln.bs t ++ Ln.bs [32] ++ Ln.bs x = Ln.bs (Ln.spaced (l.take (k + 1))) := by
            rw [bs_add, bs_add, HST.out, if_neg h0, List.append_assoc, HX.out]
          have HADD := Lib.hid hadd
          clear h0 hle hadd
          go_wp2_with fail
          go_loop [8] (fun i => ∃ j : Nat, j ≤ x.length ∧ i = .int .i64 j) (fun i => x.length - (intOf i).toNat)
          case atStart => exact ⟨0, Nat.zero_le _, rfl⟩
          case round =>
            obtain ⟨j, hj, rfl⟩ := hrel
            by_cases hjl : j < x.length
            · have hjb : j < (Ln.bs x).size := by omega
              have HG := Lib.hid (Ln.bs_get x j hjb hjl)
              have hsg := (Ln.sign_iff _).1 (HXA.out (x[j]'hjl) (List.getElem_mem _))
              rw [← HG.out] at hsg
              obtain ⟨g1, g2⟩ := hsg
              have q1 : decide ((((Ln.bs x)[j]'hjb).toNat : Int) < 33) = false := by simp; omega
              have q2 : decide ((126 : Int) < (((Ln.bs x)[j]'hjb).toNat : Int)) = false := by simp; omega
              go_wp2_with fail
              go_round
              case rel => exact ⟨j + 1, by omega, by go_num⟩
              case measure => simp [intOf]; omega
            · go_wp2_with fail
              go_round
              case rel =>
                refine ⟨k + 1, by omega, by go_num, ?_⟩
                rw [← HADD.out]
                rfl
              case measure => simp [intOf]; omega
      · have HK : Hid (Ln.spaced (l.take k) = s) := by rw [Hid, List.take_of_length_le (by omega), HSP.out]
        rw [HK.out]
        have q1 : decide ((1 : Int) ≤ (l.length : Int)) = true := by simp; omega
        have q2 : decide ((l.length : Int) ≤ 8) = true := by simp; omega
        go_wp2_with fail
        go_ret
        exact ⟨rfl, B2.out⟩
  · have he := Ln.wordsR_err s hq
    rw [he] at hs2 ⊢
    obtain ⟨A, c, rfl⟩ := hs2.none_ rfl
    clear hs2 hb2 hq he
    go_wp2_with fail
    go_ret
    exact ⟨rfl, B2.out⟩
end Go.Proofs.Ytdgikcokhoijlaa
