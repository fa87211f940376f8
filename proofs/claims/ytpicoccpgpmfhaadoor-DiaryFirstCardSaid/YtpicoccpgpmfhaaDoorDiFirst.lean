/-
  DiaryFirst answers true for every two texts: the line that is told is the first one that is no event's, and its error is that; all ahead of it are events'; what stands behind plays no part.
  Conditions: the variable that lists the kinds' words holds them; a string's length is at most the model's greatest.
-/
import Derived.Test.YtpicoccpgpmfhaaDoorDiAwake
namespace Go.Proofs.YtpicoccpgpmfhaaDoor
open Go.RowKit

set_option maxRecDepth 4000 in
set_option maxHeartbeats 2000000 in
theorem lawDiaryFirst (s t : List UInt8) (w : World) (hK : KW w) (hs : s.length ≤ maxLen) (_ht : t.length ≤ maxLen) : Calls Tryd.prog 5 #[.string (Ln.bs s), .string (Ln.bs t)] w (RetBool w true) := by
  have K0 := Lib.hid hK
  have HM := Lib.hid hs
  have hz1 : (Ln.bs s).size = s.length := Ln.bs_size s
  have hz2 : (Ln.bs t).size = t.length := Ln.bs_size t
  clear hK hs
  go_enter Tryd.func5, Tryd.ntmps5
  go_wp2_with fail
  refine (diAwake_at w K0.out).mono ?_
  rintro e w1 ⟨rfl, hb1⟩
  have K1 := Lib.hid (K0.out.below hb1)
  have B1 := Lib.hid hb1
  clear hb1 K0
  by_cases h3 : 3000 < s.length
  · have hd : decide ((3000 : Int) < ((Ln.bs s).size : Int)) = true := by simp; omega
    clear h3 hz1 hz2
    go_wp2_with fail
    go_ret
    exact ⟨rfl, B1.out⟩
  have hd : decide ((3000 : Int) < ((Ln.bs s).size : Int)) = false := by simp; omega
  by_cases h4 : 1000 < t.length
  · have hd2 : decide ((1000 : Int) < ((Ln.bs t).size : Int)) = true := by simp; omega
    clear h3 h4 hz1 hz2
    go_wp2_with fail
    go_ret
    exact ⟨rfl, B1.out⟩
  have hd2 : decide ((1000 : Int) < ((Ln.bs t).size : Int)) = false := by simp; omega
  have hzz : ¬ 9223372036854775807 < (Ln.bs s).size + (Ln.bs t).size := by omega
  have HST : Hid ((s ++ t).length ≤ maxLen) := by rw [Hid, List.length_append]; unfold maxLen; omega
  have HAD := Lib.hid (bs_add s t)
  clear h3 h4 hz1 hz2
  go_wp2_with fail
  refine (diParse_at s w1 HM.out K1.out).mono ?_
  rintro e w2 ⟨v2, rfl, hs2, hb2⟩
  have K2 := Lib.hid (K1.out.below hb2)
  have S2 := Lib.hid hs2
  have B2 := Lib.hid (below_all B1.out hb2)
  clear hb2 hs2 K1 B1
  go_wp2_with fail
  refine (split_at s w2 HM.out).mono ?_
  rintro e w3 ⟨v3, rfl, hs3, hb3⟩
  have K3 := Lib.hid (K2.out.below hb3)
  have B3 := Lib.hid (below_all B2.out hb3)
  clear hb3 K2 B2
  by_cases hf : (Ln.splitR s).2 = 0
  · by_cases hbad : Di.bad (Ln.splitR s).1 = 0
    · have hp := Di.parse_ok s hf hbad
      rw [hp] at S2 ⊢
      rw [hf]
      obtain ⟨A2, c2, rfl, _⟩ := S2.out.form
      obtain ⟨A3, c3, rfl, _⟩ := hs3.form
      have hel := Di.evs_len (Ln.splitR s).1
      dsimp only
      generalize Di.evs (Ln.splitR s).1 = d at *
      generalize (Ln.splitR s).1 = l at *
      rw [hel]
      clear hf hbad hp hs3 S2 hel
      go_wp2_with fail
      go_ret
      exact ⟨rfl, B3.out⟩
    · have hp := Di.parse_bad s hf hbad
      have HMO := Lib.hid (Di.parse_more s t hf hbad)
      have HSP := Lib.hid (Di.parse_split (s ++ t))
      obtain ⟨k0, hk0, e1, e2, e3⟩ := Di.place_is (Ln.splitR s).1 hbad
      have hl := Ln.splitR_len s
      have HLN : Hid (∀ x ∈ (Ln.splitR s).1, x.length ≤ maxLen) := fun x hx => Nat.le_trans (Di.line_len s hf x hx) HM.out
      rw [hp] at S2 ⊢
      rw [hf]
      rw [e1] at HMO ⊢
      rw [Int.natCast_add, show ((1 : Nat) : Int) = 1 from rfl] at HMO ⊢
      obtain ⟨A2, c2, rfl⟩ := S2.out.none_ rfl
      dsimp only
      have hbb : (Di.bad (Ln.splitR s).1 == 0) = false := by rw [beq_eq_false_iff_ne]; exact hbad
      generalize Di.bad (Ln.splitR s).1 = q at *
      generalize (Ln.splitR s).1 = l at *
      obtain ⟨A3, c3, rfl, hform⟩ := hs3.form
      have HF := Lib.hid hform
      have HE2 : Hid (∀ (k : Nat) (hk : k < l.length), k < k0 → (Ev.parseR l[k]).2 = 0) := fun k hk hkk => by
        have h := (Di.bad_zero (l.take k0)).1 e2 l[k] (List.mem_take_iff_getElem.2 ⟨k, by omega, rfl⟩)
        exact h
      have HE3 := Lib.hid e3
      clear hf hbad hp hs3 S2 hform e1 e2 e3
      go_wp2_with fail
      go_loopw [11] (fun i wr => ∃ k : Nat, k ≤ k0 + 1 ∧ i = .int .i64 k ∧ Below w3.heap.size w3 wr) (fun i _ => k0 + 1 - (intOf i).toNat)
      case atStart => exact ⟨0, Nat.zero_le _, rfl, Below.refl _ _⟩
      case round =>
        obtain ⟨k, hk, rfl, hb⟩ := hrel
        have HB := Lib.hid hb
        clear hb
        by_cases hlt : k < k0 + 1
        · have hkl : k < l.length := by omega
          have hlt' : (k : Int) < (k0 : Int) + 1 := by omega
          obtain ⟨ad, rfl, hblk, hcell⟩ := HF.out k hkl
          obtain ⟨x, hx⟩ : ∃ x, x = l[k]'hkl := ⟨_, rfl⟩
          have hc2 : wr.cell? (ad.add k) = some (.string (Ln.bs x)) := by rw [hx]; exact (HB.out.cell (by rw [add_block]; exact hblk)).trans hcell
          have HXM : Hid (x.length ≤ maxLen) := by rw [hx]; exact HLN.out _ (List.getElem_mem _)
          have HG0 := Lib.hid (HE2.out k hkl)
          have HG1 : Hid (k = k0 → (Ev.parseR x).2 = q) := fun h => by subst h; rw [hx]; exact HE3.out
          rw [← hx] at HG0
          clear hcell hx
          go_wp2_with fail
          refine (evParse_at x _ HXM.out (K3.out.below HB.out)).mono ?_
          rintro e w4 ⟨rfl, hb4⟩
          have HB4 := Lib.hid (HB.out.trans (hb4.mono HB.out.size))
          generalize (Ev.parseR x).1 = y at *
          unfold evV
          clear hb4
          by_cases hkk : k < k0
          · rw [HG0.out hkk]
            clear HG0 HG1 HE2 HE3 HF HLN HMO HSP
            have q1 : decide ((k : Int) < (k0 : Int) + 1 - 1) = true := by simp; omega
            have q2 : ((k : Int) == (k0 : Int) + 1 - 1) = false := by rw [beq_eq_false_iff_ne]; omega
            go_wp2_with fail
            go_roundw
            case rel => exact ⟨k + 1, by omega, by go_num, HB4.out.alloc HB4.out.size _⟩
            case measure => simp [intOf]; omega
          · obtain rfl : k = k0 := by omega
            rw [HG1.out rfl]
            clear HG0 HG1 HE2 HE3 HF HLN HMO HSP
            have q1 : decide ((k : Int) < (k : Int) + 1 - 1) = false := by simp
            have q2 : ((k : Int) == (k : Int) + 1 - 1) = true := by rw [beq_iff_eq]; omega
            go_wp2_with fail
            go_roundw
            case rel => exact ⟨k + 1, by omega, by go_num, HB4.out.alloc HB4.out.size _⟩
            case measure => simp [intOf]
        · have hge : decide ((k : Int) < (k0 : Int) + 1) = false := by simp; omega
          have hadd := HAD.out
          clear HE2 HE3 HF HLN hlt
          go_wp2_with fail
          refine (split_at (s ++ t) wr HST.out).mono ?_
          rintro e w5 ⟨v5, rfl, hs5, hb5⟩
          have K5 := Lib.hid ((K3.out.below HB.out).below hb5)
          have B5 := Lib.hid (below_all B3.out (HB.out.trans (hb5.mono HB.out.size)))
          clear hs5 hb5
          go_wp2_with fail
          refine (diParse_at (s ++ t) w5 HST.out K5.out).mono ?_
          rintro e w6 ⟨v6, rfl, hs6, hb6⟩
          have B6 := Lib.hid (below_all B5.out hb6)
          clear hs6 hb6 hadd K5
          by_cases hh : (Ln.splitR (s ++ t)).2 = 0
          · rw [HMO.out hh, hh]
            clear HMO HSP hh
            go_wp2_with fail
            go_ret
            exact ⟨rfl, B6.out⟩
          · rw [HSP.out hh]
            have hhb : ((Ln.splitR (s ++ t)).2 != 0) = true := by rw [bne_iff_ne]; exact hh
            generalize (Ln.splitR (s ++ t)).2 = j at *
            clear HMO HSP hh
            go_wp2_with fail
            go_ret
            exact ⟨rfl, B6.out⟩
  · have hp := Di.parse_split s hf
    rw [hp] at S2 ⊢
    obtain ⟨A2, c2, rfl⟩ := S2.out.none_ rfl
    dsimp only
    have hfb : ((Ln.splitR s).2 != 0) = true := by rw [bne_iff_ne]; exact hf
    generalize (Ln.splitR s).2 = q at *
    clear hs3 hf hp S2
    go_wp2_with fail
    go_ret
    exact ⟨rfl, B3.out⟩
end Go.Proofs.YtpicoccpgpmfhaaDoor
