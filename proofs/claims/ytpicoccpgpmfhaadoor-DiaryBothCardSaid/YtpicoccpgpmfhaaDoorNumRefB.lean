/-
  What the reference's Take and Whole of layer 1 answer, for every input: Nm.takeR and Nm.wholeR.
  Conditions: a string's length is at most the model's greatest.
-/
import Derived.Test.YtpicoccpgpmfhaaDoorNumRefA
namespace Go.Proofs.YtpicoccpgpmfhaaDoor
open Go.RowKit

/-- What the first loop has found, when it ends at k: the digits from n on are those up to k. -/
theorem lead_found (s : ByteArray) (n k : Nat) (hnk : n ≤ k) (hk : k ≤ s.size) (h : ∀ j (hj : j < s.size), n ≤ j → j < k → Nm.isDig s[j] = true) (he : ∀ hk' : k < s.size, Nm.isDig s[k] = false) :
    Nm.lead (s.data.toList.drop n) = (s.data.toList.drop n).take (k - n) := by
  have hl : s.data.toList.length = s.size := by simp
  refine Nm.lead_of _ _ (by simp; omega) (fun j hj hjk => ?_) (fun hk' => ?_)
  · rw [List.getElem_drop]
    simp at hj
    exact h (n + j) (by omega) (by omega) (by omega)
  · rw [List.getElem_drop]
    simp at hk'
    have e : n + (k - n) = k := by omega
    have := he (by omega)
    simp only [e]
    exact this

theorem drop_at (s : ByteArray) (n i : Nat) (hni : n ≤ i) (hi : i < s.size) : ∃ h : i - n < (s.data.toList.drop n).length, (s.data.toList.drop n)[i - n] = s[i] := by
  refine ⟨by simp; omega, ?_⟩
  rw [List.getElem_drop]
  have e : n + (i - n) = i := by omega
  simp only [e]
  rfl

theorem rTake_at (s : ByteArray) (a : Int) (w : World) (hs : s.size ≤ 9223372036854775806) :
    Calls Tryd.prog 49 #[.string s, .int .i64 a] w fun e w' =>
      e = .returned (.tuple #[.int .i64 (Nm.takeR s.data.toList a).1, .int .i64 (Nm.takeR s.data.toList a).2.1, .int .i64 (Nm.takeR s.data.toList a).2.2]) ∧ w = w' := by
  have HL : Hid (s.data.toList.length = s.size) := by simp [Hid]
  by_cases h0 : a < 0
  · have HR := Lib.hid (Nm.takeR_arg s.data.toList a (.inl h0))
    go_enter Tryd.func49, Tryd.ntmps49
    go_wp2_with fail
    go_ret3
    exact ⟨ret3 _ HR.out rfl rfl rfl, rfl⟩
  by_cases h1 : (s.size : Int) < a
  · have HR := Lib.hid (Nm.takeR_arg s.data.toList a (.inr (by rw [HL.out]; exact h1)))
    go_enter Tryd.func49, Tryd.ntmps49
    go_wp2_with fail
    go_ret3
    exact ⟨ret3 _ HR.out rfl rfl rfl, rfl⟩
  obtain ⟨n, rfl⟩ := Int.eq_ofNat_of_zero_le (show 0 ≤ a by omega)
  have hn : n ≤ s.size := by omega
  have hb0 : decide ((n : Int) < 0) = false := by simp
  have hb1 : decide ((s.size : Int) < (n : Int)) = false := by simp; omega
  have hb2 : decide (s.size < n) = false := by simp; omega
  clear h0 h1
  go_enter Tryd.func49, Tryd.ntmps49
  go_wp2_with fail
  go_loop [7] (fun i => ∃ k : Nat, n ≤ k ∧ k ≤ s.size ∧ i = .int .i64 k ∧ ∀ j (hj : j < s.size), n ≤ j → j < k → Nm.isDig s[j] = true) (fun i => s.size - (intOf i).toNat)
  case atStart => exact ⟨n, Nat.le_refl _, hn, rfl, fun _ _ h1 h2 => absurd h2 (by omega)⟩
  case round =>
    obtain ⟨k, hnk, hk, rfl, hall⟩ := hrel
    have HA := Lib.hid hall
    clear hall
    by_cases hlt : k < s.size
    · have HG := Lib.hid (rDigit_at s[k] w)
      by_cases hd : Nm.isDig s[k] = true
      · go_wp2_with fail
        refine HG.out.mono ?_
        rintro e w' ⟨rfl, rfl⟩
        rw [hd]
        have HD := Lib.hid hd
        clear hd
        go_wp2_with fail
        go_round
        case rel =>
          refine ⟨k + 1, by omega, by omega, by go_num, fun j hj hnj hjk => ?_⟩
          rcases Nat.lt_or_ge j k with h1 | h1
          · exact HA.out j hj hnj h1
          · obtain rfl : j = k := by omega
            exact HD.out
        case measure => simp [intOf]; omega
      have HF := Lib.hid (lead_found s n k hnk hk HA.out (fun _ => by simpa using hd))
      go_wp2_with fail
      refine HG.out.mono ?_
      rintro e w' ⟨rfl, rfl⟩
      have hd' : Nm.isDig s[k] = false := by simpa using hd
      rw [hd']
      clear hd hd' HG
      by_cases hkn : k = n
      · have HR := Lib.hid (Nm.takeR_form s.data.toList n (by rw [HL.out]; exact hn) (.inl (by rw [HF.out, hkn]; simp)))
        have hq : ((k : Int) == (n : Int)) = true := beq_iff_eq.2 (by omega)
        clear hkn
        go_wp2_with fail
        go_ret3
        exact ⟨ret3 _ HR.out rfl rfl rfl, rfl⟩
      have hq : ((k : Int) == (n : Int)) = false := beq_eq_false_iff_ne.2 (by omega)
      have hnk1 : n + 1 ≤ k := by omega
      clear hkn
      have HLn : Hid ((Nm.lead (s.data.toList.drop n)).length = k - n) := by
        rw [Hid, HF.out, List.length_take, List.length_drop, HL.out]; omega
      have HH : Hid ((Nm.lead (s.data.toList.drop n)).head? = some s[n]) := by
        obtain ⟨h1, h2⟩ := drop_at s n n (Nat.le_refl _) (by omega)
        have h3 : n - n = 0 := by omega
        rw [Hid, HF.out, List.head?_take, if_neg (by omega), List.head?_eq_getElem?]
        simp only [h3] at h1 h2
        rw [List.getElem?_eq_getElem h1, h2]
      by_cases hz : s[n].toNat = 48 ∧ n + 1 < k
      · obtain ⟨hz1, hz2⟩ := hz
        have HR := Lib.hid (Nm.takeR_form s.data.toList n (by rw [HL.out]; exact hn) (.inr ⟨by rw [HH.out]; congr 1; exact UInt8.toNat.inj hz1, by rw [HLn.out]; omega⟩))
        have hz3 : ((s[n].toNat : Int) == 48) = true := beq_iff_eq.2 (by omega)
        have hz4 : (n : Int) + 1 < (k : Int) := by omega
        clear hz1
        go_wp2_with fail
        go_ret3
        exact ⟨ret3 _ HR.out rfl rfl rfl, rfl⟩
      have hno : ¬ (Nm.lead (s.data.toList.drop n) = [] ∨ ((Nm.lead (s.data.toList.drop n)).head? = some 48 ∧ 1 < (Nm.lead (s.data.toList.drop n)).length)) := by
        rintro (h | ⟨h, h'⟩)
        · have h1 := HLn.out
          rw [h] at h1
          simp only [List.length_nil] at h1
          omega
        · rw [HH.out] at h
          injection h with h
          rw [HLn.out] at h'
          exact hz ⟨by rw [h]; rfl, by omega⟩
      have HNO := Lib.hid hno
      clear hno
      have key : (((s[n].toNat : Int) == 48) = false ∧ (n : Int) + 1 < (k : Int)) ∨ ¬ (n : Int) + 1 < (k : Int) := by
        by_cases hb : (n : Int) + 1 < (k : Int)
        · exact .inl ⟨beq_eq_false_iff_ne.2 (fun h => hz ⟨by omega, by omega⟩), hb⟩
        · exact .inr hb
      clear hz
      rcases key with ⟨hy1, hy2⟩ | hy2
      all_goals
        go_wp2_with fail
        go_loop [8, 9] (fun a b => ∃ i v : Nat, n ≤ i ∧ i ≤ k ∧ b = .int .i64 i ∧ a = .int .i64 v ∧ v = Nm.val ((s.data.toList.drop n).take (i - n)) ∧ v ≤ 2147483647) (fun _ b => k - (intOf b).toNat)
        case atStart => exact ⟨n, 0, Nat.le_refl _, by omega, rfl, rfl, by simp [Nm.val], by omega⟩
        case round =>
          obtain ⟨i, v, hni, hik, rfl, rfl, hv, hv2⟩ := hrel
          have HV := Lib.hid hv
          clear hv
          by_cases hlt2 : i < k
          · have hisz : i < s.size := by omega
            have hdg := (Nm.isDig_iff _).1 (HA.out i hisz hni hlt2)
            obtain ⟨d1, d2⟩ := hdg
            have HST : Hid (Nm.val ((s.data.toList.drop n).take (i + 1 - n)) = v * 10 + (s[i].toNat - 48)) := by
              obtain ⟨h1, h2⟩ := drop_at s n i hni hisz
              have h3 := Nm.val_step _ _ h1
              rw [h2, ← HV.out] at h3
              rw [Hid, show i + 1 - n = i - n + 1 by omega]
              exact h3
            by_cases hgt : v * 10 + (s[i].toNat - 48) ≤ 2147483647
            · have hg1 : ¬ (2147483647 : Int) < 10 * (v : Int) + ((s[i].toNat : Int) - 48) := by omega
              go_wp2_with fail
              go_round
              case rel => exact ⟨i + 1, v * 10 + (s[i].toNat - 48), by omega, by omega, by go_num, by go_num, HST.out.symm, hgt⟩
              case measure => simp [intOf]; omega
            · have hg1 : (2147483647 : Int) < 10 * (v : Int) + ((s[i].toNat : Int) - 48) := by omega
              have HB : Hid (¬ Nm.val (Nm.lead (s.data.toList.drop n)) ≤ 2147483647) := by
                have h1 := Nm.val_append_le (((s.data.toList.drop n).take (k - n)).take (i + 1 - n)) (((s.data.toList.drop n).take (k - n)).drop (i + 1 - n))
                rw [List.take_append_drop, List.take_take, Nat.min_eq_left (by omega), HST.out] at h1
                rw [Hid, HF.out]
                omega
              have HR := Lib.hid (Nm.takeR_num s.data.toList n (by rw [HL.out]; exact hn) HNO.out HB.out)
              go_wp2_with fail
              go_ret3
              exact ⟨ret3 _ HR.out rfl rfl rfl, rfl⟩
          · obtain rfl : i = k := by omega
            have HB : Hid (Nm.val (Nm.lead (s.data.toList.drop n)) = v) := by rw [Hid, HF.out]; exact HV.out.symm
            have HR := Lib.hid (Nm.takeR_ok s.data.toList n (by rw [HL.out]; exact hn) HNO.out (by rw [HB.out]; exact hv2))
            clear hlt2
            go_wp2_with fail
            go_ret3
            exact ⟨ret3 _ HR.out (by rw [HB.out]) (by rw [HLn.out]; omega) rfl, rfl⟩
    · have HF := Lib.hid (lead_found s n k hnk hk HA.out (fun h => absurd h hlt))
      by_cases hkn : k = n
      · have HR := Lib.hid (Nm.takeR_form s.data.toList n (by rw [HL.out]; exact hn) (.inl (by rw [HF.out, hkn]; simp)))
        have hq : ((k : Int) == (n : Int)) = true := beq_iff_eq.2 (by omega)
        clear hkn
        go_wp2_with fail
        go_ret3
        exact ⟨ret3 _ HR.out rfl rfl rfl, rfl⟩
      have hq : ((k : Int) == (n : Int)) = false := beq_eq_false_iff_ne.2 (by omega)
      have hnk1 : n + 1 ≤ k := by omega
      clear hkn
      have HLn : Hid ((Nm.lead (s.data.toList.drop n)).length = k - n) := by
        rw [Hid, HF.out, List.length_take, List.length_drop, HL.out]; omega
      have HH : Hid ((Nm.lead (s.data.toList.drop n)).head? = some s[n]) := by
        obtain ⟨h1, h2⟩ := drop_at s n n (Nat.le_refl _) (by omega)
        have h3 : n - n = 0 := by omega
        rw [Hid, HF.out, List.head?_take, if_neg (by omega), List.head?_eq_getElem?]
        simp only [h3] at h1 h2
        rw [List.getElem?_eq_getElem h1, h2]
      by_cases hz : s[n].toNat = 48 ∧ n + 1 < k
      · obtain ⟨hz1, hz2⟩ := hz
        have HR := Lib.hid (Nm.takeR_form s.data.toList n (by rw [HL.out]; exact hn) (.inr ⟨by rw [HH.out]; congr 1; exact UInt8.toNat.inj hz1, by rw [HLn.out]; omega⟩))
        have hz3 : ((s[n].toNat : Int) == 48) = true := beq_iff_eq.2 (by omega)
        have hz4 : (n : Int) + 1 < (k : Int) := by omega
        clear hz1
        go_wp2_with fail
        go_ret3
        exact ⟨ret3 _ HR.out rfl rfl rfl, rfl⟩
      have hno : ¬ (Nm.lead (s.data.toList.drop n) = [] ∨ ((Nm.lead (s.data.toList.drop n)).head? = some 48 ∧ 1 < (Nm.lead (s.data.toList.drop n)).length)) := by
        rintro (h | ⟨h, h'⟩)
        · have h1 := HLn.out
          rw [h] at h1
          simp only [List.length_nil] at h1
          omega
        · rw [HH.out] at h
          injection h with h
          rw [HLn.out] at h'
          exact hz ⟨by rw [h]; rfl, by omega⟩
      have HNO := Lib.hid hno
      clear hno
      have key : (((s[n].toNat : Int) == 48) = false ∧ (n : Int) + 1 < (k : Int)) ∨ ¬ (n : Int) + 1 < (k : Int) := by
        by_cases hb : (n : Int) + 1 < (k : Int)
        · exact .inl ⟨beq_eq_false_iff_ne.2 (fun h => hz ⟨by omega, by omega⟩), hb⟩
        · exact .inr hb
      clear hz
      rcases key with ⟨hy1, hy2⟩ | hy2
      all_goals
        go_wp2_with fail
        go_loop [8, 9] (fun a b => ∃ i v : Nat, n ≤ i ∧ i ≤ k ∧ b = .int .i64 i ∧ a = .int .i64 v ∧ v = Nm.val ((s.data.toList.drop n).take (i - n)) ∧ v ≤ 2147483647) (fun _ b => k - (intOf b).toNat)
        case atStart => exact ⟨n, 0, Nat.le_refl _, by omega, rfl, rfl, by simp [Nm.val], by omega⟩
        case round =>
          obtain ⟨i, v, hni, hik, rfl, rfl, hv, hv2⟩ := hrel
          have HV := Lib.hid hv
          clear hv
          by_cases hlt2 : i < k
          · have hisz : i < s.size := by omega
            have hdg := (Nm.isDig_iff _).1 (HA.out i hisz hni hlt2)
            obtain ⟨d1, d2⟩ := hdg
            have HST : Hid (Nm.val ((s.data.toList.drop n).take (i + 1 - n)) = v * 10 + (s[i].toNat - 48)) := by
              obtain ⟨h1, h2⟩ := drop_at s n i hni hisz
              have h3 := Nm.val_step _ _ h1
              rw [h2, ← HV.out] at h3
              rw [Hid, show i + 1 - n = i - n + 1 by omega]
              exact h3
            by_cases hgt : v * 10 + (s[i].toNat - 48) ≤ 2147483647
            · have hg1 : ¬ (2147483647 : Int) < 10 * (v : Int) + ((s[i].toNat : Int) - 48) := by omega
              go_wp2_with fail
              go_round
              case rel => exact ⟨i + 1, v * 10 + (s[i].toNat - 48), by omega, by omega, by go_num, by go_num, HST.out.symm, hgt⟩
              case measure => simp [intOf]; omega
            · have hg1 : (2147483647 : Int) < 10 * (v : Int) + ((s[i].toNat : Int) - 48) := by omega
              have HB : Hid (¬ Nm.val (Nm.lead (s.data.toList.drop n)) ≤ 2147483647) := by
                have h1 := Nm.val_append_le (((s.data.toList.drop n).take (k - n)).take (i + 1 - n)) (((s.data.toList.drop n).take (k - n)).drop (i + 1 - n))
                rw [List.take_append_drop, List.take_take, Nat.min_eq_left (by omega), HST.out] at h1
                rw [Hid, HF.out]
                omega
              have HR := Lib.hid (Nm.takeR_num s.data.toList n (by rw [HL.out]; exact hn) HNO.out HB.out)
              go_wp2_with fail
              go_ret3
              exact ⟨ret3 _ HR.out rfl rfl rfl, rfl⟩
          · obtain rfl : i = k := by omega
            have HB : Hid (Nm.val (Nm.lead (s.data.toList.drop n)) = v) := by rw [Hid, HF.out]; exact HV.out.symm
            have HR := Lib.hid (Nm.takeR_ok s.data.toList n (by rw [HL.out]; exact hn) HNO.out (by rw [HB.out]; exact hv2))
            clear hlt2
            go_wp2_with fail
            go_ret3
            exact ⟨ret3 _ HR.out (by rw [HB.out]) (by rw [HLn.out]; omega) rfl, rfl⟩

theorem rWhole_at (s : ByteArray) (w : World) (hs : s.size ≤ 9223372036854775806) :
    Calls Tryd.prog 34 #[.string s] w fun e w' => e = .returned (.tuple #[.int .i64 (Nm.wholeR s.data.toList).1, .int .i64 (Nm.wholeR s.data.toList).2]) ∧ w = w' := by
  have HL : Hid (s.data.toList.length = s.size) := by simp [Hid]
  have HT := Lib.hid (rTake_at s 0 w hs)
  have HE := Lib.hid (Nm.takeR_end s.data.toList 0)
  go_enter Tryd.func34, Tryd.ntmps34
  go_wp2_with fail
  refine HT.out.mono ?_
  rintro e w' ⟨rfl, rfl⟩
  have HWR : Hid (Nm.wholeR s.data.toList = if (Nm.takeR s.data.toList 0).2.2 = 0 then (if (Nm.takeR s.data.toList 0).2.1 = (s.size : Int) then ((Nm.takeR s.data.toList 0).1, 0) else (0, 2)) else (0, (Nm.takeR s.data.toList 0).2.2)) := by
    rw [Hid, Nm.wholeR, HL.out]
  have HE2 : Hid ((Nm.takeR s.data.toList 0).2.2 = 0 → (Nm.takeR s.data.toList 0).2.1 ≤ (s.size : Int)) := by
    rw [Hid, ← HL.out]; exact HE.out
  clear HT HE
  generalize Nm.takeR s.data.toList 0 = r at *
  obtain ⟨x, y, z⟩ := r
  by_cases hz : z = 0
  · have hle := HE2.out hz
    dsimp only at hle
    by_cases hy : y = (s.size : Int)
    · have h1 : (z != 0) = false := by simp [hz]
      have h2 : ¬ y < (s.size : Int) := by omega
      have HZ := Lib.hid hz
      have HY := Lib.hid hy
      clear hz hy
      go_wp2_with fail
      go_ret2
      exact ⟨ret2 _ (HWR.out.trans (by rw [if_pos HZ.out, if_pos HY.out])) rfl rfl, rfl⟩
    · have h1 : (z != 0) = false := by simp [hz]
      have h2 : y < (s.size : Int) := by omega
      have HZ := Lib.hid hz
      have HY := Lib.hid hy
      clear hz hy
      go_wp2_with fail
      go_ret2
      exact ⟨ret2 _ (HWR.out.trans (by rw [if_pos HZ.out, if_neg HY.out])) rfl rfl, rfl⟩
  · have h1 : (z != 0) = true := by simp [hz]
    have HZ := Lib.hid hz
    clear hz
    go_wp2_with fail
    go_ret2
    exact ⟨ret2 _ (HWR.out.trans (by rw [if_neg HZ.out])) rfl rfl, rfl⟩
end Go.Proofs.YtpicoccpgpmfhaaDoor
