/-
  What num.leadingDigits and num.value answer, for every text that a string may hold: the digits ahead, and their value, or that it is above 2147483647.
  Conditions: a string's length is at most the model's greatest.
-/
import Derived.Test.YtpicoccpgpmfhaaDoorProg
import Derived.Test.YtpicoccpgpmfhaaDoorNumPlain
import Derived.Test.YtpicoccpgpmfhaaDoorBase
namespace Go.Proofs.YtpicoccpgpmfhaaDoor
open Go.RowKit


theorem lead_cut (s : ByteArray) (k : Nat) (hk : k ≤ s.size) (h : ∀ j (hj : j < s.size), j < k → Nm.isDig s[j] = true) (he : ∀ hk' : k < s.size, Nm.isDig s[k] = false) :
    s.extract 0 k = ⟨(Nm.lead s.data.toList).toArray⟩ := by
  have hl : s.data.toList.length = s.size := by simp
  rw [Nm.lead_of s.data.toList k (by omega) (fun j hj hjk => h j (by omega) hjk) (fun hk' => he (by omega))]
  apply ByteArray.ext
  apply Array.toList_inj.1
  rw [Lib.extract_data]
  simp

theorem lead_at (s : ByteArray) (w : World) (hs : s.size ≤ maxLen) :
    Calls Tryd.prog 54 #[.string s] w fun e w' => e = .returned (.string ⟨(Nm.lead s.data.toList).toArray⟩) ∧ w = w' := by
  unfold maxLen at hs
  go_enter Tryd.func54, Tryd.ntmps54
  go_wp2
  go_loop [3, 6] (fun _ i => ∃ k : Nat, k ≤ s.size ∧ i = .int .i64 k ∧ ∀ j (hj : j < s.size), j < k → Nm.isDig s[j] = true) (fun _ i => s.size - (intOf i).toNat)
  case atStart => exact ⟨0, Nat.zero_le _, rfl, fun _ _ h => absurd h (by omega)⟩
  case round =>
    obtain ⟨k, hk, rfl, hall⟩ := hrel
    have HA := Lib.hid hall
    clear hall
    by_cases hlt : k < s.size
    · go_wp2
      · rename_i h _
        go_ret
        exact ⟨ret_str (lead_cut s k hk HA.out (fun _ => (Nm.isDig_not _).2 (by omega))), rfl⟩
      · rename_i h
        go_round
        case rel =>
          refine ⟨k + 1, by omega, by go_num, fun j hj hjk => ?_⟩
          rcases Nat.lt_or_ge j k with h1 | h1
          · exact HA.out j hj h1
          · obtain rfl : j = k := by omega
            exact (Nm.isDig_iff _).2 (by omega)
        case measure => simp [intOf]; omega
      · rename_i h _
        go_ret
        exact ⟨ret_str (lead_cut s k hk HA.out (fun _ => (Nm.isDig_not _).2 (by omega))), rfl⟩
    · go_wp2
      go_ret
      have hc := lead_cut s k hk HA.out (fun h => absurd h hlt)
      obtain rfl : k = s.size := by omega
      exact ⟨ret_str (by rw [← hc]; simp), rfl⟩

theorem value_at (s : ByteArray) (w : World) (hs : s.size ≤ maxLen) (hd : ∀ c ∈ s.data.toList, Nm.isDig c = true) :
    Calls Tryd.prog 55 #[.string s] w fun e w' => e = .returned (.tuple #[.int .i64 (Nm.vnum s.data.toList), .bool (Nm.vok s.data.toList)]) ∧ w = w' := by
  unfold maxLen at hs
  have HL : Hid (s.data.toList.length = s.size) := by simp [Hid]
  have HD := Lib.hid hd
  clear hd
  go_enter Tryd.func55, Tryd.ntmps55
  go_wp2
  go_loop [4, 5, 6, 9] (fun n _ _ i => ∃ k v : Nat, k ≤ s.size ∧ i = .int .i64 k ∧ n = .int .i64 v ∧ v = Nm.val (s.data.toList.take k) ∧ v ≤ 2147483647) (fun _ _ _ i => s.size - (intOf i).toNat)
  case atStart => exact ⟨0, 0, Nat.zero_le _, rfl, rfl, rfl, by omega⟩
  case round =>
    obtain ⟨k, v, hk, rfl, rfl, hv, hv2⟩ := hrel
    have HV := Lib.hid hv
    clear hv
    by_cases hlt : k < s.size
    · have hkl : k < s.data.toList.length := by rw [HL.out]; exact hlt
      have hdk := (Nm.isDig_iff _).1 (HD.out s[k] (List.getElem_mem hkl))
      obtain ⟨d1, d2⟩ := hdk
      have HG := Lib.hid (Nm.val_ge s.data.toList k hkl)
      have HS := Lib.hid (Nm.val_step s.data.toList k hkl)
      go_wp2
      · rename_i h _
        go_ret2
        have hg : ¬ Nm.val s.data.toList ≤ 2147483647 := by
          have h1 := HG.out
          rw [← HV.out] at h1
          have h2 : s.data.toList[k] = s[k] := rfl
          rw [h2] at h1
          omega
        exact ⟨ret_int_bool (Nm.vnum_no _ hg).symm (Nm.vok_no _ hg).symm, rfl⟩
      · go_round
        case rel =>
          have h2 : s.data.toList[k] = s[k] := rfl
          have h1 := HS.out
          rw [← HV.out, h2] at h1
          exact ⟨k + 1, v * 10 + (s[k].toNat - 48), by omega, by go_num, by go_num, h1.symm, by omega⟩
        case measure => simp [intOf]; omega
    · go_wp2
      go_ret2
      have h1 : v = Nm.val s.data.toList := by
        rw [HV.out, List.take_of_length_le (by rw [HL.out]; omega)]
      exact ⟨ret_int_bool (by rw [Nm.vnum_yes _ (by omega), h1]) (Nm.vok_yes _ (by omega)).symm, rfl⟩
end Go.Proofs.YtpicoccpgpmfhaaDoor
