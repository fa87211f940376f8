/-
  What the reference's Digit, Is, digits, Show, Take and Whole of layer 1 answer, for every input: Nm.isDig, Nm.isNum, Nm.digs, Nm.showS and Nm.showE, Nm.takeR, Nm.wholeR.
  Conditions: a string's length is at most the model's greatest; digits: a number from 0 to 2147483647.
-/
import Derived.Test.YtpicoccpgpmfhaaDoorNumWalkB
import Derived.Laws.BytesArg
namespace Go.Proofs.YtpicoccpgpmfhaaDoor
open Go.RowKit

theorem rDigit_at (c : UInt8) (w : World) :
    Calls Tryd.prog 56 #[.int .u8 (c.toNat : Int)] w fun e w' => e = .returned (.bool (Nm.isDig c)) ∧ w = w' := by
  by_cases h : 48 ≤ c.toNat
  · by_cases h2 : c.toNat ≤ 57
    · have HR := Lib.hid ((Nm.isDig_iff c).2 ⟨h, h2⟩)
      go_enter Tryd.func56, Tryd.ntmps56
      go_wp2
      go_ret
      exact ⟨ret_bool (by rw [HR.out]; simp; omega), rfl⟩
    · have HR := Lib.hid ((Nm.isDig_not c).2 (.inr (by omega)))
      go_enter Tryd.func56, Tryd.ntmps56
      go_wp2
      go_ret
      exact ⟨ret_bool (by rw [HR.out]; simp; omega), rfl⟩
  · have HR := Lib.hid ((Nm.isDig_not c).2 (.inl (by omega)))
    go_enter Tryd.func56, Tryd.ntmps56
    go_wp2
    go_ret
    exact ⟨ret_bool (by rw [HR.out]), rfl⟩

theorem rIs_at (n : Int) (w : World) :
    Calls Tryd.prog 51 #[.int .i64 n] w fun e w' => e = .returned (.bool (Nm.isNum n)) ∧ w = w' := by
  by_cases h : 0 ≤ n
  · have HR := Lib.hid (show Nm.isNum n = decide (n ≤ 2147483647) by simp [Nm.isNum, h])
    go_enter Tryd.func51, Tryd.ntmps51
    go_wp2
    go_ret
    exact ⟨ret_bool (by rw [HR.out]), rfl⟩
  · have HR := Lib.hid (show Nm.isNum n = false by simp [Nm.isNum, h])
    go_enter Tryd.func51, Tryd.ntmps51
    go_wp2
    go_ret
    exact ⟨ret_bool (by rw [HR.out]), rfl⟩

/-- One byte, as a text. -/
theorem one_text (c : UInt8) (v : Int) (hv : v = (c.toNat : Int)) (w : World) :
    (convert 62 9 (.slice (some ⟨w.heap.size, 0, none⟩) 1 1)).run Tryd.prog (w.alloc (.cells #[.int .u8 v] 5)) = .ok (.string ⟨[c].toArray⟩) (w.alloc (.cells #[.int .u8 v] 5)) := by
  subst hv
  have := run_convert_bytes_arg (P := Tryd.prog) (w.alloc (.cells #[.int .u8 (c.toNat : Int)] 5)) 62 5 Tryd.underlying62 Tryd.underlying5 w.heap.size 0 1 1 [(c.toNat : Int)] rfl (fun i hi => by
    obtain rfl : i = 0 := by omega
    rw [cell_of_row _ _ _ #[.int .u8 (c.toNat : Int)] 5 (0, 0) (heap_alloc_new w _)]
    rfl) 9 Tryd.underlying9
  rw [this]
  congr 2
  simp [strOfNums]

theorem rdigits_small (n : Nat) (w : World) (h : n < 10) :
    Calls Tryd.prog 57 #[.int .i64 (n : Int)] w fun e w' => e = .returned (.string ⟨(Nm.digs n).toArray⟩) ∧ Below w.heap.size w w' := by
  have hd := Nm.dig_toNat (n % 10) (by omega)
  have hcv := one_text (Nm.dig (n % 10)) (48 + (n : Int) % 10) (by omega) w
  generalize hS : (⟨[Nm.dig (n % 10)].toArray⟩ : ByteArray) = S at hcv
  have HSS := Lib.hid hS
  have HS := Lib.hid (Nm.digs_small n h)
  have HM := Lib.hid (Nat.mod_eq_of_lt h)
  clear hS hd
  go_enter Tryd.func57, Tryd.ntmps57
  go_wp2_with fail
  go_ret
  exact ⟨ret_str (by rw [HS.out, ← HSS.out, HM.out]), (Below.refl _ _).alloc (Nat.le_refl _) _⟩

theorem rdigits_at (k : Nat) : ∀ (n : Nat) (w : World), n ≤ k → n ≤ 2147483647 →
    Calls Tryd.prog 57 #[.int .i64 (n : Int)] w fun e w' => e = .returned (.string ⟨(Nm.digs n).toArray⟩) ∧ Below w.heap.size w w' := by
  induction k with
  | zero =>
    intro n w hk hn
    exact rdigits_small n w (by omega)
  | succ k ih =>
    intro n w hk hn
    have hd := Nm.dig_toNat (n % 10) (by omega)
    have hcv := one_text (Nm.dig (n % 10)) (48 + (n : Int) % 10) (by omega) w
    have hSz : (⟨[Nm.dig (n % 10)].toArray⟩ : ByteArray).size = 1 := rfl
    generalize hS : (⟨[Nm.dig (n % 10)].toArray⟩ : ByteArray) = S at hcv hSz
    have HSS := Lib.hid hS
    have HSZ := Lib.hid hSz
    have HI := Lib.hid ih
    clear hS hd hSz ih
    by_cases h : n < 10
    · exact rdigits_small n w h
    · have HS := Lib.hid (Nm.digs_big n (by omega))
      have HL := Lib.hid (Nm.digs_len10 (n / 10) (by omega))
      have h' : ¬ (n : Int) < 10 := by omega
      go_enter Tryd.func57, Tryd.ntmps57
      go_wp2_with fail
      rw [show ((n : Int) / 10) = ((n / 10 : Nat) : Int) by omega]
      refine (HI.out (n / 10) _ (by omega) (by omega)).mono ?_
      rintro e w' ⟨rfl, hg⟩
      have hsz : (⟨(Nm.digs (n / 10)).toArray⟩ : ByteArray).size ≤ 10 := HL.out
      generalize hT : (⟨(Nm.digs (n / 10)).toArray⟩ : ByteArray) = T at hsz ⊢
      have HT := Lib.hid hT
      have hs1 : S.size ≤ 1 := by rw [HSZ.out]; omega
      clear hT
      go_wp2_with fail
      go_ret
      refine ⟨ret_str ?_, below_all ((Below.refl _ _).alloc (Nat.le_refl _) _) hg⟩
      rw [HS.out, ← HT.out, ← HSS.out]
      simp [ByteArray.ext_iff]

theorem rShow_at (n : Int) (w : World) :
    Calls Tryd.prog 52 #[.int .i64 n] w fun e w' => e = .returned (.tuple #[.string ⟨(Nm.showS n).toArray⟩, .int .i64 (Nm.showE n)]) ∧ Below w.heap.size w w' := by
  have HI := Lib.hid (rIs_at n w)
  by_cases h : Nm.isNum n = true
  · obtain ⟨h0, h1⟩ := (Nm.isNum_iff n).1 h
    obtain ⟨m, rfl⟩ := Int.eq_ofNat_of_zero_le h0
    have HS := Lib.hid (show Nm.showS (m : Int) = Nm.digs m by rw [Nm.showS, if_pos h, Int.toNat_natCast])
    have HE := Lib.hid (show Nm.showE (m : Int) = 0 by rw [Nm.showE, if_pos h])
    have HD := Lib.hid (rdigits_at m m w (Nat.le_refl _) (by omega))
    have HH := Lib.hid h
    clear h h0
    go_enter Tryd.func52, Tryd.ntmps52
    go_wp2_with fail
    refine HI.out.mono ?_
    rintro e w' ⟨rfl, rfl⟩
    rw [HH.out]
    go_wp2_with fail
    refine HD.out.mono ?_
    rintro e w' ⟨rfl, hg⟩
    generalize hT : (⟨(Nm.digs m).toArray⟩ : ByteArray) = T
    have HT := Lib.hid hT
    clear hT
    go_wp2_with fail
    go_ret2
    exact ⟨by rw [HS.out, HE.out, HT.out]; rfl, hg⟩
  · have HS := Lib.hid (show Nm.showS n = [] by rw [Nm.showS, if_neg h])
    have HE := Lib.hid (show Nm.showE n = 1 by rw [Nm.showE, if_neg h])
    have HH := Lib.hid (show Nm.isNum n = false by simpa using h)
    clear h
    go_enter Tryd.func52, Tryd.ntmps52
    go_wp2_with fail
    refine HI.out.mono ?_
    rintro e w' ⟨rfl, rfl⟩
    rw [HH.out]
    go_wp2_with fail
    go_ret2
    exact ⟨by rw [HS.out, HE.out]; rfl, Below.refl _ _⟩
end Go.Proofs.YtpicoccpgpmfhaaDoor
