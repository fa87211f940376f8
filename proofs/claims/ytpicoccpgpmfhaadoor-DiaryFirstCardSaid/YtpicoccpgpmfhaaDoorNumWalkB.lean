/-
  What num.Take and num.Whole answer, for every text that a string may hold and every place: Nm.takeR and Nm.wholeR; nothing in memory turns.
  Conditions: a string's length is at most the model's greatest.
-/
import Derived.Test.YtpicoccpgpmfhaaDoorNumWalkA
namespace Go.Proofs.YtpicoccpgpmfhaaDoor
open Go.RowKit

theorem ret3 {k : IntKind} {a b c a' b' c' : Int} (r : Int × Int × Int) (h : r = (a, b, c)) (h1 : a' = a) (h2 : b' = b) (h3 : c' = c) :
    Ending.returned (.tuple #[.int k a', .int k b', .int k c']) = .returned (.tuple #[.int k r.1, .int k r.2.1, .int k r.2.2]) := by rw [h, h1, h2, h3]
theorem ret2 {k : IntKind} {a b a' b' : Int} (r : Int × Int) (h : r = (a, b)) (h1 : a' = a) (h2 : b' = b) :
    Ending.returned (.tuple #[.int k a', .int k b']) = .returned (.tuple #[.int k r.1, .int k r.2]) := by rw [h, h1, h2]

theorem take_at (s : ByteArray) (a : Int) (w : World) (hs : s.size ≤ maxLen) :
    Calls Tryd.prog 47 #[.string s, .int .i64 a] w fun e w' =>
      e = .returned (.tuple #[.int .i64 (Nm.takeR s.data.toList a).1, .int .i64 (Nm.takeR s.data.toList a).2.1, .int .i64 (Nm.takeR s.data.toList a).2.2]) ∧ w = w' := by
  have HL : Hid (s.data.toList.length = s.size) := by simp [Hid]
  have hs' := hs
  unfold maxLen at hs'
  by_cases h0 : a < 0
  · have HR := Lib.hid (Nm.takeR_arg s.data.toList a (.inl h0))
    go_enter Tryd.func47, Tryd.ntmps47
    go_wp2
    go_ret3
    exact ⟨ret3 _ HR.out rfl rfl rfl, rfl⟩
  by_cases h1 : (s.size : Int) < a
  · have HR := Lib.hid (Nm.takeR_arg s.data.toList a (.inr (by rw [HL.out]; exact h1)))
    go_enter Tryd.func47, Tryd.ntmps47
    go_wp2
    go_ret3
    exact ⟨ret3 _ HR.out rfl rfl rfl, rfl⟩
  obtain ⟨n, rfl⟩ := Int.eq_ofNat_of_zero_le (show 0 ≤ a by omega)
  have hn : n ≤ s.size := by omega
  have hs2 : (s.extract n s.size).size ≤ maxLen := by simp only [ByteArray.size_extract]; omega
  have hdat : (s.extract n s.size).data.toList = s.data.toList.drop n := by
    rw [Lib.extract_data, List.take_of_length_le (by simp)]
  go_enter Tryd.func47, Tryd.ntmps47
  have HX := Lib.hid hdat
  clear hdat
  go_wp2_with fail
  refine (lead_at _ _ hs2).mono ?_
  rintro e w' ⟨rfl, rfl⟩
  rw [HX.out]
  have hdl := Nm.lead_le (s.data.toList.drop n)
  have hda := Nm.lead_all (s.data.toList.drop n)
  have HR1 := Lib.hid (Nm.takeR_form s.data.toList n (by rw [HL.out]; exact hn))
  have HR2 := Lib.hid (Nm.takeR_num s.data.toList n (by rw [HL.out]; exact hn))
  have HR3 := Lib.hid (Nm.takeR_ok s.data.toList n (by rw [HL.out]; exact hn))
  rw [List.length_drop, HL.out] at hdl
  generalize hd : Nm.lead (List.drop n s.data.toList) = d at *
  have hds : (⟨d.toArray⟩ : ByteArray).size = d.length := rfl
  have hdt : (⟨d.toArray⟩ : ByteArray).data.toList = d := by simp
  generalize hD : (⟨d.toArray⟩ : ByteArray) = D at *
  clear hs2 HX
  have HD := Lib.hid hd
  have HDD := Lib.hid hD
  have HDS := Lib.hid hds
  have HDT := Lib.hid hdt
  have HA := Lib.hid hda
  have hDm : D.size ≤ maxLen := by rw [hds]; omega
  have hDn : D.size ≤ s.size - n := by rw [hds]; exact hdl
  clear hd hD hds hdt hda hdl
  have HDE : Hid (D.toList = d) := by rw [Hid, Lib.toList_data]; exact HDT.out
  by_cases hz : D.size = 0
  · have hdn : d = [] := List.eq_nil_of_length_eq_zero (by rw [← HDS.out]; exact hz)
    have he : D.toList = [] := by rw [HDE.out]; exact hdn
    have HZ := Lib.hid hz
    have HDN := Lib.hid hdn
    clear hz hdn
    go_wp2
    go_ret3
    exact ⟨ret3 _ (HR1.out (.inl HDN.out)) rfl rfl rfl, rfl⟩
  have hz0 : 0 < D.size := by omega
  clear hz
  have hdn : d ≠ [] := fun h => by have h1 := HDS.out; rw [h] at h1; simp only [List.length_nil] at h1; omega
  have HDN := Lib.hid hdn
  have he : D.toList.isEmpty = false := by rw [HDE.out]; cases hh : d with | nil => exact absurd hh hdn | cons _ _ => rfl
  have he2 : ¬ D.toList = [] := by rw [HDE.out]; exact hdn
  clear hdn
  have HH : Hid (d.head? = some D[0]) := by
    rw [Hid, ← HDT.out, List.head?_eq_getElem?, List.getElem?_eq_getElem (by rw [HDT.out, ← HDS.out]; exact hz0)]
    rfl
  have HV := Lib.hid (value_at D w hDm (by rw [HDT.out]; exact HA.out))
  by_cases hf : D[0].toNat = 48 ∧ 1 < D.size
  · obtain ⟨hf1, hf2⟩ := hf
    have hb : (((D[0].toNat : Nat) : Int) == 48) = true := beq_iff_eq.2 (by omega)
    have hf2' : (1 : Int) < (D.size : Int) := by omega
    have HF := Lib.hid hf1
    clear hf1
    go_wp2
    go_ret3
    exact ⟨ret3 _ (HR1.out (.inr ⟨by rw [HH.out]; congr 1; exact UInt8.toNat.inj HF.out, by rw [← HDS.out]; exact hf2⟩)) rfl rfl rfl, rfl⟩
  have hno : ¬ (d = [] ∨ d.head? = some 48 ∧ 1 < d.length) := by
    rintro (h | ⟨h, h'⟩)
    · exact HDN.out h
    · rw [HH.out] at h
      injection h with h
      exact hf ⟨by rw [h]; rfl, by rw [HDS.out]; exact h'⟩
  have HNO := Lib.hid hno
  clear hno
  have key : ((((D[0].toNat : Nat) : Int) == 48) = true ∧ ¬ (1 : Int) < (D.size : Int)) ∨ (((D[0].toNat : Nat) : Int) == 48) = false := by
    by_cases hb : D[0].toNat = 48
    · exact .inl ⟨beq_iff_eq.2 (by omega), fun h => hf ⟨hb, by omega⟩⟩
    · exact .inr (beq_eq_false_iff_ne.2 (by omega))
  clear hf
  rcases key with ⟨hb', hf2⟩ | hb'
  all_goals
    go_wp2_with fail
    refine HV.out.mono ?_
    rintro e w' ⟨rfl, rfl⟩
    rw [HDT.out]
    by_cases hv : Nm.val d ≤ 2147483647
    · rw [Nm.vnum_yes _ hv, Nm.vok_yes _ hv]
      have HQ := Lib.hid hv
      generalize hvv : Nm.val d = v at hv ⊢
      have HVV := Lib.hid hvv
      clear hvv
      go_wp2
      go_ret3
      exact ⟨ret3 _ (HR3.out HNO.out HQ.out) (by rw [HVV.out]) (by rw [← HDS.out]) rfl, rfl⟩
    · rw [Nm.vnum_no _ hv, Nm.vok_no _ hv]
      have HQ := Lib.hid hv
      clear hv
      go_wp2
      go_ret3
      exact ⟨ret3 _ (HR2.out HNO.out HQ.out) rfl rfl rfl, rfl⟩

theorem whole_at (s : ByteArray) (w : World) (hs : s.size ≤ maxLen) :
    Calls Tryd.prog 30 #[.string s] w fun e w' => e = .returned (.tuple #[.int .i64 (Nm.wholeR s.data.toList).1, .int .i64 (Nm.wholeR s.data.toList).2]) ∧ w = w' := by
  have HL : Hid (s.data.toList.length = s.size) := by simp [Hid]
  have HT := Lib.hid (take_at s 0 w hs)
  have HW := Lib.hid (show Nm.wholeR s.data.toList = _ from rfl)
  go_enter Tryd.func30, Tryd.ntmps30
  go_wp2_with fail
  refine HT.out.mono ?_
  rintro e w' ⟨rfl, rfl⟩
  have HWR : Hid (Nm.wholeR s.data.toList = if (Nm.takeR s.data.toList 0).2.2 = 0 then (if (Nm.takeR s.data.toList 0).2.1 = (s.size : Int) then ((Nm.takeR s.data.toList 0).1, 0) else (0, 2)) else (0, (Nm.takeR s.data.toList 0).2.2)) := by
    rw [Hid, Nm.wholeR, HL.out]
  clear HW HT
  generalize Nm.takeR s.data.toList 0 = r at *
  obtain ⟨x, y, z⟩ := r
  by_cases hz : z = 0
  · by_cases hy : y = (s.size : Int)
    · have h1 : (z != 0) = false := by simp [hz]
      have h2 : (y != (s.size : Int)) = false := by simp [hy]
      have HZ := Lib.hid hz
      have HY := Lib.hid hy
      clear hz hy
      go_wp2
      go_ret2
      exact ⟨ret2 _ (HWR.out.trans (by rw [if_pos HZ.out, if_pos HY.out])) rfl rfl, rfl⟩
    · have h1 : (z != 0) = false := by simp [hz]
      have h2 : (y != (s.size : Int)) = true := by simp [hy]
      have HZ := Lib.hid hz
      have HY := Lib.hid hy
      clear hz hy
      go_wp2
      go_ret2
      exact ⟨ret2 _ (HWR.out.trans (by rw [if_pos HZ.out, if_neg HY.out])) rfl rfl, rfl⟩
  · have h1 : (z != 0) = true := by simp [hz]
    have HZ := Lib.hid hz
    clear hz
    go_wp2
    go_ret2
    exact ⟨ret2 _ (HWR.out.trans (by rw [if_neg HZ.out])) rfl rfl, rfl⟩
end Go.Proofs.YtpicoccpgpmfhaaDoor
