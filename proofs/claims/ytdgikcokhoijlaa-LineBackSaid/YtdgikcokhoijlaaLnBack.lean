/-
  LineBack answers true for every text and every row of texts: what is joined is split, and what is split is joined.
  Conditions: a string's length is at most the model's greatest.
-/
import Derived.Test.YtdgikcokhoijlaaLnAwake
namespace Go.Proofs.Ytdgikcokhoijlaa
open Go.RowKit

set_option maxHeartbeats 1000000 in
theorem lawLineBack (s : List UInt8) (l : List (List UInt8)) (v : Value) (w : World) (hs : s.length ≤ maxLen) (hv : Strs w v l) :
    Calls Try.prog 4 #[.string (Ln.bs s), v] w (RetBool w true) := by
  have V := Lib.hid hv
  clear hv
  have HM := Lib.hid hs
  unfold maxLen at hs
  have hz1 : (Ln.bs s).size ≤ s.length := by rw [Ln.bs_size]; exact Nat.le_refl _
  have hz2 : s.length ≤ (Ln.bs s).size := by rw [Ln.bs_size]; exact Nat.le_refl _
  go_enter Try.func4, Try.ntmps4
  go_wp2_with fail
  refine (lineAwake_at w).mono ?_
  rintro e w1 ⟨rfl, hb1⟩
  have B1 := Lib.hid hb1
  clear hb1
  go_wp2_with fail
  refine (rShort_at l v w1 (V.out.below B1.out)).mono ?_
  rintro e w2 ⟨rfl, hb2⟩
  have B2 := Lib.hid (below_all B1.out hb2)
  have V2 := Lib.hid ((V.out.below B1.out).below hb2)
  clear hb2
  by_cases h3 : 3000 < s.length
  · have hd : decide ((3000 : Int) < ((Ln.bs s).size : Int)) = true := by simp; omega
    go_wp2_with fail
    go_ret
    exact ⟨rfl, B2.out⟩
  have hd : decide ((3000 : Int) < ((Ln.bs s).size : Int)) = false := by simp; omega
  cases hsh : Ln.short l with
  | false =>
    go_wp2_with fail
    go_ret
    exact ⟨rfl, B2.out⟩
  | true =>
  have hjl := Ln.short_len l hsh
  have hl5 := (Ln.short_is l hsh).1
  clear hsh
  go_wp2_with fail
  refine (join_at l v w2 V2.out (by omega)).mono ?_
  rintro e w3 ⟨rfl, hb3⟩
  have B3 := Lib.hid (below_all B2.out hb3)
  have V3 := Lib.hid (V2.out.below hb3)
  clear hb3
  by_cases hj : (Ln.joinR l).2 = 0
  · obtain ⟨e1, e2⟩ := Ln.back_join l hj
    have E2 := Lib.hid e2
    rw [e1]
    clear hj e1 e2
    go_wp2_with fail
    refine (split_at (Ln.joinS l) w3 (by unfold maxLen; omega)).mono ?_
    rintro e w4 ⟨v4, rfl, hs4, hb4⟩
    rw [E2.out] at hs4 ⊢
    have S4 := Lib.hid hs4
    have B4 := Lib.hid (below_all B3.out hb4)
    have V4 := Lib.hid (V3.out.below hb4)
    clear hs4 hb4
    go_wp2_with fail
    refine (rSame_at l l v v4 w4 V4.out S4.out (by omega) (by omega)).mono ?_
    rintro e w5 ⟨rfl, hb5⟩
    rw [decide_eq_true rfl]
    have B5 := Lib.hid (below_all B4.out hb5)
    clear hb5
    go_wp2_with fail
    refine (split_at s w5 HM.out).mono ?_
    rintro e w6 ⟨v6, rfl, hs6, hb6⟩
    have B6 := Lib.hid (below_all B5.out hb6)
    by_cases hq : (Ln.splitR s).2 = 0
    · have HQ := Lib.hid (Ln.back_split s hq)
      have S6 := Lib.hid hs6
      have hjs : (Ln.joinS (Ln.splitR s).1).length ≤ 100500 := by
        have h := HQ.out
        unfold Ln.joinR at h
        split at h
        · split at h
          · simp at h
          · simp at h
            rw [h]
            omega
        · simp at h
      rw [hq]
      clear hs6 hb6 hq
      go_wp2_with fail
      refine (join_at _ v6 w6 S6.out (by omega)).mono ?_
      rintro e w7 ⟨rfl, hb7⟩
      rw [HQ.out]
      have B7 := Lib.hid (below_all B6.out hb7)
      clear hb7
      go_wp2_with fail
      go_ret
      exact ⟨rfl, B7.out⟩
    · obtain ⟨A, c, rfl⟩ := hs6.none_ (Ln.splitR_err s hq)
      have hqb : ((Ln.splitR s).2 != 0) = true := by simpa using hq
      clear hs6 hb6 hq
      generalize (Ln.splitR s).2 = q at *
      go_wp2_with fail
      go_ret
      exact ⟨rfl, B6.out⟩
  · have hje := Ln.joinR_err l hj
    have hjb : ((Ln.joinR l).2 == 0) = false := by simpa using hj
    rw [hje]
    generalize (Ln.joinR l).2 = j at *
    clear hje hj
    have hbe : (Ln.bs []).toList = [] := by rw [Lib.toList_data, Ln.bs_data]
    go_wp2_with fail
    refine (split_at s w3 HM.out).mono ?_
    rintro e w6 ⟨v6, rfl, hs6, hb6⟩
    have B6 := Lib.hid (below_all B3.out hb6)
    by_cases hq : (Ln.splitR s).2 = 0
    · have HQ := Lib.hid (Ln.back_split s hq)
      have S6 := Lib.hid hs6
      have hjs : (Ln.joinS (Ln.splitR s).1).length ≤ 100500 := by
        have h := HQ.out
        unfold Ln.joinR at h
        split at h
        · split at h
          · simp at h
          · simp at h
            rw [h]
            omega
        · simp at h
      rw [hq]
      clear hs6 hb6 hq
      go_wp2_with fail
      refine (join_at _ v6 w6 S6.out (by omega)).mono ?_
      rintro e w7 ⟨rfl, hb7⟩
      rw [HQ.out]
      have B7 := Lib.hid (below_all B6.out hb7)
      clear hb7
      go_wp2_with fail
      go_ret
      exact ⟨rfl, B7.out⟩
    · obtain ⟨A, c, rfl⟩ := hs6.none_ (Ln.splitR_err s hq)
      have hqb : ((Ln.splitR s).2 != 0) = true := by simpa using hq
      clear hs6 hb6 hq
      generalize (Ln.splitR s).2 = q at *
      go_wp2_with fail
      go_ret
      exact ⟨rfl, B6.out⟩
end Go.Proofs.Ytdgikcokhoijlaa
