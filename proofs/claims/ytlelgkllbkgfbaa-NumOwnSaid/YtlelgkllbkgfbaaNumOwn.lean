/-
  NumOwn answers true for every text and every place: what is taken is shown as the digits from which it was taken.
  Conditions: a string's length is at most the model's greatest.
-/
import Derived.Test.YtlelgkllbkgfbaaNumAwake
namespace Go.Proofs.Ytlelgkllbkgfbaa
open Go.RowKit

/-- What is taken is shown as the digits from which it was taken. -/
theorem own_text (l : List UInt8) (n : Nat) (hne : ¬ (Nm.lead (l.drop n) = [] ∨ ((Nm.lead (l.drop n)).head? = some 48 ∧ 1 < (Nm.lead (l.drop n)).length))) :
    Nm.digs (Nm.val (Nm.lead (l.drop n))) = (l.drop n).take (Nm.lead (l.drop n)).length := by
  rw [Nm.lead_take]
  refine Nm.digs_val _ (fun h => hne (.inl h)) (Nm.lead_all _) (fun h => ?_)
  rcases Nat.lt_or_ge 1 (Nm.lead (l.drop n)).length with h1 | h1
  · exact absurd (.inr ⟨h, h1⟩) hne
  · have : 0 < (Nm.lead (l.drop n)).length := List.length_pos_iff.2 (fun h => hne (.inl h))
    omega

theorem lawNumOwn (a0 : ByteArray) (a1 : Int) (w1 : a0.size ≤ maxLen) (w : World) :
    Calls Try.prog 5 #[.string a0, .int .i64 a1] w fun e w' => e = .returned (.bool true) ∧ Grown w w' := by
  have HL : Hid (a0.data.toList.length = a0.size) := by simp [Hid]
  have hm := w1
  unfold maxLen at hm
  by_cases hs : 1000 < a0.size
  · go_enter Try.func5, Try.ntmps5
    go_wp2_with fail
    refine (awake_at w).mono ?_
    rintro e w1 ⟨rfl, hg1⟩
    have H1 := Lib.hid hg1
    clear hg1
    go_wp2_with fail
    go_ret
    exact ⟨rfl, H1.out⟩
  by_cases he : (Nm.takeR a0.data.toList a1).2.2 = 0
  · obtain ⟨n, rfl, hn, hf, hv, er⟩ := Nm.takeR_good _ _ he
    have ht := own_text _ _ hf
    have hlen := Nm.lead_le (a0.data.toList.drop n)
    have hpos : 0 < (Nm.lead (a0.data.toList.drop n)).length := List.length_pos_iff.2 (fun h => hf (.inl h))
    rw [List.length_drop, HL.out] at hlen
    rw [HL.out] at hn
    have HT := Lib.hid ht
    have HR := Lib.hid er
    generalize Nm.val (Nm.lead (a0.data.toList.drop n)) = v at *
    generalize hk : (Nm.lead (a0.data.toList.drop n)).length = k at *
    clear ht er hf he hk
    go_enter Try.func5, Try.ntmps5
    go_wp2_with fail
    refine (awake_at w).mono ?_
    rintro e wa ⟨rfl, hg1⟩
    have H1 := Lib.hid hg1
    clear hg1
    go_wp2_with fail
    refine (take_at a0 _ _ w1).mono ?_
    rintro e w' ⟨rfl, rfl⟩
    rw [HR.out]
    go_wp2_with fail
    refine (show_at v _ hv).mono ?_
    rintro e w2 ⟨rfl, hg2⟩
    have H2 := Lib.hid hg2
    clear hg2
    rw [HT.out]
    have HX : Hid ((⟨((a0.data.toList.drop n).take k).toArray⟩ : ByteArray) = a0.extract n (n + k)) := by
      rw [Hid]
      apply ByteArray.ext
      apply Array.toList_inj.1
      rw [Lib.extract_data]
      simp
    rw [HX.out]
    go_wp2_with fail
    go_ret
    exact ⟨rfl, grown_trans H1.out H2.out⟩
  · obtain ⟨hb1, hb2⟩ := Nm.takeR_bad _ _ he
    have HB1 := Lib.hid hb1
    have HB2 := Lib.hid hb2
    have hne : ((Nm.takeR a0.data.toList a1).2.2 != 0) = true := bne_iff_ne.2 he
    clear he hb1 hb2
    go_enter Try.func5, Try.ntmps5
    go_wp2_with fail
    refine (awake_at w).mono ?_
    rintro e wa ⟨rfl, hg1⟩
    have H1 := Lib.hid hg1
    clear hg1
    go_wp2_with fail
    refine (take_at a0 a1 _ w1).mono ?_
    rintro e w' ⟨rfl, rfl⟩
    rw [HB1.out, HB2.out]
    generalize (Nm.takeR a0.data.toList a1).2.2 = z at *
    go_wp2_with fail
    go_ret
    exact ⟨rfl, H1.out⟩
end Go.Proofs.Ytlelgkllbkgfbaa
