/-
  LineTells answers true for every text and every row of texts: Split, Join and Words are the document's, and the row of texts stays.
  Conditions: a string's length is at most the model's greatest.
-/
import Derived.Test.YtdgikcokhoijlaaLnAwake
namespace Go.Proofs.Ytdgikcokhoijlaa
open Go.RowKit

theorem lawLineTells (s : List UInt8) (l : List (List UInt8)) (v : Value) (w : World) (hs : s.length ≤ maxLen) (hv : Strs w v l) :
    Calls Try.prog 3 #[.string (Ln.bs s), v] w (RetBool w true) := by
  have V := Lib.hid hv
  obtain ⟨i0, hi0, hz0, hz1, hz2⟩ := info_parts str_info
  have I0 := Lib.hid hi0
  have I1 := Lib.hid hz0
  have I2 := Lib.hid hz1
  have I3 := Lib.hid hz2
  clear hi0 hz0 hz1 hz2 hv
  have HM := Lib.hid hs
  unfold maxLen at hs
  go_enter Try.func3, Try.ntmps3
  go_wp2_with fail
  refine (lineAwake_at w).mono ?_
  rintro e w1 ⟨rfl, hb1⟩
  have B1 := Lib.hid hb1
  clear hb1
  go_wp2_with fail
  refine (rShort_at l v w1 (V.out.below B1.out)).mono ?_
  rintro e w2 ⟨rfl, hb2⟩
  have B2 := Lib.hid hb2
  clear hb2
  have hz1 : (Ln.bs s).size ≤ s.length := by rw [Ln.bs_size]; exact Nat.le_refl _
  have hz2 : s.length ≤ (Ln.bs s).size := by rw [Ln.bs_size]; exact Nat.le_refl _
  by_cases h3 : 3000 < s.length
  · have hd : decide ((3000 : Int) < ((Ln.bs s).size : Int)) = true := by simp; omega
    go_wp2_with fail
    go_ret
    exact ⟨rfl, below_all B1.out B2.out⟩
  have hd : decide ((3000 : Int) < ((Ln.bs s).size : Int)) = false := by simp; omega
  cases hsh : Ln.short l with
  | false =>
    go_wp2_with fail
    go_ret
    exact ⟨rfl, below_all B1.out B2.out⟩
  | true =>
  have hjl := Ln.short_len l hsh
  have hl5 := (Ln.short_is l hsh).1
  clear hsh
  have V2 := Lib.hid ((V.out.below B1.out).below B2.out)
  go_wp2_with (at_builtin; refine wpList_append_sl _ rfl _ _ 22 rfl w.heap.size 9 i0 _ 1 16 Try.underlying22 I0.out I1.out I2.out I3.out rfl (by decide) (.slice none 0 0) 0 [] rfl (World.ownsRow_nil _ _ _ _) _ l.length (l.map strV) rfl V2.out (all_strs l) (by simp only [maxLen]; omega) (by omega) (below_all B1.out B2.out).size ?_; intro v3 w3 hown hgrow hat; have O3 := Lib.hid (show Strs w3 v3 l from Sl.own (by simpa using hown)); have B3 := Lib.hid (show Below w2.heap.size w2 w3 from (Below.refl _ w2).grown hgrow (Nat.le_refl _) (by simp [Value.ownBlock])); clear hown hgrow hat)
  refine (split_at s w3 HM.out).mono ?_
  rintro e w4 ⟨v4, rfl, hs4, hb4⟩
  have S4 := Lib.hid hs4
  have B4 := Lib.hid hb4
  clear hs4 hb4
  go_wp2_with fail
  refine (rSplit_at s w4 (by omega)).mono ?_
  rintro e w5 ⟨v5, rfl, hs5, hb5⟩
  have S5 := Lib.hid hs5
  have B5 := Lib.hid hb5
  clear hs5 hb5
  go_wp2_with fail
  refine (join_at l v w5 (V2.out.below (below_all B3.out (below_all B4.out B5.out))) (by omega)).mono ?_
  rintro e w6 ⟨rfl, hb6⟩
  have B6 := Lib.hid hb6
  clear hb6
  go_wp2_with fail
  refine (rJoin_at l v3 w6 (O3.out.below (below_all B4.out (below_all B5.out B6.out))) (by omega)).mono ?_
  rintro e w7 ⟨rfl, hb7⟩
  have B7 := Lib.hid hb7
  clear hb7
  go_wp2_with fail
  refine (words_at s w7 HM.out).mono ?_
  rintro e w8 ⟨v8, rfl, hs8, hb8⟩
  have S8 := Lib.hid hs8
  have B8 := Lib.hid hb8
  clear hs8 hb8
  go_wp2_with fail
  refine (rWords_at s w8 (by omega)).mono ?_
  rintro e w9 ⟨v9, rfl, hs9, hb9⟩
  have S9 := Lib.hid hs9
  have B9 := Lib.hid hb9
  clear hs9 hb9
  have L1 := Lib.hid (Ln.splitR_len s)
  have L2 := Lib.hid (Ln.wordsR_len s)
  go_wp2_with fail
  refine (rSame_at _ _ v4 v5 w9 (S4.out.below (below_all B5.out (below_all B6.out (below_all B7.out (below_all B8.out B9.out))))) (S5.out.below (below_all B6.out (below_all B7.out (below_all B8.out B9.out)))) (by have := L1.out; omega) (by have := L1.out; omega)).mono ?_
  rintro e w10 ⟨rfl, hb10⟩
  have B10 := Lib.hid hb10
  clear hb10
  rw [decide_eq_true rfl]
  go_wp2_with fail
  refine (rSame_at _ _ v8 v9 w10 (S8.out.below (below_all B9.out B10.out)) (S9.out.below B10.out) (by have := L2.out; omega) (by have := L2.out; omega)).mono ?_
  rintro e w11 ⟨rfl, hb11⟩
  have B11 := Lib.hid hb11
  clear hb11
  rw [decide_eq_true rfl]
  have B311 := Lib.hid (below_all B4.out (below_all B5.out (below_all B6.out (below_all B7.out (below_all B8.out (below_all B9.out (below_all B10.out B11.out)))))))
  go_wp2_with fail
  refine (rSame_at _ _ v v3 w11 (V2.out.below (below_all B3.out B311.out)) (O3.out.below B311.out) (by omega) (by omega)).mono ?_
  rintro e w12 ⟨rfl, hb12⟩
  rw [decide_eq_true rfl]
  have B12 := Lib.hid hb12
  clear hb12
  go_wp2_with fail
  go_ret
  exact ⟨rfl, below_all B1.out (below_all B2.out (below_all B3.out (below_all B311.out B12.out)))⟩
end Go.Proofs.Ytdgikcokhoijlaa
