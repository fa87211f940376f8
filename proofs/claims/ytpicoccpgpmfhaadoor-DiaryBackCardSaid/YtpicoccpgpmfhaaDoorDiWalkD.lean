/-
  What diary.Show answers, for every row of events: Di.showR; what was in memory stays as it was.
  Conditions: the variable that lists the kinds' words holds them.
-/
import Derived.Test.YtpicoccpgpmfhaaDoorDiWalkA
namespace Go.Proofs.YtpicoccpgpmfhaaDoor
open Go.RowKit

/-- What Show's loop holds at the head of each round. -/
def ShowRel (w : World) (l : List Ev.Event) (v i : Value) (wr : World) : Prop :=
  ∃ k : Nat, k ≤ l.length ∧ i = .int .i64 k ∧ (l.take k).all Ev.right = true ∧ wr.ownsRow w.heap.size 9 1 v (Di.lines (l.take k)).length ((Di.lines (l.take k)).map strV) ∧ Below w.heap.size w wr

set_option maxHeartbeats 1000000 in
theorem diShow_at (l : List Ev.Event) (v : Value) (w : World) (hv : Evs w v l) (hK : KW w) : Calls Tryd.prog 10 #[v] w (RetStr w (Di.showR l)) := by
  obtain ⟨i0, hi0, hz0, hz1, hz2⟩ := info_parts str_info
  have I0 := Lib.hid hi0
  have I1 := Lib.hid hz0
  have I2 := Lib.hid hz1
  have I3 := Lib.hid hz2
  clear hi0 hz0 hz1 hz2
  obtain ⟨A, c, rfl, hform⟩ := hv.spelled
  have HF := Lib.hid hform
  have HK := Lib.hid hK
  clear hform hv hK
  by_cases hm : 400 < l.length
  · have HR := Lib.hid (Di.show_many l hm)
    have hm2 : decide ((400 : Int) < (l.length : Int)) = true := by simp; omega
    go_enter Tryd.func10, Tryd.ntmps10
    go_wp2
    go_ret2
    exact RetStr.mk _ _ (by rw [HR.out]) (by rw [HR.out]; rfl) (Below.refl _ _)
  · have hm2 : decide ((400 : Int) < (l.length : Int)) = false := by simp; omega
    have hm3 : l.length ≤ 400 := by omega
    have HM := Lib.hid hm
    clear hm
    go_enter Tryd.func10, Tryd.ntmps10
    go_wp2
    go_loopw [4, 15] (fun t i wr => ShowRel w l t i wr) (fun _ i _ => l.length - (intOf i).toNat)
    case atStart =>
      exact ⟨0, Nat.zero_le _, rfl, rfl, World.ownsRow_lit w #[] 0 (Nat.le_refl _) (by simp [maxLen]) (by simp), (Below.refl _ _).alloc (Nat.le_refl _) _⟩
    case round =>
      obtain ⟨k, hk, rfl, ha, hown, hb⟩ := hrel
      have HA := Lib.hid ha
      have HO := Lib.hid hown
      have HB := Lib.hid hb
      obtain ⟨A', cp, rfl⟩ := own_form hown
      clear ha hown hb
      by_cases hlt : k < l.length
      · obtain ⟨ad, rfl, hblk, hE⟩ := HF.out k hlt
        obtain ⟨x, hx⟩ : ∃ x, x = l[k]'hlt := ⟨_, rfl⟩
        rw [← hx] at hE
        have HE := Lib.hid (hE.below hblk HB.out)
        have hc0 := HE.out.c0
        have hc1 := HE.out.c1
        have hc2 := HE.out.c2
        have hc3 := HE.out.c3
        have HKR := Lib.hid ((KW.below HK.out HB.out).below (alloc_below wr (.cells #[.int .i64 x.kind, .int .i64 x.session, .int .i64 x.key, .int .i64 x.value] 35)))
        have HLT := Lib.hid (Di.lines_take l k hlt)
        have HRT := Lib.hid (Di.right_take l k hlt)
        have HRN := Lib.hid (Di.right_not l k hlt)
        rw [← hx] at HLT HRT HRN
        have hdl : (Di.lines (l.take k)).length ≤ 400 := by rw [Di.lines_len, List.length_take]; omega
        generalize Di.lines (l.take k) = d at *
        clear hE hx
        go_wp2_with fail
        refine (evShow_at x _ HKR.out).mono ?_
        rintro e w1 ⟨rfl, hb1⟩
        have HB1 := Lib.hid (HB.out.trans ((below_new hb1).mono HB.out.size))
        have HO1 := Lib.hid (own_below HO.out (below_new hb1))
        clear hb1 hc0 hc1 hc2 hc3 HE HO
        cases hr : Ev.right x with
        | true =>
          rw [show (Ev.showR x).2 = 0 from by rw [Ev.showR, if_pos hr]]
          have HA1 : Hid ((l.take (k + 1)).all Ev.right = true) := by rw [Hid, HRT.out, HA.out, hr]; rfl
          generalize (Ev.showR x).1 = y at *
          have HO2 := Lib.hid (HO1.out.alloc (.cells #[strV y] 9))
          have HB2 := Lib.hid (HB1.out.alloc HB1.out.size (.cells #[strV y] 9))
          clear hr HO1
          go_wp2_with (at_builtin; refine wpList_append_own_at _ rfl _ _ 31 rfl w.heap.size 9 i0 _ 1 16 Tryd.underlying31 I0.out I1.out I2.out I3.out rfl (by decide) _ d.length (d.map strV) rfl HO2.out ⟨w1.heap.size, 0, none⟩ 1 1 [strV y] rfl rfl (new_one _ _ _) (one_strs y) (by simp only [maxLen]; omega) (by omega) HB2.out.size ?_; intro v' w3 hown' hgrow hnil hat; have HO3 := Lib.hid hown'; have HG3 := Lib.hid hgrow; clear hown' hgrow hnil hat)
          go_roundw
          case rel =>
            refine ⟨k + 1, by omega, by go_num, HA1.out, ?_, below_append HB2.out HB2.out.size HO2.out HG3.out⟩
            rw [HLT.out]
            exact Strs.own_snoc HO3.out
          case measure => simp [intOf]; omega
        | false =>
          rw [show (Ev.showR x).2 = 1 from by rw [Ev.showR, if_neg (by rw [hr]; simp)]]
          have HR := Lib.hid (Di.show_arg l HM.out (HRN.out hr))
          clear hr
          go_wp2_with fail
          go_ret2
          exact RetStr.mk _ _ (by rw [HR.out]) (by rw [HR.out]; rfl) HB1.out
      · have HT : Hid (l.take k = l) := by rw [Hid, List.take_of_length_le (by omega)]
        rw [HT.out] at HA HO ⊢
        have HJ := Lib.hid (Di.show_join l HM.out HA.out)
        have hjl := Di.lines_join l
        have S := Lib.hid (Strs.own HO.out)
        generalize Di.lines l = d at *
        go_wp2_with fail
        refine (join_at d _ wr S.out (by omega)).mono ?_
        rintro e w1 ⟨rfl, hb1⟩
        have HB1 := Lib.hid (HB.out.trans (hb1.mono HB.out.size))
        rw [HJ.out]
        clear hb1
        go_wp2_with fail
        go_ret2
        exact ⟨rfl, HB1.out⟩
end Go.Proofs.YtpicoccpgpmfhaaDoor
