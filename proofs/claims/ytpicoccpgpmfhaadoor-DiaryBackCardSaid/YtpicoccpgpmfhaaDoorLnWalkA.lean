/-
  What line.Split answers, for every text that a string may hold: Ln.splitR; what was in memory stays as it was.
  Conditions: a string's length is at most the model's greatest.
-/
import Derived.Test.YtpicoccpgpmfhaaDoorLnLib
import Derived.Test.YtpicoccpgpmfhaaDoorLnOwn
namespace Go.Proofs.YtpicoccpgpmfhaaDoor
open Go.RowKit

/-- A text of whole lines that is not empty has a first line. -/
theorem first_line (x : List UInt8) (h : Ln.shut x = true) (hn : x ≠ []) : ∃ a r, x = a ++ 10 :: r ∧ (10 : UInt8) ∉ a ∧ Ln.shut r = true ∧ Ln.full x = a :: Ln.full r := by
  have hm : (10 : UInt8) ∈ x := by
    induction x using Ln.snocRec with
    | nil => exact absurd rfl hn
    | snoc x b _ => rw [Ln.shut_snoc] at h; simp at h; simp [h]
  obtain ⟨a, r, rfl, ha⟩ := cut_at x 10 hm
  have hl := Ln.run_line a r ha
  exact ⟨a, r, rfl, ha, (Ln.shut_iff r).2 (by rw [← hl.2]; exact (Ln.shut_iff _).1 h), hl.1⟩

/-- What Split's loop holds at the head of each round: what is left, and the lines that were cut off. -/
def SplitRel (w : World) (s : List UInt8) (t v : Value) (wr : World) : Prop :=
  ∃ (x : List UInt8) (d : List (List UInt8)), t = .string (Ln.bs x) ∧ Ln.shut x = true ∧ x.length ≤ s.length ∧ Ln.full s = d ++ Ln.full x ∧ wr.ownsRow w.heap.size 9 1 v d.length (d.map strV) ∧ Below w.heap.size w wr

theorem split_at (s : List UInt8) (w : World) (hs : s.length ≤ maxLen) : Calls Tryd.prog 13 #[.string (Ln.bs s)] w (RetStrs w (Ln.splitR s)) := by
  obtain ⟨i0, hi0, hz0, hz1, hz2⟩ := info_parts str_info
  have I0 := Lib.hid hi0
  have I1 := Lib.hid hz0
  have I2 := Lib.hid hz1
  have I3 := Lib.hid hz2
  clear hi0 hz0 hz1 hz2
  have HM := Lib.hid hs
  unfold maxLen at hs
  by_cases hn : s = []
  · have hh : ¬ (400 < s.count 10) := by rw [hn]; decide
    have HR : Hid (Ln.splitR s = ([], 0)) := by rw [hn]; rfl
    have HC := Lib.hid (count_nl s 0 w (by rw [hn]; rfl))
    have he := bs_empty s hn
    clear hn hh
    go_enter Tryd.func13, Tryd.ntmps13
    go_wp2_with fail
    refine HC.out.mono ?_
    rintro e w' ⟨rfl, rfl⟩
    go_wp2
    refine wp_loop_rounds 1 ?_
    rw [rounds_succ]
    go_wp2
    go_ret2
    exact RetStrs.mk _ _ (by rw [HR.out]) (by rw [HR.out]; exact Strs.nil _ _) ((Below.refl _ _).alloc (Nat.le_refl _) _)
  obtain ⟨he, he2⟩ := bs_some s hn
  cases hsh : Ln.shut s with
  | false =>
    have HS := Lib.hid (hasSuffix_nl s false w HM.out hn hsh)
    have HR := Lib.hid (Ln.splitR_form s hsh)
    clear hsh
    go_enter Tryd.func13, Tryd.ntmps13
    go_wp2_with fail
    refine HS.out.mono ?_
    rintro e w' ⟨rfl, rfl⟩
    go_wp2
    go_ret2
    exact RetStrs.mk _ _ (by rw [HR.out]) (by rw [HR.out]; exact Strs.nil _ _) (Below.refl _ _)
  | true =>
    have HS := Lib.hid (hasSuffix_nl s true w HM.out hn hsh)
    have HSH := Lib.hid hsh
    clear hsh
    by_cases hm : 400 < s.count 10
    · have HR := Lib.hid (Ln.splitR_many s HSH.out hm)
      obtain ⟨n, hnn⟩ : ∃ n, s.count 10 = n := ⟨_, rfl⟩
      have HC := Lib.hid (count_nl s n w hnn)
      rw [hnn] at hm
      have hm2 : decide ((400 : Int) < (n : Int)) = true := by simp; omega
      clear hnn
      go_enter Tryd.func13, Tryd.ntmps13
      go_wp2_with fail
      refine HS.out.mono ?_
      rintro e w' ⟨rfl, rfl⟩
      go_wp2_with fail
      refine HC.out.mono ?_
      rintro e w' ⟨rfl, rfl⟩
      go_wp2
      go_ret2
      exact RetStrs.mk _ _ (by rw [HR.out]) (by rw [HR.out]; exact Strs.nil _ _) (Below.refl _ _)
    · have HR := Lib.hid (Ln.splitR_ok s HSH.out (by omega))
      have hfl : (Ln.full s).length ≤ 400 := by rw [Ln.full_len]; omega
      obtain ⟨n, hnn⟩ : ∃ n, s.count 10 = n := ⟨_, rfl⟩
      have HC := Lib.hid (count_nl s n w hnn)
      rw [hnn] at hm
      have hm2 : decide ((400 : Int) < (n : Int)) = false := by simp; omega
      clear hnn
      go_enter Tryd.func13, Tryd.ntmps13
      go_wp2_with fail
      refine HS.out.mono ?_
      rintro e w' ⟨rfl, rfl⟩
      go_wp2_with fail
      refine HC.out.mono ?_
      rintro e w' ⟨rfl, rfl⟩
      clear he he2
      go_wp2
      go_loopw [0, 4] (fun t v wr => SplitRel w s t v wr) (fun t _ _ => lenOf t)
      case atStart =>
        exact ⟨s, [], rfl, HSH.out, Nat.le_refl _, by simp, World.ownsRow_lit w #[] 0 (Nat.le_refl _) (by simp [maxLen]) (by simp), (Below.refl _ _).alloc (Nat.le_refl _) _⟩
      case round =>
        obtain ⟨x, d, rfl, hx, hxl, hd, hown, hb⟩ := hrel
        have HD := Lib.hid hd
        have HX := Lib.hid hx
        have HO := Lib.hid hown
        have HB := Lib.hid hb
        clear hd hx hown hb
        by_cases hxn : x = []
        · have he := bs_empty x hxn
          have HXN := Lib.hid hxn
          clear hxn
          go_wp2
          go_ret2
          refine RetStrs.mk _ _ (by rw [HR.out]) ?_ HB.out
          rw [HR.out]
          show Strs _ _ (Ln.full s)
          rw [HD.out, HXN.out]
          show Strs _ _ (d ++ [])
          rw [List.append_nil]
          exact Strs.own HO.out
        · obtain ⟨he, he2⟩ := bs_some x hxn
          obtain ⟨a, r, hxe, ha, hr, hfx⟩ := first_line x HX.out hxn
          have hlen : x.length = a.length + 1 + r.length := by rw [hxe]; simp; omega
          have hdl : d.length + 1 ≤ 400 := by
            have h := congrArg List.length HD.out
            rw [hfx] at h
            simp at h
            omega
          have HCUT := Lib.hid (fun W => cut_call a r W ha (by unfold maxLen; omega))
          rw [← hxe] at HCUT
          have HR2 := Lib.hid hr
          have HFX := Lib.hid hfx
          have hlen2 : a.length + 1 + r.length ≤ x.length := by omega
          have hlen3 : x.length ≤ a.length + 1 + r.length := by omega
          have HXE := Lib.hid hxe
          clear hxn ha hr hfx hlen hxe
          go_wp2_with fail
          refine (HCUT.out _).mono ?_
          rintro e w1 ⟨rfl, k, rfl⟩
          go_wp2_with fail
          refine (own_at (Ln.bs a) _).mono ?_
          rintro e w2 ⟨rfl, hb2⟩
          have hbw : Below wr.heap.size wr w2 := below_all (drewN_below wr k) hb2
          have hown2 := (own_below HO.out hbw).alloc (.cells #[strV a] 9)
          have hBw : Below w.heap.size w (w2.alloc (.cells #[strV a] 9)) := (HB.out.trans (hbw.mono HB.out.size)).alloc (Nat.le_trans HB.out.size hbw.size) _
          have hB0 : w.heap.size ≤ (w2.alloc (.cells #[strV a] 9)).heap.size := hBw.size
          have HO2 := Lib.hid hown2
          have HBW := Lib.hid hBw
          have HB0 := Lib.hid hB0
          clear hb2 hbw hown2 hBw hB0 HO
          go_wp2_with (at_builtin; refine wpList_append_own_at _ rfl _ _ 31 rfl w.heap.size 9 i0 _ 1 16 Tryd.underlying31 I0.out I1.out I2.out I3.out rfl (by decide) _ d.length (d.map strV) rfl HO2.out ⟨w2.heap.size, 0, none⟩ 1 1 [strV a] rfl rfl (new_one _ _ _) (one_strs a) (by simp only [maxLen]; omega) (by omega) HB0.out ?_; intro v' w3 hown' hgrow hnil hat; have HO3 := Lib.hid hown'; have HG3 := Lib.hid hgrow; clear hown' hgrow hnil hat)
          go_roundw
          case rel =>
            refine ⟨r, d ++ [a], rfl, HR2.out, by omega, ?_, Strs.own_snoc HO3.out, below_append HBW.out HB0.out HO2.out HG3.out⟩
            rw [HD.out, HFX.out]
            simp
          case measure =>
            show (Ln.bs r).size < (Ln.bs x).size
            rw [Ln.bs_size, Ln.bs_size]
            omega
end Go.Proofs.YtpicoccpgpmfhaaDoor
