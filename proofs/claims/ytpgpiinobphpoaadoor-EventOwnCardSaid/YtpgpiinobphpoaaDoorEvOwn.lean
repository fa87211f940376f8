/-
  EventOwn answers true for every text: what is parsed may be, and is shown as it was; beside an error the event is the zero one.
  Conditions: the variable that lists the kinds' words holds them; a string's length is at most the model's greatest.
-/
import Derived.Test.YtpgpiinobphpoaaDoorEvAwake
namespace Go.Proofs.YtpgpiinobphpoaaDoor
open Go.RowKit

theorem lawEventOwn (s : List UInt8) (w : World) (hK : KW w) (hs : s.length ≤ maxLen) : Calls Tryd.prog 5 #[.string (Ln.bs s)] w (RetBool w true) := by
  have K0 := Lib.hid hK
  have HM := Lib.hid hs
  have hz : (Ln.bs s).size = s.length := Ln.bs_size s
  by_cases h3 : 1000 < s.length
  · have hd : decide ((1000 : Int) < ((Ln.bs s).size : Int)) = true := by simp; omega
    clear h3 hz hs hK
    go_enter Tryd.func5, Tryd.ntmps5
    go_wp2_with fail
    refine (evAwake_at _ K0.out).mono ?_
    rintro e w1 ⟨rfl, hb1⟩
    have B1 := Lib.hid hb1
    clear hb1
    go_wp2_with fail
    go_ret
    exact ⟨rfl, B1.out⟩
  have hd : decide ((1000 : Int) < ((Ln.bs s).size : Int)) = false := by simp; omega
  clear h3 hz hs hK
  go_enter Tryd.func5, Tryd.ntmps5
  go_wp2_with fail
  refine (evAwake_at _ K0.out).mono ?_
  rintro e w1 ⟨rfl, hb1⟩
  have K1 := Lib.hid (K0.out.below hb1)
  have B1 := Lib.hid hb1
  clear hb1
  go_wp2_with fail
  refine (evParse_at s _ HM.out K1.out).mono ?_
  rintro e w2 ⟨rfl, hb2⟩
  by_cases hq : (Ev.parseR s).2 = 0
  · obtain ⟨ho1, ho2⟩ := Ev.parse_own s hq
    rw [hq]
    obtain ⟨x, hx⟩ : ∃ x, x = (Ev.parseR s).1 := ⟨_, rfl⟩
    rw [← hx] at ho1 ho2 ⊢
    have HO1 := Lib.hid ho1
    have HO2 := Lib.hid ho2
    unfold evV
    have K2 := Lib.hid ((K1.out.below hb2).below (alloc_below w2 (.cells #[.int .i64 x.kind, .int .i64 x.session, .int .i64 x.key, .int .i64 x.value] 23)))
    have E2 := Lib.hid (EvAt.new w2 x 23)
    have B2 := Lib.hid (below_all (below_all B1.out hb2) (alloc_below w2 (.cells #[.int .i64 x.kind, .int .i64 x.session, .int .i64 x.key, .int .i64 x.value] 23)))
    clear hb2 hq hx ho1 ho2
    go_wp2_with fail
    refine (evShow_at x _ K2.out).mono ?_
    rintro e w3 ⟨rfl, hb3⟩
    rw [HO2.out]
    have E3 := Lib.hid (E2.out.below hb3)
    have B3 := Lib.hid (below_all B2.out hb3)
    clear hb3
    have x0 := E3.out.c0
    have x1 := E3.out.c1
    have x2 := E3.out.c2
    have x3 := E3.out.c3
    go_wp2_with fail
    refine (evRight_at x _).mono ?_
    rintro e w4 ⟨rfl, hb4⟩
    rw [HO1.out]
    have B4 := Lib.hid (below_all B3.out hb4)
    clear hb4
    go_wp2_with fail
    go_ret
    exact ⟨rfl, B4.out⟩
  · have hz := Ev.parse_err s hq
    rw [hz]
    unfold evV Ev.zero
    dsimp only
    have hqb : ((Ev.parseR s).2 != 0) = true := by rw [bne_iff_ne]; exact hq
    have B2 := Lib.hid (below_all (below_all B1.out hb2) (alloc_below w2 (.cells #[.int .i64 0, .int .i64 0, .int .i64 0, .int .i64 0] 23)))
    generalize (Ev.parseR s).2 = q at *
    clear hb2 hq hz
    go_wp2_with fail
    go_ret
    exact ⟨rfl, B2.out⟩
end Go.Proofs.YtpgpiinobphpoaaDoor
