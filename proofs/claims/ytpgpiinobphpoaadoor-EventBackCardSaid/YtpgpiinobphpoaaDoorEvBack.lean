/-
  EventBack answers true for every event: what is shown is parsed as it was; what may not be is not shown.
  Conditions: the variable that lists the kinds' words holds them.
-/
import Derived.Test.YtpgpiinobphpoaaDoorEvAwake
namespace Go.Proofs.YtpgpiinobphpoaaDoor
open Go.RowKit

theorem lawEventBack (x : Ev.Event) (w : World) (hK : KW w) : Calls Tryd.prog 4 #[evV x] w (RetBool w true) := by
  have K0 := Lib.hid (hK.below (alloc_below w (.cells #[.int .i64 x.kind, .int .i64 x.session, .int .i64 x.key, .int .i64 x.value] 23)))
  have E0 := Lib.hid (EvAt.new w x 23)
  have HB := Lib.hid (Ev.parse_back x)
  have HL := Lib.hid (Ev.showR_len x)
  clear hK
  unfold evV
  go_enter Tryd.func4, Tryd.ntmps4
  go_wp2_with fail
  refine (evAwake_at _ K0.out).mono ?_
  rintro e w1 ⟨rfl, hb1⟩
  have K1 := Lib.hid (K0.out.below hb1)
  have E1 := Lib.hid (E0.out.below hb1)
  have B1 := Lib.hid (below_new hb1)
  clear hb1 K0 E0
  obtain ⟨b, hb⟩ : ∃ b, b = w.heap.size := ⟨_, rfl⟩
  rw [← hb] at E1 ⊢
  clear hb
  have x0 := E1.out.c0
  have x1 := E1.out.c1
  have x2 := E1.out.c2
  have x3 := E1.out.c3
  go_wp2_with fail
  refine (evShow_at x _ K1.out).mono ?_
  rintro e w2 ⟨rfl, hb2⟩
  have K2 := Lib.hid (K1.out.below hb2)
  have E2 := Lib.hid (E1.out.below hb2)
  have B2 := Lib.hid (below_all B1.out hb2)
  clear hb2 x0 x1 x2 x3
  have x0 := E2.out.c0
  have x1 := E2.out.c1
  have x2 := E2.out.c2
  have x3 := E2.out.c3
  go_wp2_with fail
  refine (evRight_at x _).mono ?_
  rintro e w3 ⟨rfl, hb3⟩
  have K3 := Lib.hid (K2.out.below hb3)
  have E3 := Lib.hid (E2.out.below hb3)
  have B3 := Lib.hid (below_all B2.out hb3)
  clear hb3 x0 x1 x2 x3
  cases hr : Ev.right x with
  | false =>
    have hs : Ev.showR x = ([], 1) := by rw [Ev.showR, if_neg (by rw [hr]; simp)]
    rw [hs]
    have hjx : (Ln.bs []).toList = [] := by rw [Lib.toList_data, Ln.bs_data]
    clear hr hs
    go_wp2_with fail
    go_ret
    exact ⟨rfl, B3.out⟩
  | true =>
    have HP := Lib.hid (HB.out hr)
    have hs : (Ev.showR x).2 = 0 := by rw [Ev.showR, if_pos hr]
    rw [hs]
    generalize (Ev.showR x).1 = t at *
    clear hr hs HB
    go_wp2_with fail
    refine (evParse_at t _ (Nat.le_trans HL.out (by decide)) K3.out).mono ?_
    rintro e w4 ⟨rfl, hb4⟩
    rw [HP.out]
    unfold evV
    dsimp only
    have E4 := Lib.hid ((E3.out.below hb4).below (alloc_below w4 (.cells #[.int .i64 x.kind, .int .i64 x.session, .int .i64 x.key, .int .i64 x.value] 23)))
    have B4 := Lib.hid (below_all (below_all B3.out hb4) (alloc_below w4 (.cells #[.int .i64 x.kind, .int .i64 x.session, .int .i64 x.key, .int .i64 x.value] 23)))
    clear hb4
    have x0 := E4.out.c0
    have x1 := E4.out.c1
    have x2 := E4.out.c2
    have x3 := E4.out.c3
    go_wp2_with fail
    go_ret
    exact ⟨rfl, B4.out⟩
end Go.Proofs.YtpgpiinobphpoaaDoor
