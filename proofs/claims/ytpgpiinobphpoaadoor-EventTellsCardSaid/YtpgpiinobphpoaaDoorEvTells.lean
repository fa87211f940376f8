/-
  EventTells answers true for every event and every text: whether an event may be, its line, and a line's event, or what is wrong, are the document's.
  Conditions: the variable that lists the kinds' words holds them; a string's length is at most the model's greatest.
-/
import Derived.Test.YtpgpiinobphpoaaDoorEvAwake
namespace Go.Proofs.YtpgpiinobphpoaaDoor
open Go.RowKit

/-- Three variables that hold events, behind a call that leaves what was there as it was. -/
theorem held_evs {W W1 W2 : World} {b c d : Nat} {x : Ev.Event} {p0 p1 p2 p3 : Int} (h : W1.cell? ⟨b, 0, none⟩ = some (.int .i64 x.kind) ∧ W1.cell? ⟨b, 1, none⟩ = some (.int .i64 x.session) ∧ W1.cell? ⟨b, 2, none⟩ = some (.int .i64 x.key) ∧ W1.cell? ⟨b, 3, none⟩ = some (.int .i64 x.value) ∧ W1.cell? ⟨c, 0, none⟩ = some (.int .i64 p0) ∧ W1.cell? ⟨c, 1, none⟩ = some (.int .i64 p1) ∧ W1.cell? ⟨c, 2, none⟩ = some (.int .i64 p2) ∧ W1.cell? ⟨c, 3, none⟩ = some (.int .i64 p3) ∧ W1.cell? ⟨d, 0, none⟩ = some (.int .i64 p0) ∧ W1.cell? ⟨d, 1, none⟩ = some (.int .i64 p1) ∧ W1.cell? ⟨d, 2, none⟩ = some (.int .i64 p2) ∧ W1.cell? ⟨d, 3, none⟩ = some (.int .i64 p3) ∧ Hid (Below W.heap.size W W1)) (hb : Below W1.heap.size W1 W2) : W2.cell? ⟨b, 0, none⟩ = some (.int .i64 x.kind) ∧ W2.cell? ⟨b, 1, none⟩ = some (.int .i64 x.session) ∧ W2.cell? ⟨b, 2, none⟩ = some (.int .i64 x.key) ∧ W2.cell? ⟨b, 3, none⟩ = some (.int .i64 x.value) ∧ W2.cell? ⟨c, 0, none⟩ = some (.int .i64 p0) ∧ W2.cell? ⟨c, 1, none⟩ = some (.int .i64 p1) ∧ W2.cell? ⟨c, 2, none⟩ = some (.int .i64 p2) ∧ W2.cell? ⟨c, 3, none⟩ = some (.int .i64 p3) ∧ W2.cell? ⟨d, 0, none⟩ = some (.int .i64 p0) ∧ W2.cell? ⟨d, 1, none⟩ = some (.int .i64 p1) ∧ W2.cell? ⟨d, 2, none⟩ = some (.int .i64 p2) ∧ W2.cell? ⟨d, 3, none⟩ = some (.int .i64 p3) ∧ Hid (Below W.heap.size W W2) := by
  obtain ⟨h0, h1, h2, h3, h4, h5, h6, h7, h8, h9, h10, h11, hB⟩ := h
  exact ⟨cell_on hb h0, cell_on hb h1, cell_on hb h2, cell_on hb h3, cell_on hb h4, cell_on hb h5, cell_on hb h6, cell_on hb h7, cell_on hb h8, cell_on hb h9, cell_on hb h10, cell_on hb h11, hid_below hB hb⟩

set_option maxHeartbeats 1000000 in
theorem lawEventTells (x : Ev.Event) (s : List UInt8) (w : World) (hK : KW w) (hs : s.length ≤ maxLen) : Calls Tryd.prog 3 #[evV x, .string (Ln.bs s)] w (RetBool w true) := by
  have K0 := Lib.hid (hK.below (alloc_below w (.cells #[.int .i64 x.kind, .int .i64 x.session, .int .i64 x.key, .int .i64 x.value] 23)))
  have E0 := Lib.hid (EvAt.new w x 23)
  have HM := Lib.hid hs
  have hz : (Ln.bs s).size = s.length := Ln.bs_size s
  clear hK hs
  unfold evV
  by_cases h3 : 1000 < s.length
  · have hd : decide ((1000 : Int) < ((Ln.bs s).size : Int)) = true := by simp; omega
    clear h3 hz
    go_enter Tryd.func3, Tryd.ntmps3
    go_wp2_with fail
    refine (evAwake_at _ K0.out).mono ?_
    rintro e w1 ⟨rfl, hb1⟩
    have B1 := Lib.hid (below_new hb1)
    clear hb1
    go_wp2_with fail
    go_ret
    exact ⟨rfl, B1.out⟩
  have hd : decide ((1000 : Int) < ((Ln.bs s).size : Int)) = false := by simp; omega
  have HS4 : Hid (s.length ≤ 4294967296) := by rw [Hid]; omega
  clear h3 hz
  go_enter Tryd.func3, Tryd.ntmps3
  go_wp2_with fail
  refine (evAwake_at _ K0.out).mono ?_
  rintro e w1 ⟨rfl, hb1⟩
  have K1 := Lib.hid (K0.out.below hb1)
  have E1 := Lib.hid (E0.out.below hb1)
  have B1 := Lib.hid (below_new hb1)
  clear hb1 K0 E0
  obtain ⟨b, hb⟩ : ∃ b, b = w.heap.size := ⟨_, rfl⟩
  rw [← hb] at E1 ⊢
  clear hb
  have x0 := E1.out.c0
  have x1 := E1.out.c1
  have x2 := E1.out.c2
  have x3 := E1.out.c3
  go_wp2_with fail
  refine (evShow_at x _ K1.out).mono ?_
  rintro e w2 ⟨rfl, hb2⟩
  have K2 := Lib.hid (K1.out.below hb2)
  have E2 := Lib.hid (E1.out.below hb2)
  have B2 := Lib.hid (below_all B1.out hb2)
  clear hb2 x0 x1 x2 x3 K1 E1
  have x0 := E2.out.c0
  have x1 := E2.out.c1
  have x2 := E2.out.c2
  have x3 := E2.out.c3
  go_wp2_with fail
  refine (rEvShow_at x _).mono ?_
  rintro e w3 ⟨rfl, hb3⟩
  have K3 := Lib.hid (K2.out.below hb3)
  have E3 := Lib.hid (E2.out.below hb3)
  have B3 := Lib.hid (below_all B2.out hb3)
  clear hb3 x0 x1 x2 x3 K2 E2
  generalize Ev.showR x = r
  obtain ⟨t, q⟩ := r
  dsimp only
  go_wp2_with fail
  refine (evParse_at s _ HM.out K3.out).mono ?_
  rintro e w4 ⟨rfl, hb4⟩
  have E4 := Lib.hid (E3.out.below hb4)
  have B4 := Lib.hid (below_all B3.out hb4)
  clear hb4 K3 E3
  generalize hpr : Ev.parseR s = r
  have HPR := Lib.hid hpr
  clear hpr
  obtain ⟨⟨p0, p1, p2, p3⟩, q'⟩ := r
  unfold evV
  dsimp only
  have E5 := Lib.hid (E4.out.below (alloc_below w4 (.cells #[.int .i64 p0, .int .i64 p1, .int .i64 p2, .int .i64 p3] 23)))
  have P5 := Lib.hid (EvAt.new w4 ⟨p0, p1, p2, p3⟩ 23)
  have B5 := Lib.hid (below_all B4.out (alloc_below w4 (.cells #[.int .i64 p0, .int .i64 p1, .int .i64 p2, .int .i64 p3] 23)))
  clear E4
  go_wp2_with fail
  refine (rEvParse_at s _ HS4.out).mono ?_
  rintro e w6 ⟨rfl, hb6⟩
  rw [HPR.out]
  unfold evV
  dsimp only
  have E6 := Lib.hid ((E5.out.below hb6).below (alloc_below w6 (.cells #[.int .i64 p0, .int .i64 p1, .int .i64 p2, .int .i64 p3] 23)))
  have P6 := Lib.hid ((P5.out.below hb6).below (alloc_below w6 (.cells #[.int .i64 p0, .int .i64 p1, .int .i64 p2, .int .i64 p3] 23)))
  have R6 := Lib.hid (EvAt.new w6 ⟨p0, p1, p2, p3⟩ 23)
  have B6 := Lib.hid (below_all (below_all B5.out hb6) (alloc_below w6 (.cells #[.int .i64 p0, .int .i64 p1, .int .i64 p2, .int .i64 p3] 23)))
  clear hb6 E5 P5
  go_wp2_with fail
  generalize w6.alloc (.cells #[.int .i64 p0, .int .i64 p1, .int .i64 p2, .int .i64 p3] 23) = W at *
  generalize w4.heap.size = c at *
  generalize w6.heap.size = d at *
  have x0 := E6.out.c0
  have x1 := E6.out.c1
  have x2 := E6.out.c2
  have x3 := E6.out.c3
  have y0 : W.cell? ⟨c, 0, none⟩ = some (.int .i64 p0) := P6.out.c0
  have y1 : W.cell? ⟨c, 1, none⟩ = some (.int .i64 p1) := P6.out.c1
  have y2 : W.cell? ⟨c, 2, none⟩ = some (.int .i64 p2) := P6.out.c2
  have y3 : W.cell? ⟨c, 3, none⟩ = some (.int .i64 p3) := P6.out.c3
  have z0 : W.cell? ⟨d, 0, none⟩ = some (.int .i64 p0) := R6.out.c0
  have z1 : W.cell? ⟨d, 1, none⟩ = some (.int .i64 p1) := R6.out.c1
  have z2 : W.cell? ⟨d, 2, none⟩ = some (.int .i64 p2) := R6.out.c2
  have z3 : W.cell? ⟨d, 3, none⟩ = some (.int .i64 p3) := R6.out.c3
  clear E6 P6 R6 B1 B2 B3 B4 B5 HPR HM HS4 hd
  go_region_held3 (fun w' => w'.cell? ⟨b, 0, none⟩ = some (.int .i64 x.kind) ∧ w'.cell? ⟨b, 1, none⟩ = some (.int .i64 x.session) ∧ w'.cell? ⟨b, 2, none⟩ = some (.int .i64 x.key) ∧ w'.cell? ⟨b, 3, none⟩ = some (.int .i64 x.value) ∧ w'.cell? ⟨c, 0, none⟩ = some (.int .i64 p0) ∧ w'.cell? ⟨c, 1, none⟩ = some (.int .i64 p1) ∧ w'.cell? ⟨c, 2, none⟩ = some (.int .i64 p2) ∧ w'.cell? ⟨c, 3, none⟩ = some (.int .i64 p3) ∧ w'.cell? ⟨d, 0, none⟩ = some (.int .i64 p0) ∧ w'.cell? ⟨d, 1, none⟩ = some (.int .i64 p1) ∧ w'.cell? ⟨d, 2, none⟩ = some (.int .i64 p2) ∧ w'.cell? ⟨d, 3, none⟩ = some (.int .i64 p3) ∧ Hid (Below W.heap.size W w'))
    (first | (exact ⟨x0, x1, x2, x3, y0, y1, y2, y3, z0, z1, z2, z3, hid_drew W⟩) | (exact held_evs (by assumption) hb7) | (exact held_evs ⟨x0, x1, x2, x3, y0, y1, y2, y3, z0, z1, z2, z3, hid_drew W⟩ hb7))
    (first | (go_at_call 12; refine (evRight_at x _).mono ?_; rintro e w7 ⟨rfl, hb7⟩) | (go_at_call 13; refine (rEvRight_at x _).mono ?_; rintro e w7 ⟨rfl, hb7⟩))
  have HB7 : Hid (Below W.heap.size W w7) := by
    rename_i hHeld
    exact hHeld.2.2.2.2.2.2.2.2.2.2.2.2
  clear hb7
  go_wp2_with fail
  go_ret
  exact ⟨rfl, below_all B6.out HB7.out⟩
end Go.Proofs.YtpgpiinobphpoaaDoor
