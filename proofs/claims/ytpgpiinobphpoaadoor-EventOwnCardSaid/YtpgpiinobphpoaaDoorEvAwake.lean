/-
  The laws' live example of layer 3 holds: awake answers true; what was in memory stays as it was.
  Conditions: the variable that lists the kinds' words holds them.
-/
import Derived.Test.YtpgpiinobphpoaaDoorEvWalkD
import Derived.Test.YtpgpiinobphpoaaDoorEvRefB
namespace Go.Proofs.YtpgpiinobphpoaaDoor
open Go.RowKit

theorem parse_ex : Ev.parseR [114, 101, 97, 100, 32, 49, 32, 50, 32, 48] = (⟨1, 1, 2, 0⟩, 0) := by decide
theorem parse_ex2 : Ev.parseR [114, 101, 97, 100, 32, 49, 32, 50] = (Ev.zero, 2) := by decide
theorem parse_ex3 : Ev.parseR [98, 101, 103, 105, 110, 32, 56] = (Ev.zero, 4) := by decide
theorem right_ex : Ev.right ⟨1, 1, 2, 0⟩ = true := by decide
theorem right_ex2 : Ev.right ⟨5, 0, 0, 0⟩ = false := by decide
theorem show_ex : Ev.showR ⟨1, 1, 2, 0⟩ = ([114, 101, 97, 100, 32, 49, 32, 50, 32, 48], 0) := by
  rw [Ev.showR, if_pos right_ex, Ev.parts, Ev.nums, if_pos (by decide)]
  simp only [List.map_cons, List.map_nil, Nm.showS_num _ (show Nm.isNum 1 = true from by decide), Nm.showS_num _ (show Nm.isNum 2 = true from by decide), Nm.showS_num _ (show Nm.isNum 0 = true from by decide)]
  rw [Nm.digs_small _ (by decide), Nm.digs_small _ (by decide), Nm.digs_small _ (by decide)]
  decide

/-- A variable that holds an event. -/
structure EvAt (w : World) (b : Nat) (e : Ev.Event) : Prop where
  c0 : w.cell? ⟨b, 0, none⟩ = some (.int .i64 e.kind)
  c1 : w.cell? ⟨b, 1, none⟩ = some (.int .i64 e.session)
  c2 : w.cell? ⟨b, 2, none⟩ = some (.int .i64 e.key)
  c3 : w.cell? ⟨b, 3, none⟩ = some (.int .i64 e.value)
theorem EvAt.below {w w' : World} {b : Nat} {e : Ev.Event} (h : EvAt w b e) (hb : Below w.heap.size w w') : EvAt w' b e := ⟨cell_on hb h.c0, cell_on hb h.c1, cell_on hb h.c2, cell_on hb h.c3⟩
theorem EvAt.new (w : World) (e : Ev.Event) (t : TypeId) : EvAt (w.alloc (.cells #[.int .i64 e.kind, .int .i64 e.session, .int .i64 e.key, .int .i64 e.value] t)) w.heap.size e := ⟨new_cell w _ _ 0 _ rfl, new_cell w _ _ 1 _ rfl, new_cell w _ _ 2 _ rfl, new_cell w _ _ 3 _ rfl⟩
theorem alloc_below (w : World) (o : Obj) : Below w.heap.size w (w.alloc o) := (Below.refl _ w).alloc (Nat.le_refl _) o

theorem evAwake_at (w : World) (hK : KW w) : Calls Tryd.prog 7 #[] w (RetBool w true) := by
  have K0 := Lib.hid hK
  clear hK
  go_enter Tryd.func7, Tryd.ntmps7
  go_wp2_with fail
  refine (evParse_at [114, 101, 97, 100, 32, 49, 32, 50, 32, 48] w (by decide) K0.out).mono ?_
  rintro e w1 ⟨rfl, hb1⟩
  rw [parse_ex]
  unfold evV
  dsimp only
  have K1 := Lib.hid (K0.out.below hb1)
  have B1 := Lib.hid hb1
  clear hb1
  go_wp2_with fail
  refine (evParse_at [114, 101, 97, 100, 32, 49, 32, 50] _ (by decide) (K1.out.below (alloc_below _ _))).mono ?_
  rintro e w2 ⟨rfl, hb2⟩
  rw [parse_ex2]
  unfold evV Ev.zero
  dsimp only
  have E2 := Lib.hid ((EvAt.new w1 ⟨1, 1, 2, 0⟩ 23).below hb2)
  have K2 := Lib.hid ((K1.out.below (alloc_below _ _)).below hb2)
  have B2 := Lib.hid (below_all B1.out (below_new hb2))
  clear hb2
  go_wp2_with fail
  refine (evParse_at [98, 101, 103, 105, 110, 32, 56] _ (by decide) (K2.out.below (alloc_below _ _))).mono ?_
  rintro e w3 ⟨rfl, hb3⟩
  rw [parse_ex3]
  unfold evV Ev.zero
  dsimp only
  have E3 := Lib.hid ((E2.out.below (alloc_below _ _)).below hb3)
  have K3 := Lib.hid ((K2.out.below (alloc_below _ _)).below hb3)
  have B3 := Lib.hid (below_all B2.out (below_new hb3))
  clear hb3
  have E4 := Lib.hid (E3.out.below (alloc_below w3 (.cells #[.int .i64 0, .int .i64 0, .int .i64 0, .int .i64 0] 23)))
  have x0 := E4.out.c0
  have x1 := E4.out.c1
  have x2 := E4.out.c2
  have x3 := E4.out.c3
  dsimp only at x0 x1 x2 x3
  go_wp2_with fail
  refine (evShow_at ⟨1, 1, 2, 0⟩ _ (K3.out.below (alloc_below _ _))).mono ?_
  rintro e w4 ⟨rfl, hb4⟩
  rw [show_ex]
  have E5 := Lib.hid (E4.out.below hb4)
  have B4 := Lib.hid (below_all B3.out (below_new hb4))
  clear hb4 x0 x1 x2 x3
  have x0 := E5.out.c0
  have x1 := E5.out.c1
  have x2 := E5.out.c2
  have x3 := E5.out.c3
  dsimp only at x0 x1 x2 x3
  have hjx : (Ln.bs [114, 101, 97, 100, 32, 49, 32, 50, 32, 48]).toList = [114, 101, 97, 100, 32, 49, 32, 50, 32, 48] := by rw [Lib.toList_data, Ln.bs_data]
  go_wp2_with fail
  refine (evRight_at ⟨1, 1, 2, 0⟩ _).mono ?_
  rintro e w5 ⟨rfl, hb5⟩
  rw [right_ex]
  have B5 := Lib.hid (below_all B4.out hb5)
  clear hb5
  go_wp2_with fail
  refine (evRight_at ⟨5, 0, 0, 0⟩ _).mono ?_
  rintro e w6 ⟨rfl, hb6⟩
  rw [right_ex2]
  have B6 := Lib.hid (below_all B5.out hb6)
  clear hb6
  go_wp2_with fail
  go_ret
  exact ⟨rfl, B6.out⟩
end Go.Proofs.YtpgpiinobphpoaaDoor
