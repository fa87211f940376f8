/-
  The laws' live example of layer 12 holds: awake answers true; what was in memory stays as it was.
  Conditions: none.
-/
import Derived.Test.YtcpiaddohiokkaaGfAwake
set_option maxRecDepth 4000
namespace Go.Proofs.Ytcpiaddohiokkaa
open Go.RowKit

namespace Gf
theorem ex_made : madeOf 3 [(0, 1), (1, 2)] = [2, 4, 0] := by decide
theorem ex_comp : composeR 3 [2, 4, 0] [2, 4, 0] = [4, 0, 0] := by decide
theorem ex_turn : turnR 3 [4, 0, 0] = [0, 0, 1] := by decide
theorem ex_edges : edges [0, 0, 1] = [(2, 0)] := by decide
theorem ex_has : hasR 3 [4, 0, 0] 0 2 = true := by decide
theorem ex_not : hasR 3 [4, 0, 0] 0 1 = false := by decide
theorem ex_right : okB 3 [2, 4, 0] = true := by decide
theorem ex_wrong : okB 1 [] = false := by decide
theorem ex_ok1 : Ok 3 [2, 4, 0] := ⟨by decide, rfl, by decide⟩
theorem ex_ok2 : Ok 3 [4, 0, 0] := ⟨by decide, rfl, by decide⟩
theorem ex_ok3 : Ok 3 [0, 0, 1] := ⟨by decide, rfl, by decide⟩
end Gf

set_option maxHeartbeats 2000000 in
theorem gfAwake_at (w : World) : Calls Try.prog 7 #[] w (RetBool w true) := by
  have L0 := Lib.hid (show Its (w.alloc (.cells #[.int .i64 0, .int .i64 1, .int .i64 1, .int .i64 2] 46)) (.slice (some ⟨w.heap.size, 0, none⟩) 2 2) (Gf.eI [(0, 1), (1, 2)]) from lit_rows itC_len w 46 [(0, 1), (1, 2)] (by simp [maxLen]))
  have B0 := Lib.hid (alloc_below w (.cells #[.int .i64 0, .int .i64 1, .int .i64 1, .int .i64 2] 46))
  go_enter Try.func7, Try.ntmps7
  go_wp2_with fail
  generalize w.alloc (.cells #[.int .i64 0, .int .i64 1, .int .i64 1, .int .i64 2] 46) = w0 at *
  refine (gfMade_at 3 (by decide) [(0, 1), (1, 2)] _ _ L0.out (by decide) (by decide)).mono ?_
  rintro e w1 ⟨v1, rfl, ho1, hb1⟩
  rw [Gf.ex_made] at ho1
  obtain ⟨A1, c1, rfl⟩ := ho1.form
  dsimp only [List.length_cons, List.length_nil] at ho1 ⊢
  have b1 := alloc_below w1 (.cells #[.int .i64 3, .slice A1 3 c1] 24)
  have G1 := Lib.hid (Two.new w1 24 (.int .i64 3) (.slice A1 3 c1))
  have U1 := Lib.hid (ho1.us.below b1)
  have B1 := Lib.hid (below_all (below_all B0.out hb1) b1)
  clear ho1 hb1 b1 L0 B0
  obtain ⟨p0, p1⟩ := G1.out.cells
  go_wp2_with fail
  generalize w1.alloc (.cells #[.int .i64 3, .slice A1 3 c1] 24) = W1 at *
  generalize w1.heap.size = o1 at *
  refine (gfCompose_at 3 _ _ [2, 4, 0] [2, 4, 0] _ U1.out U1.out Gf.ex_ok1 Gf.ex_ok1).mono ?_
  rintro e w2 ⟨v2, rfl, ho2, hb2⟩
  rw [Gf.ex_comp] at ho2
  obtain ⟨A2, c2, rfl⟩ := ho2.form
  dsimp only [List.length_cons, List.length_nil] at ho2 ⊢
  have b2 := alloc_below w2 (.cells #[.int .i64 3, .slice A2 3 c2] 24)
  have G2 := Lib.hid (Two.new w2 24 (.int .i64 3) (.slice A2 3 c2))
  have U2 := Lib.hid (ho2.us.below b2)
  have H12 := Lib.hid (below_all hb2 b2)
  have B2 := Lib.hid (below_all B1.out H12.out)
  clear ho2 hb2 b2 p0 p1
  obtain ⟨p0, p1⟩ := G2.out.cells
  go_wp2_with fail
  generalize w2.alloc (.cells #[.int .i64 3, .slice A2 3 c2] 24) = W2 at *
  generalize w2.heap.size = o2 at *
  refine (gfTurn_at 3 _ [4, 0, 0] _ U2.out Gf.ex_ok2).mono ?_
  rintro e w3 ⟨v3, rfl, ho3, hb3⟩
  rw [Gf.ex_turn] at ho3
  obtain ⟨A3, c3, rfl⟩ := ho3.form
  dsimp only [List.length_cons, List.length_nil] at ho3 ⊢
  have b3 := alloc_below w3 (.cells #[.int .i64 3, .slice A3 3 c3] 24)
  have G3 := Lib.hid (Two.new w3 24 (.int .i64 3) (.slice A3 3 c3))
  have U3 := Lib.hid (ho3.us.below b3)
  have H23 := Lib.hid (below_all hb3 b3)
  have B3 := Lib.hid (below_all B2.out H23.out)
  clear ho3 hb3 b3 p0 p1
  obtain ⟨p0, p1⟩ := G3.out.cells
  go_wp2_with fail
  generalize w3.alloc (.cells #[.int .i64 3, .slice A3 3 c3] 24) = W3 at *
  generalize w3.heap.size = o3 at *
  refine (gfEdges_at 3 _ [0, 0, 1] _ U3.out Gf.ex_ok3).mono ?_
  rintro e w4 ⟨v4, rfl, ho4, hb4⟩
  rw [Gf.ex_edges] at ho4
  have H24 := Lib.hid (below_all H23.out hb4)
  have B4 := Lib.hid (below_all B3.out hb4)
  obtain ⟨A4, c4, rfl, h4⟩ := ed_spelled ho4.its
  obtain ⟨ad, rfl, hblk, hE⟩ := h4 0 (by decide)
  dsimp only [List.length_cons, List.length_nil, List.getElem_cons_zero] at hE ⊢
  have HE := Lib.hid hE
  clear ho4 hb4 p0 p1 hE h4
  obtain ⟨p0, p1⟩ := (G2.out.later H24.out).cells
  go_wp2_with fail
  refine (gfHas_at 3 _ [4, 0, 0] 0 2 _ (U2.out.below H24.out) (by decide)).mono ?_
  rintro e w5 ⟨rfl, hb5⟩
  rw [Gf.ex_has]
  have H25 := Lib.hid (below_all H24.out hb5)
  have H45 := Lib.hid hb5
  have B5 := Lib.hid (below_all B4.out hb5)
  clear hb5 p0 p1
  obtain ⟨p0, p1⟩ := (G2.out.later H25.out).cells
  go_wp2_with fail
  refine (gfHas_at 3 _ [4, 0, 0] 0 1 _ (U2.out.below H25.out) (by decide)).mono ?_
  rintro e w6 ⟨rfl, hb6⟩
  rw [Gf.ex_not]
  have H26 := Lib.hid (below_all H25.out hb6)
  have H46 := Lib.hid (below_all H45.out hb6)
  have B6 := Lib.hid (below_all B5.out hb6)
  clear hb6 p0 p1
  obtain ⟨e0, e1⟩ := HE.out.below hblk H46.out
  rw [Nat.zero_mul, add_zero'] at e0 e1
  obtain ⟨p0, p1⟩ := (G1.out.later (below_all H12.out H26.out)).cells
  go_wp2_with fail
  refine (gfRight_at 3 _ [2, 4, 0] _ (U1.out.below (below_all H12.out H26.out)) (by decide)).mono ?_
  rintro e w7 ⟨rfl, hb7⟩
  rw [Gf.ex_right]
  have B7 := Lib.hid (below_all B6.out hb7)
  clear hb7 p0 p1 e0 e1
  go_wp2_with fail
  refine (gfRight_at 1 _ [] _ (Us.nil _ _) (by decide)).mono ?_
  rintro e w8 ⟨rfl, hb8⟩
  rw [Gf.ex_wrong]
  have B8 := Lib.hid (below_all B7.out hb8)
  go_wp2_with fail
  go_ret
  exact ⟨rfl, B8.out⟩
end Go.Proofs.Ytcpiaddohiokkaa
