/-
  The laws' live example of layer 13 holds: awake answers true; what was in memory stays as it was.
  Conditions: the library's table for the lowest bit holds what its text says.
-/
import Derived.Test.YtadgfplaabgkfaaDoorRcWalkC
import Derived.Test.YtadgfplaabgkfaaDoorGfRef
set_option maxRecDepth 4000
namespace Go.Proofs.YtadgfplaabgkfaaDoor
open Go.RowKit

theorem rcPlain_at (n : Int) (v : Value) (l : List Nat) (w : World) (hv : Us w v l) : Calls Tryd.prog 8 #[.agg #[.int .i64 n, v]] w fun e w' => e = .returned (.agg #[.int .i64 n, v]) ∧ Below w.heap.size w w' := by
  obtain ⟨A, c, rfl, -⟩ := hv.spelled
  have B1 := alloc_below w (.cells #[.int .i64 n, .slice A l.length c] 24)
  have B2 := alloc_below (w.alloc (.cells #[.int .i64 n, .slice A l.length c] 24)) (.cells #[.int .i64 n, .slice A l.length c] 26)
  have T := Two.new (w.alloc (.cells #[.int .i64 n, .slice A l.length c] 24)) 26 (.int .i64 n) (.slice A l.length c)
  rw [World.size_alloc] at T
  have HT := Lib.hid T
  have HB := Lib.hid (below_all B1 B2)
  clear hv T B1 B2
  go_enter Tryd.func8, Tryd.ntmps8
  go_wp2_with fail
  obtain ⟨p0, p1⟩ := HT.out.cells
  exact bodyPost_ret (res_r rfl _ (w.heap.size + 1) _ n A l.length c rfl p0 p1) rfl ⟨rfl, HB.out⟩

namespace Rc
theorem ex_close : closeR 3 [2, 4, 0] = [6, 4, 0] := by decide
theorem ex_more : moreR 3 [6, 4, 0] 2 2 = [6, 4, 4] := by decide
theorem ex_cyclic : cyclicA 3 [6, 4, 4] = true := by decide
theorem ex_not : cyclicA 3 [6, 4, 0] = false := by decide
theorem ex_from : fromA 3 [6, 4, 0] 0 = 6 := by decide
theorem ex_ok1 : Gf.Ok 3 [2, 4, 0] := ⟨by decide, rfl, by decide⟩
theorem ex_ok2 : Gf.Ok 3 [6, 4, 0] := ⟨by decide, rfl, by decide⟩
end Rc

set_option maxHeartbeats 4000000 in
theorem rcAwake_at (w : World) (hT : TZ w) : Calls Tryd.prog 7 #[] w (RetBool w true) := by
  have HT := Lib.hid hT
  have L0 := Lib.hid (show Us (w.alloc (.cells #[.int .u64 2, .int .u64 4, .int .u64 0] 34)) (.slice (some ⟨w.heap.size, 0, none⟩) 3 3) [2, 4, 0] from lit_rows uC_len w 34 [2, 4, 0] (by simp [maxLen]))
  have B0 := Lib.hid (alloc_below w (.cells #[.int .u64 2, .int .u64 4, .int .u64 0] 34))
  clear hT
  go_enter Tryd.func7, Tryd.ntmps7
  go_wp2_with fail
  generalize w.alloc (.cells #[.int .u64 2, .int .u64 4, .int .u64 0] 34) = w0 at *
  refine (rcClose_at 3 _ [2, 4, 0] _ (HT.out.below B0.out) L0.out Rc.ex_ok1).mono ?_
  rintro e w1 ⟨v1, rfl, ho1, hb1⟩
  rw [Rc.ex_close] at ho1
  obtain ⟨A1, c1, rfl⟩ := ho1.form
  dsimp only [List.length_cons, List.length_nil] at ho1 ⊢
  have b1 := alloc_below w1 (.cells #[.int .i64 3, .slice A1 3 c1] 24)
  have G1 := Lib.hid (Two.new w1 24 (.int .i64 3) (.slice A1 3 c1))
  have U1 := Lib.hid (ho1.us.below b1)
  have B1 := Lib.hid (below_all (below_all B0.out hb1) b1)
  clear ho1 hb1 b1 L0 B0
  obtain ⟨p0, p1⟩ := G1.out.cells
  go_wp2_with fail
  generalize w1.alloc (.cells #[.int .i64 3, .slice A1 3 c1] 24) = W1 at *
  generalize w1.heap.size = o1 at *
  refine (rcMore_at 3 _ [6, 4, 0] 2 2 _ U1.out Rc.ex_ok2 (by decide) (by decide)).mono ?_
  rintro e w2 ⟨v2, rfl, ho2, hb2⟩
  rw [Rc.ex_more] at ho2
  obtain ⟨A2, c2, rfl⟩ := ho2.form
  dsimp only [List.length_cons, List.length_nil] at ho2 ⊢
  have b2 := alloc_below w2 (.cells #[.int .i64 3, .slice A2 3 c2] 24)
  have G2 := Lib.hid (Two.new w2 24 (.int .i64 3) (.slice A2 3 c2))
  have U2 := Lib.hid (ho2.us.below b2)
  have H12 := Lib.hid (below_all hb2 b2)
  have B2 := Lib.hid (below_all B1.out H12.out)
  clear ho2 hb2 b2 p0 p1
  obtain ⟨p0, p1⟩ := (G1.out.later H12.out).cells
  go_wp2_with fail
  generalize w2.alloc (.cells #[.int .i64 3, .slice A2 3 c2] 24) = W2 at *
  generalize w2.heap.size = o2 at *
  refine (rcPlain_at 3 (.slice A1 3 c1) [6, 4, 0] _ (U1.out.below H12.out)).mono ?_
  rintro e w3 ⟨rfl, hb3⟩
  have L3 := Lib.hid (show Us (w3.alloc (.cells #[.int .u64 6, .int .u64 4, .int .u64 0] 34)) (.slice (some ⟨w3.heap.size, 0, none⟩) 3 3) [6, 4, 0] from lit_rows uC_len w3 34 [6, 4, 0] (by simp [maxLen]))
  have H23 := Lib.hid (below_all hb3 (alloc_below w3 (.cells #[.int .u64 6, .int .u64 4, .int .u64 0] 34)))
  clear hb3 p0 p1
  go_wp2_with fail
  generalize w3.alloc (.cells #[.int .u64 6, .int .u64 4, .int .u64 0] 34) = W3 at *
  refine (rSame12_at 3 (.slice A1 3 c1) (.slice (some ⟨w3.heap.size, 0, none⟩) 3 3) [6, 4, 0] _ (U1.out.below (below_all H12.out H23.out)) L3.out (by decide)).mono ?_
  rintro e w4 ⟨rfl, hb4⟩
  have H24 := Lib.hid (below_all H23.out hb4)
  clear hb4 L3 H23
  obtain ⟨p0, p1⟩ := (G2.out.later H24.out).cells
  go_wp2_with fail
  refine (rcPlain_at 3 (.slice A2 3 c2) [6, 4, 4] _ (U2.out.below H24.out)).mono ?_
  rintro e w5 ⟨rfl, hb5⟩
  have L5 := Lib.hid (show Us (w5.alloc (.cells #[.int .u64 6, .int .u64 4, .int .u64 4] 34)) (.slice (some ⟨w5.heap.size, 0, none⟩) 3 3) [6, 4, 4] from lit_rows uC_len w5 34 [6, 4, 4] (by simp [maxLen]))
  have H25 := Lib.hid (below_all H24.out (below_all hb5 (alloc_below w5 (.cells #[.int .u64 6, .int .u64 4, .int .u64 4] 34))))
  clear hb5 p0 p1
  go_wp2_with fail
  generalize w5.alloc (.cells #[.int .u64 6, .int .u64 4, .int .u64 4] 34) = W5 at *
  refine (rSame12_at 3 (.slice A2 3 c2) (.slice (some ⟨w5.heap.size, 0, none⟩) 3 3) [6, 4, 4] _ (U2.out.below H25.out) L5.out (by decide)).mono ?_
  rintro e w6 ⟨rfl, hb6⟩
  have H26 := Lib.hid (below_all H25.out hb6)
  clear hb6 L5 H25 H24
  obtain ⟨p0, p1⟩ := (G2.out.later H26.out).cells
  go_wp2_with fail
  refine (rcCyclic_at 3 (.slice A2 3 c2) [6, 4, 4] _ (HT.out.below (below_all B2.out H26.out)) (U2.out.below H26.out) (by decide)).mono ?_
  rintro e w7 ⟨rfl, hb7⟩
  rw [Rc.ex_cyclic]
  have H17 := Lib.hid (below_all H12.out (below_all H26.out hb7))
  clear hb7 p0 p1 H26
  obtain ⟨p0, p1⟩ := (G1.out.later H17.out).cells
  go_wp2_with fail
  refine (rcCyclic_at 3 (.slice A1 3 c1) [6, 4, 0] _ (HT.out.below (below_all B1.out H17.out)) (U1.out.below H17.out) (by decide)).mono ?_
  rintro e w8 ⟨rfl, hb8⟩
  rw [Rc.ex_not]
  have H18 := Lib.hid (below_all H17.out hb8)
  clear hb8 p0 p1 H17
  obtain ⟨p0, p1⟩ := (G1.out.later H18.out).cells
  go_wp2_with fail
  refine (rcFrom_at 3 (.slice A1 3 c1) [6, 4, 0] 0 _ (HT.out.below (below_all B1.out H18.out)) (U1.out.below H18.out) (by decide)).mono ?_
  rintro e w9 ⟨rfl, hb9⟩
  rw [Rc.ex_from]
  have B9 := Lib.hid (below_all B1.out (below_all H18.out hb9))
  clear hb9 p0 p1
  go_wp2_with fail
  go_ret
  exact ⟨rfl, B9.out⟩
end Go.Proofs.YtadgfplaabgkfaaDoor
