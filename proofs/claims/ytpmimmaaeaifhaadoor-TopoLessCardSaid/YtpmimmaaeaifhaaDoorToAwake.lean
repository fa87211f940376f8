/-
  The laws' plain and awake of layer 16.
  Conditions: none beyond those that each theorem states.
  (This program has not all of these functions: toPlain_at is left out here.)
-/
import Derived.Test.YtpmimmaaeaifhaaDoorToWalk
import Derived.Test.YtpmimmaaeaifhaaDoorSoRef
import Derived.Test.YtpmimmaaeaifhaaDoorGfRef
import Derived.Test.YtpmimmaaeaifhaaDoorGfAll
set_option maxRecDepth 4000
namespace Go.Proofs.YtpmimmaaeaifhaaDoor
open Go.RowKit

namespace To
open Gf
theorem ex_order : orderA 3 [0, 0, 1] = some [1, 2, 0] := by decide
theorem ex_none : orderA 1 [1] = none := by decide
theorem ex_ok : Ok 3 [0, 0, 1] := ⟨by decide, rfl, by decide⟩
theorem ex_is : IsA 3 [0, 0, 1] [2, 0, 1] := ⟨3, rfl, ex_ok, [2, 0, 1], rfl, ⟨by decide, by decide, by decide, fun i k hi hk hki => by
  have h1 : i < 3 := hi
  have h2 : k < 3 := hk
  have h3 : ∀ i, i < 3 → ∀ k, k < 3 → k ≤ i → bit [0, 0, 1] ([2, 0, 1].getD i 0) ([2, 0, 1].getD k 0) = false := by decide
  have := h3 i h1 k h2 hki
  rw [List.getD_eq_getElem?_getD, List.getElem?_eq_getElem hi, List.getD_eq_getElem?_getD, List.getElem?_eq_getElem hk] at this
  exact this⟩⟩
theorem ex_not : ¬ IsA 3 [0, 0, 1] [0, 1, 2] := by
  rintro ⟨k, _, _, m, e, h⟩
  obtain rfl := Cy.nums_inj (show Bi.nums [0, 1, 2] = Bi.nums m from e)
  exact absurd (h.edge 2 0 (by decide) (by decide) (by decide)) (by decide)
end To

set_option maxHeartbeats 4000000 in
theorem toAwake_at (w : World) : Calls Tryd.prog 5 #[] w (RetBool w true) := by
  have L0 := Lib.hid ((show Us (w.alloc (.cells #[.int .u64 0, .int .u64 0, .int .u64 1] 36)) (.slice (some ⟨w.heap.size, 0, none⟩) 3 3) [0, 0, 1] from lit_rows uC_len w 36 [0, 0, 1] (by simp [maxLen])).below (alloc_below _ (.cells #[.int .i64 3, .slice (some ⟨w.heap.size, 0, none⟩) 3 3] 24)))
  have B0 := Lib.hid (below_all (alloc_below w (.cells #[.int .u64 0, .int .u64 0, .int .u64 1] 36)) (alloc_below _ (.cells #[.int .i64 3, .slice (some ⟨w.heap.size, 0, none⟩) 3 3] 24)))
  have t0 := Two.new (w.alloc (.cells #[.int .u64 0, .int .u64 0, .int .u64 1] 36)) 24 (.int .i64 3) (.slice (some ⟨w.heap.size, 0, none⟩) 3 3)
  rw [World.size_alloc] at t0
  have T0 := Lib.hid t0
  clear t0
  go_enter Tryd.func5, Tryd.ntmps5
  go_upto_region 2 with fail
  generalize (w.alloc (.cells #[.int .u64 0, .int .u64 0, .int .u64 1] 36)).alloc (.cells #[.int .i64 3, .slice (some ⟨w.heap.size, 0, none⟩) 3 3] 24) = W at *
  obtain ⟨a0, a1⟩ := T0.out.cells
  go_wp2_with fail
  refine (toOrder_at 3 _ [0, 0, 1] _ L0.out (by decide)).mono ?_
  rintro e w1 ⟨v1, rfl, hn1, hb1⟩
  rw [To.ex_order] at hn1 ⊢
  dsimp only [Option.isSome, Option.getD] at hn1 ⊢
  obtain ⟨A1, c1, rfl, -⟩ := hn1.spelled
  have N1 := Lib.hid (hn1.below (alloc_below w1 (.cells #[.int .u64 1] 36)))
  have S1 := Lib.hid (below_all hb1 (alloc_below w1 (.cells #[.int .u64 1] 36)))
  have L1 := Lib.hid (show Us (w1.alloc (.cells #[.int .u64 1] 36)) (.slice (some ⟨w1.heap.size, 0, none⟩) 1 1) [1] from lit_rows uC_len w1 36 [1] (by simp [maxLen]))
  clear hb1 hn1 a0 a1
  dsimp only [Bi.nums, List.map, List.length_cons, List.length_nil] at *
  go_wp2_with fail
  generalize w1.alloc (.cells #[.int .u64 1] 36) = W1 at *
  refine (toOrder_at 1 _ [1] _ L1.out (by decide)).mono ?_
  rintro e w2 ⟨v2, rfl, hn2, hb2⟩
  rw [To.ex_none] at hn2 ⊢
  dsimp only [Option.isSome, Option.getD] at hn2 ⊢
  obtain ⟨A2, c2, rfl, -⟩ := hn2.spelled
  have S2 := Lib.hid (below_all hb2 (alloc_below w2 (.cells #[.int .i64 1, .int .i64 2, .int .i64 0] 3)))
  have H2 := Lib.hid (below_all S1.out S2.out)
  have L2 := Lib.hid (show Ns (w2.alloc (.cells #[.int .i64 1, .int .i64 2, .int .i64 0] 3)) (.slice (some ⟨w2.heap.size, 0, none⟩) 3 3) [1, 2, 0] from lit_rows nC_len w2 3 [1, 2, 0] (by simp [maxLen]))
  clear hb2 hn2 L1
  go_wp2_with fail
  generalize w2.alloc (.cells #[.int .i64 1, .int .i64 2, .int .i64 0] 3) = W2 at *
  refine (rInts_at [1, 2, 0] _ _ _ (N1.out.below S2.out) L2.out (by simp)).mono ?_
  rintro e w3 ⟨rfl, hb3⟩
  have H3 := Lib.hid (below_all H2.out hb3)
  have H4 := Lib.hid (below_all H3.out (alloc_below w3 (.cells #[.int .i64 2, .int .i64 0, .int .i64 1] 3)))
  have L3 := Lib.hid (show Ns (w3.alloc (.cells #[.int .i64 2, .int .i64 0, .int .i64 1] 3)) (.slice (some ⟨w3.heap.size, 0, none⟩) 3 3) [2, 0, 1] from lit_rows nC_len w3 3 [2, 0, 1] (by simp [maxLen]))
  clear hb3 N1 L2 S2
  obtain ⟨a0, a1⟩ := (T0.out.later H3.out).cells
  go_wp2_with fail
  generalize w3.alloc (.cells #[.int .i64 2, .int .i64 0, .int .i64 1] 3) = W3 at *
  refine (toIs_at 3 _ [0, 0, 1] [2, 0, 1] _ _ (L0.out.below H4.out) (by decide) L3.out (by decide)).mono ?_
  rintro e w4 ⟨b, rfl, hb, hb4⟩
  obtain rfl : b = true := hb.2 To.ex_is
  have H5 := Lib.hid (below_all H4.out hb4)
  have H6 := Lib.hid (below_all H5.out (alloc_below w4 (.cells #[.int .i64 0, .int .i64 1, .int .i64 2] 3)))
  have L4 := Lib.hid (show Ns (w4.alloc (.cells #[.int .i64 0, .int .i64 1, .int .i64 2] 3)) (.slice (some ⟨w4.heap.size, 0, none⟩) 3 3) [0, 1, 2] from lit_rows nC_len w4 3 [0, 1, 2] (by simp [maxLen]))
  clear hb4 a0 a1 hb L3
  obtain ⟨a0, a1⟩ := (T0.out.later H5.out).cells
  go_wp2_with fail
  generalize w4.alloc (.cells #[.int .i64 0, .int .i64 1, .int .i64 2] 3) = W4 at *
  refine (toIs_at 3 _ [0, 0, 1] [0, 1, 2] _ _ (L0.out.below H6.out) (by decide) L4.out (by decide)).mono ?_
  rintro e w5 ⟨b, rfl, hb, hb5⟩
  obtain rfl : b = false := by
    cases b with
    | false => rfl
    | true => exact absurd (hb.1 rfl) To.ex_not
  have B6 := Lib.hid (below_all B0.out (below_all H6.out hb5))
  go_wp2_with fail
  go_ret
  exact ⟨rfl, B6.out⟩
end Go.Proofs.YtpmimmaaeaifhaaDoor
