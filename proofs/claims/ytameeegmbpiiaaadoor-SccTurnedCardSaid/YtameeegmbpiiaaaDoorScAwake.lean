/-
  The laws' plain and awake of layer 14.
  Conditions: none.
  (This program has not all of these functions: scPlain_at is left out here.)
-/
import Derived.Test.YtameeegmbpiiaaaDoorScWalk
import Derived.Test.YtameeegmbpiiaaaDoorScRows
import Derived.Test.YtameeegmbpiiaaaDoorGfRef
import Derived.Test.YtameeegmbpiiaaaDoorGfAll
set_option maxRecDepth 4000
namespace Go.Proofs.YtameeegmbpiiaaaDoor
open Go.RowKit

namespace Sc
theorem ex_comps : compsA 3 [2, 5, 0] = [[0, 1], [2]] := by decide
theorem ex_which : whichA 3 [2, 5, 0] = [0, 0, 1] := by decide
theorem ex_inner : innerA 3 [2, 5, 0] = [0, 1] := by decide
end Sc
/-- The literal of two rows. -/
theorem sc_lit (w : World) : Rrs (((w.alloc (.cells #[.int .i64 0, .int .i64 1] 3)).alloc (.cells #[.int .i64 2] 3)).alloc (.cells #[.slice (some ⟨w.heap.size, 0, none⟩) 2 2, .slice (some ⟨w.heap.size + 1, 0, none⟩) 1 1] 30)) (.slice (some ⟨w.heap.size + 1 + 1, 0, none⟩) 2 2) [[0, 1], [2]] ∧
    Below w.heap.size w (((w.alloc (.cells #[.int .i64 0, .int .i64 1] 3)).alloc (.cells #[.int .i64 2] 3)).alloc (.cells #[.slice (some ⟨w.heap.size, 0, none⟩) 2 2, .slice (some ⟨w.heap.size + 1, 0, none⟩) 1 1] 30)) := by
  have n1 : Ns (w.alloc (.cells #[.int .i64 0, .int .i64 1] 3)) (.slice (some ⟨w.heap.size, 0, none⟩) 2 2) (Bi.nums [0, 1]) := lit_rows nC_len w 3 [0, 1] (by simp [maxLen])
  have b1 := alloc_below w (.cells #[.int .i64 0, .int .i64 1] 3)
  have hs1 : (w.alloc (.cells #[.int .i64 0, .int .i64 1] 3)).heap.size = w.heap.size + 1 := World.size_alloc _ _
  generalize w.alloc (.cells #[.int .i64 0, .int .i64 1] 3) = w1 at *
  have n2 : Ns (w1.alloc (.cells #[.int .i64 2] 3)) (.slice (some ⟨w1.heap.size, 0, none⟩) 1 1) (Bi.nums [2]) := lit_rows nC_len w1 3 [2] (by simp [maxLen])
  have b2 := alloc_below w1 (.cells #[.int .i64 2] 3)
  have hs2 : (w1.alloc (.cells #[.int .i64 2] 3)).heap.size = w1.heap.size + 1 := World.size_alloc _ _
  rw [hs1] at n2 hs2
  generalize w1.alloc (.cells #[.int .i64 2] 3) = w2 at *
  have b3 := alloc_below w2 (.cells #[.slice (some ⟨w.heap.size, 0, none⟩) 2 2, .slice (some ⟨w.heap.size + 1, 0, none⟩) 1 1] 30)
  have h3 := lit_rows rrC_len w2 30 [([0, 1], .slice (some ⟨w.heap.size, 0, none⟩) 2 2), ([2], .slice (some ⟨w.heap.size + 1, 0, none⟩) 1 1)] (by simp [maxLen])
  rw [hs2] at h3
  refine ⟨⟨_, rfl, h3, fun x hx => ?_⟩, below_all (below_all b1 b2) b3⟩
  rcases List.mem_cons.1 hx with rfl | hx
  · exact n1.below (below_all b2 b3)
  · rw [List.mem_singleton.1 hx]
    exact n2.below b3

set_option maxHeartbeats 2000000 in
theorem scAwake_at (w : World) : Calls Tryd.prog 5 #[] w (RetBool w true) := by
  have L0 := Lib.hid ((show Us (w.alloc (.cells #[.int .u64 2, .int .u64 5, .int .u64 0] 37)) (.slice (some ⟨w.heap.size, 0, none⟩) 3 3) [2, 5, 0] from lit_rows uC_len w 37 [2, 5, 0] (by simp [maxLen])).below (alloc_below _ (.cells #[.int .i64 3, .slice (some ⟨w.heap.size, 0, none⟩) 3 3] 24)))
  have B0 := Lib.hid (below_all (alloc_below w (.cells #[.int .u64 2, .int .u64 5, .int .u64 0] 37)) (alloc_below _ (.cells #[.int .i64 3, .slice (some ⟨w.heap.size, 0, none⟩) 3 3] 24)))
  have t0 := Two.new (w.alloc (.cells #[.int .u64 2, .int .u64 5, .int .u64 0] 37)) 24 (.int .i64 3) (.slice (some ⟨w.heap.size, 0, none⟩) 3 3)
  rw [World.size_alloc] at t0
  have T0 := Lib.hid t0
  clear t0
  go_enter Tryd.func5, Tryd.ntmps5
  go_upto_region 2 with fail
  generalize (w.alloc (.cells #[.int .u64 2, .int .u64 5, .int .u64 0] 37)).alloc (.cells #[.int .i64 3, .slice (some ⟨w.heap.size, 0, none⟩) 3 3] 24) = W at *
  obtain ⟨a0, a1⟩ := T0.out.cells
  go_wp2_with fail
  refine (scComps_at 3 _ [2, 5, 0] _ L0.out (by decide)).mono ?_
  rintro e w1 ⟨v1, rfl, hr1, hb1⟩
  rw [Sc.ex_comps] at hr1
  obtain ⟨A1, c1, rfl, -⟩ := hr1.spelled
  obtain ⟨hl, hb2⟩ := sc_lit w1
  have R1 := Lib.hid (hr1.below hb2)
  have R2 := Lib.hid hl
  have S1 := Lib.hid (below_all hb1 hb2)
  clear hr1 hb1 hl hb2 a0 a1
  go_wp2_with fail
  generalize ((w1.alloc (.cells #[.int .i64 0, .int .i64 1] 3)).alloc (.cells #[.int .i64 2] 3)).alloc (.cells #[.slice (some ⟨w1.heap.size, 0, none⟩) 2 2, .slice (some ⟨w1.heap.size + 1, 0, none⟩) 1 1] 30) = W1 at *
  refine (rows14_at [[0, 1], [2]] _ _ _ R1.out R2.out (by decide) (by decide)).mono ?_
  rintro e w2 ⟨rfl, hb2⟩
  have S2 := Lib.hid (below_all S1.out hb2)
  clear hb2 R1 R2 S1
  obtain ⟨a0, a1⟩ := (T0.out.later S2.out).cells
  go_wp2_with fail
  refine (scWhich_at 3 _ [2, 5, 0] _ (L0.out.below S2.out) (by decide)).mono ?_
  rintro e w3 ⟨v3, rfl, ho3, hb3⟩
  have hn3 := nums_own ho3
  rw [Sc.ex_which] at hn3
  obtain ⟨A3, c3, rfl, -⟩ := hn3.spelled
  have L3 := Lib.hid (show Ns (w3.alloc (.cells #[.int .i64 0, .int .i64 0, .int .i64 1] 3)) (.slice (some ⟨w3.heap.size, 0, none⟩) 3 3) [0, 0, 1] from lit_rows nC_len w3 3 [0, 0, 1] (by simp [maxLen]))
  have N3 := Lib.hid (hn3.below (alloc_below w3 (.cells #[.int .i64 0, .int .i64 0, .int .i64 1] 3)))
  have S3 := Lib.hid (below_all S2.out (below_all hb3 (alloc_below w3 (.cells #[.int .i64 0, .int .i64 0, .int .i64 1] 3))))
  clear ho3 hb3 hn3 a0 a1
  dsimp only [Bi.nums, List.map, List.length_cons, List.length_nil] at *
  go_wp2_with fail
  generalize w3.alloc (.cells #[.int .i64 0, .int .i64 0, .int .i64 1] 3) = W3 at *
  refine (rInts_at [0, 0, 1] _ _ _ N3.out L3.out (by simp)).mono ?_
  rintro e w4 ⟨rfl, hb4⟩
  have S4 := Lib.hid (below_all S3.out hb4)
  clear hb4 L3 N3
  obtain ⟨a0, a1⟩ := (T0.out.later S4.out).cells
  go_wp2_with fail
  refine (scInner_at 3 _ [2, 5, 0] _ (L0.out.below S4.out) (by decide)).mono ?_
  rintro e w5 ⟨v5, rfl, ho5, hb5⟩
  have hn5 := nums_own ho5
  rw [Sc.ex_inner] at hn5
  obtain ⟨A5, c5, rfl, -⟩ := hn5.spelled
  have L5 := Lib.hid (show Ns (w5.alloc (.cells #[.int .i64 0, .int .i64 1] 3)) (.slice (some ⟨w5.heap.size, 0, none⟩) 2 2) [0, 1] from lit_rows nC_len w5 3 [0, 1] (by simp [maxLen]))
  have N5 := Lib.hid (hn5.below (alloc_below w5 (.cells #[.int .i64 0, .int .i64 1] 3)))
  have S5 := Lib.hid (below_all S4.out (below_all hb5 (alloc_below w5 (.cells #[.int .i64 0, .int .i64 1] 3))))
  clear ho5 hb5 hn5 a0 a1
  dsimp only [Bi.nums, List.map, List.length_cons, List.length_nil] at *
  go_wp2_with fail
  generalize w5.alloc (.cells #[.int .i64 0, .int .i64 1] 3) = W5 at *
  refine (rInts_at [0, 1] _ _ _ N5.out L5.out (by simp)).mono ?_
  rintro e w6 ⟨rfl, hb6⟩
  have B6 := Lib.hid (below_all B0.out (below_all S5.out hb6))
  go_wp2_with fail
  go_ret
  exact ⟨rfl, B6.out⟩
end Go.Proofs.YtameeegmbpiiaaaDoor
