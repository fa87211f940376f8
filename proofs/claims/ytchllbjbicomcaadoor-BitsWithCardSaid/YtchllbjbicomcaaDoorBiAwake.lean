/-
  The laws' live example of layer 10 holds: awake answers true; what was in memory stays as it was.
  Conditions: the library's table for the lowest bit holds what its text says.
-/
import Derived.Test.YtchllbjbicomcaaDoorBiWalkB
import Derived.Test.YtchllbjbicomcaaDoorSoRef
set_option maxRecDepth 4000
namespace Go.Proofs.YtchllbjbicomcaaDoor
open Go.RowKit

theorem Bi.ex_of : Bi.ofR [5, 0, 5] = (33, 0) := by decide
theorem Bi.ex_no : Bi.ofR [64] = (0, 1) := by decide
theorem Bi.ex_least : Bi.least 40 = 3 := by decide
theorem Bi.ex_sub : Bi.sub 1 33 = true := by decide
theorem Bi.ex_list : Bi.list 33 = [0, 5] := by decide
theorem Bi.ex_join : Bi.join [1, 32] = 33 := by decide

set_option maxHeartbeats 2000000 in
theorem biAwake_at (w : World) (hT : TZ w) : Calls Tryd.prog 7 #[] w (RetBool w true) := by
  have HT := Lib.hid hT
  have N0 := Lib.hid (show Ns (w.alloc (.cells #[.int .i64 5, .int .i64 0, .int .i64 5] 3)) (.slice (some ⟨w.heap.size, 0, none⟩) 3 3) [5, 0, 5] from lit_rows nC_len w 3 [5, 0, 5] (by simp [maxLen]))
  have B0 := Lib.hid (alloc_below w (.cells #[.int .i64 5, .int .i64 0, .int .i64 5] 3))
  clear hT
  go_enter Tryd.func7, Tryd.ntmps7
  go_wp2_with fail
  generalize w.alloc (.cells #[.int .i64 5, .int .i64 0, .int .i64 5] 3) = w0 at *
  refine (biOf_at [5, 0, 5] _ _ N0.out (by simp)).mono ?_
  rintro e w1 ⟨rfl, rfl⟩
  rw [Bi.ex_of]
  have N1 := Lib.hid (show Ns (w1.alloc (.cells #[.int .i64 64] 3)) (.slice (some ⟨w1.heap.size, 0, none⟩) 1 1) [64] from lit_rows nC_len w1 3 [64] (by simp [maxLen]))
  have B1 := Lib.hid (below_all B0.out (alloc_below w1 (.cells #[.int .i64 64] 3)))
  go_wp2_with fail
  generalize w1.alloc (.cells #[.int .i64 64] 3) = w2 at *
  refine (biOf_at [64] _ _ N1.out (by simp)).mono ?_
  rintro e w3 ⟨rfl, rfl⟩
  rw [Bi.ex_no]
  go_wp2_with fail
  refine (biLeast_at 40 _ (by decide) (HT.out.below B1.out)).mono ?_
  rintro e w4 ⟨rfl, rfl⟩
  rw [Bi.ex_least]
  go_wp2_with fail
  refine (biSub_at 1 33 _ (by decide) (by decide)).mono ?_
  rintro e w5 ⟨rfl, rfl⟩
  rw [Bi.ex_sub]
  go_wp2_with fail
  refine (biList_at 33 _ (by decide)).mono ?_
  rintro e w6 ⟨v6, rfl, ho6, hb6⟩
  have hn6 := nums_own ho6
  rw [Bi.ex_list] at hn6
  obtain ⟨A6, c6, rfl, -⟩ := hn6.spelled
  have B6 := Lib.hid (below_all B1.out hb6)
  have L6 := Lib.hid (show Ns (w6.alloc (.cells #[.int .i64 0, .int .i64 5] 3)) (.slice (some ⟨w6.heap.size, 0, none⟩) 2 2) [0, 5] from lit_rows nC_len w6 3 [0, 5] (by simp [maxLen]))
  have V6 := Lib.hid (hn6.below (alloc_below w6 (.cells #[.int .i64 0, .int .i64 5] 3)))
  have B7 := Lib.hid (below_all B6.out (alloc_below w6 (.cells #[.int .i64 0, .int .i64 5] 3)))
  clear ho6 hb6 hn6
  dsimp only [Bi.nums, List.map, List.length_cons, List.length_nil] at *
  go_wp2_with fail
  generalize w6.alloc (.cells #[.int .i64 0, .int .i64 5] 3) = w7 at *
  refine (rInts_at [0, 5] _ _ _ V6.out L6.out (by simp)).mono ?_
  rintro e w8 ⟨rfl, hb8⟩
  have B8 := Lib.hid (below_all B7.out hb8)
  have N8 := Lib.hid (show Us (w8.alloc (.cells #[.int .u64 1, .int .u64 32] 23)) (.slice (some ⟨w8.heap.size, 0, none⟩) 2 2) [1, 32] from lit_rows uC_len w8 23 [1, 32] (by simp [maxLen]))
  have B9 := Lib.hid (below_all B8.out (alloc_below w8 (.cells #[.int .u64 1, .int .u64 32] 23)))
  clear hb8
  go_wp2_with fail
  generalize w8.alloc (.cells #[.int .u64 1, .int .u64 32] 23) = w9 at *
  refine (biJoin_at [1, 32] _ _ N8.out (by simp) (by simp)).mono ?_
  rintro e w10 ⟨rfl, rfl⟩
  rw [Bi.ex_join]
  go_wp2_with fail
  go_ret
  exact ⟨rfl, B9.out⟩
end Go.Proofs.YtchllbjbicomcaaDoor
