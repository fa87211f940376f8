/-
  The laws' plain and awake of layer 15.
  Conditions: none beyond those that each theorem states.
-/
import Derived.Test.YtgapcjgmmlffmaaCyWalk
import Derived.Test.YtgapcjgmmlffmaaSoRef
import Derived.Test.YtgapcjgmmlffmaaGfRef
import Derived.Test.YtgapcjgmmlffmaaGfAll
set_option maxRecDepth 4000
namespace Go.Proofs.Ytgapcjgmmlffmaa
open Go.RowKit

theorem cyPlain_at (n : Int) (v : Value) (l : List Nat) (w : World) (hv : Us w v l) : Calls Try.prog 7 #[.agg #[.int .i64 n, v]] w fun e w' => e = .returned (.agg #[.int .i64 n, v]) ∧ Below w.heap.size w w' := by
  obtain ⟨A, c, rfl, -⟩ := hv.spelled
  have B1 := alloc_below w (.cells #[.int .i64 n, .slice A l.length c] 24)
  have B2 := alloc_below (w.alloc (.cells #[.int .i64 n, .slice A l.length c] 24)) (.cells #[.int .i64 n, .slice A l.length c] 27)
  have T := Two.new (w.alloc (.cells #[.int .i64 n, .slice A l.length c] 24)) 27 (.int .i64 n) (.slice A l.length c)
  rw [World.size_alloc] at T
  have HT := Lib.hid T
  have HB := Lib.hid (below_all B1 B2)
  clear hv T B1 B2
  go_enter Try.func7, Try.ntmps7
  go_wp2_with fail
  obtain ⟨p0, p1⟩ := HT.out.cells
  exact bodyPost_ret (res_r rfl _ (w.heap.size + 1) _ n A l.length c rfl p0 p1) rfl ⟨rfl, HB.out⟩

namespace Cy
open Gf
theorem ex_find : findA 3 [2, 4, 3] = [0, 1, 2] := by decide
theorem ex_ok : Ok 3 [2, 4, 3] := ⟨by decide, rfl, by decide⟩
theorem ex_is : IsC 3 [2, 4, 3] [2, 1] := ⟨3, rfl, ex_ok, [2, 1], rfl, ⟨by decide, by decide, by decide, by decide⟩⟩
theorem ex_not : ¬ IsC 3 [2, 4, 3] [0, 1] := fun h => absurd (h.edge (m := [0, 1]) 1 (by decide)) (by decide)
end Cy

set_option maxHeartbeats 2000000 in
theorem cyAwake_at (w : World) : Calls Try.prog 6 #[] w (RetBool w true) := by
  have L0 := Lib.hid ((show Us (w.alloc (.cells #[.int .u64 2, .int .u64 4, .int .u64 3] 40)) (.slice (some ⟨w.heap.size, 0, none⟩) 3 3) [2, 4, 3] from lit_rows uC_len w 40 [2, 4, 3] (by simp [maxLen])).below (alloc_below _ (.cells #[.int .i64 3, .slice (some ⟨w.heap.size, 0, none⟩) 3 3] 24)))
  have B0 := Lib.hid (below_all (alloc_below w (.cells #[.int .u64 2, .int .u64 4, .int .u64 3] 40)) (alloc_below _ (.cells #[.int .i64 3, .slice (some ⟨w.heap.size, 0, none⟩) 3 3] 24)))
  have t0 := Two.new (w.alloc (.cells #[.int .u64 2, .int .u64 4, .int .u64 3] 40)) 24 (.int .i64 3) (.slice (some ⟨w.heap.size, 0, none⟩) 3 3)
  rw [World.size_alloc] at t0
  have T0 := Lib.hid t0
  clear t0
  go_enter Try.func6, Try.ntmps6
  go_upto_region 2 with fail
  generalize (w.alloc (.cells #[.int .u64 2, .int .u64 4, .int .u64 3] 40)).alloc (.cells #[.int .i64 3, .slice (some ⟨w.heap.size, 0, none⟩) 3 3] 24) = W at *
  obtain ⟨a0, a1⟩ := T0.out.cells
  go_wp2_with fail
  refine (cyFind_at 3 _ [2, 4, 3] _ L0.out (by decide)).mono ?_
  rintro e w1 ⟨v1, rfl, ho1, hb1⟩
  have hn1 := nums_own ho1
  rw [Cy.ex_find] at hn1
  obtain ⟨A1, c1, rfl, -⟩ := hn1.spelled
  have L1 := Lib.hid (show Ns (w1.alloc (.cells #[.int .i64 0, .int .i64 1, .int .i64 2] 3)) (.slice (some ⟨w1.heap.size, 0, none⟩) 3 3) [0, 1, 2] from lit_rows nC_len w1 3 [0, 1, 2] (by simp [maxLen]))
  have N1 := Lib.hid (hn1.below (alloc_below w1 (.cells #[.int .i64 0, .int .i64 1, .int .i64 2] 3)))
  have S1 := Lib.hid (below_all hb1 (alloc_below w1 (.cells #[.int .i64 0, .int .i64 1, .int .i64 2] 3)))
  clear ho1 hb1 hn1 a0 a1
  dsimp only [Bi.nums, List.map, List.length_cons, List.length_nil] at *
  go_wp2_with fail
  generalize w1.alloc (.cells #[.int .i64 0, .int .i64 1, .int .i64 2] 3) = W1 at *
  refine (rInts_at [0, 1, 2] _ _ _ N1.out L1.out (by simp)).mono ?_
  rintro e w2 ⟨rfl, hb2⟩
  have S2 := Lib.hid (below_all S1.out hb2)
  have S3 := Lib.hid (below_all S2.out (alloc_below w2 (.cells #[.int .i64 2, .int .i64 1] 3)))
  have L2 := Lib.hid (show Ns (w2.alloc (.cells #[.int .i64 2, .int .i64 1] 3)) (.slice (some ⟨w2.heap.size, 0, none⟩) 2 2) [2, 1] from lit_rows nC_len w2 3 [2, 1] (by simp [maxLen]))
  clear hb2 L1 N1
  obtain ⟨a0, a1⟩ := (T0.out.later S2.out).cells
  go_wp2_with fail
  generalize w2.alloc (.cells #[.int .i64 2, .int .i64 1] 3) = W2 at *
  refine (cyIs_at 3 _ [2, 4, 3] [2, 1] _ _ (L0.out.below S3.out) (by decide) L2.out (by decide)).mono ?_
  rintro e w3 ⟨b, rfl, hb, hb3⟩
  obtain rfl : b = true := hb.2 Cy.ex_is
  have S4 := Lib.hid (below_all S3.out hb3)
  have S5 := Lib.hid (below_all S4.out (alloc_below w3 (.cells #[.int .i64 0, .int .i64 1] 3)))
  have L3 := Lib.hid (show Ns (w3.alloc (.cells #[.int .i64 0, .int .i64 1] 3)) (.slice (some ⟨w3.heap.size, 0, none⟩) 2 2) [0, 1] from lit_rows nC_len w3 3 [0, 1] (by simp [maxLen]))
  clear hb3 a0 a1 hb
  obtain ⟨a0, a1⟩ := (T0.out.later S4.out).cells
  go_wp2_with fail
  generalize w3.alloc (.cells #[.int .i64 0, .int .i64 1] 3) = W3 at *
  refine (cyIs_at 3 _ [2, 4, 3] [0, 1] _ _ (L0.out.below S5.out) (by decide) L3.out (by decide)).mono ?_
  rintro e w4 ⟨b, rfl, hb, hb4⟩
  obtain rfl : b = false := by
    cases b with
    | false => rfl
    | true => exact absurd (hb.1 rfl) Cy.ex_not
  have B6 := Lib.hid (below_all B0.out (below_all S5.out hb4))
  go_wp2_with fail
  go_ret
  exact ⟨rfl, B6.out⟩
end Go.Proofs.Ytgapcjgmmlffmaa
