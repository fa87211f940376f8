/-
  The law awake of layer 18: the live example holds.
  Conditions: none.
-/
import Derived.Test.YtahacjfeopjbaaaChWalk
import Derived.Test.YtahacjfeopjbaaaIxAwake
import Derived.Test.YtahacjfeopjbaaaGfAll
import Derived.Test.YtahacjfeopjbaaaGfRef
import Derived.Deep.RegionHeld3
set_option maxRecDepth 4000
namespace Go.Proofs.Ytahacjfeopjbaaa
open Go.RowKit

namespace Ch
open Gf So
/-- The live example: 0 reads key 4 from 1, 1 and 2 write it. -/
def chW : List Txn := [⟨1, [], [(4, 1)]⟩, ⟨2, [4], []⟩, ⟨3, [4], []⟩]
theorem chW_right : Hi.Right chW := by
  have r1 : So.Rises [(4 : Int)] := ⟨by simp, by simp⟩
  have r0 : So.Rises [] := ⟨by simp, by simp⟩
  refine ⟨by decide, fun k hk => ?_⟩
  obtain rfl | rfl | rfl : k = 0 ∨ k = 1 ∨ k = 2 := by
    have : k < 3 := hk
    omega
  · refine ⟨by simp [chW], r0, r1, fun y hy => .inr ⟨1, by decide, ?_⟩⟩
    rw [List.mem_singleton.1 (show y ∈ [((4 : Int), (1 : Int))] from hy)]
    exact ⟨rfl, by decide, by simp [chW]⟩
  · exact ⟨by simp [chW], r1, r0, by simp [chW]⟩
  · exact ⟨by simp [chW], r1, r0, by simp [chW]⟩
theorem chW_b : Hi.rightB chW = true := Hi.rightB_yes chW_right
theorem chW_c : rightC chW [(4, 1, 2)] = true := by
  rw [rightC, chW_b]
  decide
theorem chW_c0 : rightC chW [] = true := by
  rw [rightC, chW_b]
  decide
theorem chW_c2 : rightC chW [(4, 1, 0)] = false := by
  rw [rightC, chW_b]
  decide
theorem chW_n : nA chW [(4, 1, 2)] = 3 := (ans_yes chW_c).1
theorem chW_ww : wwA chW [(4, 1, 2)] = [0, 4, 0] := by rw [(ans_yes chW_c).2.1]; decide
theorem chW_rw : rwA chW [(4, 1, 2)] = [4, 0, 0] := by rw [(ans_yes chW_c).2.2.1]; decide
theorem chW_full : fullR (decide ((1 : Int) = 1)) chW [(4, 1, 2)] = [0, 5, 0] := by decide
theorem chW_open : openA chW [] = some (4, 1, 2) := by rw [(ans_yes chW_c0).2.2.2]; decide
theorem chW_none : openA chW [(4, 1, 2)] = none := by rw [(ans_yes chW_c).2.2.2]; decide
theorem ch_has1 : hasR 3 [0, 4, 0] 1 2 = true := by decide
theorem ch_has2 : hasR 3 [4, 0, 0] 0 2 = true := by decide
theorem ch_has3 : hasR 3 [0, 5, 0] 1 0 = true := by decide
theorem ch_has4 : hasR 3 [0, 5, 0] 1 2 = true := by decide
theorem ch_has5 : hasR 3 [0, 5, 0] 0 2 = false := by decide
end Ch
theorem chW_small : Ix.Small Ch.chW := by
  refine ⟨by simp [Ch.chW], fun t ht => ?_⟩
  simp only [Ch.chW, List.mem_cons, List.not_mem_nil, or_false] at ht
  rcases ht with rfl | rfl | rfl <;> simp

theorem chPlain_at (n : Int) (v : Value) (l : List Nat) (w : World) (hv : Us w v l) : Calls Try.prog 9 #[.agg #[.int .i64 n, v]] w fun e w' => e = .returned (.agg #[.int .i64 n, v]) ∧ Below w.heap.size w w' := by
  obtain ⟨A, c, rfl, -⟩ := hv.spelled
  have B1 := alloc_below w (.cells #[.int .i64 n, .slice A l.length c] 32)
  have B2 := alloc_below (w.alloc (.cells #[.int .i64 n, .slice A l.length c] 32)) (.cells #[.int .i64 n, .slice A l.length c] 30)
  have T := Two.new (w.alloc (.cells #[.int .i64 n, .slice A l.length c] 32)) 30 (.int .i64 n) (.slice A l.length c)
  rw [World.size_alloc] at T
  have HT := Lib.hid T
  have HB := Lib.hid (below_all B1 B2)
  clear hv T B1 B2
  go_enter Try.func9, Try.ntmps9
  go_wp2_with fail
  obtain ⟨p0, p1⟩ := HT.out.cells
  exact bodyPost_ret (res_r rfl _ (w.heap.size + 1) _ n A l.length c rfl p0 p1) rfl ⟨rfl, HB.out⟩

/-- The live example lies in memory. -/
theorem chWant (W : World) (b : Nat) (hb : W.heap.size = b) : Txns ((((W.alloc (.cells #[.int .i64 4, .int .i64 1] 62)).alloc (.cells #[.int .i64 4] 3)).alloc (.cells #[.int .i64 4] 3)).alloc (.cells #[.int .i64 1, .slice none 0 0, .slice (some ⟨b, 0, none⟩) 1 1, .int .i64 2, .slice (some ⟨b + 1, 0, none⟩) 1 1, .slice none 0 0, .int .i64 3, .slice (some ⟨b + 1 + 1, 0, none⟩) 1 1, .slice none 0 0] 65)) (.slice (some ⟨b + 1 + 1 + 1, 0, none⟩) 3 3) Ch.chW ∧ Below b W ((((W.alloc (.cells #[.int .i64 4, .int .i64 1] 62)).alloc (.cells #[.int .i64 4] 3)).alloc (.cells #[.int .i64 4] 3)).alloc (.cells #[.int .i64 1, .slice none 0 0, .slice (some ⟨b, 0, none⟩) 1 1, .int .i64 2, .slice (some ⟨b + 1, 0, none⟩) 1 1, .slice none 0 0, .int .i64 3, .slice (some ⟨b + 1 + 1, 0, none⟩) 1 1, .slice none 0 0] 65)) ∧ ((((W.alloc (.cells #[.int .i64 4, .int .i64 1] 62)).alloc (.cells #[.int .i64 4] 3)).alloc (.cells #[.int .i64 4] 3)).alloc (.cells #[.int .i64 1, .slice none 0 0, .slice (some ⟨b, 0, none⟩) 1 1, .int .i64 2, .slice (some ⟨b + 1, 0, none⟩) 1 1, .slice none 0 0, .int .i64 3, .slice (some ⟨b + 1 + 1, 0, none⟩) 1 1, .slice none 0 0] 65)).heap.size = b + 1 + 1 + 1 + 1 := by
  subst hb
  have h0 : Its (W.alloc (.cells #[.int .i64 4, .int .i64 1] 62)) (.slice (some ⟨W.heap.size, 0, none⟩) 1 1) [(4, 1)] := lit_rows itC_len W 62 [(4, 1)] (by simp [maxLen])
  have s0 := World.size_alloc W (.cells #[.int .i64 4, .int .i64 1] 62)
  have b0 := alloc_below W (.cells #[.int .i64 4, .int .i64 1] 62)
  generalize W.alloc (.cells #[.int .i64 4, .int .i64 1] 62) = W1 at *
  have h1 : Ns (W1.alloc (.cells #[.int .i64 4] 3)) (.slice (some ⟨W1.heap.size, 0, none⟩) 1 1) [4] := lit_rows nC_len W1 3 [4] (by simp [maxLen])
  have s1 := World.size_alloc W1 (.cells #[.int .i64 4] 3)
  have b1 := alloc_below W1 (.cells #[.int .i64 4] 3)
  generalize W1.alloc (.cells #[.int .i64 4] 3) = W2 at *
  have h2 : Ns (W2.alloc (.cells #[.int .i64 4] 3)) (.slice (some ⟨W2.heap.size, 0, none⟩) 1 1) [4] := lit_rows nC_len W2 3 [4] (by simp [maxLen])
  have s2 := World.size_alloc W2 (.cells #[.int .i64 4] 3)
  have b2 := alloc_below W2 (.cells #[.int .i64 4] 3)
  generalize W2.alloc (.cells #[.int .i64 4] 3) = W3 at *
  rw [s0] at s1 h1
  rw [s1] at s2 h2
  have h3 := lit_txns9 W3 65 [(⟨1, [], [(4, 1)]⟩, .slice none 0 0, .slice (some ⟨W.heap.size, 0, none⟩) 1 1), (⟨2, [4], []⟩, .slice (some ⟨W.heap.size + 1, 0, none⟩) 1 1, .slice none 0 0), (⟨3, [4], []⟩, .slice (some ⟨W.heap.size + 1 + 1, 0, none⟩) 1 1, .slice none 0 0)] (by simp [maxLen]) (fun x hx => by
    simp only [List.mem_cons, List.not_mem_nil, or_false] at hx
    rcases hx with rfl | rfl | rfl
    · exact ⟨Ns.nil _ _, (h0.below b1).below b2⟩
    · exact ⟨h1.below b2, Its.nil _ _⟩
    · exact ⟨h2, Its.nil _ _⟩)
  rw [s2] at h3
  refine ⟨h3, below_all b0 (below_all b1 (below_all b2 (alloc_below _ _))), ?_⟩
  rw [World.size_alloc, s2]

set_option maxHeartbeats 8000000 in
theorem chAwake_at (w : World) : Calls Try.prog 7 #[] w (RetBool w true) := by
  go_enter Try.func7, Try.ntmps7
  go_upto_region 2 with fail
  obtain ⟨v0, b0, s0⟩ := chWant w w.heap.size rfl
  have V0 := Lib.hid v0
  have B0 := Lib.hid b0
  have S0 := Lib.hid s0
  clear v0 b0 s0
  generalize ((((w.alloc (.cells #[.int .i64 4, .int .i64 1] 62)).alloc (.cells #[.int .i64 4] 3)).alloc (.cells #[.int .i64 4] 3)).alloc (.cells #[.int .i64 1, .slice none 0 0, .slice (some ⟨w.heap.size, 0, none⟩) 1 1, .int .i64 2, .slice (some ⟨w.heap.size + 1, 0, none⟩) 1 1, .slice none 0 0, .int .i64 3, .slice (some ⟨w.heap.size + 1 + 1, 0, none⟩) 1 1, .slice none 0 0] 65)) = X0 at *
  have n1 := Boxed.new X0 24 (.slice (some ⟨w.heap.size + 1 + 1 + 1, 0, none⟩) 3 3)
  rw [S0.out] at n1
  have N1 := Lib.hid n1
  have VX := Lib.hid (V0.out.below (alloc_below X0 (.cells #[.slice (some ⟨w.heap.size + 1 + 1 + 1, 0, none⟩) 3 3] 24)))
  have BX := Lib.hid (below_all B0.out (alloc_below X0 (.cells #[.slice (some ⟨w.heap.size + 1 + 1 + 1, 0, none⟩) 3 3] 24)))
  clear V0 B0 n1 S0
  generalize X0.alloc (.cells #[.slice (some ⟨w.heap.size + 1 + 1 + 1, 0, none⟩) 3 3] 24) = X1 at *
  go_upto_region 3 with fail
  have b2 := alloc_below X1 (.cells #[.int .i64 4, .int .i64 1, .int .i64 2] 38)
  have N_h := Lib.hid (Boxed.later N1.out b2)
  have V_h := Lib.hid (VX.out.below b2)
  have BW := Lib.hid (below_all BX.out b2)
  have L_l := Lib.hid (show Tris (X1.alloc (.cells #[.int .i64 4, .int .i64 1, .int .i64 2] 38)) (.slice (some ⟨X1.heap.size, 0, none⟩) 1 1) [(4, 1, 2)] from lit_rows triC_len X1 38 [(4, 1, 2)] (by simp [maxLen]))
  have T_l := Lib.hid (Three.new X1 38 (.int .i64 4) (.int .i64 1) (.int .i64 2))
  clear b2 N1 VX BX
  generalize X1.alloc (.cells #[.int .i64 4, .int .i64 1, .int .i64 2] 38) = W0 at *
  generalize X1.heap.size = bl at *
  have F_x := Lib.hid (fun W' h h2 => chWw_at Ch.chW (.slice (some ⟨w.heap.size + 1 + 1 + 1, 0, none⟩) 3 3) [(4, 1, 2)] (.slice (some ⟨bl, 0, none⟩) 1 1) W' h h2 chW_small (by decide))
  rw [Ch.chW_n, Ch.chW_ww] at F_x
  have h0 := N_h.out.cell
  go_wp2_with fail
  refine (F_x.out _ V_h.out L_l.out).mono ?_
  rintro e V ⟨v, rfl, ho, hb⟩
  obtain ⟨A_x, c_x, rfl, hu_x⟩ := own_is (k := 3) ho rfl
  clear ho
  have b := alloc_below V (.cells #[.int .i64 3, .slice A_x 3 c_x] 32)
  have S1 := Lib.hid (below_all hb b)
  have T_x := Lib.hid (Two.new V 32 (.int .i64 3) (.slice A_x 3 c_x))
  have U_x := Lib.hid (hu_x.below b)
  clear hb b
  clear h0
  have F_y := Lib.hid (fun W' h h2 => chRw_at Ch.chW (.slice (some ⟨w.heap.size + 1 + 1 + 1, 0, none⟩) 3 3) [(4, 1, 2)] (.slice (some ⟨bl, 0, none⟩) 1 1) W' h h2 chW_small (by decide))
  rw [Ch.chW_n, Ch.chW_rw] at F_y
  have h0 := (Boxed.later N_h.out S1.out).cell
  go_wp2_with fail
  generalize V.alloc (.cells #[.int .i64 3, .slice A_x 3 c_x] 32) = W1 at *
  generalize V.heap.size = o_x at *
  refine (F_y.out _ (V_h.out.below S1.out) (L_l.out.below S1.out)).mono ?_
  rintro e V ⟨v, rfl, ho, hb⟩
  obtain ⟨A_y, c_y, rfl, hu_y⟩ := own_is (k := 3) ho rfl
  clear ho
  have b := alloc_below V (.cells #[.int .i64 3, .slice A_y 3 c_y] 32)
  have S2 := Lib.hid (below_all hb b)
  have T_y := Lib.hid (Two.new V 32 (.int .i64 3) (.slice A_y 3 c_y))
  have U_y := Lib.hid (hu_y.below b)
  clear hb b
  clear h0
  have F_f := Lib.hid (fun W' h h2 => chFull_at Ch.chW (.slice (some ⟨w.heap.size + 1 + 1 + 1, 0, none⟩) 3 3) 1 [(4, 1, 2)] (.slice (some ⟨bl, 0, none⟩) 1 1) W' h h2 chW_small (by decide) Ch.chW_c (by decide))
  rw [show ((Ch.chW.length : Nat) : Int) = 3 from rfl, Ch.chW_full] at F_f
  have h0 := (Boxed.later N_h.out (below_all S1.out S2.out)).cell
  go_wp2_with fail
  generalize V.alloc (.cells #[.int .i64 3, .slice A_y 3 c_y] 32) = W2 at *
  generalize V.heap.size = o_y at *
  refine (F_f.out _ (V_h.out.below (below_all S1.out S2.out)) (L_l.out.below (below_all S1.out S2.out))).mono ?_
  rintro e V ⟨v, rfl, ho, hb⟩
  obtain ⟨A_f, c_f, rfl, hu_f⟩ := own_is (k := 3) ho rfl
  clear ho
  have b := alloc_below V (.cells #[.int .i64 3, .slice A_f 3 c_f] 32)
  have S3 := Lib.hid (below_all hb b)
  have T_f := Lib.hid (Two.new V 32 (.int .i64 3) (.slice A_f 3 c_f))
  have U_f := Lib.hid (hu_f.below b)
  clear hb b
  clear h0
  have F_o := Lib.hid (fun W' h => chOpen_at Ch.chW (.slice (some ⟨w.heap.size + 1 + 1 + 1, 0, none⟩) 3 3) [] (.slice none 0 0) W' h (Tris.nil W' none) chW_small (by decide))
  rw [Ch.chW_open] at F_o
  have F_p := Lib.hid (fun W' h h2 => chOpen_at Ch.chW (.slice (some ⟨w.heap.size + 1 + 1 + 1, 0, none⟩) 3 3) [(4, 1, 2)] (.slice (some ⟨bl, 0, none⟩) 1 1) W' h h2 chW_small (by decide))
  rw [Ch.chW_none] at F_p
  unfold RetOpen at F_o F_p
  dsimp only [Option.map, Option.getD, Option.isSome] at F_o F_p
  have h0 := (Boxed.later N_h.out (below_all (below_all S1.out S2.out) S3.out)).cell
  go_wp2_with fail
  generalize V.alloc (.cells #[.int .i64 3, .slice A_f 3 c_f] 32) = W3 at *
  generalize V.heap.size = o_f at *
  refine (F_o.out _ (V_h.out.below (below_all (below_all S1.out S2.out) S3.out))).mono ?_
  rintro e V ⟨rfl, hb⟩
  have b := alloc_below V (.cells #[.int .i64 4, .int .i64 1, .int .i64 2] 38)
  have S4 := Lib.hid (below_all hb b)
  have T_o := Lib.hid (Three.new V 38 (.int .i64 4) (.int .i64 1) (.int .i64 2))
  clear hb b
  clear h0
  have h0 := (Boxed.later N_h.out (below_all (below_all (below_all S1.out S2.out) S3.out) S4.out)).cell
  go_wp2_with fail
  generalize V.alloc (.cells #[.int .i64 4, .int .i64 1, .int .i64 2] 38) = W4 at *
  generalize V.heap.size = o_o at *
  refine (F_p.out _ (V_h.out.below (below_all (below_all (below_all S1.out S2.out) S3.out) S4.out)) (L_l.out.below (below_all (below_all (below_all S1.out S2.out) S3.out) S4.out))).mono ?_
  rintro e V ⟨rfl, hb⟩
  have b := alloc_below V (.cells #[.int .i64 0, .int .i64 0, .int .i64 0] 38)
  have S5 := Lib.hid (below_all hb b)
  have T_p := Lib.hid (Three.new V 38 (.int .i64 0) (.int .i64 0) (.int .i64 0))
  clear hb b
  clear h0
  go_wp2_with fail
  generalize V.alloc (.cells #[.int .i64 0, .int .i64 0, .int .i64 0] 38) = W5 at *
  generalize V.heap.size = o_p at *
  have UC_x := Lib.hid (U_x.out.below (below_all (below_all (below_all S2.out S3.out) S4.out) S5.out))
  have UC_y := Lib.hid (U_y.out.below (below_all (below_all S3.out S4.out) S5.out))
  have UC_f := Lib.hid (U_f.out.below (below_all S4.out S5.out))
  have VC := Lib.hid (V_h.out.below (below_all (below_all (below_all (below_all S1.out S2.out) S3.out) S4.out) S5.out))
  have LC := Lib.hid (L_l.out.below (below_all (below_all (below_all (below_all S1.out S2.out) S3.out) S4.out) S5.out))
  have FR := Lib.hid (fun W' h h2 => chRight_at Ch.chW (.slice (some ⟨w.heap.size + 1 + 1 + 1, 0, none⟩) 3 3) [(4, 1, 2)] (.slice (some ⟨bl, 0, none⟩) 1 1) W' h h2 chW_small (by decide))
  rw [Ch.chW_c] at FR
  have FS := Lib.hid (fun W' u h h2 => chRight_at Ch.chW (.slice (some ⟨w.heap.size + 1 + 1 + 1, 0, none⟩) 3 3) [(4, 1, 0)] u W' h h2 chW_small (by decide))
  rw [Ch.chW_c2] at FS
  have HK : Hid (∀ W', Below W5.heap.size W5 W' → W'.cell? ⟨o_x, 0, none⟩ = some (.int .i64 3) ∧ W'.cell? ⟨o_x, 1, none⟩ = some (.slice A_x 3 c_x) ∧ W'.cell? ⟨o_y, 0, none⟩ = some (.int .i64 3) ∧ W'.cell? ⟨o_y, 1, none⟩ = some (.slice A_y 3 c_y) ∧ W'.cell? ⟨o_f, 0, none⟩ = some (.int .i64 3) ∧ W'.cell? ⟨o_f, 1, none⟩ = some (.slice A_f 3 c_f) ∧ W'.cell? ⟨w.heap.size + 1 + 1 + 1 + 1, 0, none⟩ = some (.slice (some ⟨w.heap.size + 1 + 1 + 1, 0, none⟩) 3 3) ∧ W'.cell? ⟨o_o, 0, none⟩ = some (.int .i64 4) ∧ W'.cell? ⟨o_o, 1, none⟩ = some (.int .i64 1) ∧ W'.cell? ⟨o_o, 2, none⟩ = some (.int .i64 2) ∧ W'.cell? ⟨bl, 0, none⟩ = some (.int .i64 4) ∧ W'.cell? ⟨bl, 1, none⟩ = some (.int .i64 1) ∧ W'.cell? ⟨bl, 2, none⟩ = some (.int .i64 2)) := fun W' h => ⟨(T_x.out.later (below_all (below_all (below_all (below_all S2.out S3.out) S4.out) S5.out) h)).cells.1, (T_x.out.later (below_all (below_all (below_all (below_all S2.out S3.out) S4.out) S5.out) h)).cells.2, (T_y.out.later (below_all (below_all (below_all S3.out S4.out) S5.out) h)).cells.1, (T_y.out.later (below_all (below_all (below_all S3.out S4.out) S5.out) h)).cells.2, (T_f.out.later (below_all (below_all S4.out S5.out) h)).cells.1, (T_f.out.later (below_all (below_all S4.out S5.out) h)).cells.2, (Boxed.later N_h.out (below_all (below_all (below_all (below_all (below_all S1.out S2.out) S3.out) S4.out) S5.out) h)).cell, (T_o.out.later (below_all S5.out h)).cells.1, (T_o.out.later (below_all S5.out h)).cells.2.1, (T_o.out.later (below_all S5.out h)).cells.2.2, (T_l.out.later (below_all (below_all (below_all (below_all (below_all S1.out S2.out) S3.out) S4.out) S5.out) h)).cells.1, (T_l.out.later (below_all (below_all (below_all (below_all (below_all S1.out S2.out) S3.out) S4.out) S5.out) h)).cells.2.1, (T_l.out.later (below_all (below_all (below_all (below_all (below_all S1.out S2.out) S3.out) S4.out) S5.out) h)).cells.2.2⟩
  obtain ⟨x0, x1, y0, y1, f0, f1, h0, o0, o1, o2, l0, l1, l2⟩ := HK.out _ (Below.refl _ W5)
  have D := Lib.hid (Below.refl W5.heap.size W5).drew
  have hc1 : ((4 : Int) == 4) = true := rfl
  have hc2 : ((1 : Int) == 1) = true := rfl
  have hc3 : ((2 : Int) == 2) = true := rfl
  go_region_held3 (fun W' => W'.cell? ⟨o_x, 0, none⟩ = some (.int .i64 3) ∧ W'.cell? ⟨o_x, 1, none⟩ = some (.slice A_x 3 c_x) ∧ W'.cell? ⟨o_y, 0, none⟩ = some (.int .i64 3) ∧ W'.cell? ⟨o_y, 1, none⟩ = some (.slice A_y 3 c_y) ∧ W'.cell? ⟨o_f, 0, none⟩ = some (.int .i64 3) ∧ W'.cell? ⟨o_f, 1, none⟩ = some (.slice A_f 3 c_f) ∧ W'.cell? ⟨w.heap.size + 1 + 1 + 1 + 1, 0, none⟩ = some (.slice (some ⟨w.heap.size + 1 + 1 + 1, 0, none⟩) 3 3) ∧ W'.cell? ⟨o_o, 0, none⟩ = some (.int .i64 4) ∧ W'.cell? ⟨o_o, 1, none⟩ = some (.int .i64 1) ∧ W'.cell? ⟨o_o, 2, none⟩ = some (.int .i64 2) ∧ W'.cell? ⟨bl, 0, none⟩ = some (.int .i64 4) ∧ W'.cell? ⟨bl, 1, none⟩ = some (.int .i64 1) ∧ W'.cell? ⟨bl, 2, none⟩ = some (.int .i64 2))
    (first | (exact ⟨x0, x1, y0, y1, f0, f1, h0, o0, o1, o2, l0, l1, l2⟩) | (exact HK.out _ D.out) | (exact HK.out _ Y1.out) | (exact HK.out _ Y2.out) | (exact HK.out _ Y3.out) | (exact HK.out _ Y4.out) | (exact HK.out _ Y5.out) | (exact HK.out _ Y6.out) | (exact HK.out _ Y7.out) | (exact HK.out _ Z6.out))
    (first
        | (go_at_call 27; (with_reducible refine (gfHas_at 3 (.slice A_x 3 c_x) [0, 4, 0] 1 2 _ (UC_x.out.below D.out) (by decide)).mono ?_); rintro e z1 ⟨rfl, hz⟩; have Y1 := Lib.hid (below_all D.out hz); rw [Ch.ch_has1]; clear hz)
        | (go_at_call 27; (with_reducible refine (gfHas_at 3 (.slice A_y 3 c_y) [4, 0, 0] 0 2 _ (UC_y.out.below Y1.out) (by decide)).mono ?_); rintro e z2 ⟨rfl, hz⟩; have Y2 := Lib.hid (below_all Y1.out hz); rw [Ch.ch_has2]; clear hz)
        | (go_at_call 27; (with_reducible refine (gfHas_at 3 (.slice A_f 3 c_f) [0, 5, 0] 1 0 _ (UC_f.out.below Y2.out) (by decide)).mono ?_); rintro e z3 ⟨rfl, hz⟩; have Y3 := Lib.hid (below_all Y2.out hz); rw [Ch.ch_has3]; clear hz)
        | (go_at_call 27; (with_reducible refine (gfHas_at 3 (.slice A_f 3 c_f) [0, 5, 0] 1 2 _ (UC_f.out.below Y3.out) (by decide)).mono ?_); rintro e z4 ⟨rfl, hz⟩; have Y4 := Lib.hid (below_all Y3.out hz); rw [Ch.ch_has4]; clear hz)
        | (go_at_call 27; (with_reducible refine (gfHas_at 3 (.slice A_f 3 c_f) [0, 5, 0] 0 2 _ (UC_f.out.below Y4.out) (by decide)).mono ?_); rintro e z5 ⟨rfl, hz⟩; have Y5 := Lib.hid (below_all Y4.out hz); rw [Ch.ch_has5]; clear hz)
        | (go_at_call 15; (with_reducible refine (FR.out _ (VC.out.below Y5.out) (LC.out.below Y5.out)).mono ?_); rintro e z6 ⟨rfl, hz⟩; have Y6 := Lib.hid (below_all Y5.out hz); have Z6 := Lib.hid (below_all Y6.out (alloc_below z6 (.cells #[.int .i64 4, .int .i64 1, .int .i64 0] 38))); have ZL := Lib.hid (show Tris (z6.alloc (.cells #[.int .i64 4, .int .i64 1, .int .i64 0] 38)) (.slice (some ⟨z6.heap.size, 0, none⟩) 1 1) [(4, 1, 0)] from lit_rows triC_len z6 38 [(4, 1, 0)] (by simp [maxLen])); clear hz)
        | (go_at_call 15; (with_reducible refine (FS.out _ _ (VC.out.below Z6.out) ZL.out).mono ?_); rintro e W6 ⟨rfl, hz⟩; have Y7 := Lib.hid (below_all Z6.out hz); clear hz))
  all_goals
    have S6 := Lib.hid Y7.out
    go_wp2_with fail
    go_ret
    exact ⟨rfl, (below_all BW.out (below_all (below_all (below_all (below_all (below_all S1.out S2.out) S3.out) S4.out) S5.out) S6.out))⟩
end Go.Proofs.Ytahacjfeopjbaaa
