/-
  The law awake of layer 17: the live example holds.
  Conditions: none.
-/
import Derived.Test.YtlhinlfgmfenoaaDoorKnWalk
import Derived.Test.YtlhinlfgmfenoaaDoorIxAwake
import Derived.Test.YtlhinlfgmfenoaaDoorGfAll
import Derived.Test.YtlhinlfgmfenoaaDoorGfRef
set_option maxRecDepth 4000
namespace Go.Proofs.YtlhinlfgmfenoaaDoor
open Go.RowKit

theorem knPlain_at (n : Int) (v : Value) (l : List Nat) (w : World) (hv : Us w v l) : Calls Tryd.prog 10 #[.agg #[.int .i64 n, v]] w fun e w' => e = .returned (.agg #[.int .i64 n, v]) ∧ Below w.heap.size w w' := by
  obtain ⟨A, c, rfl, -⟩ := hv.spelled
  have B1 := alloc_below w (.cells #[.int .i64 n, .slice A l.length c] 30)
  have B2 := alloc_below (w.alloc (.cells #[.int .i64 n, .slice A l.length c] 30)) (.cells #[.int .i64 n, .slice A l.length c] 36)
  have T := Two.new (w.alloc (.cells #[.int .i64 n, .slice A l.length c] 30)) 36 (.int .i64 n) (.slice A l.length c)
  rw [World.size_alloc] at T
  have HT := Lib.hid T
  have HB := Lib.hid (below_all B1 B2)
  clear hv T B1 B2
  go_enter Tryd.func10, Tryd.ntmps10
  go_wp2_with fail
  obtain ⟨p0, p1⟩ := HT.out.cells
  exact bodyPost_ret (res_r rfl _ (w.heap.size + 1) _ n A l.length c rfl p0 p1) rfl ⟨rfl, HB.out⟩

/-- The live example lies in memory. -/
theorem knWant (W : World) (b : Nat) (hb : W.heap.size = b) : Txns ((((W.alloc (.cells #[.int .i64 1] 3)).alloc (.cells #[.int .i64 1, .int .i64 0, .int .i64 2, .int .i64 (-1)] 46)).alloc (.cells #[.int .i64 2] 3)).alloc (.cells #[.int .i64 0, .slice (some ⟨b, 0, none⟩) 1 1, .slice none 0 0, .int .i64 1, .slice none 0 0, .slice (some ⟨b + 1, 0, none⟩) 2 2, .int .i64 0, .slice (some ⟨b + 1 + 1, 0, none⟩) 1 1, .slice none 0 0] 43)) (.slice (some ⟨b + 1 + 1 + 1, 0, none⟩) 3 3) Kn.knW ∧ Below b W ((((W.alloc (.cells #[.int .i64 1] 3)).alloc (.cells #[.int .i64 1, .int .i64 0, .int .i64 2, .int .i64 (-1)] 46)).alloc (.cells #[.int .i64 2] 3)).alloc (.cells #[.int .i64 0, .slice (some ⟨b, 0, none⟩) 1 1, .slice none 0 0, .int .i64 1, .slice none 0 0, .slice (some ⟨b + 1, 0, none⟩) 2 2, .int .i64 0, .slice (some ⟨b + 1 + 1, 0, none⟩) 1 1, .slice none 0 0] 43)) ∧ ((((W.alloc (.cells #[.int .i64 1] 3)).alloc (.cells #[.int .i64 1, .int .i64 0, .int .i64 2, .int .i64 (-1)] 46)).alloc (.cells #[.int .i64 2] 3)).alloc (.cells #[.int .i64 0, .slice (some ⟨b, 0, none⟩) 1 1, .slice none 0 0, .int .i64 1, .slice none 0 0, .slice (some ⟨b + 1, 0, none⟩) 2 2, .int .i64 0, .slice (some ⟨b + 1 + 1, 0, none⟩) 1 1, .slice none 0 0] 43)).heap.size = b + 1 + 1 + 1 + 1 := by
  subst hb
  have h0 : Ns (W.alloc (.cells #[.int .i64 1] 3)) (.slice (some ⟨W.heap.size, 0, none⟩) 1 1) [1] := lit_rows nC_len W 3 [1] (by simp [maxLen])
  have s0 := World.size_alloc W (.cells #[.int .i64 1] 3)
  have b0 := alloc_below W (.cells #[.int .i64 1] 3)
  generalize W.alloc (.cells #[.int .i64 1] 3) = W1 at *
  have h1 : Its (W1.alloc (.cells #[.int .i64 1, .int .i64 0, .int .i64 2, .int .i64 (-1)] 46)) (.slice (some ⟨W1.heap.size, 0, none⟩) 2 2) [(1, 0), (2, -1)] := lit_rows itC_len W1 46 [(1, 0), (2, -1)] (by simp [maxLen])
  have s1 := World.size_alloc W1 (.cells #[.int .i64 1, .int .i64 0, .int .i64 2, .int .i64 (-1)] 46)
  have b1 := alloc_below W1 (.cells #[.int .i64 1, .int .i64 0, .int .i64 2, .int .i64 (-1)] 46)
  generalize W1.alloc (.cells #[.int .i64 1, .int .i64 0, .int .i64 2, .int .i64 (-1)] 46) = W2 at *
  have h2 : Ns (W2.alloc (.cells #[.int .i64 2] 3)) (.slice (some ⟨W2.heap.size, 0, none⟩) 1 1) [2] := lit_rows nC_len W2 3 [2] (by simp [maxLen])
  have s2 := World.size_alloc W2 (.cells #[.int .i64 2] 3)
  have b2 := alloc_below W2 (.cells #[.int .i64 2] 3)
  generalize W2.alloc (.cells #[.int .i64 2] 3) = W3 at *
  rw [s0] at s1 h1
  rw [s1] at s2 h2
  have h3 := lit_txns9 W3 43 [(⟨0, [1], []⟩, .slice (some ⟨W.heap.size, 0, none⟩) 1 1, .slice none 0 0), (⟨1, [], [(1, 0), (2, -1)]⟩, .slice none 0 0, .slice (some ⟨W.heap.size + 1, 0, none⟩) 2 2), (⟨0, [2], []⟩, .slice (some ⟨W.heap.size + 1 + 1, 0, none⟩) 1 1, .slice none 0 0)] (by simp [maxLen]) (fun x hx => by
    simp only [List.mem_cons, List.not_mem_nil, or_false] at hx
    rcases hx with rfl | rfl | rfl
    · exact ⟨(h0.below b1).below b2, Its.nil _ _⟩
    · exact ⟨Ns.nil _ _, h1.below b2⟩
    · exact ⟨h2, Its.nil _ _⟩)
  rw [s2] at h3
  refine ⟨h3, below_all b0 (below_all b1 (below_all b2 (alloc_below _ _))), ?_⟩
  rw [World.size_alloc, s2]

set_option maxHeartbeats 4000000 in
theorem knAwake_at (w : World) : Calls Tryd.prog 4 #[] w (RetBool w true) := by
  go_enter Tryd.func4, Tryd.ntmps4
  go_upto_region 2 with fail
  obtain ⟨v0, b0, s0⟩ := knWant w w.heap.size rfl
  have V0 := Lib.hid v0
  have B0 := Lib.hid b0
  have S0 := Lib.hid s0
  clear v0 b0 s0
  generalize ((((w.alloc (.cells #[.int .i64 1] 3)).alloc (.cells #[.int .i64 1, .int .i64 0, .int .i64 2, .int .i64 (-1)] 46)).alloc (.cells #[.int .i64 2] 3)).alloc (.cells #[.int .i64 0, .slice (some ⟨w.heap.size, 0, none⟩) 1 1, .slice none 0 0, .int .i64 1, .slice none 0 0, .slice (some ⟨w.heap.size + 1, 0, none⟩) 2 2, .int .i64 0, .slice (some ⟨w.heap.size + 1 + 1, 0, none⟩) 1 1, .slice none 0 0] 43)) = X0 at *
  have n1 := Boxed.new X0 24 (.slice (some ⟨w.heap.size + 1 + 1 + 1, 0, none⟩) 3 3)
  rw [S0.out] at n1
  have N_h := Lib.hid n1
  have V_h := Lib.hid (V0.out.below (alloc_below X0 (.cells #[.slice (some ⟨w.heap.size + 1 + 1 + 1, 0, none⟩) 3 3] 24)))
  have BW := Lib.hid (below_all B0.out (alloc_below X0 (.cells #[.slice (some ⟨w.heap.size + 1 + 1 + 1, 0, none⟩) 3 3] 24)))
  clear V0 B0 n1 S0
  generalize X0.alloc (.cells #[.slice (some ⟨w.heap.size + 1 + 1 + 1, 0, none⟩) 3 3] 24) = W0 at *
  have F_s := Lib.hid (fun W' h => knSo_at Kn.knW (.slice (some ⟨w.heap.size + 1 + 1 + 1, 0, none⟩) 3 3) W' h knW_small)
  rw [Kn.knW_n, Kn.knW_so] at F_s
  have h0 := N_h.out.cell
  go_wp2_with fail
  refine (F_s.out _ V_h.out).mono ?_
  rintro e V ⟨v, rfl, ho, hb⟩
  obtain ⟨A_s, c_s, rfl, hu_s⟩ := own_is (k := 3) ho rfl
  clear ho
  have b := alloc_below V (.cells #[.int .i64 3, .slice A_s 3 c_s] 30)
  have S1 := Lib.hid (below_all hb b)
  have T_s := Lib.hid (Two.new V 30 (.int .i64 3) (.slice A_s 3 c_s))
  have U_s := Lib.hid (hu_s.below b)
  clear hb b
  clear h0
  have F_x := Lib.hid (fun W' h => knWr_at Kn.knW (.slice (some ⟨w.heap.size + 1 + 1 + 1, 0, none⟩) 3 3) W' h knW_small)
  rw [Kn.knW_n, Kn.knW_wr] at F_x
  have h0 := (Boxed.later N_h.out S1.out).cell
  go_wp2_with fail
  generalize V.alloc (.cells #[.int .i64 3, .slice A_s 3 c_s] 30) = W1 at *
  generalize V.heap.size = o_s at *
  refine (F_x.out _ (V_h.out.below S1.out)).mono ?_
  rintro e V ⟨v, rfl, ho, hb⟩
  obtain ⟨A_x, c_x, rfl, hu_x⟩ := own_is (k := 3) ho rfl
  clear ho
  have b := alloc_below V (.cells #[.int .i64 3, .slice A_x 3 c_x] 30)
  have S2 := Lib.hid (below_all hb b)
  have T_x := Lib.hid (Two.new V 30 (.int .i64 3) (.slice A_x 3 c_x))
  have U_x := Lib.hid (hu_x.below b)
  clear hb b
  clear h0
  have F_t := Lib.hid (fun W' h => knInit_at Kn.knW (.slice (some ⟨w.heap.size + 1 + 1 + 1, 0, none⟩) 3 3) W' h knW_small)
  rw [Kn.knW_n, Kn.knW_init] at F_t
  have h0 := (Boxed.later N_h.out (below_all S1.out S2.out)).cell
  go_wp2_with fail
  generalize V.alloc (.cells #[.int .i64 3, .slice A_x 3 c_x] 30) = W2 at *
  generalize V.heap.size = o_x at *
  refine (F_t.out _ (V_h.out.below (below_all S1.out S2.out))).mono ?_
  rintro e V ⟨v, rfl, ho, hb⟩
  obtain ⟨A_t, c_t, rfl, hu_t⟩ := own_is (k := 3) ho rfl
  clear ho
  have b := alloc_below V (.cells #[.int .i64 3, .slice A_t 3 c_t] 30)
  have S3 := Lib.hid (below_all hb b)
  have T_t := Lib.hid (Two.new V 30 (.int .i64 3) (.slice A_t 3 c_t))
  have U_t := Lib.hid (hu_t.below b)
  clear hb b
  clear h0
  have F_p := Lib.hid (fun W' h => knPast_at Kn.knW (.slice (some ⟨w.heap.size + 1 + 1 + 1, 0, none⟩) 3 3) W' h knW_small)
  rw [Kn.knW_n, Kn.knW_past] at F_p
  have h0 := (Boxed.later N_h.out (below_all (below_all S1.out S2.out) S3.out)).cell
  go_wp2_with fail
  generalize V.alloc (.cells #[.int .i64 3, .slice A_t 3 c_t] 30) = W3 at *
  generalize V.heap.size = o_t at *
  refine (F_p.out _ (V_h.out.below (below_all (below_all S1.out S2.out) S3.out))).mono ?_
  rintro e V ⟨v, rfl, ho, hb⟩
  obtain ⟨A_p, c_p, rfl, hu_p⟩ := own_is (k := 3) ho rfl
  clear ho
  have b := alloc_below V (.cells #[.int .i64 3, .slice A_p 3 c_p] 30)
  have S4 := Lib.hid (below_all hb b)
  have T_p := Lib.hid (Two.new V 30 (.int .i64 3) (.slice A_p 3 c_p))
  have U_p := Lib.hid (hu_p.below b)
  clear hb b
  clear h0
  obtain ⟨s0, s1⟩ := (T_s.out.later (below_all (below_all S2.out S3.out) S4.out)).cells
  go_wp2_with fail
  generalize V.alloc (.cells #[.int .i64 3, .slice A_p 3 c_p] 30) = W4 at *
  generalize V.heap.size = o_p at *
  refine (gfHas_at 3 (.slice A_s 3 c_s) [4, 0, 0] 0 2 _ (U_s.out.below (below_all (below_all S2.out S3.out) S4.out)) (by decide)).mono ?_
  rintro e W5 ⟨rfl, hb⟩
  have S5 := Lib.hid hb
  clear hb
  clear s0 s1
  rw [Kn.kn_has1]
  obtain ⟨x0, x1⟩ := (T_x.out.later (below_all (below_all S3.out S4.out) S5.out)).cells
  go_wp2_with fail
  refine (gfHas_at 3 (.slice A_x 3 c_x) [2, 0, 0] 0 1 _ (U_x.out.below (below_all (below_all S3.out S4.out) S5.out)) (by decide)).mono ?_
  rintro e W6 ⟨rfl, hb⟩
  have S6 := Lib.hid hb
  clear hb
  clear x0 x1
  rw [Kn.kn_has2]
  obtain ⟨t0, t1⟩ := (T_t.out.later (below_all (below_all S4.out S5.out) S6.out)).cells
  go_wp2_with fail
  refine (gfHas_at 3 (.slice A_t 3 c_t) [0, 4, 0] 1 2 _ (U_t.out.below (below_all (below_all S4.out S5.out) S6.out)) (by decide)).mono ?_
  rintro e W7 ⟨rfl, hb⟩
  have S7 := Lib.hid hb
  clear hb
  clear t0 t1
  rw [Kn.kn_has3]
  obtain ⟨p0, p1⟩ := (T_p.out.later (below_all (below_all S5.out S6.out) S7.out)).cells
  go_wp2_with fail
  refine (gfEdges_at 3 (.slice A_p 3 c_p) [6, 0, 0] _ (U_p.out.below (below_all (below_all S5.out S6.out) S7.out)) Kn.kn_ok4).mono ?_
  rintro e W8 ⟨v, rfl, ho, hb⟩
  have S8 := Lib.hid hb
  clear hb
  clear p0 p1
  rw [Kn.kn_ed4] at ho
  obtain ⟨A9, c9, rfl⟩ := own_form ho
  dsimp only [List.length_cons, List.length_nil]
  clear ho
  obtain ⟨t0, t1⟩ := (T_t.out.later (below_all (below_all (below_all (below_all S4.out S5.out) S6.out) S7.out) S8.out)).cells
  go_wp2_with fail
  refine (gfEdges_at 3 (.slice A_t 3 c_t) [0, 4, 0] _ (U_t.out.below (below_all (below_all (below_all (below_all S4.out S5.out) S6.out) S7.out) S8.out)) Kn.kn_ok3).mono ?_
  rintro e W9 ⟨v, rfl, ho, hb⟩
  have S9 := Lib.hid hb
  clear hb
  clear t0 t1
  rw [Kn.kn_ed3] at ho
  obtain ⟨A9, c9, rfl⟩ := own_form ho
  dsimp only [List.length_cons, List.length_nil]
  clear ho
  go_wp2_with fail
  go_ret
  exact ⟨rfl, (below_all BW.out (below_all (below_all (below_all (below_all (below_all (below_all (below_all (below_all S1.out S2.out) S3.out) S4.out) S5.out) S6.out) S7.out) S8.out) S9.out))⟩
end Go.Proofs.YtlhinlfgmfenoaaDoor
