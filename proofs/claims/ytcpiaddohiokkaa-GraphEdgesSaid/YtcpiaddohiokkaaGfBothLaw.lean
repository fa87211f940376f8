/-
  The law GraphBoth: the edges of both, and the edges one behind the other, of any two graphs, are the document's.
  Conditions: rows hold sets below 2^64.
-/
import Derived.Test.YtcpiaddohiokkaaGfLive
import Derived.Test.YtcpiaddohiokkaaGfRefD
import Derived.Test.YtcpiaddohiokkaaGfRefE
import Derived.Deep.RegionHeld3
set_option maxRecDepth 4000
namespace Go.Proofs.Ytcpiaddohiokkaa
open Go.RowKit

/-- Two graphs in variables. -/
theorem gl_two (w : World) (n m : Int) (u v : Value) {W : World} (h : W = (w.alloc (.cells #[.int .i64 n, u] 24)).alloc (.cells #[.int .i64 m, v] 24)) :
    Two W w.heap.size 24 (.int .i64 n) u ∧ Two W (w.heap.size + 1) 24 (.int .i64 m) v ∧ Below w.heap.size w W := by
  subst h
  have b1 := alloc_below w (.cells #[.int .i64 n, u] 24)
  have b2 := alloc_below (w.alloc (.cells #[.int .i64 n, u] 24)) (.cells #[.int .i64 m, v] 24)
  have t1 := Two.new (w.alloc (.cells #[.int .i64 n, u] 24)) 24 (.int .i64 m) v
  rw [World.size_alloc] at t1
  exact ⟨(Two.new w 24 (.int .i64 n) u).later b2, t1, below_all b1 b2⟩

set_option maxHeartbeats 4000000 in
theorem lawGraphBoth (n : Int) (u : Value) (a : List Nat) (m : Int) (v : Value) (b : List Nat) (w : World) (hu : Us w u a) (ha : ∀ x ∈ a, x < 18446744073709551616) (hv : Us w v b) (hb : ∀ x ∈ b, x < 18446744073709551616) : Calls Try.prog 4 #[.agg #[.int .i64 n, u], .agg #[.int .i64 m, v]] w (RetBool w true) := by
  have HU := Lib.hid hu
  have HV := Lib.hid hv
  obtain ⟨A, c, rfl, -⟩ := hu.spelled
  obtain ⟨A', c', rfl, -⟩ := hv.spelled
  clear hu hv
  go_enter Try.func4, Try.ntmps4
  go_wp2_with fail
  obtain ⟨t0, t1, bw⟩ := gl_two w n m (.slice A a.length c) (.slice A' b.length c') rfl
  have T0 := Lib.hid t0
  have T1 := Lib.hid t1
  have BW := Lib.hid bw
  clear t0 t1 bw
  generalize (w.alloc (.cells #[.int .i64 n, .slice A a.length c] 24)).alloc (.cells #[.int .i64 m, .slice A' b.length c'] 24) = W at *
  refine (gfAwake_at _).mono ?_
  rintro e w1 ⟨rfl, hb1⟩
  have X1 := Lib.hid hb1
  have B1 := Lib.hid (below_all BW.out hb1)
  clear hb1
  obtain ⟨a0, a1⟩ := (T0.out.later X1.out).cells
  obtain ⟨b0, b1⟩ := (T1.out.later X1.out).cells
  by_cases h70 : 70 < a.length
  · go_wp2_with fail
    go_ret
    exact ⟨rfl, B1.out⟩
  by_cases h71 : 70 < b.length
  · go_wp2_with fail
    go_ret
    exact ⟨rfl, B1.out⟩
  cases hm : Gf.matchR n m a b with
  | false =>
    have FU := Lib.hid (fun w h1 h2 => gfUnion_no n m (.slice A a.length c) (.slice A' b.length c') a b w h1 h2 ha hb hm)
    have FC := Lib.hid (fun w h1 h2 => gfCompose_no n m (.slice A a.length c) (.slice A' b.length c') a b w h1 h2 ha hb hm)
    have FP := Lib.hid (fun w h => gfPlain_at n (.slice A a.length c) a w h)
    have FQ := Lib.hid (fun w h => gfPlain_at m (.slice A' b.length c') b w h)
    have FR := Lib.hid (fun w h => rRight12_at n (.slice A a.length c) a w h ha)
    have FS := Lib.hid (fun w h => rRight12_at m (.slice A' b.length c') b w h hb)
    have hm' : (Gf.okB n a && (Gf.okB m b && (n == m))) = false := hm
    clear hm
    generalize Gf.okB n a = p at *
    generalize Gf.okB m b = q at *
    go_wp2_with fail
    refine (FU.out _ (HU.out.below B1.out) (HV.out.below B1.out)).mono ?_
    rintro e w2 ⟨rfl, hb2⟩
    have b3 := alloc_below w2 (.cells #[.int .i64 0, .slice none 0 0] 24)
    have X3 := Lib.hid (below_all X1.out (below_all hb2 b3))
    have B3 := Lib.hid (below_all B1.out (below_all hb2 b3))
    have TX := Lib.hid (Two.new w2 24 (.int .i64 0) (.slice none 0 0))
    clear hb2 b3 a0 a1 b0 b1 X1 B1
    obtain ⟨a0, a1⟩ := (T0.out.later X3.out).cells
    obtain ⟨b0, b1⟩ := (T1.out.later X3.out).cells
    go_wp2_with fail
    generalize w2.alloc (.cells #[.int .i64 0, .slice none 0 0] 24) = w3 at *
    generalize w2.heap.size = ox at *
    refine (FC.out _ (HU.out.below B3.out) (HV.out.below B3.out)).mono ?_
    rintro e w4 ⟨rfl, hb4⟩
    have b5 := alloc_below w4 (.cells #[.int .i64 0, .slice none 0 0] 24)
    have X5 := Lib.hid (below_all X3.out (below_all hb4 b5))
    have B5 := Lib.hid (below_all B3.out (below_all hb4 b5))
    have TX5 := Lib.hid (TX.out.later (below_all hb4 b5))
    have TY5 := Lib.hid (Two.new w4 24 (.int .i64 0) (.slice none 0 0))
    clear hb4 b5 a0 a1 b0 b1 X3 B3 TX
    obtain ⟨a0, a1⟩ := (T0.out.later X5.out).cells
    go_wp2_with fail
    generalize w4.alloc (.cells #[.int .i64 0, .slice none 0 0] 24) = w5 at *
    generalize w4.heap.size = oy at *
    refine (FP.out _ (HU.out.below B5.out)).mono ?_
    rintro e w6 ⟨rfl, hb6⟩
    have X6 := Lib.hid hb6
    clear hb6 a0 a1
    go_wp2_with fail
    refine (FR.out _ (HU.out.below (below_all B5.out X6.out))).mono ?_
    rintro e w7 ⟨rfl, hb7⟩
    have X7 := Lib.hid (below_all X6.out hb7)
    clear hb7 X6
    obtain ⟨b0, b1⟩ := (T1.out.later (below_all X5.out X7.out)).cells
    go_wp2_with fail
    refine (FQ.out _ (HV.out.below (below_all B5.out X7.out))).mono ?_
    rintro e w8 ⟨rfl, hb8⟩
    have X8 := Lib.hid (below_all X7.out hb8)
    clear hb8 b0 b1 X7
    go_wp2_with fail
    refine (FS.out _ (HV.out.below (below_all B5.out X8.out))).mono ?_
    rintro e w9 ⟨rfl, hb9⟩
    have X9 := Lib.hid (below_all X8.out hb9)
    have B9 := Lib.hid (below_all B5.out X9.out)
    clear hb9 X8
    obtain ⟨a0, a1⟩ := (T0.out.later (below_all X5.out X9.out)).cells
    obtain ⟨b0, b1⟩ := (T1.out.later (below_all X5.out X9.out)).cells
    obtain ⟨x0, x1⟩ := (TX5.out.later X9.out).cells
    obtain ⟨y0, y1⟩ := (TY5.out.later X9.out).cells
    cases p with
    | false =>
      clear hm'
      go_wp2_with fail
      go_ret
      exact ⟨rfl, B9.out⟩
    | true =>
      cases q with
      | false =>
        clear hm'
        go_wp2_with fail
        go_ret
        exact ⟨rfl, B9.out⟩
      | true =>
        have hne : (n != m) = true := by
          simp only [Bool.true_and, beq_eq_false_iff_ne] at hm'
          rw [bne_iff_ne]
          exact hm'
        clear hm'
        go_wp2_with fail
        go_ret
        exact ⟨rfl, B9.out⟩
  | true =>
    obtain ⟨k, rfl, rfl, oka, okb⟩ := Gf.match_iff.1 hm
    clear hm
    have FU := Lib.hid (fun w h1 h2 => gfUnion_at k (.slice A a.length c) (.slice A' b.length c') a b w h1 h2 oka okb)
    have FC := Lib.hid (fun w h1 h2 => gfCompose_at k (.slice A a.length c) (.slice A' b.length c') a b w h1 h2 oka okb)
    have FP := Lib.hid (fun w h => gfPlain_at (k : Int) (.slice A a.length c) a w h)
    have FQ := Lib.hid (fun w h => gfPlain_at (k : Int) (.slice A' b.length c') b w h)
    have FR := Lib.hid (fun w h => rRight12_at (k : Int) (.slice A a.length c) a w h ha)
    have FS := Lib.hid (fun w h => rRight12_at (k : Int) (.slice A' b.length c') b w h hb)
    have RU := Lib.hid (fun w h1 h2 => rUnion12_at k (.slice A a.length c) (.slice A' b.length c') a b w h1 h2 oka okb)
    have RC := Lib.hid (fun w h1 h2 => rCompose12_at k (.slice A a.length c) (.slice A' b.length c') a b w h1 h2 oka okb)
    rw [(Gf.okB_nat k a).2 oka] at FR
    rw [(Gf.okB_nat k b).2 okb] at FS
    have h64 := oka.1
    have hlu : (Gf.unionR k a b).length = k := Gf.build_len _ _
    have hlc : (Gf.composeR k a b).length = k := Gf.build_len _ _
    have FM1 := Lib.hid (fun u v w h1 h2 => rSame12_at (k : Int) u v (Gf.unionR k a b) w h1 h2 (by rw [hlu]; omega))
    have FM2 := Lib.hid (fun u v w h1 h2 => rSame12_at (k : Int) u v (Gf.composeR k a b) w h1 h2 (by rw [hlc]; omega))
    have HLU := Lib.hid hlu
    have HLC := Lib.hid hlc
    clear oka okb hlu hlc
    generalize Gf.unionR k a b = lu at *
    generalize Gf.composeR k a b = lc at *
    go_wp2_with fail
    refine (FU.out _ (HU.out.below B1.out) (HV.out.below B1.out)).mono ?_
    rintro e w2 ⟨v2, rfl, ho2, hb2⟩
    obtain ⟨A2, c2, rfl⟩ := ho2.form
    rw [HLU.out]
    rw [HLU.out] at ho2
    have b3 := alloc_below w2 (.cells #[.int .i64 k, .slice A2 k c2] 24)
    have X3 := Lib.hid (below_all X1.out (below_all hb2 b3))
    have B3 := Lib.hid (below_all B1.out (below_all hb2 b3))
    have TX := Lib.hid (Two.new w2 24 (.int .i64 k) (.slice A2 k c2))
    have UX := Lib.hid (ho2.us.below b3)
    clear hb2 b3 a0 a1 b0 b1 X1 B1 ho2
    obtain ⟨a0, a1⟩ := (T0.out.later X3.out).cells
    obtain ⟨b0, b1⟩ := (T1.out.later X3.out).cells
    go_wp2_with fail
    generalize w2.alloc (.cells #[.int .i64 k, .slice A2 k c2] 24) = w3 at *
    generalize w2.heap.size = ox at *
    refine (FC.out _ (HU.out.below B3.out) (HV.out.below B3.out)).mono ?_
    rintro e w4 ⟨v4, rfl, ho4, hb4⟩
    obtain ⟨A4, c4, rfl⟩ := ho4.form
    rw [HLC.out]
    rw [HLC.out] at ho4
    have b5 := alloc_below w4 (.cells #[.int .i64 k, .slice A4 k c4] 24)
    have X5 := Lib.hid (below_all X3.out (below_all hb4 b5))
    have B5 := Lib.hid (below_all B3.out (below_all hb4 b5))
    have TX5 := Lib.hid (TX.out.later (below_all hb4 b5))
    have UX5 := Lib.hid (UX.out.below (below_all hb4 b5))
    have TY5 := Lib.hid (Two.new w4 24 (.int .i64 k) (.slice A4 k c4))
    have UY5 := Lib.hid (ho4.us.below b5)
    clear hb4 b5 a0 a1 b0 b1 X3 B3 TX UX ho4
    obtain ⟨a0, a1⟩ := (T0.out.later X5.out).cells
    go_wp2_with fail
    generalize w4.alloc (.cells #[.int .i64 k, .slice A4 k c4] 24) = w5 at *
    generalize w4.heap.size = oy at *
    refine (FP.out _ (HU.out.below B5.out)).mono ?_
    rintro e w6 ⟨rfl, hb6⟩
    have X6 := Lib.hid hb6
    clear hb6 a0 a1
    go_wp2_with fail
    refine (FR.out _ (HU.out.below (below_all B5.out X6.out))).mono ?_
    rintro e w7 ⟨rfl, hb7⟩
    have X7 := Lib.hid (below_all X6.out hb7)
    clear hb7 X6
    obtain ⟨b0, b1⟩ := (T1.out.later (below_all X5.out X7.out)).cells
    go_wp2_with fail
    refine (FQ.out _ (HV.out.below (below_all B5.out X7.out))).mono ?_
    rintro e w8 ⟨rfl, hb8⟩
    have X8 := Lib.hid (below_all X7.out hb8)
    clear hb8 b0 b1 X7
    go_wp2_with fail
    refine (FS.out _ (HV.out.below (below_all B5.out X8.out))).mono ?_
    rintro e w9 ⟨rfl, hb9⟩
    have X9 := Lib.hid (below_all X8.out hb9)
    have B9 := Lib.hid (below_all B5.out X9.out)
    have TA9 := Lib.hid (T0.out.later (below_all X5.out X9.out))
    have TB9 := Lib.hid (T1.out.later (below_all X5.out X9.out))
    have TX9 := Lib.hid (TX5.out.later X9.out)
    have TY9 := Lib.hid (TY5.out.later X9.out)
    have UX9 := Lib.hid (UX5.out.below X9.out)
    have UY9 := Lib.hid (UY5.out.below X9.out)
    have UA9 := Lib.hid (HU.out.below B9.out)
    have UB9 := Lib.hid (HV.out.below B9.out)
    clear hb9 X8 X9 X5 B5 TX5 TY5 UX5 UY5 T0 T1 HU HV BW
    have HK : Hid (∀ W', Below w9.heap.size w9 W' → W'.cell? ⟨w.heap.size, 0, none⟩ = some (.int .i64 k) ∧ W'.cell? ⟨w.heap.size, 1, none⟩ = some (.slice A a.length c) ∧ W'.cell? ⟨w.heap.size + 1, 0, none⟩ = some (.int .i64 k) ∧ W'.cell? ⟨w.heap.size + 1, 1, none⟩ = some (.slice A' b.length c') ∧ W'.cell? ⟨ox, 0, none⟩ = some (.int .i64 k) ∧ W'.cell? ⟨ox, 1, none⟩ = some (.slice A2 k c2) ∧ W'.cell? ⟨oy, 0, none⟩ = some (.int .i64 k) ∧ W'.cell? ⟨oy, 1, none⟩ = some (.slice A4 k c4)) := fun W' h =>
      ⟨(TA9.out.later h).cells.1, (TA9.out.later h).cells.2, (TB9.out.later h).cells.1, (TB9.out.later h).cells.2, (TX9.out.later h).cells.1, (TX9.out.later h).cells.2, (TY9.out.later h).cells.1, (TY9.out.later h).cells.2⟩
    obtain ⟨a0, a1, b0, b1, x0, x1, y0, y1⟩ := HK.out _ (Below.refl _ w9)
    have D9 := Lib.hid (Below.refl w9.heap.size w9).drew
    go_wp2_with fail
    go_region_held3 (fun W' => W'.cell? ⟨w.heap.size, 0, none⟩ = some (.int .i64 k) ∧ W'.cell? ⟨w.heap.size, 1, none⟩ = some (.slice A a.length c) ∧ W'.cell? ⟨w.heap.size + 1, 0, none⟩ = some (.int .i64 k) ∧ W'.cell? ⟨w.heap.size + 1, 1, none⟩ = some (.slice A' b.length c') ∧ W'.cell? ⟨ox, 0, none⟩ = some (.int .i64 k) ∧ W'.cell? ⟨ox, 1, none⟩ = some (.slice A2 k c2) ∧ W'.cell? ⟨oy, 0, none⟩ = some (.int .i64 k) ∧ W'.cell? ⟨oy, 1, none⟩ = some (.slice A4 k c4))
      (first | (exact ⟨a0, a1, b0, b1, x0, x1, y0, y1⟩) | (exact HK.out _ D9.out) | (exact HK.out _ Y1.out) | (exact HK.out _ Y2.out) | (exact HK.out _ Y3.out) | (exact HK.out _ Y4.out) | (exact HK.out _ Y5.out) | (exact HK.out _ Y6.out) | (exact HK.out _ Y7.out) | (exact HK.out _ Y8.out) | (exact HK.out _ Y9.out) | (exact HK.out _ Y10.out))
      (first
        | (go_at_call 8; (with_reducible refine (gfPlain_at (k : Int) (.slice A2 k c2) lu _ (UX9.out.below D9.out)).mono ?_); rintro e z1 ⟨rfl, hz⟩; have Y1 := Lib.hid (below_all D9.out hz); clear hz)
        | (go_at_call 8; (with_reducible refine (FP.out _ (UA9.out.below Y1.out)).mono ?_); rintro e z2 ⟨rfl, hz⟩; have Y2 := Lib.hid (below_all Y1.out hz); clear hz)
        | (go_at_call 8; (with_reducible refine (FQ.out _ (UB9.out.below Y2.out)).mono ?_); rintro e z3 ⟨rfl, hz⟩; have Y3 := Lib.hid (below_all Y2.out hz); clear hz)
        | (go_at_call 22; (with_reducible refine (RU.out _ (UA9.out.below Y3.out) (UB9.out.below Y3.out)).mono ?_); rintro e z4 ⟨v4, rfl, ho4, hz⟩; have Y4 := Lib.hid (below_all Y3.out hz); have R4 := Lib.hid ho4.us; clear hz ho4)
        | (go_at_call 13; (with_reducible refine (FM1.out _ _ _ (UX9.out.below Y4.out) R4.out).mono ?_); rintro e z5 ⟨rfl, hz⟩; have Y5 := Lib.hid (below_all Y4.out hz); clear hz)
        | (go_at_call 8; (with_reducible refine (gfPlain_at (k : Int) (.slice A4 k c4) lc _ (UY9.out.below Y5.out)).mono ?_); rintro e z6 ⟨rfl, hz⟩; have Y6 := Lib.hid (below_all Y5.out hz); clear hz)
        | (go_at_call 8; (with_reducible refine (FP.out _ (UA9.out.below Y6.out)).mono ?_); rintro e z7 ⟨rfl, hz⟩; have Y7 := Lib.hid (below_all Y6.out hz); clear hz)
        | (go_at_call 8; (with_reducible refine (FQ.out _ (UB9.out.below Y7.out)).mono ?_); rintro e z8 ⟨rfl, hz⟩; have Y8 := Lib.hid (below_all Y7.out hz); clear hz)
        | (go_at_call 23; (with_reducible refine (RC.out _ (UA9.out.below Y8.out) (UB9.out.below Y8.out)).mono ?_); rintro e z9 ⟨v9, rfl, ho9, hz⟩; have Y9 := Lib.hid (below_all Y8.out hz); have R9 := Lib.hid ho9.us; clear hz ho9)
        | (go_at_call 13; (with_reducible refine (FM2.out _ _ _ (UY9.out.below Y9.out) R9.out).mono ?_); rintro e z10 ⟨rfl, hz⟩; have Y10 := Lib.hid (below_all Y9.out hz); clear hz))
    all_goals
      go_wp2_with fail
      go_ret
      exact ⟨rfl, below_all B9.out Y10.out⟩
end Go.Proofs.Ytcpiaddohiokkaa
