/-
  The law GraphEdges: a graph is what its edges make, which are told in order, each once, and are just those that it has.
  Conditions: rows hold sets below 2^64.
-/
import Derived.Test.YtcpiaddohiokkaaGfBothLaw
import Derived.Lib.QuietBelow
set_option maxRecDepth 4000
namespace Go.Proofs.Ytcpiaddohiokkaa
open Go.RowKit

namespace Gf
/-- Is (a, b) among the first k edges? -/
def inTo (es : List (Nat × Nat)) (a b : Int) (k : Nat) : Bool := (es.take k).any fun e => ((e.1 : Int) == a) && ((e.2 : Int) == b)
theorem inTo_zero (es : List (Nat × Nat)) (a b : Int) : inTo es a b 0 = false := rfl
theorem inTo_next {es : List (Nat × Nat)} (a b : Int) {k : Nat} (hk : k < es.length) : inTo es a b (k + 1) = (inTo es a b k || (((es[k].1 : Int) == a) && ((es[k].2 : Int) == b))) := by
  unfold inTo
  rw [List.take_succ_eq_append_getElem hk, List.any_append]
  simp only [List.any_cons, List.any_nil, Bool.or_false]
theorem inTo_all {n : Nat} {l : List Nat} (h : Ok n l) (a b : Int) : inTo (edges l) a b (edges l).length = hasR (n : Int) l a b := by
  unfold inTo
  rw [List.take_length, Bool.eq_iff_iff, List.any_eq_true, hasR, (okB_nat n l).2 h, Bool.true_and, Bool.and_eq_true, Bool.and_eq_true]
  constructor
  · rintro ⟨e, he, hq⟩
    rw [Bool.and_eq_true, beq_iff_eq, beq_iff_eq] at hq
    obtain ⟨q1, q2⟩ := hq
    subst q1
    subst q2
    have hb := (mem_edges h).1 he
    obtain ⟨h1, h2⟩ := h.node hb
    exact ⟨isN_yes h1, isN_yes h2, by rw [Int.toNat_natCast, Int.toNat_natCast]; exact hb⟩
  · rintro ⟨h1, h2, h3⟩
    obtain ⟨x, rfl, _⟩ := isN_nat h1
    obtain ⟨y, rfl, _⟩ := isN_nat h2
    rw [Int.toNat_natCast, Int.toNat_natCast] at h3
    exact ⟨(x, y), (mem_edges h).2 h3, by simp⟩
theorem edge_has {n : Nat} {l : List Nat} (h : Ok n l) {k : Nat} (hk : k < (edges l).length) : hasR (n : Int) l ((edges l)[k].1 : Int) ((edges l)[k].2 : Int) = true := by
  have hb := (mem_edges h).1 (List.getElem_mem hk)
  obtain ⟨h1, h2⟩ := h.node hb
  rw [hasR, (okB_nat n l).2 h, isN_yes h1, isN_yes h2, Int.toNat_natCast, Int.toNat_natCast, hb]
  rfl
theorem edges_len {n : Nat} {l : List Nat} (h : Ok n l) : (edges l).length ≤ 4096 := by
  have := edgesTo_len l l.length []
  rw [edgesTo_all, List.length_nil, h.2.1] at this
  have := h.1
  omega
theorem edges_next (l : List Nat) (k : Nat) (h0 : k < (edges l).length) (hk : k + 1 < (edges l).length) : Less (edges l)[k] (edges l)[k + 1] := List.pairwise_iff_getElem.1 (edges_rise l) k (k + 1) h0 hk (by omega)
end Gf

set_option maxHeartbeats 8000000 in
theorem lawGraphEdges (n : Int) (u : Value) (l : List Nat) (a b : Int) (w : World) (hu : Us w u l) (hs : ∀ x ∈ l, x < 18446744073709551616) : Calls Try.prog 5 #[.agg #[.int .i64 n, u], .int .i64 a, .int .i64 b] w (RetBool w true) := by
  have HU := Lib.hid hu
  obtain ⟨A, c, rfl, -⟩ := hu.spelled
  have T0 := Lib.hid (Two.new w 24 (.int .i64 n) (.slice A l.length c))
  have BW := Lib.hid (alloc_below w (.cells #[.int .i64 n, .slice A l.length c] 24))
  have FR := Lib.hid (fun w h => gfRight_at n (.slice A l.length c) l w h hs)
  have FH := Lib.hid (fun w x y h => gfHas_at n (.slice A l.length c) l x y w h hs)
  clear hu hs
  go_enter Try.func5, Try.ntmps5
  go_wp2_with fail
  generalize w.alloc (.cells #[.int .i64 n, .slice A l.length c] 24) = W at *
  refine (gfAwake_at _).mono ?_
  rintro e w1 ⟨rfl, hb1⟩
  have T1 := Lib.hid (T0.out.later hb1)
  have B1 := Lib.hid (below_all BW.out hb1)
  clear hb1 T0 BW
  obtain ⟨a0, a1⟩ := T1.out.cells
  by_cases h70 : 70 < l.length
  · go_wp2_with fail
    go_ret
    exact ⟨rfl, B1.out⟩
  cases hp : Gf.okB n l with
  | false =>
    rw [hp] at FR
    go_wp2_with fail
    refine (FR.out _ (HU.out.below B1.out)).mono ?_
    rintro e w2 ⟨rfl, hb2⟩
    have B2 := Lib.hid (below_all B1.out hb2)
    go_wp2_with fail
    go_ret
    exact ⟨rfl, B2.out⟩
  | true =>
  obtain ⟨k, rfl, hok⟩ := Gf.okB_iff.1 hp
  rw [hp] at FR
  have HOK := Lib.hid hok
  clear hok hp
  go_wp2_with fail
  refine (FR.out _ (HU.out.below B1.out)).mono ?_
  rintro e w2 ⟨rfl, hb2⟩
  have T2 := Lib.hid (T1.out.later hb2)
  have B2 := Lib.hid (below_all B1.out hb2)
  clear hb2 T1 B1 a0 a1 FR
  obtain ⟨a0, a1⟩ := T2.out.cells
  go_wp2_with fail
  refine (gfEdges_at k _ l _ (HU.out.below B2.out) HOK.out).mono ?_
  rintro e w3 ⟨v3, rfl, ho3, hb3⟩
  have IE := Lib.hid ho3.its
  obtain ⟨AE, cE, rfl, hf⟩ := ed_spelled ho3.its
  have HF := Lib.hid hf
  have T3 := Lib.hid (T2.out.later hb3)
  have B3 := Lib.hid (below_all B2.out hb3)
  clear hb3 T2 B2 a0 a1 hf ho3
  have hel := Gf.edges_len HOK.out
  have HIN := Lib.hid (fun i (h : i < (Gf.edges l).length) => Gf.inTo_next a b h)
  have HI0 := Lib.hid (Gf.inTo_zero (Gf.edges l) a b)
  have HIA := Lib.hid (Gf.inTo_all HOK.out a b)
  have HHS := Lib.hid (fun i (h : i < (Gf.edges l).length) => Gf.edge_has HOK.out h)
  have HNX := Lib.hid (fun i h0 h => Gf.edges_next l i h0 h)
  have HND := Lib.hid (fun e (h : e ∈ Gf.edges l) => HOK.out.node ((Gf.mem_edges HOK.out).1 h))
  have HMD := Lib.hid (Gf.made_edges HOK.out)
  generalize Gf.edges l = es at *
  go_wp2_with fail
  go_loopw [9, 10] (fun q i wr => ∃ j : Nat, j ≤ es.length ∧ i = .int .i64 j ∧ q = .bool (Gf.inTo es a b j) ∧ Hid (Below w3.heap.size w3 wr)) (fun _ i _ => es.length - (intOf i).toNat)
  case atStart => exact ⟨0, Nat.zero_le _, rfl, by rw [HI0.out], Below.refl _ _⟩
  case round =>
    obtain ⟨j, hj, rfl, rfl, HB⟩ := hrel
    by_cases hlt : j < es.length
    · obtain ⟨ad, rfl, hblk, hE⟩ := HF.out j hlt
      have hin := HIN.out j hlt
      have hhs := HHS.out j hlt
      have hk1 : decide (j < es.length) = true := decide_eq_true hlt
      have hprev : j = 0 ∨ ∃ i, j = i + 1 := by
        cases j with
        | zero => exact .inl rfl
        | succ i => exact .inr ⟨i, rfl⟩
      have UA := Lib.hid (HU.out.below (below_all B3.out HB.out))
      have D := Lib.hid (Below.refl wr.heap.size wr).drew
      rcases hprev with hj0 | ⟨i, hji⟩
      · have q1 : decide ((0 : Int) < (j : Int)) = false := by simp; omega
        have q2 : decide (0 < j) = false := by simp; omega
        clear hj0
        generalize ((es[j]'hlt).1 : Int) = X1 at *
        generalize ((es[j]'hlt).2 : Int) = X2 at *
        have FX := Lib.hid (fun w h => FH.out w X1 X2 h)
        rw [hhs] at FX
        clear hhs
        have HK : Hid (∀ W', Below wr.heap.size wr W' → W'.cell? ⟨w.heap.size, 0, none⟩ = some (.int .i64 k) ∧ W'.cell? ⟨w.heap.size, 1, none⟩ = some (.slice A l.length c) ∧ W'.cell? (ad.add (j * 2)) = some (.int .i64 X1) ∧ W'.cell? ⟨(ad.add (j * 2)).block, (ad.add (j * 2)).off + 1, none⟩ = some (.int .i64 X2)) := fun W' h => (by have t := (T3.out.later (below_all HB.out h)).cells; have q := hE.below hblk (below_all HB.out h); exact ⟨t.1, t.2, q.c0, q.c1⟩)
        obtain ⟨a0, a1, x0, x1⟩ := HK.out _ (Below.refl _ wr)
        have k0 := cell_regrown a0
        have k1 := cell_regrown a1
        have k2 := cell_regrown x0
        have k3 := cell_regrown x1
        have cH : ∀ d os, Calls Try.prog 14 #[.agg #[.int .i64 (k : Int), .slice A l.length c], .int .i64 X1, .int .i64 X2] (Sort.grow (redrawn wr d) os) fun e w'' => e = .returned (.bool true) ∧ ∃ p : Regrown, w'' = Sort.grow (redrawn wr p.d) p.os := fun d os => Calls.regrown_of ((FX.out _ (UA.out.below (below_regrown wr d os))).mono fun _ _ h => h)
        clear a0 a1 x0 x1
        go_wp2_with fail
        refine wp_region_quiet_below (by kernel_rfl) (by kernel_rfl) ?_
        repeat (go_big_quiet_step (exact cH _ _))
        refine wpQuiet_nil ?_
        intro _ hw1
        obtain ⟨⟨dq, osq⟩, hw2⟩ := hw1
        subst hw2
        have Y1 := Lib.hid (below_regrown wr dq osq)
        clear k0 k1 k2 k3 cH
        generalize Sort.grow (redrawn wr dq) osq = w5 at *
        all_goals
          obtain ⟨a0, a1⟩ := (T3.out.later (below_all HB.out Y1.out)).cells
          have HB2 := Lib.hid (below_all HB.out Y1.out)
          obtain ⟨x0, x1⟩ := hE.below hblk HB2.out
          clear Y1
          cases hq : Gf.inTo es a b j with
          | true =>
            rw [hq, Bool.true_or] at hin
            have HI := Lib.hid hin
            clear hin
            go_wp2_with fail
            go_roundw
            case rel => exact ⟨j + 1, by omega, by go_num, by rw [HI.out], HB2.out⟩
            case measure => simp [intOf]; omega
          | false =>
            rw [hq, Bool.false_or] at hin
            cases hx : (X1 == a) with
            | false =>
              rw [hx, Bool.false_and] at hin
              have HI := Lib.hid hin
              clear hin
              go_wp2_with fail
              go_roundw
              case rel => exact ⟨j + 1, by omega, by go_num, by rw [HI.out], HB2.out⟩
              case measure => simp [intOf]; omega
            | true =>
              rw [hx, Bool.true_and] at hin
              have HI := Lib.hid hin
              clear hin
              go_wp2_with fail
              go_roundw
              case rel => exact ⟨j + 1, by omega, by go_num, by rw [HI.out], HB2.out⟩
              case measure => simp [intOf]; omega
      · have hi : i < es.length := by omega
        obtain ⟨ad', e', _, hE0⟩ := HF.out i hi
        cases e'
        have hls : (((es[i]'hi).1 : Int) < ((es[j]'hlt).1 : Int) ∨ ((es[i]'hi).1 : Int) = ((es[j]'hlt).1 : Int) ∧ ((es[i]'hi).2 : Int) < ((es[j]'hlt).2 : Int)) := by
          subst hji
          rcases HNX.out i hi hlt with h | ⟨h1, h2⟩
          · exact .inl (by omega)
          · exact .inr ⟨by omega, by omega⟩
        have q1 : decide ((0 : Int) < (j : Int)) = true := by simp; omega
        have q2 : decide (0 < j) = true := by simp; omega
        have hs1 : IntKind.i64.wrap ((j : Int) - 1) = (i : Int) := by rw [IntWalk.i64_in _ (by omega)]; omega
        have hs2 : (j : Int) - 1 = (i : Int) := by omega
        have hs3 : wrap64 ((j : Int) - 1) = (i : Int) := by rw [IntWalk.wrap64_in _ (by omega)]; omega
        have hin0 : (0 : Int) ≤ (i : Int) := by omega
        have hin1 : (i : Int) < (es.length : Int) := by omega
        have hjl : (j : Int) < (es.length : Int) := by omega
        clear hji
        generalize ((es[j]'hlt).1 : Int) = X1 at *
        generalize ((es[j]'hlt).2 : Int) = X2 at *
        generalize ((es[i]'hi).1 : Int) = P1 at *
        generalize ((es[i]'hi).2 : Int) = P2 at *
        have FX := Lib.hid (fun w h => FH.out w X1 X2 h)
        rw [hhs] at FX
        clear hhs
        rcases hls with hl1 | ⟨hl1, hl2⟩
        · have d1 : decide (X1 < P1) = false := decide_eq_false (by omega)
          have d2 : (X1 == P1) = false := by rw [beq_eq_false_iff_ne]; omega
          clear hl1
          have HK : Hid (∀ W', Below wr.heap.size wr W' → W'.cell? ⟨w.heap.size, 0, none⟩ = some (.int .i64 k) ∧ W'.cell? ⟨w.heap.size, 1, none⟩ = some (.slice A l.length c) ∧ W'.cell? (ad.add (j * 2)) = some (.int .i64 X1) ∧ W'.cell? ⟨(ad.add (j * 2)).block, (ad.add (j * 2)).off + 1, none⟩ = some (.int .i64 X2) ∧ W'.cell? (ad.add (i * 2)) = some (.int .i64 P1) ∧ W'.cell? ⟨(ad.add (i * 2)).block, (ad.add (i * 2)).off + 1, none⟩ = some (.int .i64 P2)) := fun W' h => (by have t := (T3.out.later (below_all HB.out h)).cells; have q := hE.below hblk (below_all HB.out h); have z := hE0.below hblk (below_all HB.out h); exact ⟨t.1, t.2, q.c0, q.c1, z.c0, z.c1⟩)
          obtain ⟨a0, a1, x0, x1, z0, z1⟩ := HK.out _ (Below.refl _ wr)
          have k0 := cell_regrown a0
          have k1 := cell_regrown a1
          have k2 := cell_regrown x0
          have k3 := cell_regrown x1
          have k4 := cell_regrown z0
          have k5 := cell_regrown z1
          have cH : ∀ d os, Calls Try.prog 14 #[.agg #[.int .i64 (k : Int), .slice A l.length c], .int .i64 X1, .int .i64 X2] (Sort.grow (redrawn wr d) os) fun e w'' => e = .returned (.bool true) ∧ ∃ p : Regrown, w'' = Sort.grow (redrawn wr p.d) p.os := fun d os => Calls.regrown_of ((FX.out _ (UA.out.below (below_regrown wr d os))).mono fun _ _ h => h)
          clear a0 a1 x0 x1 z0 z1
          go_wp2_with fail
          refine wp_region_quiet_below (by kernel_rfl) (by kernel_rfl) ?_
          repeat (go_big_quiet_step (exact cH _ _))
          refine wpQuiet_nil ?_
          intro _ hw1
          obtain ⟨⟨dq, osq⟩, hw2⟩ := hw1
          subst hw2
          have Y1 := Lib.hid (below_regrown wr dq osq)
          clear k0 k1 k2 k3 k4 k5 cH
          generalize Sort.grow (redrawn wr dq) osq = w5 at *
          all_goals
            obtain ⟨a0, a1⟩ := (T3.out.later (below_all HB.out Y1.out)).cells
            have HB2 := Lib.hid (below_all HB.out Y1.out)
            obtain ⟨x0, x1⟩ := hE.below hblk HB2.out
            clear Y1
            cases hq : Gf.inTo es a b j with
            | true =>
              rw [hq, Bool.true_or] at hin
              have HI := Lib.hid hin
              clear hin
              go_wp2_with fail
              go_roundw
              case rel => exact ⟨j + 1, by omega, by go_num, by rw [HI.out], HB2.out⟩
              case measure => simp [intOf]; omega
            | false =>
              rw [hq, Bool.false_or] at hin
              cases hx : (X1 == a) with
              | false =>
                rw [hx, Bool.false_and] at hin
                have HI := Lib.hid hin
                clear hin
                go_wp2_with fail
                go_roundw
                case rel => exact ⟨j + 1, by omega, by go_num, by rw [HI.out], HB2.out⟩
                case measure => simp [intOf]; omega
              | true =>
                rw [hx, Bool.true_and] at hin
                have HI := Lib.hid hin
                clear hin
                go_wp2_with fail
                go_roundw
                case rel => exact ⟨j + 1, by omega, by go_num, by rw [HI.out], HB2.out⟩
                case measure => simp [intOf]; omega
        · subst hl1
          have d1 : decide (P1 < P1) = false := decide_eq_false (by omega)
          have d2 : (P1 == P1) = true := by simp
          have d3 : decide (X2 ≤ P2) = false := decide_eq_false (by omega)
          clear hl2
          have HK : Hid (∀ W', Below wr.heap.size wr W' → W'.cell? ⟨w.heap.size, 0, none⟩ = some (.int .i64 k) ∧ W'.cell? ⟨w.heap.size, 1, none⟩ = some (.slice A l.length c) ∧ W'.cell? (ad.add (j * 2)) = some (.int .i64 P1) ∧ W'.cell? ⟨(ad.add (j * 2)).block, (ad.add (j * 2)).off + 1, none⟩ = some (.int .i64 X2) ∧ W'.cell? (ad.add (i * 2)) = some (.int .i64 P1) ∧ W'.cell? ⟨(ad.add (i * 2)).block, (ad.add (i * 2)).off + 1, none⟩ = some (.int .i64 P2)) := fun W' h => (by have t := (T3.out.later (below_all HB.out h)).cells; have q := hE.below hblk (below_all HB.out h); have z := hE0.below hblk (below_all HB.out h); exact ⟨t.1, t.2, q.c0, q.c1, z.c0, z.c1⟩)
          obtain ⟨a0, a1, x0, x1, z0, z1⟩ := HK.out _ (Below.refl _ wr)
          have k0 := cell_regrown a0
          have k1 := cell_regrown a1
          have k2 := cell_regrown x0
          have k3 := cell_regrown x1
          have k4 := cell_regrown z0
          have k5 := cell_regrown z1
          have cH : ∀ d os, Calls Try.prog 14 #[.agg #[.int .i64 (k : Int), .slice A l.length c], .int .i64 P1, .int .i64 X2] (Sort.grow (redrawn wr d) os) fun e w'' => e = .returned (.bool true) ∧ ∃ p : Regrown, w'' = Sort.grow (redrawn wr p.d) p.os := fun d os => Calls.regrown_of ((FX.out _ (UA.out.below (below_regrown wr d os))).mono fun _ _ h => h)
          clear a0 a1 x0 x1 z0 z1
          go_wp2_with fail
          refine wp_region_quiet_below (by kernel_rfl) (by kernel_rfl) ?_
          repeat (go_big_quiet_step (exact cH _ _))
          refine wpQuiet_nil ?_
          intro _ hw1
          obtain ⟨⟨dq, osq⟩, hw2⟩ := hw1
          subst hw2
          have Y1 := Lib.hid (below_regrown wr dq osq)
          clear k0 k1 k2 k3 k4 k5 cH
          generalize Sort.grow (redrawn wr dq) osq = w5 at *
          all_goals
            obtain ⟨a0, a1⟩ := (T3.out.later (below_all HB.out Y1.out)).cells
            have HB2 := Lib.hid (below_all HB.out Y1.out)
            obtain ⟨x0, x1⟩ := hE.below hblk HB2.out
            clear Y1
            cases hq : Gf.inTo es a b j with
            | true =>
              rw [hq, Bool.true_or] at hin
              have HI := Lib.hid hin
              clear hin
              go_wp2_with fail
              go_roundw
              case rel => exact ⟨j + 1, by omega, by go_num, by rw [HI.out], HB2.out⟩
              case measure => simp [intOf]; omega
            | false =>
              rw [hq, Bool.false_or] at hin
              cases hx : (P1 == a) with
              | false =>
                rw [hx, Bool.false_and] at hin
                have HI := Lib.hid hin
                clear hin
                go_wp2_with fail
                go_roundw
                case rel => exact ⟨j + 1, by omega, by go_num, by rw [HI.out], HB2.out⟩
                case measure => simp [intOf]; omega
              | true =>
                rw [hx, Bool.true_and] at hin
                have HI := Lib.hid hin
                clear hin
                go_wp2_with fail
                go_roundw
                case rel => exact ⟨j + 1, by omega, by go_num, by rw [HI.out], HB2.out⟩
                case measure => simp [intOf]; omega
    · have hje : j = es.length := by omega
      subst hje
      have hqa := HIA.out
      have FM := Lib.hid (fun u v w h1 h2 => rSame12_at (k : Int) u v l w h1 h2 (by omega))
      have FX := Lib.hid (fun w h => FH.out w a b h)
      rw [hqa]
      have hqq : (Gf.hasR (k : Int) l a b == Gf.hasR (k : Int) l a b) = true := by simp
      generalize Gf.hasR (k : Int) l a b = hr at *
      have UA := Lib.hid (HU.out.below (below_all B3.out HB.out))
      have TA := Lib.hid (T3.out.later HB.out)
      obtain ⟨a0, a1⟩ := TA.out.cells
      have FMD := Lib.hid (fun w h => gfMade_at k HOK.out.1 es (.slice AE es.length cE) w h HND.out (by omega))
      rw [HMD.out] at FMD
      clear hqa HIA HIN HI0 HHS HNX HF
      go_wp2_with fail
      refine (FMD.out _ (IE.out.below HB.out)).mono ?_
      rintro e w5 ⟨v5, rfl, ho5, hb5⟩
      obtain ⟨A5, c5, rfl⟩ := ho5.form
      have b6 := alloc_below w5 (.cells #[.int .i64 k, .slice A5 l.length c5] 24)
      have T6 := Lib.hid (TA.out.later (below_all hb5 b6))
      have U6 := Lib.hid (UA.out.below (below_all hb5 b6))
      have B6 := Lib.hid (below_all (below_all B3.out HB.out) (below_all hb5 b6))
      have H6 := Lib.hid (Two.new w5 24 (.int .i64 k) (.slice A5 l.length c5))
      have UH6 := Lib.hid (ho5.us.below b6)
      clear hb5 ho5 b6 a0 a1 TA UA
      go_wp2_with fail
      generalize w5.alloc (.cells #[.int .i64 k, .slice A5 l.length c5] 24) = w6 at *
      generalize w5.heap.size = oh at *
      have HK : Hid (∀ W', Below w6.heap.size w6 W' → W'.cell? ⟨w.heap.size, 0, none⟩ = some (.int .i64 k) ∧ W'.cell? ⟨w.heap.size, 1, none⟩ = some (.slice A l.length c) ∧ W'.cell? ⟨oh, 0, none⟩ = some (.int .i64 k) ∧ W'.cell? ⟨oh, 1, none⟩ = some (.slice A5 l.length c5)) := fun W' h =>
        ⟨(T6.out.later h).cells.1, (T6.out.later h).cells.2, (H6.out.later h).cells.1, (H6.out.later h).cells.2⟩
      obtain ⟨a0, a1, x0, x1⟩ := HK.out _ (Below.refl _ w6)
      have D := Lib.hid (Below.refl w6.heap.size w6).drew
      go_region_held3 (fun W' => W'.cell? ⟨w.heap.size, 0, none⟩ = some (.int .i64 k) ∧ W'.cell? ⟨w.heap.size, 1, none⟩ = some (.slice A l.length c) ∧ W'.cell? ⟨oh, 0, none⟩ = some (.int .i64 k) ∧ W'.cell? ⟨oh, 1, none⟩ = some (.slice A5 l.length c5))
        (first | (exact ⟨a0, a1, x0, x1⟩) | (exact HK.out _ D.out) | (exact HK.out _ Y1.out) | (exact HK.out _ Y2.out) | (exact HK.out _ Y3.out) | (exact HK.out _ Y4.out))
        (first
          | (go_at_call 8; (with_reducible refine (gfPlain_at (k : Int) (.slice A l.length c) l _ (U6.out.below D.out)).mono ?_); rintro e z1 ⟨rfl, hz⟩; have Y1 := Lib.hid (below_all D.out hz); clear hz)
          | (go_at_call 8; (with_reducible refine (gfPlain_at (k : Int) (.slice A5 l.length c5) l _ (UH6.out.below Y1.out)).mono ?_); rintro e z2 ⟨rfl, hz⟩; have Y2 := Lib.hid (below_all Y1.out hz); clear hz)
          | (go_at_call 13; (with_reducible refine (FM.out _ _ _ (U6.out.below Y2.out) (UH6.out.below Y2.out)).mono ?_); rintro e z3 ⟨rfl, hz⟩; have Y3 := Lib.hid (below_all Y2.out hz); clear hz)
          | (go_at_call 14; (with_reducible refine (FX.out _ (U6.out.below Y3.out)).mono ?_); rintro e z4 ⟨rfl, hz⟩; have Y4 := Lib.hid (below_all Y3.out hz); clear hz))
      all_goals
        go_wp2_with fail
        go_ret
        exact ⟨ret_bool (by first | rfl | exact hqq), below_all B6.out Y4.out⟩
end Go.Proofs.Ytcpiaddohiokkaa
