/-
  The law KnownSo: the sessions' order is closed, leads nowhere back, and of two of one session it has one edge, from the lesser one.
  Conditions: the first argument reads as a history; the library's table for the lowest bit holds what its text says.
-/
import Derived.Test.YtlhinlfgmfenoaaDoorKnAwake
import Derived.Test.YtlhinlfgmfenoaaDoorHiAll
import Derived.Test.YtlhinlfgmfenoaaDoorRcAll
import Derived.Lib.QuietBelow
import Derived.Deep.RegionHeld3
set_option maxRecDepth 4000
namespace Go.Proofs.YtlhinlfgmfenoaaDoor
open Go.RowKit

theorem kn_far {n a b : Int} {l : List Nat} (q : a < 0 ∨ n ≤ a ∨ b < 0 ∨ n ≤ b) : Gf.hasR n l a b = false := by
  cases e : Gf.hasR n l a b with
  | false => rfl
  | true =>
    simp only [Gf.hasR, Gf.isN, Bool.and_eq_true, decide_eq_true_iff] at e
    omega

set_option maxHeartbeats 8000000 in
theorem lawKnownSo (h : List So.Txn) (u : Value) (a b : Int) (w : World) (hT : TZ w) (hv : Txns w u h) : Calls Tryd.prog 3 #[.agg #[u], .int .i64 a, .int .i64 b] w (RetBool w true) := by
  have HT := Lib.hid hT
  clear hT
  have HV := Lib.hid hv
  obtain ⟨A, c, rfl, -⟩ := hv.spelled
  have N_h := Lib.hid (Boxed.new w 24 (.slice A h.length c))
  have BW := Lib.hid (alloc_below w (.cells #[.slice A h.length c] 24))
  have V_h := Lib.hid (HV.out.below BW.out)
  clear hv
  go_enter Tryd.func3, Tryd.ntmps3
  go_wp2_with fail
  generalize w.alloc (.cells #[.slice A h.length c] 24) = W0 at *
  go_wp2_with fail
  refine (knAwake_at _).mono ?_
  rintro e W1 ⟨rfl, hb⟩
  have S1 := Lib.hid hb
  clear hb
  have h0 := (Boxed.later N_h.out S1.out).cell
  go_wp2_with fail
  refine (few8_at h _ _ (V_h.out.below S1.out)).mono ?_
  rintro e W2 ⟨rfl, hb⟩
  have S2 := Lib.hid hb
  clear hb
  clear h0
  cases hf : Hi.fewB h with
  | false =>
    clear hf
    have h0 := (Boxed.later N_h.out (below_all S1.out S2.out)).cell
    go_wp2_with fail
    go_ret
    exact ⟨rfl, (below_all BW.out (below_all S1.out S2.out))⟩
  | true =>
  have HSM := Lib.hid (Hi.few_small hf).2
  have h40 := (Hi.few_small hf).1
  clear hf
  have FRI := Lib.hid (fun w hw => hRight_at h (.slice A h.length c) w hw HSM.out.2)
  cases hrb : Hi.rightB h with
  | false =>
    rw [hrb] at FRI
    clear hrb
    have h0 := (Boxed.later N_h.out (below_all S1.out S2.out)).cell
    go_wp2_with fail
    refine (FRI.out _ (V_h.out.below (below_all S1.out S2.out))).mono ?_
    rintro e W3 ⟨rfl, hb⟩
    have S3 := Lib.hid hb
    clear hb
    clear h0
    have h0 := (Boxed.later N_h.out (below_all (below_all S1.out S2.out) S3.out)).cell
    go_wp2_with fail
    go_ret
    exact ⟨rfl, (below_all BW.out (below_all (below_all S1.out S2.out) S3.out))⟩
  | true =>
  rw [hrb] at FRI
  obtain ⟨en, es, ew, ei, ep⟩ := Kn.all_yes hrb
  have HR := Lib.hid ((Hi.rightB_iff _).1 hrb)
  have h32 : h.length ≤ 32 := HR.out.1
  have F_s := Lib.hid (fun w hw => knSo_at h (.slice A h.length c) w hw HSM.out)
  rw [en, es] at F_s
  have F_x := Lib.hid (fun w hw => knWr_at h (.slice A h.length c) w hw HSM.out)
  rw [en, ew] at F_x
  have F_t := Lib.hid (fun w hw => knInit_at h (.slice A h.length c) w hw HSM.out)
  rw [en, ei] at F_t
  have F_p := Lib.hid (fun w hw => knPast_at h (.slice A h.length c) w hw HSM.out)
  rw [en, ep] at F_p
  clear hrb en es ew ei ep
  clear F_x F_t F_p
  have h0 := (Boxed.later N_h.out (below_all S1.out S2.out)).cell
  go_wp2_with fail
  refine (FRI.out _ (V_h.out.below (below_all S1.out S2.out))).mono ?_
  rintro e W3 ⟨rfl, hb⟩
  have S3 := Lib.hid hb
  clear hb
  clear h0
  have HSO := Lib.hid (Kn.so_ok HR.out)
  have HSL := Lib.hid (Kn.so_len h)
  have HCL := Lib.hid (Kn.so_closed HR.out)
  have HSM2 : Hid (∀ s ∈ Kn.soR h, s < 18446744073709551616) := fun s hs => HSO.out.small hs
  have hca : Rc.cyclicA (h.length : Int) (Kn.soR h) = false := by
    rw [Rc.cyclicA, (Gf.okB_nat _ _).2 HSO.out, Int.toNat_natCast, Kn.so_none HR.out]
    rfl
  have HLE : Hid ((Kn.soR h).length ≤ 4294967296) := by rw [Hid, Kn.so_len]; omega
  have HBI : Hid (∀ x y (hx : x < h.length) (hy : y < h.length), Gf.bit (Kn.soR h) x y = (decide (x < y) && (h[x].session == h[y].session))) := fun x y hx hy => by
    rw [Kn.soR, Gf.build_bit (Kn.len64 HR.out), decide_eq_true hx, decide_eq_true hy, Bool.true_and, Bool.true_and, Kn.soB, List.getElem?_eq_getElem hx, List.getElem?_eq_getElem hy]
    simp only [Option.map_some, Option.some.injEq]
    rfl
  have h0 := (Boxed.later N_h.out (below_all (below_all S1.out S2.out) S3.out)).cell
  go_wp2_with fail
  refine (F_s.out _ (V_h.out.below (below_all (below_all S1.out S2.out) S3.out))).mono ?_
  rintro e V ⟨v, rfl, ho, hb⟩
  obtain ⟨A_s, c_s, rfl, hu_s⟩ := own_is (k := h.length) ho HSL.out
  clear ho
  have b := alloc_below V (.cells #[.int .i64 h.length, .slice A_s h.length c_s] 30)
  have S4 := Lib.hid (below_all hb b)
  have T_s := Lib.hid (Two.new V 30 (.int .i64 h.length) (.slice A_s h.length c_s))
  have U_s := Lib.hid (hu_s.below b)
  clear hb b
  clear h0
  obtain ⟨s0, s1⟩ := T_s.out.cells
  go_wp2_with fail
  generalize V.alloc (.cells #[.int .i64 h.length, .slice A_s h.length c_s] 30) = W4 at *
  generalize V.heap.size = o_s at *
  refine (rcClose_at h.length (.slice A_s h.length c_s) (Kn.soR h) _ (HT.out.below (below_all BW.out (below_all (below_all (below_all S1.out S2.out) S3.out) S4.out))) U_s.out HSO.out).mono ?_
  rintro e V ⟨v, rfl, ho, hb⟩
  rw [HCL.out] at ho
  obtain ⟨A_c, c_c, rfl, hu_c⟩ := own_is (k := h.length) ho HSL.out
  clear ho
  have b := alloc_below V (.cells #[.int .i64 h.length, .slice A_c h.length c_c] 30)
  have S5 := Lib.hid (below_all hb b)
  have T_c := Lib.hid (Two.new V 30 (.int .i64 h.length) (.slice A_c h.length c_c))
  have U_c := Lib.hid (hu_c.below b)
  clear hb b
  clear s0 s1
  go_wp2_with fail
  generalize V.alloc (.cells #[.int .i64 h.length, .slice A_c h.length c_c] 30) = W5 at *
  generalize V.heap.size = o_c at *
  have UC_s := Lib.hid (U_s.out.below S5.out)
  have UC_c := Lib.hid U_c.out
  have TC := Lib.hid (HT.out.below (below_all BW.out (below_all (below_all (below_all (below_all S1.out S2.out) S3.out) S4.out) S5.out)))
  have FC := Lib.hid (fun w h0 h1 => rcCyclic_at h.length (.slice A_s h.length c_s) (Kn.soR h) w h0 h1 HSM2.out)
  rw [hca] at FC
  clear hca
  have FH := Lib.hid (fun a b w h0 => gfHas_at h.length (.slice A_s h.length c_s) (Kn.soR h) a b w h0 HSM2.out)
  have HNO : Hid (∀ a b : Int, a < 0 ∨ (h.length : Int) ≤ a ∨ b < 0 ∨ (h.length : Int) ≤ b → Gf.hasR (h.length : Int) (Kn.soR h) a b = false) := fun a b q => kn_far q
  have HYES : Hid (∀ x y : Nat, x < h.length → y < h.length → Gf.hasR (h.length : Int) (Kn.soR h) x y = Gf.bit (Kn.soR h) x y) := fun x y hx hy => Gf.hasR_nat HSO.out hx hy
  generalize Kn.soR h = ls at *
  have hnn : ((h.length : Int) != (h.length : Int)) = false := bne_self_eq_false _
  have HK : Hid (∀ W', Below W5.heap.size W5 W' → W'.cell? ⟨o_s, 0, none⟩ = some (.int .i64 h.length) ∧ W'.cell? ⟨o_s, 1, none⟩ = some (.slice A_s h.length c_s) ∧ W'.cell? ⟨o_c, 0, none⟩ = some (.int .i64 h.length) ∧ W'.cell? ⟨o_c, 1, none⟩ = some (.slice A_c h.length c_c) ∧ W'.cell? ⟨w.heap.size, 0, none⟩ = some (.slice A h.length c)) := fun W' h => ⟨(T_s.out.later (below_all S5.out h)).cells.1, (T_s.out.later (below_all S5.out h)).cells.2, (T_c.out.later h).cells.1, (T_c.out.later h).cells.2, (Boxed.later N_h.out (below_all (below_all (below_all (below_all (below_all S1.out S2.out) S3.out) S4.out) S5.out) h)).cell⟩
  obtain ⟨s0, s1, c0, c1, h0⟩ := HK.out _ (Below.refl _ W5)
  have D := Lib.hid (Below.refl W5.heap.size W5).drew
  go_region_held3 (fun W' => W'.cell? ⟨o_s, 0, none⟩ = some (.int .i64 h.length) ∧ W'.cell? ⟨o_s, 1, none⟩ = some (.slice A_s h.length c_s) ∧ W'.cell? ⟨o_c, 0, none⟩ = some (.int .i64 h.length) ∧ W'.cell? ⟨o_c, 1, none⟩ = some (.slice A_c h.length c_c) ∧ W'.cell? ⟨w.heap.size, 0, none⟩ = some (.slice A h.length c))
    (first | (exact ⟨s0, s1, c0, c1, h0⟩) | (exact HK.out _ D.out) | (exact HK.out _ Y1.out) | (exact HK.out _ Y2.out) | (exact HK.out _ Y3.out) | (exact HK.out _ Y4.out))
    (first
        | (go_at_call 10; (with_reducible refine (knPlain_at h.length (.slice A_c h.length c_c) ls _ (UC_c.out.below D.out)).mono ?_); rintro e z1 ⟨rfl, hz⟩; have Y1 := Lib.hid (below_all D.out hz); clear hz)
        | (go_at_call 10; (with_reducible refine (knPlain_at h.length (.slice A_s h.length c_s) ls _ (UC_s.out.below Y1.out)).mono ?_); rintro e z2 ⟨rfl, hz⟩; have Y2 := Lib.hid (below_all Y1.out hz); clear hz)
        | (go_at_call 9; (with_reducible refine (rSame12_at h.length (.slice A_c h.length c_c) (.slice A_s h.length c_s) ls _ (UC_c.out.below Y2.out) (UC_s.out.below Y2.out) HLE.out).mono ?_); rintro e z3 ⟨rfl, hz⟩; have Y3 := Lib.hid (below_all Y2.out hz); clear hz)
        | (go_at_call 11; (with_reducible refine (FC.out _ (TC.out.below Y3.out) (UC_s.out.below Y3.out)).mono ?_); rintro e W6 ⟨rfl, hz⟩; have Y4 := Lib.hid (below_all Y3.out hz); clear hz))
  all_goals
    have S6 := Lib.hid Y4.out
    clear s0 s1 c0 c1 h0 HK D Y1 Y2 Y3 Y4
    by_cases ha0 : a < 0
    ·
      have FX := Lib.hid (fun w h0 => FH.out a b w h0)
      rw [HNO.out a b (.inl ha0)] at FX
      have h0 := (Boxed.later N_h.out (below_all (below_all (below_all (below_all (below_all S1.out S2.out) S3.out) S4.out) S5.out) S6.out)).cell
      obtain ⟨s0, s1⟩ := (T_s.out.later (below_all S5.out S6.out)).cells
      go_wp2_with fail
      refine (FX.out _ (U_s.out.below (below_all S5.out S6.out))).mono ?_
      rintro e W7 ⟨rfl, hb⟩
      have S7 := Lib.hid hb
      clear hb
      clear h0 s0 s1
      go_wp2_with fail
      go_ret
      exact ⟨rfl, (below_all BW.out (below_all (below_all (below_all (below_all (below_all (below_all S1.out S2.out) S3.out) S4.out) S5.out) S6.out) S7.out))⟩
    by_cases ha1 : (h.length : Int) ≤ a
    ·
      have FX := Lib.hid (fun w h0 => FH.out a b w h0)
      rw [HNO.out a b (.inr (.inl ha1))] at FX
      have h0 := (Boxed.later N_h.out (below_all (below_all (below_all (below_all (below_all S1.out S2.out) S3.out) S4.out) S5.out) S6.out)).cell
      obtain ⟨s0, s1⟩ := (T_s.out.later (below_all S5.out S6.out)).cells
      go_wp2_with fail
      refine (FX.out _ (U_s.out.below (below_all S5.out S6.out))).mono ?_
      rintro e W7 ⟨rfl, hb⟩
      have S7 := Lib.hid hb
      clear hb
      clear h0 s0 s1
      go_wp2_with fail
      go_ret
      exact ⟨rfl, (below_all BW.out (below_all (below_all (below_all (below_all (below_all (below_all S1.out S2.out) S3.out) S4.out) S5.out) S6.out) S7.out))⟩
    by_cases hb0 : b < 0
    ·
      have FX := Lib.hid (fun w h0 => FH.out a b w h0)
      rw [HNO.out a b (.inr (.inr (.inl hb0)))] at FX
      have h0 := (Boxed.later N_h.out (below_all (below_all (below_all (below_all (below_all S1.out S2.out) S3.out) S4.out) S5.out) S6.out)).cell
      obtain ⟨s0, s1⟩ := (T_s.out.later (below_all S5.out S6.out)).cells
      go_wp2_with fail
      refine (FX.out _ (U_s.out.below (below_all S5.out S6.out))).mono ?_
      rintro e W7 ⟨rfl, hb⟩
      have S7 := Lib.hid hb
      clear hb
      clear h0 s0 s1
      go_wp2_with fail
      go_ret
      exact ⟨rfl, (below_all BW.out (below_all (below_all (below_all (below_all (below_all (below_all S1.out S2.out) S3.out) S4.out) S5.out) S6.out) S7.out))⟩
    by_cases hb1 : (h.length : Int) ≤ b
    ·
      have FX := Lib.hid (fun w h0 => FH.out a b w h0)
      rw [HNO.out a b (.inr (.inr (.inr hb1)))] at FX
      have h0 := (Boxed.later N_h.out (below_all (below_all (below_all (below_all (below_all S1.out S2.out) S3.out) S4.out) S5.out) S6.out)).cell
      obtain ⟨s0, s1⟩ := (T_s.out.later (below_all S5.out S6.out)).cells
      go_wp2_with fail
      refine (FX.out _ (U_s.out.below (below_all S5.out S6.out))).mono ?_
      rintro e W7 ⟨rfl, hb⟩
      have S7 := Lib.hid hb
      clear hb
      clear h0 s0 s1
      go_wp2_with fail
      go_ret
      exact ⟨rfl, (below_all BW.out (below_all (below_all (below_all (below_all (below_all (below_all S1.out S2.out) S3.out) S4.out) S5.out) S6.out) S7.out))⟩
    obtain ⟨x, rfl⟩ : ∃ x : Nat, a = (x : Int) := ⟨a.toNat, by omega⟩
    obtain ⟨y, rfl⟩ : ∃ y : Nat, b = (y : Int) := ⟨b.toNat, by omega⟩
    have hxh : x < h.length := by omega
    have hyh : y < h.length := by omega
    have FX := Lib.hid (fun w h0 => FH.out x y w h0)
    rw [HYES.out x y hxh hyh, HBI.out x y hxh hyh] at FX
    obtain ⟨A', c', e, hf⟩ := (V_h.out.below (below_all (below_all (below_all (below_all (below_all S1.out S2.out) S3.out) S4.out) S5.out) S6.out)).spelled
    cases e
    obtain ⟨ad, _, _, hA1, -, i1, -, -⟩ := hf x hxh
    obtain ⟨ad', _, _, hA2, -, i2, -, -⟩ := hf y hyh
    subst hA1
    cases hA2
    have X0 := Lib.hid i1.c0
    have Y0 := Lib.hid i2.c0
    clear hf i1 i2
    generalize (h[x]'hxh).session = sx at *
    generalize (h[y]'hyh).session = sy at *
    have hx1 : (0 : Int) ≤ (x : Int) := Int.natCast_nonneg _
    have hy1 : (0 : Int) ≤ (y : Int) := Int.natCast_nonneg _
    have hx2 : (x : Int) < (h.length : Int) := by omega
    have hy2 : (y : Int) < (h.length : Int) := by omega
    clear ha0 ha1 hb0 hb1
    have h0 := (Boxed.later N_h.out (below_all (below_all (below_all (below_all (below_all S1.out S2.out) S3.out) S4.out) S5.out) S6.out)).cell
    by_cases hxy : x < y
    ·
      have hd1 : decide ((x : Int) < (y : Int)) = true := decide_eq_true (by omega)
      have hd2 : decide (x < y) = true := decide_eq_true hxy
      rw [hd2, Bool.true_and] at FX
      generalize hss : (sx == sy) = q at *
      have hqq : (q == q) = true := by simp
      clear hxy
      go_wp2_with fail
      clear h0
      have UC_s := Lib.hid (U_s.out.below (below_all S5.out S6.out))
      have HK : Hid (∀ W', Below W6.heap.size W6 W' → W'.cell? ⟨o_s, 0, none⟩ = some (.int .i64 h.length) ∧ W'.cell? ⟨o_s, 1, none⟩ = some (.slice A_s h.length c_s) ∧ W'.cell? ⟨w.heap.size, 0, none⟩ = some (.slice (some ad) h.length c) ∧ W'.cell? (ad.add (x * 3)) = some (.int .i64 sx) ∧ W'.cell? (ad.add (y * 3)) = some (.int .i64 sy)) := fun W' h => ⟨(T_s.out.later (below_all (below_all S5.out S6.out) h)).cells.1, (T_s.out.later (below_all (below_all S5.out S6.out) h)).cells.2, (Boxed.later N_h.out (below_all (below_all (below_all (below_all (below_all (below_all S1.out S2.out) S3.out) S4.out) S5.out) S6.out) h)).cell, st_stays h X0.out, st_stays h Y0.out⟩
      obtain ⟨s0, s1, h0, x0, y0⟩ := HK.out _ (Below.refl _ W6)
      have D := Lib.hid (Below.refl W6.heap.size W6).drew
      go_region_held3 (fun W' => W'.cell? ⟨o_s, 0, none⟩ = some (.int .i64 h.length) ∧ W'.cell? ⟨o_s, 1, none⟩ = some (.slice A_s h.length c_s) ∧ W'.cell? ⟨w.heap.size, 0, none⟩ = some (.slice (some ad) h.length c) ∧ W'.cell? (ad.add (x * 3)) = some (.int .i64 sx) ∧ W'.cell? (ad.add (y * 3)) = some (.int .i64 sy))
        (first | (exact ⟨s0, s1, h0, x0, y0⟩) | (exact HK.out _ D.out) | (exact HK.out _ Y1.out))
        (first
                | (go_at_call 12; (with_reducible refine (FX.out _ (UC_s.out.below D.out)).mono ?_); rintro e W7 ⟨rfl, hz⟩; have Y1 := Lib.hid (below_all D.out hz); clear hz))
      all_goals
        have S7 := Lib.hid Y1.out
        clear s0 s1 h0 x0 y0 HK D Y1
        go_wp2_with fail
        go_ret
        exact ⟨by simp, (below_all BW.out (below_all (below_all (below_all (below_all (below_all (below_all S1.out S2.out) S3.out) S4.out) S5.out) S6.out) S7.out))⟩
    ·
      have hd1 : decide ((x : Int) < (y : Int)) = false := decide_eq_false (by omega)
      have hd2 : decide (x < y) = false := decide_eq_false hxy
      rw [hd2, Bool.false_and] at FX
      clear hxy
      go_wp2_with fail
      clear h0
      have UC_s := Lib.hid (U_s.out.below (below_all S5.out S6.out))
      have HK : Hid (∀ W', Below W6.heap.size W6 W' → W'.cell? ⟨o_s, 0, none⟩ = some (.int .i64 h.length) ∧ W'.cell? ⟨o_s, 1, none⟩ = some (.slice A_s h.length c_s) ∧ W'.cell? ⟨w.heap.size, 0, none⟩ = some (.slice (some ad) h.length c) ∧ W'.cell? (ad.add (x * 3)) = some (.int .i64 sx) ∧ W'.cell? (ad.add (y * 3)) = some (.int .i64 sy)) := fun W' h => ⟨(T_s.out.later (below_all (below_all S5.out S6.out) h)).cells.1, (T_s.out.later (below_all (below_all S5.out S6.out) h)).cells.2, (Boxed.later N_h.out (below_all (below_all (below_all (below_all (below_all (below_all S1.out S2.out) S3.out) S4.out) S5.out) S6.out) h)).cell, st_stays h X0.out, st_stays h Y0.out⟩
      obtain ⟨s0, s1, h0, x0, y0⟩ := HK.out _ (Below.refl _ W6)
      have k0 := cell_regrown s0
      have k1 := cell_regrown s1
      have k2 := cell_regrown h0
      have k3 := cell_regrown x0
      have k4 := cell_regrown y0
      have q0 : ∀ rd os, Calls Tryd.prog 12 #[.agg #[.int .i64 h.length, .slice A_s h.length c_s], .int .i64 x, .int .i64 y] (Sort.grow (redrawn W6 rd) os) fun e w'' => e = .returned (.bool false) ∧ ∃ p : Regrown, w'' = Sort.grow (redrawn W6 p.d) p.os := fun rd os => Calls.regrown_of ((FX.out _ (UC_s.out.below (below_regrown W6 rd os))).mono fun _ _ h => h)
      clear HK s0 s1 h0 x0 y0
      refine wp_region_quiet_below (by kernel_rfl) (by kernel_rfl) ?_
      repeat (go_big_quiet_step (first | (with_reducible exact q0 _ _)))
      refine wpQuiet_nil ?_
      intro _ hw1
      obtain ⟨⟨dq, osq⟩, hw2⟩ := hw1
      subst hw2
      have S7 := Lib.hid (below_regrown W6 dq osq)
      clear k0 k1 k2 k3 k4 q0
      generalize Sort.grow (redrawn W6 dq) osq = W7 at *
      go_wp2_with fail
      go_ret
      exact ⟨rfl, (below_all BW.out (below_all (below_all (below_all (below_all (below_all (below_all S1.out S2.out) S3.out) S4.out) S5.out) S6.out) S7.out))⟩
end Go.Proofs.YtlhinlfgmfenoaaDoor
