/-
  The law GraphTurns: turned twice a graph is the same; a composition turned is that of both turned, the other way round; with itself united it is the same.
  Conditions: rows hold sets below 2^64.
-/
import Derived.Test.YtcpiaddohiokkaaGfBothLaw
set_option maxRecDepth 4000
namespace Go.Proofs.Ytcpiaddohiokkaa
open Go.RowKit

set_option maxHeartbeats 8000000 in
theorem lawGraphTurns (n : Int) (u : Value) (a : List Nat) (m : Int) (v : Value) (b : List Nat) (w : World) (hu : Us w u a) (ha : ∀ x ∈ a, x < 18446744073709551616) (hv : Us w v b) (hb : ∀ x ∈ b, x < 18446744073709551616) : Calls Try.prog 6 #[.agg #[.int .i64 n, u], .agg #[.int .i64 m, v]] w (RetBool w true) := by
  have HU := Lib.hid hu
  have HV := Lib.hid hv
  obtain ⟨A, c, rfl, -⟩ := hu.spelled
  obtain ⟨B, d, rfl, -⟩ := hv.spelled
  clear hu hv
  have GA := Lib.hid (fun w h => gfRight_at n (.slice A a.length c) a w h ha)
  have GB := Lib.hid (fun w h => gfRight_at m (.slice B b.length d) b w h hb)
  have hmm := Lib.hid (@Gf.match_iff n m a b)
  have hmr : Gf.matchR n m a b = (Gf.okB n a && (Gf.okB m b && (n == m))) := rfl
  have HMR := Lib.hid hmr
  clear hmr ha hb
  generalize hp : Gf.okB n a = p at *
  generalize hq : Gf.okB m b = q at *
  have HP := Lib.hid hp
  have HQ := Lib.hid hq
  clear hp hq
  go_enter Try.func6, Try.ntmps6
  go_wp2_with fail
  obtain ⟨t0, t1, bw⟩ := gl_two w n m (.slice A a.length c) (.slice B b.length d) rfl
  have T0 := Lib.hid t0
  have T1 := Lib.hid t1
  have BW := Lib.hid bw
  clear t0 t1 bw
  generalize (w.alloc (.cells #[.int .i64 n, .slice A a.length c] 24)).alloc (.cells #[.int .i64 m, .slice B b.length d] 24) = W at *
  refine (gfAwake_at _).mono ?_
  rintro e w1 ⟨rfl, hb1⟩
  have X1 := Lib.hid hb1
  have B1 := Lib.hid (below_all BW.out hb1)
  clear hb1
  obtain ⟨a0, a1⟩ := (T0.out.later X1.out).cells
  obtain ⟨b0, b1⟩ := (T1.out.later X1.out).cells
  by_cases h70 : 70 < a.length
  · go_wp2_with fail
    go_ret
    exact ⟨rfl, B1.out⟩
  by_cases h71 : 70 < b.length
  · go_wp2_with fail
    go_ret
    exact ⟨rfl, B1.out⟩
  go_wp2_with fail
  refine (GA.out _ (HU.out.below B1.out)).mono ?_
  rintro e w2 ⟨rfl, hb2⟩
  have X2 := Lib.hid (below_all X1.out hb2)
  have B2 := Lib.hid (below_all B1.out hb2)
  clear hb2 a0 a1 b0 b1 X1 B1
  cases p with
  | false =>
    go_wp2_with fail
    go_ret
    exact ⟨rfl, B2.out⟩
  | true =>
  obtain ⟨b0, b1⟩ := (T1.out.later X2.out).cells
  go_wp2_with fail
  refine (GB.out _ (HV.out.below B2.out)).mono ?_
  rintro e w3 ⟨rfl, hb3⟩
  have TA := Lib.hid (T0.out.later (below_all X2.out hb3))
  have TB := Lib.hid (T1.out.later (below_all X2.out hb3))
  have BB := Lib.hid (below_all B2.out hb3)
  have UA := Lib.hid (HU.out.below BB.out)
  have UB := Lib.hid (HV.out.below BB.out)
  clear hb3 b0 b1 X2 B2 T0 T1 BW HU HV
  cases q with
  | false =>
    go_wp2_with fail
    go_ret
    exact ⟨rfl, BB.out⟩
  | true =>
  obtain ⟨a0, a1⟩ := TA.out.cells
  obtain ⟨b0, b1⟩ := TB.out.cells
  by_cases hne : n = m
  case neg =>
    have hne' : (n != m) = true := by rw [bne_iff_ne]; exact hne
    go_wp2_with fail
    go_ret
    exact ⟨rfl, BB.out⟩
  subst hne
  have hne' : (n != n) = false := by simp
  obtain ⟨k, hnk, -, oka, okb⟩ := hmm.out.1 (by rw [HMR.out]; simp)
  subst hnk
  have OA := Lib.hid oka
  have OB := Lib.hid okb
  have h64 := Lib.hid oka.1
  clear oka okb GA GB hmm HMR HP HQ

  go_wp2_with fail
  refine (gfTurn_at k _ a _ UA.out OA.out).mono ?_
  rintro e wta ⟨vta, rfl, ho, hb⟩
  obtain ⟨Ata, cta, hvv⟩ := ho.form
  subst hvv
  have hlta : (Gf.turnR k a).length = k := Gf.build_len _ _
  rw [hlta] at ho ⊢
  have Ota : Hid (Gf.Ok k (Gf.turnR k a)) := Gf.build_ok h64.out _
  have bn := alloc_below wta (.cells #[.int .i64 (k : Int), .slice Ata k cta] 24)
  have Xta := Lib.hid (below_all hb bn)
  have Ta_0 := Lib.hid (TA.out.later Xta.out)
  have Ua_0 := Lib.hid (UA.out.below Xta.out)
  have Tb_0 := Lib.hid (TB.out.later Xta.out)
  have Ub_0 := Lib.hid (UB.out.below Xta.out)
  have Tta := Lib.hid (Two.new wta 24 (.int .i64 k) (.slice Ata k cta))
  have Uta := Lib.hid (ho.us.below bn)
  have BB0 := Lib.hid (below_all BB.out Xta.out)
  clear hb bn ho TA TB UA UB BB Xta hlta a0 a1 b0 b1
  obtain ⟨pb0, pb1⟩ := Tb_0.out.cells
  go_wp2_with fail
  generalize wta.alloc (.cells #[.int .i64 (k : Int), .slice Ata k cta] 24) = Wta at *
  generalize wta.heap.size = ota at *
  refine (gfTurn_at k _ b _ Ub_0.out OB.out).mono ?_
  rintro e wtb ⟨vtb, rfl, ho, hb⟩
  obtain ⟨Atb, ctb, hvv⟩ := ho.form
  subst hvv
  have hltb : (Gf.turnR k b).length = k := Gf.build_len _ _
  rw [hltb] at ho ⊢
  have Otb : Hid (Gf.Ok k (Gf.turnR k b)) := Gf.build_ok h64.out _
  have bn := alloc_below wtb (.cells #[.int .i64 (k : Int), .slice Atb k ctb] 24)
  have Xtb := Lib.hid (below_all hb bn)
  have Ta_1 := Lib.hid (Ta_0.out.later Xtb.out)
  have Ua_1 := Lib.hid (Ua_0.out.below Xtb.out)
  have Tb_1 := Lib.hid (Tb_0.out.later Xtb.out)
  have Ub_1 := Lib.hid (Ub_0.out.below Xtb.out)
  have Tta_1 := Lib.hid (Tta.out.later Xtb.out)
  have Uta_1 := Lib.hid (Uta.out.below Xtb.out)
  have Ttb := Lib.hid (Two.new wtb 24 (.int .i64 k) (.slice Atb k ctb))
  have Utb := Lib.hid (ho.us.below bn)
  have BB1 := Lib.hid (below_all BB0.out Xtb.out)
  clear hb bn ho Ta_0 Tb_0 Tta Ua_0 Ub_0 Uta BB0 Xtb hltb pb0 pb1
  obtain ⟨pta0, pta1⟩ := Tta_1.out.cells
  go_wp2_with fail
  generalize wtb.alloc (.cells #[.int .i64 (k : Int), .slice Atb k ctb] 24) = Wtb at *
  generalize wtb.heap.size = otb at *
  refine (gfTurn_at k _ (Gf.turnR k a) _ Uta_1.out Ota.out).mono ?_
  rintro e wbk ⟨vbk, rfl, ho, hb⟩
  obtain ⟨Abk, cbk, hvv⟩ := ho.form
  subst hvv
  have hlbk : (Gf.turnR k (Gf.turnR k a)).length = k := Gf.build_len _ _
  rw [hlbk] at ho ⊢
  have Obk : Hid (Gf.Ok k (Gf.turnR k (Gf.turnR k a))) := Gf.build_ok h64.out _
  have bn := alloc_below wbk (.cells #[.int .i64 (k : Int), .slice Abk k cbk] 24)
  have Xbk := Lib.hid (below_all hb bn)
  have Ta_2 := Lib.hid (Ta_1.out.later Xbk.out)
  have Ua_2 := Lib.hid (Ua_1.out.below Xbk.out)
  have Tb_2 := Lib.hid (Tb_1.out.later Xbk.out)
  have Ub_2 := Lib.hid (Ub_1.out.below Xbk.out)
  have Tta_2 := Lib.hid (Tta_1.out.later Xbk.out)
  have Uta_2 := Lib.hid (Uta_1.out.below Xbk.out)
  have Ttb_2 := Lib.hid (Ttb.out.later Xbk.out)
  have Utb_2 := Lib.hid (Utb.out.below Xbk.out)
  have Tbk := Lib.hid (Two.new wbk 24 (.int .i64 k) (.slice Abk k cbk))
  have Ubk := Lib.hid (ho.us.below bn)
  have BB2 := Lib.hid (below_all BB1.out Xbk.out)
  clear hb bn ho Ta_1 Tb_1 Tta_1 Ttb Ua_1 Ub_1 Uta_1 Utb BB1 Xbk hlbk pta0 pta1
  obtain ⟨pa0, pa1⟩ := Ta_2.out.cells
  obtain ⟨pb0, pb1⟩ := Tb_2.out.cells
  go_wp2_with fail
  generalize wbk.alloc (.cells #[.int .i64 (k : Int), .slice Abk k cbk] 24) = Wbk at *
  generalize wbk.heap.size = obk at *
  refine (gfCompose_at k _ _ a b _ Ua_2.out Ub_2.out OA.out OB.out).mono ?_
  rintro e wcc ⟨vcc, rfl, ho, hb⟩
  obtain ⟨Acc, ccc, hvv⟩ := ho.form
  subst hvv
  have hlcc : (Gf.composeR k a b).length = k := Gf.build_len _ _
  rw [hlcc] at ho ⊢
  have Occ : Hid (Gf.Ok k (Gf.composeR k a b)) := Gf.build_ok h64.out _
  have bn := alloc_below wcc (.cells #[.int .i64 (k : Int), .slice Acc k ccc] 24)
  have Xcc := Lib.hid (below_all hb bn)
  have Ta_3 := Lib.hid (Ta_2.out.later Xcc.out)
  have Ua_3 := Lib.hid (Ua_2.out.below Xcc.out)
  have Tb_3 := Lib.hid (Tb_2.out.later Xcc.out)
  have Ub_3 := Lib.hid (Ub_2.out.below Xcc.out)
  have Tta_3 := Lib.hid (Tta_2.out.later Xcc.out)
  have Uta_3 := Lib.hid (Uta_2.out.below Xcc.out)
  have Ttb_3 := Lib.hid (Ttb_2.out.later Xcc.out)
  have Utb_3 := Lib.hid (Utb_2.out.below Xcc.out)
  have Tbk_3 := Lib.hid (Tbk.out.later Xcc.out)
  have Ubk_3 := Lib.hid (Ubk.out.below Xcc.out)
  have Tcc := Lib.hid (Two.new wcc 24 (.int .i64 k) (.slice Acc k ccc))
  have Ucc := Lib.hid (ho.us.below bn)
  have BB3 := Lib.hid (below_all BB2.out Xcc.out)
  clear hb bn ho Ta_2 Tb_2 Tta_2 Ttb_2 Tbk Ua_2 Ub_2 Uta_2 Utb_2 Ubk BB2 Xcc hlcc pa0 pa1 pb0 pb1
  obtain ⟨pcc0, pcc1⟩ := Tcc.out.cells
  go_wp2_with fail
  generalize wcc.alloc (.cells #[.int .i64 (k : Int), .slice Acc k ccc] 24) = Wcc at *
  generalize wcc.heap.size = occ at *
  refine (gfTurn_at k _ (Gf.composeR k a b) _ Ucc.out Occ.out).mono ?_
  rintro e wtc ⟨vtc, rfl, ho, hb⟩
  obtain ⟨Atc, ctc, hvv⟩ := ho.form
  subst hvv
  have hltc : (Gf.turnR k (Gf.composeR k a b)).length = k := Gf.build_len _ _
  rw [hltc] at ho ⊢
  have Otc : Hid (Gf.Ok k (Gf.turnR k (Gf.composeR k a b))) := Gf.build_ok h64.out _
  have bn := alloc_below wtc (.cells #[.int .i64 (k : Int), .slice Atc k ctc] 24)
  have Xtc := Lib.hid (below_all hb bn)
  have Ta_4 := Lib.hid (Ta_3.out.later Xtc.out)
  have Ua_4 := Lib.hid (Ua_3.out.below Xtc.out)
  have Tb_4 := Lib.hid (Tb_3.out.later Xtc.out)
  have Ub_4 := Lib.hid (Ub_3.out.below Xtc.out)
  have Tta_4 := Lib.hid (Tta_3.out.later Xtc.out)
  have Uta_4 := Lib.hid (Uta_3.out.below Xtc.out)
  have Ttb_4 := Lib.hid (Ttb_3.out.later Xtc.out)
  have Utb_4 := Lib.hid (Utb_3.out.below Xtc.out)
  have Tbk_4 := Lib.hid (Tbk_3.out.later Xtc.out)
  have Ubk_4 := Lib.hid (Ubk_3.out.below Xtc.out)
  have Tcc_4 := Lib.hid (Tcc.out.later Xtc.out)
  have Ucc_4 := Lib.hid (Ucc.out.below Xtc.out)
  have Ttc := Lib.hid (Two.new wtc 24 (.int .i64 k) (.slice Atc k ctc))
  have Utc := Lib.hid (ho.us.below bn)
  have BB4 := Lib.hid (below_all BB3.out Xtc.out)
  clear hb bn ho Ta_3 Tb_3 Tta_3 Ttb_3 Tbk_3 Tcc Ua_3 Ub_3 Uta_3 Utb_3 Ubk_3 Ucc BB3 Xtc hltc pcc0 pcc1
  obtain ⟨pta0, pta1⟩ := Tta_4.out.cells
  obtain ⟨ptb0, ptb1⟩ := Ttb_4.out.cells
  go_wp2_with fail
  generalize wtc.alloc (.cells #[.int .i64 (k : Int), .slice Atc k ctc] 24) = Wtc at *
  generalize wtc.heap.size = otc at *
  refine (gfCompose_at k _ _ (Gf.turnR k b) (Gf.turnR k a) _ Utb_4.out Uta_4.out Otb.out Ota.out).mono ?_
  rintro e wdd ⟨vdd, rfl, ho, hb⟩
  obtain ⟨Add, cdd, hvv⟩ := ho.form
  subst hvv
  have hldd : (Gf.composeR k (Gf.turnR k b) (Gf.turnR k a)).length = k := Gf.build_len _ _
  rw [hldd] at ho ⊢
  have Odd : Hid (Gf.Ok k (Gf.composeR k (Gf.turnR k b) (Gf.turnR k a))) := Gf.build_ok h64.out _
  have bn := alloc_below wdd (.cells #[.int .i64 (k : Int), .slice Add k cdd] 24)
  have Xdd := Lib.hid (below_all hb bn)
  have Ta_5 := Lib.hid (Ta_4.out.later Xdd.out)
  have Ua_5 := Lib.hid (Ua_4.out.below Xdd.out)
  have Tb_5 := Lib.hid (Tb_4.out.later Xdd.out)
  have Ub_5 := Lib.hid (Ub_4.out.below Xdd.out)
  have Tta_5 := Lib.hid (Tta_4.out.later Xdd.out)
  have Uta_5 := Lib.hid (Uta_4.out.below Xdd.out)
  have Ttb_5 := Lib.hid (Ttb_4.out.later Xdd.out)
  have Utb_5 := Lib.hid (Utb_4.out.below Xdd.out)
  have Tbk_5 := Lib.hid (Tbk_4.out.later Xdd.out)
  have Ubk_5 := Lib.hid (Ubk_4.out.below Xdd.out)
  have Tcc_5 := Lib.hid (Tcc_4.out.later Xdd.out)
  have Ucc_5 := Lib.hid (Ucc_4.out.below Xdd.out)
  have Ttc_5 := Lib.hid (Ttc.out.later Xdd.out)
  have Utc_5 := Lib.hid (Utc.out.below Xdd.out)
  have Tdd := Lib.hid (Two.new wdd 24 (.int .i64 k) (.slice Add k cdd))
  have Udd := Lib.hid (ho.us.below bn)
  have BB5 := Lib.hid (below_all BB4.out Xdd.out)
  clear hb bn ho Ta_4 Tb_4 Tta_4 Ttb_4 Tbk_4 Tcc_4 Ttc Ua_4 Ub_4 Uta_4 Utb_4 Ubk_4 Ucc_4 Utc BB4 Xdd hldd pta0 pta1 ptb0 ptb1
  obtain ⟨pa0, pa1⟩ := Ta_5.out.cells
  go_wp2_with fail
  generalize wdd.alloc (.cells #[.int .i64 (k : Int), .slice Add k cdd] 24) = Wdd at *
  generalize wdd.heap.size = odd at *
  refine (gfUnion_at k _ _ a a _ Ua_5.out Ua_5.out OA.out OA.out).mono ?_
  rintro e wuu ⟨vuu, rfl, ho, hb⟩
  obtain ⟨Auu, cuu, hvv⟩ := ho.form
  subst hvv
  have hluu : (Gf.unionR k a a).length = k := Gf.build_len _ _
  rw [hluu] at ho ⊢
  have Ouu : Hid (Gf.Ok k (Gf.unionR k a a)) := Gf.build_ok h64.out _
  have bn := alloc_below wuu (.cells #[.int .i64 (k : Int), .slice Auu k cuu] 24)
  have Xuu := Lib.hid (below_all hb bn)
  have Ta_6 := Lib.hid (Ta_5.out.later Xuu.out)
  have Ua_6 := Lib.hid (Ua_5.out.below Xuu.out)
  have Tb_6 := Lib.hid (Tb_5.out.later Xuu.out)
  have Ub_6 := Lib.hid (Ub_5.out.below Xuu.out)
  have Tta_6 := Lib.hid (Tta_5.out.later Xuu.out)
  have Uta_6 := Lib.hid (Uta_5.out.below Xuu.out)
  have Ttb_6 := Lib.hid (Ttb_5.out.later Xuu.out)
  have Utb_6 := Lib.hid (Utb_5.out.below Xuu.out)
  have Tbk_6 := Lib.hid (Tbk_5.out.later Xuu.out)
  have Ubk_6 := Lib.hid (Ubk_5.out.below Xuu.out)
  have Tcc_6 := Lib.hid (Tcc_5.out.later Xuu.out)
  have Ucc_6 := Lib.hid (Ucc_5.out.below Xuu.out)
  have Ttc_6 := Lib.hid (Ttc_5.out.later Xuu.out)
  have Utc_6 := Lib.hid (Utc_5.out.below Xuu.out)
  have Tdd_6 := Lib.hid (Tdd.out.later Xuu.out)
  have Udd_6 := Lib.hid (Udd.out.below Xuu.out)
  have Tuu := Lib.hid (Two.new wuu 24 (.int .i64 k) (.slice Auu k cuu))
  have Uuu := Lib.hid (ho.us.below bn)
  have BB6 := Lib.hid (below_all BB5.out Xuu.out)
  clear hb bn ho Ta_5 Tb_5 Tta_5 Ttb_5 Tbk_5 Tcc_5 Ttc_5 Tdd Ua_5 Ub_5 Uta_5 Utb_5 Ubk_5 Ucc_5 Utc_5 Udd BB5 Xuu hluu pa0 pa1
  obtain ⟨pa0, pa1⟩ := Ta_6.out.cells
  obtain ⟨pb0, pb1⟩ := Tb_6.out.cells
  go_wp2_with fail
  generalize wuu.alloc (.cells #[.int .i64 (k : Int), .slice Auu k cuu] 24) = Wuu at *
  generalize wuu.heap.size = ouu at *
  refine (gfUnion_at k _ _ a b _ Ua_6.out Ub_6.out OA.out OB.out).mono ?_
  rintro e wvv ⟨vvv, rfl, ho, hb⟩
  obtain ⟨Avv, cvv, hvv⟩ := ho.form
  subst hvv
  have hlvv : (Gf.unionR k a b).length = k := Gf.build_len _ _
  rw [hlvv] at ho ⊢
  have Ovv : Hid (Gf.Ok k (Gf.unionR k a b)) := Gf.build_ok h64.out _
  have bn := alloc_below wvv (.cells #[.int .i64 (k : Int), .slice Avv k cvv] 24)
  have Xvv := Lib.hid (below_all hb bn)
  have Ta_7 := Lib.hid (Ta_6.out.later Xvv.out)
  have Ua_7 := Lib.hid (Ua_6.out.below Xvv.out)
  have Tb_7 := Lib.hid (Tb_6.out.later Xvv.out)
  have Ub_7 := Lib.hid (Ub_6.out.below Xvv.out)
  have Tta_7 := Lib.hid (Tta_6.out.later Xvv.out)
  have Uta_7 := Lib.hid (Uta_6.out.below Xvv.out)
  have Ttb_7 := Lib.hid (Ttb_6.out.later Xvv.out)
  have Utb_7 := Lib.hid (Utb_6.out.below Xvv.out)
  have Tbk_7 := Lib.hid (Tbk_6.out.later Xvv.out)
  have Ubk_7 := Lib.hid (Ubk_6.out.below Xvv.out)
  have Tcc_7 := Lib.hid (Tcc_6.out.later Xvv.out)
  have Ucc_7 := Lib.hid (Ucc_6.out.below Xvv.out)
  have Ttc_7 := Lib.hid (Ttc_6.out.later Xvv.out)
  have Utc_7 := Lib.hid (Utc_6.out.below Xvv.out)
  have Tdd_7 := Lib.hid (Tdd_6.out.later Xvv.out)
  have Udd_7 := Lib.hid (Udd_6.out.below Xvv.out)
  have Tuu_7 := Lib.hid (Tuu.out.later Xvv.out)
  have Uuu_7 := Lib.hid (Uuu.out.below Xvv.out)
  have Tvv := Lib.hid (Two.new wvv 24 (.int .i64 k) (.slice Avv k cvv))
  have Uvv := Lib.hid (ho.us.below bn)
  have BB7 := Lib.hid (below_all BB6.out Xvv.out)
  clear hb bn ho Ta_6 Tb_6 Tta_6 Ttb_6 Tbk_6 Tcc_6 Ttc_6 Tdd_6 Tuu Ua_6 Ub_6 Uta_6 Utb_6 Ubk_6 Ucc_6 Utc_6 Udd_6 Uuu BB6 Xvv hlvv pa0 pa1 pb0 pb1
  obtain ⟨pa0, pa1⟩ := Ta_7.out.cells
  obtain ⟨pb0, pb1⟩ := Tb_7.out.cells
  go_wp2_with fail
  generalize wvv.alloc (.cells #[.int .i64 (k : Int), .slice Avv k cvv] 24) = Wvv at *
  generalize wvv.heap.size = ovv at *
  refine (gfUnion_at k _ _ b a _ Ub_7.out Ua_7.out OB.out OA.out).mono ?_
  rintro e www ⟨vww, rfl, ho, hb⟩
  obtain ⟨Aww, cww, hvv⟩ := ho.form
  subst hvv
  have hlww : (Gf.unionR k b a).length = k := Gf.build_len _ _
  rw [hlww] at ho ⊢
  have Oww : Hid (Gf.Ok k (Gf.unionR k b a)) := Gf.build_ok h64.out _
  have bn := alloc_below www (.cells #[.int .i64 (k : Int), .slice Aww k cww] 24)
  have Xww := Lib.hid (below_all hb bn)
  have Ta_8 := Lib.hid (Ta_7.out.later Xww.out)
  have Ua_8 := Lib.hid (Ua_7.out.below Xww.out)
  have Tb_8 := Lib.hid (Tb_7.out.later Xww.out)
  have Ub_8 := Lib.hid (Ub_7.out.below Xww.out)
  have Tta_8 := Lib.hid (Tta_7.out.later Xww.out)
  have Uta_8 := Lib.hid (Uta_7.out.below Xww.out)
  have Ttb_8 := Lib.hid (Ttb_7.out.later Xww.out)
  have Utb_8 := Lib.hid (Utb_7.out.below Xww.out)
  have Tbk_8 := Lib.hid (Tbk_7.out.later Xww.out)
  have Ubk_8 := Lib.hid (Ubk_7.out.below Xww.out)
  have Tcc_8 := Lib.hid (Tcc_7.out.later Xww.out)
  have Ucc_8 := Lib.hid (Ucc_7.out.below Xww.out)
  have Ttc_8 := Lib.hid (Ttc_7.out.later Xww.out)
  have Utc_8 := Lib.hid (Utc_7.out.below Xww.out)
  have Tdd_8 := Lib.hid (Tdd_7.out.later Xww.out)
  have Udd_8 := Lib.hid (Udd_7.out.below Xww.out)
  have Tuu_8 := Lib.hid (Tuu_7.out.later Xww.out)
  have Uuu_8 := Lib.hid (Uuu_7.out.below Xww.out)
  have Tvv_8 := Lib.hid (Tvv.out.later Xww.out)
  have Uvv_8 := Lib.hid (Uvv.out.below Xww.out)
  have Tww := Lib.hid (Two.new www 24 (.int .i64 k) (.slice Aww k cww))
  have Uww := Lib.hid (ho.us.below bn)
  have BB8 := Lib.hid (below_all BB7.out Xww.out)
  clear hb bn ho Ta_7 Tb_7 Tta_7 Ttb_7 Tbk_7 Tcc_7 Ttc_7 Tdd_7 Tuu_7 Tvv Ua_7 Ub_7 Uta_7 Utb_7 Ubk_7 Ucc_7 Utc_7 Udd_7 Uuu_7 Uvv BB7 Xww hlww pa0 pa1 pb0 pb1
  go_wp2_with fail
  generalize www.alloc (.cells #[.int .i64 (k : Int), .slice Aww k cww] 24) = Www at *
  generalize www.heap.size = oww at *
  have HLA := Lib.hid OA.out.2.1
  have EB : Hid (Gf.turnR k (Gf.turnR k a) = a) := Gf.turn_turn OA.out
  have EC : Hid (Gf.turnR k (Gf.composeR k a b) = Gf.composeR k (Gf.turnR k b) (Gf.turnR k a)) := Gf.turn_compose OA.out OB.out
  have EU : Hid (Gf.unionR k a a = a) := Gf.union_self OA.out
  have EW : Hid (Gf.unionR k b a = Gf.unionR k a b) := Gf.union_comm b a
  have Vbk : Hid (Us Www (.slice Abk k cbk) a) := by have := Ubk_8.out; rw [EB.out] at this; exact this
  have Vtc : Hid (Us Www (.slice Atc k ctc) (Gf.composeR k (Gf.turnR k b) (Gf.turnR k a))) := by have := Utc_8.out; rw [EC.out] at this; exact this
  have Vuu : Hid (Us Www (.slice Auu k cuu) a) := by have := Uuu_8.out; rw [EU.out] at this; exact this
  have Vww : Hid (Us Www (.slice Aww k cww) (Gf.unionR k a b)) := by have := Uww.out; rw [EW.out] at this; exact this
  have Vdd := Udd_8
  have Vvv := Uvv_8
  have Va := Ua_8
  have HK : Hid (∀ W', Below Www.heap.size Www W' → W'.cell? ⟨obk, 0, none⟩ = some (.int .i64 k) ∧ W'.cell? ⟨obk, 1, none⟩ = some (.slice Abk k cbk) ∧ W'.cell? ⟨w.heap.size, 0, none⟩ = some (.int .i64 k) ∧ W'.cell? ⟨w.heap.size, 1, none⟩ = some (.slice A a.length c) ∧ W'.cell? ⟨otc, 0, none⟩ = some (.int .i64 k) ∧ W'.cell? ⟨otc, 1, none⟩ = some (.slice Atc k ctc) ∧ W'.cell? ⟨odd, 0, none⟩ = some (.int .i64 k) ∧ W'.cell? ⟨odd, 1, none⟩ = some (.slice Add k cdd) ∧ W'.cell? ⟨ouu, 0, none⟩ = some (.int .i64 k) ∧ W'.cell? ⟨ouu, 1, none⟩ = some (.slice Auu k cuu) ∧ W'.cell? ⟨ovv, 0, none⟩ = some (.int .i64 k) ∧ W'.cell? ⟨ovv, 1, none⟩ = some (.slice Avv k cvv) ∧ W'.cell? ⟨oww, 0, none⟩ = some (.int .i64 k) ∧ W'.cell? ⟨oww, 1, none⟩ = some (.slice Aww k cww)) := fun W' h =>
    ⟨(Tbk_8.out.later h).cells.1, (Tbk_8.out.later h).cells.2, (Ta_8.out.later h).cells.1, (Ta_8.out.later h).cells.2, (Ttc_8.out.later h).cells.1, (Ttc_8.out.later h).cells.2, (Tdd_8.out.later h).cells.1, (Tdd_8.out.later h).cells.2, (Tuu_8.out.later h).cells.1, (Tuu_8.out.later h).cells.2, (Tvv_8.out.later h).cells.1, (Tvv_8.out.later h).cells.2, (Tww.out.later h).cells.1, (Tww.out.later h).cells.2⟩
  have hla : a.length ≤ 4294967296 := by have := HLA.out; have := h64.out; omega
  have hld : (Gf.composeR k (Gf.turnR k b) (Gf.turnR k a)).length ≤ 4294967296 := by rw [show (Gf.composeR k (Gf.turnR k b) (Gf.turnR k a)).length = k from Gf.build_len _ _]; have := h64.out; omega
  have hlv : (Gf.unionR k a b).length ≤ 4294967296 := by rw [show (Gf.unionR k a b).length = k from Gf.build_len _ _]; have := h64.out; omega
  have FMA := Lib.hid (fun u v w h1 h2 => rSame12_at (k : Int) u v a w h1 h2 hla)
  have FMD := Lib.hid (fun u v w h1 h2 => rSame12_at (k : Int) u v (Gf.composeR k (Gf.turnR k b) (Gf.turnR k a)) w h1 h2 hld)
  have FMV := Lib.hid (fun u v w h1 h2 => rSame12_at (k : Int) u v (Gf.unionR k a b) w h1 h2 hlv)
  clear hla hld hlv EB EC EU EW HLA Ub_8 Uta_8 Utb_8 Ubk_8 Ucc_8 Utc_8 Uuu_8 Uww OA OB Ota Otb Obk Occ Otc Odd Ouu Ovv Oww
  generalize Gf.composeR k (Gf.turnR k b) (Gf.turnR k a) = lD at *
  generalize Gf.unionR k a b = lV at *
  obtain ⟨q0, q1, q2, q3, q4, q5, q6, q7, q8, q9, q10, q11, q12, q13⟩ := HK.out _ (Below.refl _ Www)
  have D := Lib.hid (Below.refl Www.heap.size Www).drew
  go_wp2_with fail
  go_region_held3 (fun W' => W'.cell? ⟨obk, 0, none⟩ = some (.int .i64 k) ∧ W'.cell? ⟨obk, 1, none⟩ = some (.slice Abk k cbk) ∧ W'.cell? ⟨w.heap.size, 0, none⟩ = some (.int .i64 k) ∧ W'.cell? ⟨w.heap.size, 1, none⟩ = some (.slice A a.length c) ∧ W'.cell? ⟨otc, 0, none⟩ = some (.int .i64 k) ∧ W'.cell? ⟨otc, 1, none⟩ = some (.slice Atc k ctc) ∧ W'.cell? ⟨odd, 0, none⟩ = some (.int .i64 k) ∧ W'.cell? ⟨odd, 1, none⟩ = some (.slice Add k cdd) ∧ W'.cell? ⟨ouu, 0, none⟩ = some (.int .i64 k) ∧ W'.cell? ⟨ouu, 1, none⟩ = some (.slice Auu k cuu) ∧ W'.cell? ⟨ovv, 0, none⟩ = some (.int .i64 k) ∧ W'.cell? ⟨ovv, 1, none⟩ = some (.slice Avv k cvv) ∧ W'.cell? ⟨oww, 0, none⟩ = some (.int .i64 k) ∧ W'.cell? ⟨oww, 1, none⟩ = some (.slice Aww k cww))
    (first | (exact ⟨q0, q1, q2, q3, q4, q5, q6, q7, q8, q9, q10, q11, q12, q13⟩) | (exact HK.out _ D.out) | (exact HK.out _ Y1.out) | (exact HK.out _ Y2.out) | (exact HK.out _ Y3.out) | (exact HK.out _ Y4.out) | (exact HK.out _ Y5.out) | (exact HK.out _ Y6.out) | (exact HK.out _ Y7.out) | (exact HK.out _ Y8.out) | (exact HK.out _ Y9.out) | (exact HK.out _ Y10.out) | (exact HK.out _ Y11.out) | (exact HK.out _ Y12.out))
    (first
      | (go_at_call 8; (with_reducible refine (gfPlain_at (k : Int) (.slice Abk k cbk) a _ (Vbk.out.below D.out)).mono ?_); rintro e z1 ⟨rfl, hz⟩; have Y1 := Lib.hid (below_all D.out hz); clear hz)
      | (go_at_call 8; (with_reducible refine (gfPlain_at (k : Int) (.slice A a.length c) a _ (Va.out.below Y1.out)).mono ?_); rintro e z2 ⟨rfl, hz⟩; have Y2 := Lib.hid (below_all Y1.out hz); clear hz)
      | (go_at_call 13; (with_reducible refine (FMA.out _ _ _ (Vbk.out.below Y2.out) (Va.out.below Y2.out)).mono ?_); rintro e z3 ⟨rfl, hz⟩; have Y3 := Lib.hid (below_all Y2.out hz); clear hz)
      | (go_at_call 8; (with_reducible refine (gfPlain_at (k : Int) (.slice Atc k ctc) lD _ (Vtc.out.below Y3.out)).mono ?_); rintro e z4 ⟨rfl, hz⟩; have Y4 := Lib.hid (below_all Y3.out hz); clear hz)
      | (go_at_call 8; (with_reducible refine (gfPlain_at (k : Int) (.slice Add k cdd) lD _ (Vdd.out.below Y4.out)).mono ?_); rintro e z5 ⟨rfl, hz⟩; have Y5 := Lib.hid (below_all Y4.out hz); clear hz)
      | (go_at_call 13; (with_reducible refine (FMD.out _ _ _ (Vtc.out.below Y5.out) (Vdd.out.below Y5.out)).mono ?_); rintro e z6 ⟨rfl, hz⟩; have Y6 := Lib.hid (below_all Y5.out hz); clear hz)
      | (go_at_call 8; (with_reducible refine (gfPlain_at (k : Int) (.slice Auu k cuu) a _ (Vuu.out.below Y6.out)).mono ?_); rintro e z7 ⟨rfl, hz⟩; have Y7 := Lib.hid (below_all Y6.out hz); clear hz)
      | (go_at_call 8; (with_reducible refine (gfPlain_at (k : Int) (.slice A a.length c) a _ (Va.out.below Y7.out)).mono ?_); rintro e z8 ⟨rfl, hz⟩; have Y8 := Lib.hid (below_all Y7.out hz); clear hz)
      | (go_at_call 13; (with_reducible refine (FMA.out _ _ _ (Vuu.out.below Y8.out) (Va.out.below Y8.out)).mono ?_); rintro e z9 ⟨rfl, hz⟩; have Y9 := Lib.hid (below_all Y8.out hz); clear hz)
      | (go_at_call 8; (with_reducible refine (gfPlain_at (k : Int) (.slice Avv k cvv) lV _ (Vvv.out.below Y9.out)).mono ?_); rintro e z10 ⟨rfl, hz⟩; have Y10 := Lib.hid (below_all Y9.out hz); clear hz)
      | (go_at_call 8; (with_reducible refine (gfPlain_at (k : Int) (.slice Aww k cww) lV _ (Vww.out.below Y10.out)).mono ?_); rintro e z11 ⟨rfl, hz⟩; have Y11 := Lib.hid (below_all Y10.out hz); clear hz)
      | (go_at_call 13; (with_reducible refine (FMV.out _ _ _ (Vvv.out.below Y11.out) (Vww.out.below Y11.out)).mono ?_); rintro e z12 ⟨rfl, hz⟩; have Y12 := Lib.hid (below_all Y11.out hz); clear hz))
  all_goals
    go_wp2_with fail
    go_ret
    exact ⟨rfl, below_all BB8.out Y12.out⟩
end Go.Proofs.Ytcpiaddohiokkaa
