/-
  The law KnownTells: the sessions' order, who reads from whom, and who reads what was there at first, of any history, are the document's.
  Conditions: the argument reads as a history.
-/
import Derived.Test.YtlhinlfgmfenoaaKnAwake
import Derived.Test.YtlhinlfgmfenoaaHiAll
import Derived.Test.YtlhinlfgmfenoaaKnRefB
import Derived.Test.YtlhinlfgmfenoaaKnRefC
import Derived.Test.YtlhinlfgmfenoaaKnRefD
import Derived.Deep.RegionHeld3
set_option maxRecDepth 4000
namespace Go.Proofs.Ytlhinlfgmfenoaa
open Go.RowKit
set_option maxHeartbeats 8000000 in
theorem lawKnownTells (h : List So.Txn) (u : Value) (w : World) (hv : Txns w u h) : Calls Try.prog 3 #[.agg #[u]] w (RetBool w true) := by
  have HV := Lib.hid hv
  obtain ⟨A, c, rfl, -⟩ := hv.spelled
  have N_h := Lib.hid (Boxed.new w 24 (.slice A h.length c))
  have BW := Lib.hid (alloc_below w (.cells #[.slice A h.length c] 24))
  have V_h := Lib.hid (HV.out.below BW.out)
  clear hv
  go_enter Try.func3, Try.ntmps3
  go_wp2_with fail
  generalize w.alloc (.cells #[.slice A h.length c] 24) = W0 at *
  go_wp2_with fail
  refine (knAwake_at _).mono ?_
  rintro e W1 ⟨rfl, hb⟩
  have S1 := Lib.hid hb
  clear hb
  have h0 := (Boxed.later N_h.out S1.out).cell
  go_wp2_with fail
  refine (few8_at h _ _ (V_h.out.below S1.out)).mono ?_
  rintro e W2 ⟨rfl, hb⟩
  have S2 := Lib.hid hb
  clear hb
  clear h0
  cases hf : Hi.fewB h with
  | false =>
    clear hf
    have h0 := (Boxed.later N_h.out (below_all S1.out S2.out)).cell
    go_wp2_with fail
    go_ret
    exact ⟨rfl, (below_all BW.out (below_all S1.out S2.out))⟩
  | true =>
  have HSM := Lib.hid (Hi.few_small hf).2
  have h40 := (Hi.few_small hf).1
  clear hf
  have FRR := Lib.hid (fun w hw => rRight8_at h (.slice A h.length c) w hw HSM.out.2)
  obtain ⟨rb, hrb⟩ : ∃ rb, rb = Hi.rightB h := ⟨_, rfl⟩
  rw [← hrb] at FRR
  have HRB := Lib.hid hrb
  clear hrb
  have F_s := Lib.hid (fun w hw => knSo_at h (.slice A h.length c) w hw HSM.out)
  obtain ⟨l_s, e_s⟩ : ∃ l, l = Kn.soA h := ⟨_, rfl⟩
  rw [← e_s] at F_s
  have E_s := Lib.hid e_s
  clear e_s
  have F_x := Lib.hid (fun w hw => knWr_at h (.slice A h.length c) w hw HSM.out)
  obtain ⟨l_x, e_x⟩ : ∃ l, l = Kn.wrA h := ⟨_, rfl⟩
  rw [← e_x] at F_x
  have E_x := Lib.hid e_x
  clear e_x
  have F_t := Lib.hid (fun w hw => knInit_at h (.slice A h.length c) w hw HSM.out)
  obtain ⟨l_t, e_t⟩ : ∃ l, l = Kn.initA h := ⟨_, rfl⟩
  rw [← e_t] at F_t
  have E_t := Lib.hid e_t
  clear e_t
  have F_p := Lib.hid (fun w hw => knPast_at h (.slice A h.length c) w hw HSM.out)
  obtain ⟨l_p, e_p⟩ : ∃ l, l = Kn.pastA h := ⟨_, rfl⟩
  rw [← e_p] at F_p
  have E_p := Lib.hid e_p
  clear e_p
  obtain ⟨n, e_n⟩ : ∃ n, n = Kn.nA h := ⟨_, rfl⟩
  rw [← e_n] at F_s F_x F_t F_p
  have E_n := Lib.hid e_n
  clear e_n
  have h0 := (Boxed.later N_h.out (below_all S1.out S2.out)).cell
  go_wp2_with fail
  refine (F_s.out _ (V_h.out.below (below_all S1.out S2.out))).mono ?_
  rintro e W3 ⟨v, rfl, ho, hb⟩
  have S3 := Lib.hid hb
  clear hb
  clear h0
  obtain ⟨m_s, hm_s⟩ : ∃ m, l_s.length = m := ⟨_, rfl⟩
  obtain ⟨A_s, c_s, rfl, hu⟩ := own_is (k := m_s) ho hm_s
  have UU := Lib.hid hu
  have M_s := Lib.hid hm_s
  clear ho hu hm_s
  go_wp2_with fail
  refine (knPlain_at n (.slice A_s m_s c_s) l_s _ UU.out).mono ?_
  rintro e V ⟨rfl, hb⟩
  have b := alloc_below V (.cells #[.int .i64 n, .slice A_s m_s c_s] 29)
  have S4 := Lib.hid (below_all hb b)
  have T_s := Lib.hid (Two.new V 29 (.int .i64 n) (.slice A_s m_s c_s))
  have U_s := Lib.hid ((UU.out.below hb).below b)
  clear hb b
  clear UU F_s
  have h0 := (Boxed.later N_h.out (below_all (below_all (below_all S1.out S2.out) S3.out) S4.out)).cell
  go_wp2_with fail
  generalize V.alloc (.cells #[.int .i64 n, .slice A_s m_s c_s] 29) = W4 at *
  generalize V.heap.size = o_s at *
  refine (F_x.out _ (V_h.out.below (below_all (below_all (below_all S1.out S2.out) S3.out) S4.out))).mono ?_
  rintro e W5 ⟨v, rfl, ho, hb⟩
  have S5 := Lib.hid hb
  clear hb
  clear h0
  obtain ⟨m_x, hm_x⟩ : ∃ m, l_x.length = m := ⟨_, rfl⟩
  obtain ⟨A_x, c_x, rfl, hu⟩ := own_is (k := m_x) ho hm_x
  have UU := Lib.hid hu
  have M_x := Lib.hid hm_x
  clear ho hu hm_x
  go_wp2_with fail
  refine (knPlain_at n (.slice A_x m_x c_x) l_x _ UU.out).mono ?_
  rintro e V ⟨rfl, hb⟩
  have b := alloc_below V (.cells #[.int .i64 n, .slice A_x m_x c_x] 29)
  have S6 := Lib.hid (below_all hb b)
  have T_x := Lib.hid (Two.new V 29 (.int .i64 n) (.slice A_x m_x c_x))
  have U_x := Lib.hid ((UU.out.below hb).below b)
  clear hb b
  clear UU F_x
  have h0 := (Boxed.later N_h.out (below_all (below_all (below_all (below_all (below_all S1.out S2.out) S3.out) S4.out) S5.out) S6.out)).cell
  go_wp2_with fail
  generalize V.alloc (.cells #[.int .i64 n, .slice A_x m_x c_x] 29) = W6 at *
  generalize V.heap.size = o_x at *
  refine (F_t.out _ (V_h.out.below (below_all (below_all (below_all (below_all (below_all S1.out S2.out) S3.out) S4.out) S5.out) S6.out))).mono ?_
  rintro e W7 ⟨v, rfl, ho, hb⟩
  have S7 := Lib.hid hb
  clear hb
  clear h0
  obtain ⟨m_t, hm_t⟩ : ∃ m, l_t.length = m := ⟨_, rfl⟩
  obtain ⟨A_t, c_t, rfl, hu⟩ := own_is (k := m_t) ho hm_t
  have UU := Lib.hid hu
  have M_t := Lib.hid hm_t
  clear ho hu hm_t
  go_wp2_with fail
  refine (knPlain_at n (.slice A_t m_t c_t) l_t _ UU.out).mono ?_
  rintro e V ⟨rfl, hb⟩
  have b := alloc_below V (.cells #[.int .i64 n, .slice A_t m_t c_t] 29)
  have S8 := Lib.hid (below_all hb b)
  have T_t := Lib.hid (Two.new V 29 (.int .i64 n) (.slice A_t m_t c_t))
  have U_t := Lib.hid ((UU.out.below hb).below b)
  clear hb b
  clear UU F_t
  have h0 := (Boxed.later N_h.out (below_all (below_all (below_all (below_all (below_all (below_all (below_all S1.out S2.out) S3.out) S4.out) S5.out) S6.out) S7.out) S8.out)).cell
  go_wp2_with fail
  generalize V.alloc (.cells #[.int .i64 n, .slice A_t m_t c_t] 29) = W8 at *
  generalize V.heap.size = o_t at *
  refine (F_p.out _ (V_h.out.below (below_all (below_all (below_all (below_all (below_all (below_all (below_all S1.out S2.out) S3.out) S4.out) S5.out) S6.out) S7.out) S8.out))).mono ?_
  rintro e W9 ⟨v, rfl, ho, hb⟩
  have S9 := Lib.hid hb
  clear hb
  clear h0
  obtain ⟨m_p, hm_p⟩ : ∃ m, l_p.length = m := ⟨_, rfl⟩
  obtain ⟨A_p, c_p, rfl, hu⟩ := own_is (k := m_p) ho hm_p
  have UU := Lib.hid hu
  have M_p := Lib.hid hm_p
  clear ho hu hm_p
  go_wp2_with fail
  refine (knPlain_at n (.slice A_p m_p c_p) l_p _ UU.out).mono ?_
  rintro e V ⟨rfl, hb⟩
  have b := alloc_below V (.cells #[.int .i64 n, .slice A_p m_p c_p] 29)
  have S10 := Lib.hid (below_all hb b)
  have T_p := Lib.hid (Two.new V 29 (.int .i64 n) (.slice A_p m_p c_p))
  have U_p := Lib.hid ((UU.out.below hb).below b)
  clear hb b
  clear UU F_p
  have h0 := (Boxed.later N_h.out (below_all (below_all (below_all (below_all (below_all (below_all (below_all (below_all (below_all S1.out S2.out) S3.out) S4.out) S5.out) S6.out) S7.out) S8.out) S9.out) S10.out)).cell
  go_wp2_with fail
  generalize V.alloc (.cells #[.int .i64 n, .slice A_p m_p c_p] 29) = W10 at *
  generalize V.heap.size = o_p at *
  refine (FRR.out _ (V_h.out.below (below_all (below_all (below_all (below_all (below_all (below_all (below_all (below_all (below_all S1.out S2.out) S3.out) S4.out) S5.out) S6.out) S7.out) S8.out) S9.out) S10.out))).mono ?_
  rintro e W11 ⟨rfl, hb⟩
  have S11 := Lib.hid hb
  clear hb
  clear h0
  cases rb with
  | false =>
    obtain ⟨en, es, ew, ei, ep⟩ := Kn.all_no HRB.out.symm
    obtain rfl : n = 0 := E_n.out.trans en
    obtain rfl : m_s = 0 := by rw [← M_s.out, E_s.out, es]; rfl
    obtain rfl : m_x = 0 := by rw [← M_x.out, E_x.out, ew]; rfl
    obtain rfl : m_t = 0 := by rw [← M_t.out, E_t.out, ei]; rfl
    obtain rfl : m_p = 0 := by rw [← M_p.out, E_p.out, ep]; rfl
    clear en es ew ei ep
    obtain ⟨s0, s1⟩ := (T_s.out.later (below_all (below_all (below_all (below_all (below_all (below_all S5.out S6.out) S7.out) S8.out) S9.out) S10.out) S11.out)).cells
    obtain ⟨x0, x1⟩ := (T_x.out.later (below_all (below_all (below_all (below_all S7.out S8.out) S9.out) S10.out) S11.out)).cells
    obtain ⟨t0, t1⟩ := (T_t.out.later (below_all (below_all S9.out S10.out) S11.out)).cells
    obtain ⟨p0, p1⟩ := (T_p.out.later S11.out).cells
    go_wp2_with fail
    go_ret
    exact ⟨rfl, (below_all BW.out (below_all (below_all (below_all (below_all (below_all (below_all (below_all (below_all (below_all (below_all S1.out S2.out) S3.out) S4.out) S5.out) S6.out) S7.out) S8.out) S9.out) S10.out) S11.out))⟩
  | true =>
    obtain ⟨en, es, ew, ei, ep⟩ := Kn.all_yes HRB.out.symm
    have HR := Lib.hid ((Hi.rightB_iff _).1 HRB.out.symm)
    have h32 : h.length ≤ 32 := HR.out.1
    obtain rfl : n = (h.length : Int) := E_n.out.trans en
    obtain rfl : l_s = Kn.soR h := E_s.out.trans es
    have G_s := Lib.hid (fun w hw => rSo17_at h (.slice A h.length c) w hw HR.out)
    have L_s : Hid ((Kn.soR h).length ≤ 4294967296) := by rw [Hid, Kn.so_len]; omega
    obtain rfl : l_x = Kn.wrR h := E_x.out.trans ew
    have G_x := Lib.hid (fun w hw => rWr17_at h (.slice A h.length c) w hw HR.out)
    have L_x : Hid ((Kn.wrR h).length ≤ 4294967296) := by rw [Hid, Kn.wr_len]; omega
    obtain rfl : l_t = Kn.initR h := E_t.out.trans ei
    have G_t := Lib.hid (fun w hw => rInit17_at h (.slice A h.length c) w hw HR.out)
    have L_t : Hid ((Kn.initR h).length ≤ 4294967296) := by rw [Hid, Kn.init_len]; omega
    obtain rfl : l_p = Kn.pastR h := E_p.out.trans ep
    have G_p := Lib.hid (fun w hw => rPast17_at h (.slice A h.length c) w hw HR.out)
    have L_p : Hid ((Kn.pastR h).length ≤ 4294967296) := by rw [Hid, Kn.past_len]; omega
    clear en es ew ei ep
    go_wp2_with fail
    have UC_s := Lib.hid (U_s.out.below (below_all (below_all (below_all (below_all (below_all (below_all S5.out S6.out) S7.out) S8.out) S9.out) S10.out) S11.out))
    have UC_x := Lib.hid (U_x.out.below (below_all (below_all (below_all (below_all S7.out S8.out) S9.out) S10.out) S11.out))
    have UC_t := Lib.hid (U_t.out.below (below_all (below_all S9.out S10.out) S11.out))
    have UC_p := Lib.hid (U_p.out.below S11.out)
    have VC := Lib.hid (V_h.out.below (below_all (below_all (below_all (below_all (below_all (below_all (below_all (below_all (below_all (below_all S1.out S2.out) S3.out) S4.out) S5.out) S6.out) S7.out) S8.out) S9.out) S10.out) S11.out))
    generalize Kn.soR h = l_s at *
    generalize Kn.wrR h = l_x at *
    generalize Kn.initR h = l_t at *
    generalize Kn.pastR h = l_p at *
    have HK : Hid (∀ W', Below W11.heap.size W11 W' → W'.cell? ⟨o_s, 0, none⟩ = some (.int .i64 h.length) ∧ W'.cell? ⟨o_s, 1, none⟩ = some (.slice A_s m_s c_s) ∧ W'.cell? ⟨o_x, 0, none⟩ = some (.int .i64 h.length) ∧ W'.cell? ⟨o_x, 1, none⟩ = some (.slice A_x m_x c_x) ∧ W'.cell? ⟨o_t, 0, none⟩ = some (.int .i64 h.length) ∧ W'.cell? ⟨o_t, 1, none⟩ = some (.slice A_t m_t c_t) ∧ W'.cell? ⟨o_p, 0, none⟩ = some (.int .i64 h.length) ∧ W'.cell? ⟨o_p, 1, none⟩ = some (.slice A_p m_p c_p) ∧ W'.cell? ⟨w.heap.size, 0, none⟩ = some (.slice A h.length c)) := fun W' h => ⟨(T_s.out.later (below_all (below_all (below_all (below_all (below_all (below_all (below_all S5.out S6.out) S7.out) S8.out) S9.out) S10.out) S11.out) h)).cells.1, (T_s.out.later (below_all (below_all (below_all (below_all (below_all (below_all (below_all S5.out S6.out) S7.out) S8.out) S9.out) S10.out) S11.out) h)).cells.2, (T_x.out.later (below_all (below_all (below_all (below_all (below_all S7.out S8.out) S9.out) S10.out) S11.out) h)).cells.1, (T_x.out.later (below_all (below_all (below_all (below_all (below_all S7.out S8.out) S9.out) S10.out) S11.out) h)).cells.2, (T_t.out.later (below_all (below_all (below_all S9.out S10.out) S11.out) h)).cells.1, (T_t.out.later (below_all (below_all (below_all S9.out S10.out) S11.out) h)).cells.2, (T_p.out.later (below_all S11.out h)).cells.1, (T_p.out.later (below_all S11.out h)).cells.2, (Boxed.later N_h.out (below_all (below_all (below_all (below_all (below_all (below_all (below_all (below_all (below_all (below_all (below_all S1.out S2.out) S3.out) S4.out) S5.out) S6.out) S7.out) S8.out) S9.out) S10.out) S11.out) h)).cell⟩
    obtain ⟨s0, s1, x0, x1, t0, t1, p0, p1, h0⟩ := HK.out _ (Below.refl _ W11)
    have D := Lib.hid (Below.refl W11.heap.size W11).drew
    go_region_held3 (fun W' => W'.cell? ⟨o_s, 0, none⟩ = some (.int .i64 h.length) ∧ W'.cell? ⟨o_s, 1, none⟩ = some (.slice A_s m_s c_s) ∧ W'.cell? ⟨o_x, 0, none⟩ = some (.int .i64 h.length) ∧ W'.cell? ⟨o_x, 1, none⟩ = some (.slice A_x m_x c_x) ∧ W'.cell? ⟨o_t, 0, none⟩ = some (.int .i64 h.length) ∧ W'.cell? ⟨o_t, 1, none⟩ = some (.slice A_t m_t c_t) ∧ W'.cell? ⟨o_p, 0, none⟩ = some (.int .i64 h.length) ∧ W'.cell? ⟨o_p, 1, none⟩ = some (.slice A_p m_p c_p) ∧ W'.cell? ⟨w.heap.size, 0, none⟩ = some (.slice A h.length c))
      (first | (exact ⟨s0, s1, x0, x1, t0, t1, p0, p1, h0⟩) | (exact HK.out _ D.out) | (exact HK.out _ Y1.out) | (exact HK.out _ Y2.out) | (exact HK.out _ Y3.out) | (exact HK.out _ Y4.out) | (exact HK.out _ Y5.out) | (exact HK.out _ Y6.out) | (exact HK.out _ Y7.out) | (exact HK.out _ Y8.out))
      (first
            | (go_at_call 15; (with_reducible refine (G_s.out _ (VC.out.below D.out)).mono ?_); rintro e z1 ⟨vs, rfl, hos, hz⟩; have Y1 := Lib.hid (below_all D.out hz); have Rs := Lib.hid hos.us; clear hos; clear hz)
            | (go_at_call 14; (with_reducible refine (rSame12_at h.length (.slice A_s m_s c_s) vs l_s _ (UC_s.out.below Y1.out) Rs.out L_s.out).mono ?_); rintro e z2 ⟨rfl, hz⟩; have Y2 := Lib.hid (below_all Y1.out hz); clear hz)
            | (go_at_call 16; (with_reducible refine (G_x.out _ (VC.out.below Y2.out)).mono ?_); rintro e z3 ⟨vx, rfl, hox, hz⟩; have Y3 := Lib.hid (below_all Y2.out hz); have Rx := Lib.hid hox.us; clear hox; clear hz)
            | (go_at_call 14; (with_reducible refine (rSame12_at h.length (.slice A_x m_x c_x) vx l_x _ (UC_x.out.below Y3.out) Rx.out L_x.out).mono ?_); rintro e z4 ⟨rfl, hz⟩; have Y4 := Lib.hid (below_all Y3.out hz); clear hz)
            | (go_at_call 17; (with_reducible refine (G_t.out _ (VC.out.below Y4.out)).mono ?_); rintro e z5 ⟨vt, rfl, hot, hz⟩; have Y5 := Lib.hid (below_all Y4.out hz); have Rt := Lib.hid hot.us; clear hot; clear hz)
            | (go_at_call 14; (with_reducible refine (rSame12_at h.length (.slice A_t m_t c_t) vt l_t _ (UC_t.out.below Y5.out) Rt.out L_t.out).mono ?_); rintro e z6 ⟨rfl, hz⟩; have Y6 := Lib.hid (below_all Y5.out hz); clear hz)
            | (go_at_call 18; (with_reducible refine (G_p.out _ (VC.out.below Y6.out)).mono ?_); rintro e z7 ⟨vp, rfl, hop, hz⟩; have Y7 := Lib.hid (below_all Y6.out hz); have Rp := Lib.hid hop.us; clear hop; clear hz)
            | (go_at_call 14; (with_reducible refine (rSame12_at h.length (.slice A_p m_p c_p) vp l_p _ (UC_p.out.below Y7.out) Rp.out L_p.out).mono ?_); rintro e W12 ⟨rfl, hz⟩; have Y8 := Lib.hid (below_all Y7.out hz); clear hz))
    all_goals
      have S12 := Lib.hid Y8.out
      clear s0 s1 x0 x1 t0 t1 p0 p1 h0 HK D Y1 Y2 Y3 Y4 Y5 Y6 Y7 Y8
      go_wp2_with fail
      go_ret
      exact ⟨rfl, (below_all BW.out (below_all (below_all (below_all (below_all (below_all (below_all (below_all (below_all (below_all (below_all (below_all S1.out S2.out) S3.out) S4.out) S5.out) S6.out) S7.out) S8.out) S9.out) S10.out) S11.out) S12.out))⟩
end Go.Proofs.Ytlhinlfgmfenoaa
