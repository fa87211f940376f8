/-
  The law ChoiceTells: whether any choices may be, who writes, and reads, ahead of whom, all that must not lead back, and the first open pair, are the document's.
  Conditions: the arguments read as a history and as choices.
-/
import Derived.Test.YtahacjfeopjbaaaChAwake
import Derived.Test.YtahacjfeopjbaaaHiAll
import Derived.Test.YtahacjfeopjbaaaChRefH
import Derived.Test.YtahacjfeopjbaaaChRefF
import Derived.Test.YtahacjfeopjbaaaChRefE
import Derived.Test.YtahacjfeopjbaaaChRefB
import Derived.Test.YtahacjfeopjbaaaChRefA
import Derived.Deep.RegionHeld3
set_option maxRecDepth 4000
namespace Go.Proofs.Ytahacjfeopjbaaa
open Go.RowKit
set_option maxHeartbeats 8000000 in
theorem lawChoiceTells (h : List So.Txn) (u : Value) (level : Int) (l : List (Int × Int × Int)) (v : Value) (w : World) (hv : Txns w u h) (hl : Tris w v l) : Calls Try.prog 3 #[.agg #[u], .int .i64 level, v] w (RetBool w true) := by
  have HV := Lib.hid hv
  have HL := Lib.hid hl
  obtain ⟨A, c, rfl, -⟩ := hv.spelled
  obtain ⟨B, d, rfl, -⟩ := hl.spelled
  have N_h := Lib.hid (Boxed.new w 24 (.slice A h.length c))
  have BW := Lib.hid (alloc_below w (.cells #[.slice A h.length c] 24))
  have V_h := Lib.hid (HV.out.below BW.out)
  clear hv hl
  go_enter Try.func3, Try.ntmps3
  go_wp2_with fail
  generalize w.alloc (.cells #[.slice A h.length c] 24) = W0 at *
  go_wp2_with fail
  refine (chAwake_at _).mono ?_
  rintro e W1 ⟨rfl, hb⟩
  have S1 := Lib.hid hb
  clear hb
  have h0 := (Boxed.later N_h.out S1.out).cell
  go_wp2_with fail
  refine (few8_at h _ _ (V_h.out.below S1.out)).mono ?_
  rintro e W2 ⟨rfl, hb⟩
  have S2 := Lib.hid hb
  clear hb
  clear h0
  cases hf : Hi.fewB h with
  | false =>
    clear hf
    have h0 := (Boxed.later N_h.out (below_all S1.out S2.out)).cell
    go_wp2_with fail
    go_ret
    exact ⟨rfl, (below_all BW.out (below_all S1.out S2.out))⟩
  | true =>
  have HSM := Lib.hid (Hi.few_small hf).2
  clear hf
  have h0 := (Boxed.later N_h.out (below_all S1.out S2.out)).cell
  by_cases h60 : 60 < l.length
  ·
    go_wp2_with fail
    go_ret
    exact ⟨rfl, (below_all BW.out (below_all S1.out S2.out))⟩
  clear h0
  have HLN : Hid (l.length ≤ 4294967296) := by rw [Hid]; omega
  have F_x := Lib.hid (fun w a b => chWw_at h (.slice A h.length c) l (.slice B l.length d) w a b HSM.out HLN.out)
  have F_y := Lib.hid (fun w a b => chRw_at h (.slice A h.length c) l (.slice B l.length d) w a b HSM.out HLN.out)
  have F_o := Lib.hid (fun w a b => chOpen_at h (.slice A h.length c) l (.slice B l.length d) w a b HSM.out HLN.out)
  have F_c := Lib.hid (fun w a b => chRight_at h (.slice A h.length c) l (.slice B l.length d) w a b HSM.out HLN.out)
  have F_r := Lib.hid (fun w a b => rRight18_at h (.slice A h.length c) l (.slice B l.length d) w a HSM.out.2 b HLN.out)
  cases hrc : Ch.rightC h l with
  | false =>
    have F_f := Lib.hid (fun w a b => chFull_no h (.slice A h.length c) level l (.slice B l.length d) w a b HSM.out HLN.out (by rw [hrc]; rfl))
    obtain ⟨en, ex, ey, eo⟩ := Ch.ans_no hrc
    rw [en, ex] at F_x
    rw [en, ey] at F_y
    rw [eo] at F_o
    rw [hrc] at F_c F_r
    unfold RetOpen at F_o
    dsimp only [Option.map, Option.getD, Option.isSome] at F_o
    clear en ex ey eo hrc
    have h0 := (Boxed.later N_h.out (below_all S1.out S2.out)).cell
    go_wp2_with fail
    refine (F_x.out _ (V_h.out.below (below_all S1.out S2.out)) (HL.out.below (below_all BW.out (below_all S1.out S2.out)))).mono ?_
    rintro e W3 ⟨v, rfl, ho, hb⟩
    have S3 := Lib.hid hb
    clear hb
    clear h0
    obtain ⟨A_x, c_x, rfl, hu⟩ := own_is (k := 0) ho rfl
    have UU := Lib.hid hu
    clear ho hu
    go_wp2_with fail
    refine (chPlain_at 0 (.slice A_x 0 c_x) [] _ UU.out).mono ?_
    rintro e V ⟨rfl, hb⟩
    have b := alloc_below V (.cells #[.int .i64 0, .slice A_x 0 c_x] 30)
    have S4 := Lib.hid (below_all hb b)
    have T_x := Lib.hid (Two.new V 30 (.int .i64 0) (.slice A_x 0 c_x))
    have U_x := Lib.hid ((UU.out.below hb).below b)
    clear hb b
    clear UU F_x
    have h0 := (Boxed.later N_h.out (below_all (below_all (below_all S1.out S2.out) S3.out) S4.out)).cell
    go_wp2_with fail
    generalize V.alloc (.cells #[.int .i64 0, .slice A_x 0 c_x] 30) = W4 at *
    generalize V.heap.size = o_x at *
    refine (F_y.out _ (V_h.out.below (below_all (below_all (below_all S1.out S2.out) S3.out) S4.out)) (HL.out.below (below_all BW.out (below_all (below_all (below_all S1.out S2.out) S3.out) S4.out)))).mono ?_
    rintro e W5 ⟨v, rfl, ho, hb⟩
    have S5 := Lib.hid hb
    clear hb
    clear h0
    obtain ⟨A_y, c_y, rfl, hu⟩ := own_is (k := 0) ho rfl
    have UU := Lib.hid hu
    clear ho hu
    go_wp2_with fail
    refine (chPlain_at 0 (.slice A_y 0 c_y) [] _ UU.out).mono ?_
    rintro e V ⟨rfl, hb⟩
    have b := alloc_below V (.cells #[.int .i64 0, .slice A_y 0 c_y] 30)
    have S6 := Lib.hid (below_all hb b)
    have T_y := Lib.hid (Two.new V 30 (.int .i64 0) (.slice A_y 0 c_y))
    have U_y := Lib.hid ((UU.out.below hb).below b)
    clear hb b
    clear UU F_y
    have h0 := (Boxed.later N_h.out (below_all (below_all (below_all (below_all (below_all S1.out S2.out) S3.out) S4.out) S5.out) S6.out)).cell
    go_wp2_with fail
    generalize V.alloc (.cells #[.int .i64 0, .slice A_y 0 c_y] 30) = W6 at *
    generalize V.heap.size = o_y at *
    refine (F_f.out _ (V_h.out.below (below_all (below_all (below_all (below_all (below_all S1.out S2.out) S3.out) S4.out) S5.out) S6.out)) (HL.out.below (below_all BW.out (below_all (below_all (below_all (below_all (below_all S1.out S2.out) S3.out) S4.out) S5.out) S6.out)))).mono ?_
    rintro e V ⟨rfl, hb⟩
    have b := alloc_below V (.cells #[.int .i64 0, .slice none 0 0] 32)
    have S7 := Lib.hid (below_all hb b)
    have T_f := Lib.hid (Two.new V 32 (.int .i64 0) (.slice none 0 0))
    have U_f := Lib.hid ((OwnU.nil V 0).us.below b)
    clear hb b
    clear h0
    have h0 := (Boxed.later N_h.out (below_all (below_all (below_all (below_all (below_all (below_all S1.out S2.out) S3.out) S4.out) S5.out) S6.out) S7.out)).cell
    go_wp2_with fail
    generalize V.alloc (.cells #[.int .i64 0, .slice none 0 0] 32) = W7 at *
    generalize V.heap.size = o_f at *
    refine (F_o.out _ (V_h.out.below (below_all (below_all (below_all (below_all (below_all (below_all S1.out S2.out) S3.out) S4.out) S5.out) S6.out) S7.out)) (HL.out.below (below_all BW.out (below_all (below_all (below_all (below_all (below_all (below_all S1.out S2.out) S3.out) S4.out) S5.out) S6.out) S7.out)))).mono ?_
    rintro e V ⟨rfl, hb⟩
    have b := alloc_below V (.cells #[.int .i64 0, .int .i64 0, .int .i64 0] 38)
    have S8 := Lib.hid (below_all hb b)
    have T_o := Lib.hid (Three.new V 38 (.int .i64 0) (.int .i64 0) (.int .i64 0))
    clear hb b
    clear h0
    have h0 := (Boxed.later N_h.out (below_all (below_all (below_all (below_all (below_all (below_all (below_all S1.out S2.out) S3.out) S4.out) S5.out) S6.out) S7.out) S8.out)).cell
    go_wp2_with fail
    generalize V.alloc (.cells #[.int .i64 0, .int .i64 0, .int .i64 0] 38) = W8 at *
    generalize V.heap.size = o_o at *
    refine (F_r.out _ (V_h.out.below (below_all (below_all (below_all (below_all (below_all (below_all (below_all S1.out S2.out) S3.out) S4.out) S5.out) S6.out) S7.out) S8.out)) (HL.out.below (below_all BW.out (below_all (below_all (below_all (below_all (below_all (below_all (below_all S1.out S2.out) S3.out) S4.out) S5.out) S6.out) S7.out) S8.out)))).mono ?_
    rintro e W9 ⟨rfl, hb⟩
    have S9 := Lib.hid hb
    clear hb
    clear h0
    have h0 := (Boxed.later N_h.out (below_all (below_all (below_all (below_all (below_all (below_all (below_all (below_all S1.out S2.out) S3.out) S4.out) S5.out) S6.out) S7.out) S8.out) S9.out)).cell
    go_wp2_with fail
    refine (F_c.out _ (V_h.out.below (below_all (below_all (below_all (below_all (below_all (below_all (below_all (below_all S1.out S2.out) S3.out) S4.out) S5.out) S6.out) S7.out) S8.out) S9.out)) (HL.out.below (below_all BW.out (below_all (below_all (below_all (below_all (below_all (below_all (below_all (below_all S1.out S2.out) S3.out) S4.out) S5.out) S6.out) S7.out) S8.out) S9.out)))).mono ?_
    rintro e W10 ⟨rfl, hb⟩
    have S10 := Lib.hid hb
    clear hb
    clear h0
    obtain ⟨x0, x1⟩ := (T_x.out.later (below_all (below_all (below_all (below_all (below_all S5.out S6.out) S7.out) S8.out) S9.out) S10.out)).cells
    obtain ⟨y0, y1⟩ := (T_y.out.later (below_all (below_all (below_all S7.out S8.out) S9.out) S10.out)).cells
    obtain ⟨f0, f1⟩ := (T_f.out.later (below_all (below_all S8.out S9.out) S10.out)).cells
    obtain ⟨o0, o1, o2⟩ := (T_o.out.later (below_all S9.out S10.out)).cells
    go_wp2_with fail
    go_ret
    exact ⟨rfl, (below_all BW.out (below_all (below_all (below_all (below_all (below_all (below_all (below_all (below_all (below_all S1.out S2.out) S3.out) S4.out) S5.out) S6.out) S7.out) S8.out) S9.out) S10.out))⟩
  | true =>
    obtain ⟨en, ex, ey, eo⟩ := Ch.ans_yes hrc
    rw [en, ex] at F_x
    rw [en, ey] at F_y
    rw [eo] at F_o
    rw [hrc] at F_c F_r
    obtain ⟨hr, hln, hone⟩ := Ch.rightC_iff.1 hrc
    have h32 : h.length ≤ 32 := hr.1
    have HR := Lib.hid hr
    have HO := Lib.hid hone
    have HRC := Lib.hid hrc
    clear en ex ey eo hrc hr hln hone
    have G_x := Lib.hid (fun w a b => rWw18_at h (.slice A h.length c) l (.slice B l.length d) w a b HR.out HO.out HLN.out)
    have G_y := Lib.hid (fun w a b => rRw18_at h (.slice A h.length c) l (.slice B l.length d) w a b HR.out HO.out HSM.out HLN.out)
    have G_o := Lib.hid (fun w a b => rOpen18_at h (.slice A h.length c) l (.slice B l.length d) w a b HR.out HSM.out HLN.out)
    have G_f := Lib.hid (fun w a b => rFull18_at h (.slice A h.length c) level l (.slice B l.length d) w a b HR.out HO.out HSM.out HLN.out)
    have F_f := Lib.hid (fun w a b hlev => chFull_at h (.slice A h.length c) level l (.slice B l.length d) w a b HSM.out HLN.out HRC.out hlev)
    have F_g := Lib.hid (fun w a b (hlev : Ch.levB level = false) => chFull_no h (.slice A h.length c) level l (.slice B l.length d) w a b HSM.out HLN.out (by rw [hlev, Bool.and_false]))
    have L_x := Lib.hid (Ch.ww_len h l)
    have L_y := Lib.hid (Ch.rw_len h l)
    have L_f := Lib.hid (Ch.full_len (decide (level = 1)) h l)
    unfold RetOpen at F_o G_o
    generalize Ch.openR h l = oo at *
    generalize (((oo.map (·.1)).getD 0 : Nat) : Int) = ch0 at *
    generalize (((oo.map (·.2.1)).getD 0 : Nat) : Int) = ch1 at *
    generalize (((oo.map (·.2.2)).getD 0 : Nat) : Int) = ch2 at *
    generalize oo.isSome = ob at *
    generalize Ch.wwR h l = l_x at *
    generalize Ch.rwR h l = l_y at *
    generalize Ch.fullR (decide (level = 1)) h l = l_f at *
    have M_x : Hid (l_x.length ≤ 4294967296) := by rw [Hid, L_x.out]; omega
    have M_y : Hid (l_y.length ≤ 4294967296) := by rw [Hid, L_y.out]; omega
    have M_f : Hid (l_f.length ≤ 4294967296) := by rw [Hid, L_f.out]; omega
    have h0 := (Boxed.later N_h.out (below_all S1.out S2.out)).cell
    go_wp2_with fail
    refine (F_x.out _ (V_h.out.below (below_all S1.out S2.out)) (HL.out.below (below_all BW.out (below_all S1.out S2.out)))).mono ?_
    rintro e W3 ⟨v, rfl, ho, hb⟩
    have S3 := Lib.hid hb
    clear hb
    clear h0
    obtain ⟨A_x, c_x, rfl, hu⟩ := own_is (k := h.length) ho L_x.out
    have UU := Lib.hid hu
    clear ho hu
    go_wp2_with fail
    refine (chPlain_at h.length (.slice A_x h.length c_x) l_x _ UU.out).mono ?_
    rintro e V ⟨rfl, hb⟩
    have b := alloc_below V (.cells #[.int .i64 h.length, .slice A_x h.length c_x] 30)
    have S4 := Lib.hid (below_all hb b)
    have T_x := Lib.hid (Two.new V 30 (.int .i64 h.length) (.slice A_x h.length c_x))
    have U_x := Lib.hid ((UU.out.below hb).below b)
    clear hb b
    clear UU F_x
    have h0 := (Boxed.later N_h.out (below_all (below_all (below_all S1.out S2.out) S3.out) S4.out)).cell
    go_wp2_with fail
    generalize V.alloc (.cells #[.int .i64 h.length, .slice A_x h.length c_x] 30) = W4 at *
    generalize V.heap.size = o_x at *
    refine (F_y.out _ (V_h.out.below (below_all (below_all (below_all S1.out S2.out) S3.out) S4.out)) (HL.out.below (below_all BW.out (below_all (below_all (below_all S1.out S2.out) S3.out) S4.out)))).mono ?_
    rintro e W5 ⟨v, rfl, ho, hb⟩
    have S5 := Lib.hid hb
    clear hb
    clear h0
    obtain ⟨A_y, c_y, rfl, hu⟩ := own_is (k := h.length) ho L_y.out
    have UU := Lib.hid hu
    clear ho hu
    go_wp2_with fail
    refine (chPlain_at h.length (.slice A_y h.length c_y) l_y _ UU.out).mono ?_
    rintro e V ⟨rfl, hb⟩
    have b := alloc_below V (.cells #[.int .i64 h.length, .slice A_y h.length c_y] 30)
    have S6 := Lib.hid (below_all hb b)
    have T_y := Lib.hid (Two.new V 30 (.int .i64 h.length) (.slice A_y h.length c_y))
    have U_y := Lib.hid ((UU.out.below hb).below b)
    clear hb b
    clear UU F_y
    cases hlev : Ch.levB level with
    | false =>
      have HLV := Lib.hid hlev
      clear hlev
      have h0 := (Boxed.later N_h.out (below_all (below_all (below_all (below_all (below_all S1.out S2.out) S3.out) S4.out) S5.out) S6.out)).cell
      go_wp2_with fail
      generalize V.alloc (.cells #[.int .i64 h.length, .slice A_y h.length c_y] 30) = W6 at *
      generalize V.heap.size = o_y at *
      refine (F_g.out _ (V_h.out.below (below_all (below_all (below_all (below_all (below_all S1.out S2.out) S3.out) S4.out) S5.out) S6.out)) (HL.out.below (below_all BW.out (below_all (below_all (below_all (below_all (below_all S1.out S2.out) S3.out) S4.out) S5.out) S6.out))) HLV.out).mono ?_
      rintro e V ⟨rfl, hb⟩
      have b := alloc_below V (.cells #[.int .i64 0, .slice none 0 0] 32)
      have S7 := Lib.hid (below_all hb b)
      have T_f := Lib.hid (Two.new V 32 (.int .i64 0) (.slice none 0 0))
      have U_f := Lib.hid ((OwnU.nil V 0).us.below b)
      clear hb b
      clear h0
      have h0 := (Boxed.later N_h.out (below_all (below_all (below_all (below_all (below_all (below_all S1.out S2.out) S3.out) S4.out) S5.out) S6.out) S7.out)).cell
      go_wp2_with fail
      generalize V.alloc (.cells #[.int .i64 0, .slice none 0 0] 32) = W7 at *
      generalize V.heap.size = o_f at *
      refine (F_o.out _ (V_h.out.below (below_all (below_all (below_all (below_all (below_all (below_all S1.out S2.out) S3.out) S4.out) S5.out) S6.out) S7.out)) (HL.out.below (below_all BW.out (below_all (below_all (below_all (below_all (below_all (below_all S1.out S2.out) S3.out) S4.out) S5.out) S6.out) S7.out)))).mono ?_
      rintro e V ⟨rfl, hb⟩
      have b := alloc_below V (.cells #[.int .i64 ch0, .int .i64 ch1, .int .i64 ch2] 38)
      have S8 := Lib.hid (below_all hb b)
      have T_o := Lib.hid (Three.new V 38 (.int .i64 ch0) (.int .i64 ch1) (.int .i64 ch2))
      clear hb b
      clear h0
      have h0 := (Boxed.later N_h.out (below_all (below_all (below_all (below_all (below_all (below_all (below_all S1.out S2.out) S3.out) S4.out) S5.out) S6.out) S7.out) S8.out)).cell
      go_wp2_with fail
      generalize V.alloc (.cells #[.int .i64 ch0, .int .i64 ch1, .int .i64 ch2] 38) = W8 at *
      generalize V.heap.size = o_o at *
      refine (F_r.out _ (V_h.out.below (below_all (below_all (below_all (below_all (below_all (below_all (below_all S1.out S2.out) S3.out) S4.out) S5.out) S6.out) S7.out) S8.out)) (HL.out.below (below_all BW.out (below_all (below_all (below_all (below_all (below_all (below_all (below_all S1.out S2.out) S3.out) S4.out) S5.out) S6.out) S7.out) S8.out)))).mono ?_
      rintro e W9 ⟨rfl, hb⟩
      have S9 := Lib.hid hb
      clear hb
      clear h0
      have h0 := (Boxed.later N_h.out (below_all (below_all (below_all (below_all (below_all (below_all (below_all (below_all S1.out S2.out) S3.out) S4.out) S5.out) S6.out) S7.out) S8.out) S9.out)).cell
      go_wp2_with fail
      refine (F_c.out _ (V_h.out.below (below_all (below_all (below_all (below_all (below_all (below_all (below_all (below_all S1.out S2.out) S3.out) S4.out) S5.out) S6.out) S7.out) S8.out) S9.out)) (HL.out.below (below_all BW.out (below_all (below_all (below_all (below_all (below_all (below_all (below_all (below_all S1.out S2.out) S3.out) S4.out) S5.out) S6.out) S7.out) S8.out) S9.out)))).mono ?_
      rintro e W10 ⟨rfl, hb⟩
      have S10 := Lib.hid hb
      clear hb
      clear h0
      have h0 := (Boxed.later N_h.out (below_all (below_all (below_all (below_all (below_all (below_all (below_all (below_all (below_all S1.out S2.out) S3.out) S4.out) S5.out) S6.out) S7.out) S8.out) S9.out) S10.out)).cell
      go_wp2_with fail
      refine (G_o.out _ (V_h.out.below (below_all (below_all (below_all (below_all (below_all (below_all (below_all (below_all (below_all S1.out S2.out) S3.out) S4.out) S5.out) S6.out) S7.out) S8.out) S9.out) S10.out)) (HL.out.below (below_all BW.out (below_all (below_all (below_all (below_all (below_all (below_all (below_all (below_all (below_all S1.out S2.out) S3.out) S4.out) S5.out) S6.out) S7.out) S8.out) S9.out) S10.out)))).mono ?_
      rintro e V ⟨rfl, hb⟩
      have b := alloc_below V (.cells #[.int .i64 ch0, .int .i64 ch1, .int .i64 ch2] 38)
      have S11 := Lib.hid (below_all hb b)
      have T_p := Lib.hid (Three.new V 38 (.int .i64 ch0) (.int .i64 ch1) (.int .i64 ch2))
      clear hb b
      clear h0
      have hq0 : (ch0 == ch0) = true := by simp
      have hq1 : (ch1 == ch1) = true := by simp
      have hq2 : (ch2 == ch2) = true := by simp
      have hqb : (ob != ob) = false := by simp
      go_wp2_with fail
      generalize V.alloc (.cells #[.int .i64 ch0, .int .i64 ch1, .int .i64 ch2] 38) = W11 at *
      generalize V.heap.size = o_p at *
      have UC_x := Lib.hid (U_x.out.below (below_all (below_all (below_all (below_all (below_all (below_all S5.out S6.out) S7.out) S8.out) S9.out) S10.out) S11.out))
      have UC_y := Lib.hid (U_y.out.below (below_all (below_all (below_all (below_all S7.out S8.out) S9.out) S10.out) S11.out))
      have VC := Lib.hid (V_h.out.below (below_all (below_all (below_all (below_all (below_all (below_all (below_all (below_all (below_all (below_all S1.out S2.out) S3.out) S4.out) S5.out) S6.out) S7.out) S8.out) S9.out) S10.out) S11.out))
      have LC := Lib.hid (HL.out.below (below_all BW.out (below_all (below_all (below_all (below_all (below_all (below_all (below_all (below_all (below_all (below_all S1.out S2.out) S3.out) S4.out) S5.out) S6.out) S7.out) S8.out) S9.out) S10.out) S11.out)))
      have HK : Hid (∀ W', Below W11.heap.size W11 W' → W'.cell? ⟨o_x, 0, none⟩ = some (.int .i64 h.length) ∧ W'.cell? ⟨o_x, 1, none⟩ = some (.slice A_x h.length c_x) ∧ W'.cell? ⟨o_y, 0, none⟩ = some (.int .i64 h.length) ∧ W'.cell? ⟨o_y, 1, none⟩ = some (.slice A_y h.length c_y) ∧ W'.cell? ⟨w.heap.size, 0, none⟩ = some (.slice A h.length c) ∧ W'.cell? ⟨o_o, 0, none⟩ = some (.int .i64 ch0) ∧ W'.cell? ⟨o_o, 1, none⟩ = some (.int .i64 ch1) ∧ W'.cell? ⟨o_o, 2, none⟩ = some (.int .i64 ch2) ∧ W'.cell? ⟨o_p, 0, none⟩ = some (.int .i64 ch0) ∧ W'.cell? ⟨o_p, 1, none⟩ = some (.int .i64 ch1) ∧ W'.cell? ⟨o_p, 2, none⟩ = some (.int .i64 ch2)) := fun W' h => ⟨(T_x.out.later (below_all (below_all (below_all (below_all (below_all (below_all (below_all S5.out S6.out) S7.out) S8.out) S9.out) S10.out) S11.out) h)).cells.1, (T_x.out.later (below_all (below_all (below_all (below_all (below_all (below_all (below_all S5.out S6.out) S7.out) S8.out) S9.out) S10.out) S11.out) h)).cells.2, (T_y.out.later (below_all (below_all (below_all (below_all (below_all S7.out S8.out) S9.out) S10.out) S11.out) h)).cells.1, (T_y.out.later (below_all (below_all (below_all (below_all (below_all S7.out S8.out) S9.out) S10.out) S11.out) h)).cells.2, (Boxed.later N_h.out (below_all (below_all (below_all (below_all (below_all (below_all (below_all (below_all (below_all (below_all (below_all S1.out S2.out) S3.out) S4.out) S5.out) S6.out) S7.out) S8.out) S9.out) S10.out) S11.out) h)).cell, (T_o.out.later (below_all (below_all (below_all S9.out S10.out) S11.out) h)).cells.1, (T_o.out.later (below_all (below_all (below_all S9.out S10.out) S11.out) h)).cells.2.1, (T_o.out.later (below_all (below_all (below_all S9.out S10.out) S11.out) h)).cells.2.2, (T_p.out.later h).cells.1, (T_p.out.later h).cells.2.1, (T_p.out.later h).cells.2.2⟩
      obtain ⟨x0, x1, y0, y1, h0, o0, o1, o2, p0, p1, p2⟩ := HK.out _ (Below.refl _ W11)
      have D := Lib.hid (Below.refl W11.heap.size W11).drew
      go_region_held3 (fun W' => W'.cell? ⟨o_x, 0, none⟩ = some (.int .i64 h.length) ∧ W'.cell? ⟨o_x, 1, none⟩ = some (.slice A_x h.length c_x) ∧ W'.cell? ⟨o_y, 0, none⟩ = some (.int .i64 h.length) ∧ W'.cell? ⟨o_y, 1, none⟩ = some (.slice A_y h.length c_y) ∧ W'.cell? ⟨w.heap.size, 0, none⟩ = some (.slice A h.length c) ∧ W'.cell? ⟨o_o, 0, none⟩ = some (.int .i64 ch0) ∧ W'.cell? ⟨o_o, 1, none⟩ = some (.int .i64 ch1) ∧ W'.cell? ⟨o_o, 2, none⟩ = some (.int .i64 ch2) ∧ W'.cell? ⟨o_p, 0, none⟩ = some (.int .i64 ch0) ∧ W'.cell? ⟨o_p, 1, none⟩ = some (.int .i64 ch1) ∧ W'.cell? ⟨o_p, 2, none⟩ = some (.int .i64 ch2))
        (first | (exact ⟨x0, x1, y0, y1, h0, o0, o1, o2, p0, p1, p2⟩) | (exact HK.out _ D.out) | (exact HK.out _ Y1.out) | (exact HK.out _ Y2.out) | (exact HK.out _ Y3.out) | (exact HK.out _ Y4.out))
        (first
                | (go_at_call 18; (with_reducible refine (G_x.out _ (VC.out.below D.out) (LC.out.below D.out)).mono ?_); rintro e z1 ⟨vx, rfl, hox, hz⟩; have Y1 := Lib.hid (below_all D.out hz); have Rx := Lib.hid hox.us; clear hox; clear hz)
                | (go_at_call 17; (with_reducible refine (rSame12_at h.length (.slice A_x h.length c_x) vx l_x _ (UC_x.out.below Y1.out) Rx.out M_x.out).mono ?_); rintro e z2 ⟨rfl, hz⟩; have Y2 := Lib.hid (below_all Y1.out hz); clear hz)
                | (go_at_call 19; (with_reducible refine (G_y.out _ (VC.out.below Y2.out) (LC.out.below Y2.out)).mono ?_); rintro e z3 ⟨vy, rfl, hoy, hz⟩; have Y3 := Lib.hid (below_all Y2.out hz); have Ry := Lib.hid hoy.us; clear hoy; clear hz)
                | (go_at_call 17; (with_reducible refine (rSame12_at h.length (.slice A_y h.length c_y) vy l_y _ (UC_y.out.below Y3.out) Ry.out M_y.out).mono ?_); rintro e W12 ⟨rfl, hz⟩; have Y4 := Lib.hid (below_all Y3.out hz); clear hz))
      all_goals
        have S12 := Lib.hid Y4.out
        clear x0 x1 y0 y1 h0 o0 o1 o2 p0 p1 p2 HK D Y1 Y2 Y3 Y4
        clear hq0 hq1 hq2 hqb VC LC
        have hl0 : (level != 0) = true := by rw [bne_iff_ne]; intro e; have := HLV.out; rw [e] at this; exact absurd this (by decide)
        have hl1 : (level != 1) = true := by rw [bne_iff_ne]; intro e; have := HLV.out; rw [e] at this; exact absurd this (by decide)
        obtain ⟨f0, f1⟩ := (T_f.out.later (below_all (below_all (below_all (below_all S8.out S9.out) S10.out) S11.out) S12.out)).cells
        go_wp2_with fail
        go_ret
        exact ⟨rfl, (below_all BW.out (below_all (below_all (below_all (below_all (below_all (below_all (below_all (below_all (below_all (below_all (below_all S1.out S2.out) S3.out) S4.out) S5.out) S6.out) S7.out) S8.out) S9.out) S10.out) S11.out) S12.out))⟩
    | true =>
      have HLV := Lib.hid hlev
      clear hlev
      have h0 := (Boxed.later N_h.out (below_all (below_all (below_all (below_all (below_all S1.out S2.out) S3.out) S4.out) S5.out) S6.out)).cell
      go_wp2_with fail
      generalize V.alloc (.cells #[.int .i64 h.length, .slice A_y h.length c_y] 30) = W6 at *
      generalize V.heap.size = o_y at *
      refine (F_f.out _ (V_h.out.below (below_all (below_all (below_all (below_all (below_all S1.out S2.out) S3.out) S4.out) S5.out) S6.out)) (HL.out.below (below_all BW.out (below_all (below_all (below_all (below_all (below_all S1.out S2.out) S3.out) S4.out) S5.out) S6.out))) HLV.out).mono ?_
      rintro e V ⟨v, rfl, ho, hb⟩
      obtain ⟨A_f, c_f, rfl, hu_f⟩ := own_is (k := h.length) ho L_f.out
      clear ho
      have b := alloc_below V (.cells #[.int .i64 h.length, .slice A_f h.length c_f] 32)
      have S7 := Lib.hid (below_all hb b)
      have T_f := Lib.hid (Two.new V 32 (.int .i64 h.length) (.slice A_f h.length c_f))
      have U_f := Lib.hid (hu_f.below b)
      clear hb b
      clear h0
      have h0 := (Boxed.later N_h.out (below_all (below_all (below_all (below_all (below_all (below_all S1.out S2.out) S3.out) S4.out) S5.out) S6.out) S7.out)).cell
      go_wp2_with fail
      generalize V.alloc (.cells #[.int .i64 h.length, .slice A_f h.length c_f] 32) = W7 at *
      generalize V.heap.size = o_f at *
      refine (F_o.out _ (V_h.out.below (below_all (below_all (below_all (below_all (below_all (below_all S1.out S2.out) S3.out) S4.out) S5.out) S6.out) S7.out)) (HL.out.below (below_all BW.out (below_all (below_all (below_all (below_all (below_all (below_all S1.out S2.out) S3.out) S4.out) S5.out) S6.out) S7.out)))).mono ?_
      rintro e V ⟨rfl, hb⟩
      have b := alloc_below V (.cells #[.int .i64 ch0, .int .i64 ch1, .int .i64 ch2] 38)
      have S8 := Lib.hid (below_all hb b)
      have T_o := Lib.hid (Three.new V 38 (.int .i64 ch0) (.int .i64 ch1) (.int .i64 ch2))
      clear hb b
      clear h0
      have h0 := (Boxed.later N_h.out (below_all (below_all (below_all (below_all (below_all (below_all (below_all S1.out S2.out) S3.out) S4.out) S5.out) S6.out) S7.out) S8.out)).cell
      go_wp2_with fail
      generalize V.alloc (.cells #[.int .i64 ch0, .int .i64 ch1, .int .i64 ch2] 38) = W8 at *
      generalize V.heap.size = o_o at *
      refine (F_r.out _ (V_h.out.below (below_all (below_all (below_all (below_all (below_all (below_all (below_all S1.out S2.out) S3.out) S4.out) S5.out) S6.out) S7.out) S8.out)) (HL.out.below (below_all BW.out (below_all (below_all (below_all (below_all (below_all (below_all (below_all S1.out S2.out) S3.out) S4.out) S5.out) S6.out) S7.out) S8.out)))).mono ?_
      rintro e W9 ⟨rfl, hb⟩
      have S9 := Lib.hid hb
      clear hb
      clear h0
      have h0 := (Boxed.later N_h.out (below_all (below_all (below_all (below_all (below_all (below_all (below_all (below_all S1.out S2.out) S3.out) S4.out) S5.out) S6.out) S7.out) S8.out) S9.out)).cell
      go_wp2_with fail
      refine (F_c.out _ (V_h.out.below (below_all (below_all (below_all (below_all (below_all (below_all (below_all (below_all S1.out S2.out) S3.out) S4.out) S5.out) S6.out) S7.out) S8.out) S9.out)) (HL.out.below (below_all BW.out (below_all (below_all (below_all (below_all (below_all (below_all (below_all (below_all S1.out S2.out) S3.out) S4.out) S5.out) S6.out) S7.out) S8.out) S9.out)))).mono ?_
      rintro e W10 ⟨rfl, hb⟩
      have S10 := Lib.hid hb
      clear hb
      clear h0
      have h0 := (Boxed.later N_h.out (below_all (below_all (below_all (below_all (below_all (below_all (below_all (below_all (below_all S1.out S2.out) S3.out) S4.out) S5.out) S6.out) S7.out) S8.out) S9.out) S10.out)).cell
      go_wp2_with fail
      refine (G_o.out _ (V_h.out.below (below_all (below_all (below_all (below_all (below_all (below_all (below_all (below_all (below_all S1.out S2.out) S3.out) S4.out) S5.out) S6.out) S7.out) S8.out) S9.out) S10.out)) (HL.out.below (below_all BW.out (below_all (below_all (below_all (below_all (below_all (below_all (below_all (below_all (below_all S1.out S2.out) S3.out) S4.out) S5.out) S6.out) S7.out) S8.out) S9.out) S10.out)))).mono ?_
      rintro e V ⟨rfl, hb⟩
      have b := alloc_below V (.cells #[.int .i64 ch0, .int .i64 ch1, .int .i64 ch2] 38)
      have S11 := Lib.hid (below_all hb b)
      have T_p := Lib.hid (Three.new V 38 (.int .i64 ch0) (.int .i64 ch1) (.int .i64 ch2))
      clear hb b
      clear h0
      have hq0 : (ch0 == ch0) = true := by simp
      have hq1 : (ch1 == ch1) = true := by simp
      have hq2 : (ch2 == ch2) = true := by simp
      have hqb : (ob != ob) = false := by simp
      go_wp2_with fail
      generalize V.alloc (.cells #[.int .i64 ch0, .int .i64 ch1, .int .i64 ch2] 38) = W11 at *
      generalize V.heap.size = o_p at *
      have UC_x := Lib.hid (U_x.out.below (below_all (below_all (below_all (below_all (below_all (below_all S5.out S6.out) S7.out) S8.out) S9.out) S10.out) S11.out))
      have UC_y := Lib.hid (U_y.out.below (below_all (below_all (below_all (below_all S7.out S8.out) S9.out) S10.out) S11.out))
      have VC := Lib.hid (V_h.out.below (below_all (below_all (below_all (below_all (below_all (below_all (below_all (below_all (below_all (below_all S1.out S2.out) S3.out) S4.out) S5.out) S6.out) S7.out) S8.out) S9.out) S10.out) S11.out))
      have LC := Lib.hid (HL.out.below (below_all BW.out (below_all (below_all (below_all (below_all (below_all (below_all (below_all (below_all (below_all (below_all S1.out S2.out) S3.out) S4.out) S5.out) S6.out) S7.out) S8.out) S9.out) S10.out) S11.out)))
      have HK : Hid (∀ W', Below W11.heap.size W11 W' → W'.cell? ⟨o_x, 0, none⟩ = some (.int .i64 h.length) ∧ W'.cell? ⟨o_x, 1, none⟩ = some (.slice A_x h.length c_x) ∧ W'.cell? ⟨o_y, 0, none⟩ = some (.int .i64 h.length) ∧ W'.cell? ⟨o_y, 1, none⟩ = some (.slice A_y h.length c_y) ∧ W'.cell? ⟨w.heap.size, 0, none⟩ = some (.slice A h.length c) ∧ W'.cell? ⟨o_o, 0, none⟩ = some (.int .i64 ch0) ∧ W'.cell? ⟨o_o, 1, none⟩ = some (.int .i64 ch1) ∧ W'.cell? ⟨o_o, 2, none⟩ = some (.int .i64 ch2) ∧ W'.cell? ⟨o_p, 0, none⟩ = some (.int .i64 ch0) ∧ W'.cell? ⟨o_p, 1, none⟩ = some (.int .i64 ch1) ∧ W'.cell? ⟨o_p, 2, none⟩ = some (.int .i64 ch2)) := fun W' h => ⟨(T_x.out.later (below_all (below_all (below_all (below_all (below_all (below_all (below_all S5.out S6.out) S7.out) S8.out) S9.out) S10.out) S11.out) h)).cells.1, (T_x.out.later (below_all (below_all (below_all (below_all (below_all (below_all (below_all S5.out S6.out) S7.out) S8.out) S9.out) S10.out) S11.out) h)).cells.2, (T_y.out.later (below_all (below_all (below_all (below_all (below_all S7.out S8.out) S9.out) S10.out) S11.out) h)).cells.1, (T_y.out.later (below_all (below_all (below_all (below_all (below_all S7.out S8.out) S9.out) S10.out) S11.out) h)).cells.2, (Boxed.later N_h.out (below_all (below_all (below_all (below_all (below_all (below_all (below_all (below_all (below_all (below_all (below_all S1.out S2.out) S3.out) S4.out) S5.out) S6.out) S7.out) S8.out) S9.out) S10.out) S11.out) h)).cell, (T_o.out.later (below_all (below_all (below_all S9.out S10.out) S11.out) h)).cells.1, (T_o.out.later (below_all (below_all (below_all S9.out S10.out) S11.out) h)).cells.2.1, (T_o.out.later (below_all (below_all (below_all S9.out S10.out) S11.out) h)).cells.2.2, (T_p.out.later h).cells.1, (T_p.out.later h).cells.2.1, (T_p.out.later h).cells.2.2⟩
      obtain ⟨x0, x1, y0, y1, h0, o0, o1, o2, p0, p1, p2⟩ := HK.out _ (Below.refl _ W11)
      have D := Lib.hid (Below.refl W11.heap.size W11).drew
      go_region_held3 (fun W' => W'.cell? ⟨o_x, 0, none⟩ = some (.int .i64 h.length) ∧ W'.cell? ⟨o_x, 1, none⟩ = some (.slice A_x h.length c_x) ∧ W'.cell? ⟨o_y, 0, none⟩ = some (.int .i64 h.length) ∧ W'.cell? ⟨o_y, 1, none⟩ = some (.slice A_y h.length c_y) ∧ W'.cell? ⟨w.heap.size, 0, none⟩ = some (.slice A h.length c) ∧ W'.cell? ⟨o_o, 0, none⟩ = some (.int .i64 ch0) ∧ W'.cell? ⟨o_o, 1, none⟩ = some (.int .i64 ch1) ∧ W'.cell? ⟨o_o, 2, none⟩ = some (.int .i64 ch2) ∧ W'.cell? ⟨o_p, 0, none⟩ = some (.int .i64 ch0) ∧ W'.cell? ⟨o_p, 1, none⟩ = some (.int .i64 ch1) ∧ W'.cell? ⟨o_p, 2, none⟩ = some (.int .i64 ch2))
        (first | (exact ⟨x0, x1, y0, y1, h0, o0, o1, o2, p0, p1, p2⟩) | (exact HK.out _ D.out) | (exact HK.out _ Y1.out) | (exact HK.out _ Y2.out) | (exact HK.out _ Y3.out) | (exact HK.out _ Y4.out))
        (first
                | (go_at_call 18; (with_reducible refine (G_x.out _ (VC.out.below D.out) (LC.out.below D.out)).mono ?_); rintro e z1 ⟨vx, rfl, hox, hz⟩; have Y1 := Lib.hid (below_all D.out hz); have Rx := Lib.hid hox.us; clear hox; clear hz)
                | (go_at_call 17; (with_reducible refine (rSame12_at h.length (.slice A_x h.length c_x) vx l_x _ (UC_x.out.below Y1.out) Rx.out M_x.out).mono ?_); rintro e z2 ⟨rfl, hz⟩; have Y2 := Lib.hid (below_all Y1.out hz); clear hz)
                | (go_at_call 19; (with_reducible refine (G_y.out _ (VC.out.below Y2.out) (LC.out.below Y2.out)).mono ?_); rintro e z3 ⟨vy, rfl, hoy, hz⟩; have Y3 := Lib.hid (below_all Y2.out hz); have Ry := Lib.hid hoy.us; clear hoy; clear hz)
                | (go_at_call 17; (with_reducible refine (rSame12_at h.length (.slice A_y h.length c_y) vy l_y _ (UC_y.out.below Y3.out) Ry.out M_y.out).mono ?_); rintro e W12 ⟨rfl, hz⟩; have Y4 := Lib.hid (below_all Y3.out hz); clear hz))
      all_goals
        have S12 := Lib.hid Y4.out
        clear x0 x1 y0 y1 h0 o0 o1 o2 p0 p1 p2 HK D Y1 Y2 Y3 Y4
        clear hq0 hq1 hq2 hqb VC LC
        have hl : (level != 0) = false ∨ (level != 0) = true ∧ (level != 1) = false := by
          rcases Ch.levB_iff.1 HLV.out with e | e
          · exact .inl (by rw [e]; rfl)
          · exact .inr ⟨by rw [e]; rfl, by rw [e]; rfl⟩
        rcases hl with hl0 | ⟨hl0, hl1⟩
        all_goals
          go_wp2_with fail
          have UC_f := Lib.hid (U_f.out.below (below_all (below_all (below_all (below_all S8.out S9.out) S10.out) S11.out) S12.out))
          have VC := Lib.hid (V_h.out.below (below_all (below_all (below_all (below_all (below_all (below_all (below_all (below_all (below_all (below_all (below_all S1.out S2.out) S3.out) S4.out) S5.out) S6.out) S7.out) S8.out) S9.out) S10.out) S11.out) S12.out))
          have LC := Lib.hid (HL.out.below (below_all BW.out (below_all (below_all (below_all (below_all (below_all (below_all (below_all (below_all (below_all (below_all (below_all S1.out S2.out) S3.out) S4.out) S5.out) S6.out) S7.out) S8.out) S9.out) S10.out) S11.out) S12.out)))
          have HK : Hid (∀ W', Below W12.heap.size W12 W' → W'.cell? ⟨o_f, 0, none⟩ = some (.int .i64 h.length) ∧ W'.cell? ⟨o_f, 1, none⟩ = some (.slice A_f h.length c_f) ∧ W'.cell? ⟨w.heap.size, 0, none⟩ = some (.slice A h.length c)) := fun W' h => ⟨(T_f.out.later (below_all (below_all (below_all (below_all (below_all S8.out S9.out) S10.out) S11.out) S12.out) h)).cells.1, (T_f.out.later (below_all (below_all (below_all (below_all (below_all S8.out S9.out) S10.out) S11.out) S12.out) h)).cells.2, (Boxed.later N_h.out (below_all (below_all (below_all (below_all (below_all (below_all (below_all (below_all (below_all (below_all (below_all (below_all S1.out S2.out) S3.out) S4.out) S5.out) S6.out) S7.out) S8.out) S9.out) S10.out) S11.out) S12.out) h)).cell⟩
          obtain ⟨f0, f1, h0⟩ := HK.out _ (Below.refl _ W12)
          have D := Lib.hid (Below.refl W12.heap.size W12).drew
          go_region_held3 (fun W' => W'.cell? ⟨o_f, 0, none⟩ = some (.int .i64 h.length) ∧ W'.cell? ⟨o_f, 1, none⟩ = some (.slice A_f h.length c_f) ∧ W'.cell? ⟨w.heap.size, 0, none⟩ = some (.slice A h.length c))
            (first | (exact ⟨f0, f1, h0⟩) | (exact HK.out _ D.out) | (exact HK.out _ Y1.out) | (exact HK.out _ Y2.out) | (exact HK.out _ Y3.out))
            (first
                        | (go_at_call 9; (with_reducible refine (chPlain_at h.length (.slice A_f h.length c_f) l_f _ (UC_f.out.below D.out)).mono ?_); rintro e z1 ⟨rfl, hz⟩; have Y1 := Lib.hid (below_all D.out hz); clear hz)
                        | (go_at_call 20; (with_reducible refine (G_f.out _ (VC.out.below Y1.out) (LC.out.below Y1.out)).mono ?_); rintro e z2 ⟨vf, rfl, hof, hz⟩; have Y2 := Lib.hid (below_all Y1.out hz); have Rf := Lib.hid hof.us; clear hof; clear hz)
                        | (go_at_call 17; (with_reducible refine (rSame12_at h.length (.slice A_f h.length c_f) vf l_f _ (UC_f.out.below Y2.out) Rf.out M_f.out).mono ?_); rintro e W13 ⟨rfl, hz⟩; have Y3 := Lib.hid (below_all Y2.out hz); clear hz))
          all_goals
            have S13 := Lib.hid Y3.out
            clear f0 f1 h0 HK D Y1 Y2 Y3
            go_wp2_with fail
            go_ret
            exact ⟨rfl, (below_all BW.out (below_all (below_all (below_all (below_all (below_all (below_all (below_all (below_all (below_all (below_all (below_all (below_all S1.out S2.out) S3.out) S4.out) S5.out) S6.out) S7.out) S8.out) S9.out) S10.out) S11.out) S12.out) S13.out))⟩
end Go.Proofs.Ytahacjfeopjbaaa
