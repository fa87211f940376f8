/-
  The law ChoiceOf: the choices that any order makes are the document's; they may be, and leave no pair open.
  Conditions: the arguments read as a history and as numbers.
-/
import Derived.Test.YtahacjfeopjbaaaChAwake
import Derived.Test.YtahacjfeopjbaaaHiFewM
import Derived.Test.YtahacjfeopjbaaaChRefH
import Derived.Test.YtahacjfeopjbaaaChRefC
import Derived.Test.YtahacjfeopjbaaaChSame
set_option maxRecDepth 4000
namespace Go.Proofs.Ytahacjfeopjbaaa
open Go.RowKit

namespace Ch
open Gf So
theorem ofA_len (h : List Txn) (o : List Int) : (ofA h o).length ≤ 20000 := by
  cases hb : Hi.rightB h && permB o h.length with
  | false => rw [ofA_no hb]; exact Nat.zero_le _
  | true =>
    rw [ofA, hb, if_pos rfl]
    exact of_len ((Hi.rightB_iff h).1 (Bool.and_eq_true_iff.1 hb).1) _
theorem ofA_all {h : List Txn} {o : List Int} (hb : (Hi.rightB h && permB o h.length) = true) : rightC h (ofA h o) = true ∧ openA h (ofA h o) = none := by
  have hr := (Hi.rightB_iff h).1 (Bool.and_eq_true_iff.1 hb).1
  rw [ofA, hb, if_pos rfl]
  refine ⟨of_right hr _, ?_⟩
  rw [(ans_yes (of_right hr _)).2.2.2, of_none]
end Ch

set_option maxHeartbeats 8000000 in
theorem lawChoiceOf (h : List So.Txn) (u : Value) (o : List Int) (v : Value) (w : World) (hv : Txns w u h) (hl : Ns w v o) : Calls Try.prog 4 #[.agg #[u], v] w (RetBool w true) := by
  have HV := Lib.hid hv
  have HL := Lib.hid hl
  obtain ⟨A, c, rfl, -⟩ := hv.spelled
  obtain ⟨B, d, rfl, -⟩ := hl.spelled
  have N_h := Lib.hid (Boxed.new w 24 (.slice A h.length c))
  have BW := Lib.hid (alloc_below w (.cells #[.slice A h.length c] 24))
  have V_h := Lib.hid (HV.out.below BW.out)
  clear hv hl
  go_enter Try.func4, Try.ntmps4
  go_wp2_with fail
  generalize w.alloc (.cells #[.slice A h.length c] 24) = W0 at *
  go_wp2_with fail
  refine (chAwake_at _).mono ?_
  rintro e W1 ⟨rfl, hb⟩
  have S1 := Lib.hid hb
  clear hb
  have h0 := (Boxed.later N_h.out S1.out).cell
  go_wp2_with fail
  refine (few8_20 h _ _ (V_h.out.below S1.out)).mono ?_
  rintro e W2 ⟨rfl, hb⟩
  have S2 := Lib.hid hb
  clear hb
  clear h0
  cases hf : Hi.fewM 20 h with
  | false =>
    clear hf
    have h0 := (Boxed.later N_h.out (below_all S1.out S2.out)).cell
    go_wp2_with fail
    go_ret
    exact ⟨rfl, (below_all BW.out (below_all S1.out S2.out))⟩
  | true =>
  have HSM := Lib.hid (Hi.fewM_small (by decide) hf).2
  clear hf
  have h0 := (Boxed.later N_h.out (below_all S1.out S2.out)).cell
  by_cases h60 : 60 < o.length
  ·
    go_wp2_with fail
    go_ret
    exact ⟨rfl, (below_all BW.out (below_all S1.out S2.out))⟩
  clear h0
  have HON : Hid (o.length ≤ 4294967296) := by rw [Hid]; omega
  have hh32 := HSM.out.1
  have F_p := Lib.hid (fun w b => rPerm18_at o (.slice B o.length d) h.length w b HON.out hh32)
  have F_t := Lib.hid (fun w a => rRight8_at h (.slice A h.length c) w a HSM.out.2)
  have F_q := Lib.hid (fun w a b => chOf_at h (.slice A h.length c) o (.slice B o.length d) w a b HSM.out HON.out)
  have G_q := Lib.hid (fun w a b => rOf18_at h (.slice A h.length c) o (.slice B o.length d) w a b HSM.out HON.out)
  have HLL : Hid ((Ch.ofA h o).length ≤ 20000) := Ch.ofA_len h o
  have HAN := Lib.hid (fun (p : (Hi.rightB h && Ch.permB o h.length) = true) => Ch.ofA_all p)
  obtain ⟨l, hll⟩ : ∃ l, l = Ch.ofA h o := ⟨_, rfl⟩
  rw [← hll] at F_q G_q HLL HAN
  clear hll
  have h0 := (Boxed.later N_h.out (below_all S1.out S2.out)).cell
  go_wp2_with fail
  refine (F_q.out _ (V_h.out.below (below_all S1.out S2.out)) (HL.out.below (below_all BW.out (below_all S1.out S2.out)))).mono ?_
  rintro e W3 ⟨v1, rfl, ho1, hb⟩
  have S3 := Lib.hid hb
  clear hb
  clear h0
  obtain ⟨A1, c1, rfl⟩ := own_form ho1
  have T1 := Lib.hid (show Tris _ (.slice A1 l.length c1) l from Rows'.own ho1)
  clear ho1
  have h0 := (Boxed.later N_h.out (below_all (below_all S1.out S2.out) S3.out)).cell
  go_wp2_with fail
  refine (G_q.out _ (V_h.out.below (below_all (below_all S1.out S2.out) S3.out)) (HL.out.below (below_all BW.out (below_all (below_all S1.out S2.out) S3.out)))).mono ?_
  rintro e W4 ⟨v2, rfl, ho2, hb⟩
  have S4 := Lib.hid hb
  clear hb
  clear h0
  have T2 := Lib.hid (show Tris _ v2 l from Rows'.own ho2)
  clear ho2
  go_wp2_with fail
  refine (rChoicesT9_at l (.slice A1 l.length c1) v2 _ (T1.out.below S4.out) T2.out (Nat.le_trans HLL.out (by decide))).mono ?_
  rintro e W5 ⟨rfl, hb⟩
  have S5 := Lib.hid hb
  clear hb
  have h0 := (Boxed.later N_h.out (below_all (below_all (below_all (below_all S1.out S2.out) S3.out) S4.out) S5.out)).cell
  go_wp2_with fail
  refine (F_t.out _ (V_h.out.below (below_all (below_all (below_all (below_all S1.out S2.out) S3.out) S4.out) S5.out))).mono ?_
  rintro e W6 ⟨rfl, hb⟩
  have S6 := Lib.hid hb
  clear hb
  clear h0
  have h0 := (Boxed.later N_h.out (below_all (below_all (below_all (below_all (below_all S1.out S2.out) S3.out) S4.out) S5.out) S6.out)).cell
  go_wp2_with fail
  refine (F_p.out _ (HL.out.below (below_all BW.out (below_all (below_all (below_all (below_all (below_all S1.out S2.out) S3.out) S4.out) S5.out) S6.out)))).mono ?_
  rintro e _ ⟨rfl, rfl⟩
  clear h0
  cases hrb : Hi.rightB h with
  | false =>
    generalize Ch.permB o h.length = pb at *
    clear hrb
    go_wp2_with fail
    go_ret
    exact ⟨rfl, (below_all BW.out (below_all (below_all (below_all (below_all (below_all S1.out S2.out) S3.out) S4.out) S5.out) S6.out))⟩
  | true =>
  cases hpb : Ch.permB o h.length with
  | false =>
    clear hrb hpb
    go_wp2_with fail
    go_ret
    exact ⟨rfl, (below_all BW.out (below_all (below_all (below_all (below_all (below_all S1.out S2.out) S3.out) S4.out) S5.out) S6.out))⟩
  | true =>
  obtain ⟨hrc, hop⟩ := HAN.out (by rw [hrb, hpb]; rfl)
  clear hrb hpb
  have HLN : Hid (l.length ≤ 4294967296) := Nat.le_trans HLL.out (by decide)
  have F_o := Lib.hid (fun w a b => chOpen_at h (.slice A h.length c) l (.slice A1 l.length c1) w a b HSM.out HLN.out)
  rw [hop] at F_o
  unfold RetOpen at F_o
  dsimp only [Option.map, Option.getD, Option.isSome] at F_o
  have F_c := Lib.hid (fun w a b => chRight_at h (.slice A h.length c) l (.slice A1 l.length c1) w a b HSM.out HLN.out)
  rw [hrc] at F_c
  clear hrc hop
  have hl1 := HLL.out
  have hl2 : decide ((l.length : Int) > 20000) = false := decide_eq_false (by omega)
  have hl3 : decide ((20000 : Int) < (l.length : Int)) = false := decide_eq_false (by omega)
  have hl4 : decide (20000 < l.length) = false := decide_eq_false (by omega)
  have h0 := (Boxed.later N_h.out (below_all (below_all (below_all (below_all (below_all S1.out S2.out) S3.out) S4.out) S5.out) S6.out)).cell
  go_wp2_with fail
  refine (F_o.out _ (V_h.out.below (below_all (below_all (below_all (below_all (below_all S1.out S2.out) S3.out) S4.out) S5.out) S6.out)) (T1.out.below (below_all (below_all S4.out S5.out) S6.out))).mono ?_
  rintro e V ⟨rfl, hb⟩
  have b := alloc_below V (.cells #[.int .i64 0, .int .i64 0, .int .i64 0] 38)
  have S7 := Lib.hid (below_all hb b)
  have T_x := Lib.hid (Three.new V 38 (.int .i64 0) (.int .i64 0) (.int .i64 0))
  clear hb b
  clear h0
  have h0 := (Boxed.later N_h.out (below_all (below_all (below_all (below_all (below_all (below_all S1.out S2.out) S3.out) S4.out) S5.out) S6.out) S7.out)).cell
  go_wp2_with fail
  generalize V.alloc (.cells #[.int .i64 0, .int .i64 0, .int .i64 0] 38) = W7 at *
  generalize V.heap.size = o_x at *
  refine (F_c.out _ (V_h.out.below (below_all (below_all (below_all (below_all (below_all (below_all S1.out S2.out) S3.out) S4.out) S5.out) S6.out) S7.out)) (T1.out.below (below_all (below_all (below_all S4.out S5.out) S6.out) S7.out))).mono ?_
  rintro e W8 ⟨rfl, hb⟩
  have S8 := Lib.hid hb
  clear hb
  clear h0
  go_wp2_with fail
  go_ret
  exact ⟨rfl, (below_all BW.out (below_all (below_all (below_all (below_all (below_all (below_all (below_all S1.out S2.out) S3.out) S4.out) S5.out) S6.out) S7.out) S8.out))⟩
end Go.Proofs.Ytahacjfeopjbaaa
