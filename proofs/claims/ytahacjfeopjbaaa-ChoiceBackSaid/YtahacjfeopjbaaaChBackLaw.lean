/-
  The law ChoiceBack: a choice and the same the other way round lead back, at either level.
  Conditions: the arguments read as a history and as choices.
-/
import Derived.Test.YtahacjfeopjbaaaChAwake
import Derived.Test.YtahacjfeopjbaaaHiAll
import Derived.Test.YtahacjfeopjbaaaChRefC
import Derived.Test.YtahacjfeopjbaaaChMoreRow
import Derived.Test.YtahacjfeopjbaaaGfAll
set_option maxRecDepth 4000
namespace Go.Proofs.Ytahacjfeopjbaaa
open Go.RowKit
set_option maxHeartbeats 8000000 in
theorem lawChoiceBack (h : List So.Txn) (u : Value) (l : List (Int × Int × Int)) (v : Value) (w : World) (hv : Txns w u h) (hl : Tris w v l) : Calls Try.prog 6 #[.agg #[u], v] w (RetBool w true) := by
  obtain ⟨i0, hi0, hz0, hz1, hz2⟩ := info_parts tri_info
  have I0 := Lib.hid hi0
  have I1 := Lib.hid hz0
  have I2 := Lib.hid hz1
  have I3 := Lib.hid hz2
  clear hi0 hz0 hz1 hz2
  have HV := Lib.hid hv
  have HL := Lib.hid hl
  obtain ⟨A, c, rfl, -⟩ := hv.spelled
  obtain ⟨B, d, rfl, -⟩ := hl.spelled
  have N_h := Lib.hid (Boxed.new w 24 (.slice A h.length c))
  have BW := Lib.hid (alloc_below w (.cells #[.slice A h.length c] 24))
  have V_h := Lib.hid (HV.out.below BW.out)
  clear hv hl
  go_enter Try.func6, Try.ntmps6
  go_wp2_with fail
  generalize w.alloc (.cells #[.slice A h.length c] 24) = W0 at *
  go_wp2_with fail
  refine (chAwake_at _).mono ?_
  rintro e W1 ⟨rfl, hb⟩
  have S1 := Lib.hid hb
  clear hb
  have h0 := (Boxed.later N_h.out S1.out).cell
  go_wp2_with fail
  refine (few8_at h _ _ (V_h.out.below S1.out)).mono ?_
  rintro e W2 ⟨rfl, hb⟩
  have S2 := Lib.hid hb
  clear hb
  clear h0
  cases hf : Hi.fewB h with
  | false =>
    clear hf
    have h0 := (Boxed.later N_h.out (below_all S1.out S2.out)).cell
    go_wp2_with fail
    go_ret
    exact ⟨rfl, (below_all BW.out (below_all S1.out S2.out))⟩
  | true =>
  have HSM := Lib.hid (Hi.few_small hf).2
  clear hf
  have h0 := (Boxed.later N_h.out (below_all S1.out S2.out)).cell
  by_cases h60 : 60 < l.length
  ·
    go_wp2_with fail
    go_ret
    exact ⟨rfl, (below_all BW.out (below_all S1.out S2.out))⟩
  clear h0
  by_cases hl0 : l.length = 0
  ·
    have hz1 : ((l.length : Int) == 0) = true := by rw [beq_iff_eq]; omega
    have hz2 : (l.length == 0) = true := by rw [beq_iff_eq]; exact hl0
    have h0 := (Boxed.later N_h.out (below_all S1.out S2.out)).cell
    go_wp2_with fail
    go_ret
    exact ⟨rfl, (below_all BW.out (below_all S1.out S2.out))⟩
  have hz1 : ((l.length : Int) == 0) = false := by rw [beq_eq_false_iff_ne]; omega
  have hz2 : (l.length == 0) = false := by rw [beq_eq_false_iff_ne]; exact hl0
  have hlp : 0 < l.length := by omega
  clear hl0
  have HLN : Hid (l.length ≤ 4294967296) := by rw [Hid]; omega
  have F_c := Lib.hid (fun w a b => chRight_at h (.slice A h.length c) l (.slice B l.length d) w a b HSM.out HLN.out)
  cases hrc : Ch.rightC h l with
  | false =>
    rw [hrc] at F_c
    clear hrc
    have h0 := (Boxed.later N_h.out (below_all S1.out S2.out)).cell
    go_wp2_with fail
    refine (F_c.out _ (V_h.out.below (below_all S1.out S2.out)) (HL.out.below (below_all BW.out (below_all S1.out S2.out)))).mono ?_
    rintro e W3 ⟨rfl, hb⟩
    have S3 := Lib.hid hb
    clear hb
    clear h0
    go_wp2_with fail
    go_ret
    exact ⟨rfl, (below_all BW.out (below_all (below_all S1.out S2.out) S3.out))⟩
  | true =>
  rw [hrc] at F_c
  obtain ⟨ad, hA, hblk, -⟩ := tri_first HL.out hlp
  subst hA
  have HAD := Lib.hid hblk
  clear hblk
  have h0 := (Boxed.later N_h.out (below_all S1.out S2.out)).cell
  go_wp2_with fail
  refine (F_c.out _ (V_h.out.below (below_all S1.out S2.out)) (HL.out.below (below_all BW.out (below_all S1.out S2.out)))).mono ?_
  rintro e W3 ⟨rfl, hb⟩
  have S3 := Lib.hid hb
  clear hb
  clear h0
  have h20 : l.length < 20000 := by omega
  have HTF : Hid (∀ W', Below w.heap.size w W' → W'.cell? ad = some (.int .i64 (l[0]'hlp).1) ∧ W'.cell? ⟨ad.block, ad.off + 1, none⟩ = some (.int .i64 (l[0]'hlp).2.1) ∧ W'.cell? ⟨ad.block, ad.off + 2, none⟩ = some (.int .i64 (l[0]'hlp).2.2)) := fun W' hb => by
    obtain ⟨ad', e, _, h1, h2, h3⟩ := tri_first (HL.out.below hb) hlp
    cases e
    exact ⟨h1, h2, h3⟩
  have hm := List.getElem_mem hlp
  generalize l[0]'hlp = z at *
  obtain ⟨zk, za, zb⟩ := z
  dsimp only at HTF
  have hone := (Ch.rightC_iff.1 hrc).2.2 _ hm
  have hrm : Ch.rightC h (l ++ [(zk, zb, za)]) = true := by rw [Ch.right_more h20, hrc, Bool.true_and]; exact Ch.one_back hone
  have H1 := Lib.hid (fun si => Ch.full_has si hrm (List.mem_append_left _ hm))
  have H2 := Lib.hid (fun si => Ch.full_has si hrm (k := zk) (a := zb) (b := za) (List.mem_append_right _ List.mem_cons_self))
  have HRM := Lib.hid hrm
  have HOK := Lib.hid (fun si => Ch.full_ok (l := l ++ [(zk, zb, za)]) si (Ch.rightC_iff.1 hrc).1)
  have L_m := Lib.hid (fun si => Ch.full_len si h (l ++ [(zk, zb, za)]))
  have HLM : Hid ((l ++ [(zk, zb, za)]).length ≤ 4294967296) := by rw [Hid, List.length_append, List.length_singleton]; omega
  clear hrc hm hone hrm
  go_upto_region 8 with fail
  have LCX := Lib.hid (HL.out.below (below_all BW.out (below_all (below_all S1.out S2.out) S3.out)))
  go_upto_region 9 with (at_builtin; (refine wpList_append_sl W3 rfl (.tmp 36) (.tmp 37) 25 rfl W3.heap.size 38 i0 _ 3 24 Try.underlying25 I0.out I1.out I2.out I3.out rfl (by decide) (.slice none 0 0) 0 [] rfl (World.ownsRow_nil _ _ _ _) (.slice (some ad) l.length d) l.length (l.flatMap triC) rfl LCX.out (tri_ones l) (by simp only [maxLen]; omega) (by omega) (Nat.le_refl _) ?_; intro v2 w2 hown2 hgrow2 hat2; rw [Nat.zero_add, List.nil_append] at hown2; obtain ⟨A_c, c_c, rfl⟩ := own_form hown2; have O_c := Lib.hid hown2; have hb2 := below_append (Below.refl W3.heap.size W3) (Nat.le_refl _) (World.ownsRow_nil W3 W3.heap.size 38 3) hgrow2; have S4 := Lib.hid hb2; clear hown2 hgrow2 hat2 hb2))
  clear LCX
  obtain ⟨z0, z1, z2⟩ := HTF.out _ (below_all BW.out (below_all (below_all (below_all S1.out S2.out) S3.out) S4.out))
  go_wp2_with fail
  refine (rBack18_at zk za zb _).mono ?_
  rintro e W5 ⟨rfl, hb⟩
  have S5 := Lib.hid hb
  clear hb
  clear z0 z1 z2
  have HBX := Lib.hid (below_all (below_all S4.out S5.out) (alloc_below W5 (.cells #[.int .i64 zk, .int .i64 zb, .int .i64 za] 38)))
  have HWX := Lib.hid (own_below O_c.out (below_all S5.out (alloc_below W5 (.cells #[.int .i64 zk, .int .i64 zb, .int .i64 za] 38))))
  have HNX := Lib.hid (new_tri W5 (zk, zb, za) 38)
  go_upto_region 10 with (at_builtin; refine wpList_append_own_at _ rfl _ _ 25 rfl W3.heap.size 38 i0 _ 3 24 Try.underlying25 I0.out I1.out I2.out I3.out rfl (by decide) _ l.length _ rfl HWX.out ⟨W5.heap.size, 0, none⟩ 1 1 (triC (zk, zb, za)) rfl rfl HNX.out (one_triC _) (by simp only [maxLen]; omega) (by omega) HBX.out.size ?_; intro v9 w9 hown9 hgrow9 hnil9 hat9; obtain ⟨A_m, c_m, rfl⟩ := own_form hown9; have T_m := Lib.hid (tri_more hown9); have S6 := Lib.hid (below_append HBX.out HBX.out.size HWX.out hgrow9); clear hown9 hgrow9 hnil9 hat9)
  clear HBX HWX HNX
  have SM := Lib.hid S6.out
  have F_a := Lib.hid (fun w p q => chFull_at h (.slice A h.length c) 0 (l ++ [(zk, zb, za)]) (.slice A_m (l.length + 1) c_m) w p q HSM.out HLM.out HRM.out (by decide))
  rw [show decide ((0 : Int) = 1) = false from rfl] at F_a
  have h0 := (Boxed.later N_h.out (below_all (below_all (below_all S1.out S2.out) S3.out) SM.out)).cell
  go_wp2_with fail
  refine (F_a.out _ (V_h.out.below (below_all (below_all (below_all S1.out S2.out) S3.out) SM.out)) T_m.out).mono ?_
  rintro e V ⟨v, rfl, ho, hb⟩
  obtain ⟨A_a, c_a, rfl, hu_a⟩ := own_is (k := h.length) ho (L_m.out false)
  clear ho
  have b := alloc_below V (.cells #[.int .i64 h.length, .slice A_a h.length c_a] 32)
  have S7 := Lib.hid (below_all hb b)
  have T_a := Lib.hid (Two.new V 32 (.int .i64 h.length) (.slice A_a h.length c_a))
  have U_a := Lib.hid (hu_a.below b)
  clear hb b
  clear h0
  have F_b := Lib.hid (fun w p q => chFull_at h (.slice A h.length c) 1 (l ++ [(zk, zb, za)]) (.slice A_m (l.length + 1) c_m) w p q HSM.out HLM.out HRM.out (by decide))
  rw [show decide ((1 : Int) = 1) = true from rfl] at F_b
  have h0 := (Boxed.later N_h.out (below_all (below_all (below_all (below_all S1.out S2.out) S3.out) SM.out) S7.out)).cell
  go_wp2_with fail
  generalize V.alloc (.cells #[.int .i64 h.length, .slice A_a h.length c_a] 32) = W7 at *
  generalize V.heap.size = o_a at *
  refine (F_b.out _ (V_h.out.below (below_all (below_all (below_all (below_all S1.out S2.out) S3.out) SM.out) S7.out)) (T_m.out.below S7.out)).mono ?_
  rintro e V ⟨v, rfl, ho, hb⟩
  obtain ⟨A_b, c_b, rfl, hu_b⟩ := own_is (k := h.length) ho (L_m.out true)
  clear ho
  have b := alloc_below V (.cells #[.int .i64 h.length, .slice A_b h.length c_b] 32)
  have S8 := Lib.hid (below_all hb b)
  have T_b := Lib.hid (Two.new V 32 (.int .i64 h.length) (.slice A_b h.length c_b))
  have U_b := Lib.hid (hu_b.below b)
  clear hb b
  clear h0
  obtain ⟨z0, z1, z2⟩ := HTF.out _ (below_all BW.out (below_all (below_all (below_all (below_all S1.out S2.out) S3.out) SM.out) (below_all S7.out S8.out)))
  go_upto_region 12 with fail
  generalize V.alloc (.cells #[.int .i64 h.length, .slice A_b h.length c_b] 32) = W8 at *
  generalize V.heap.size = o_b at *
  have S9 := Lib.hid (alloc_below W8 (.cells #[.int .i64 zk, .int .i64 za, .int .i64 zb] 38))
  have T_c := Lib.hid (Three.new W8 38 (.int .i64 zk) (.int .i64 za) (.int .i64 zb))
  have FH := Lib.hid (fun w a0 => gfHas_at h.length (.slice A_a h.length c_a) (Ch.fullR false h (l ++ [(zk, zb, za)])) za zb w a0 (fun s hs => (HOK.out false).small hs))
  rw [H1.out false] at FH
  obtain ⟨a0, a1⟩ := (T_a.out.later (below_all S8.out S9.out)).cells
  obtain ⟨c0, c1, c2⟩ := T_c.out.cells
  go_wp2_with fail
  generalize W8.alloc (.cells #[.int .i64 zk, .int .i64 za, .int .i64 zb] 38) = W9 at *
  refine (FH.out _ (U_a.out.below (below_all S8.out S9.out))).mono ?_
  rintro e W10 ⟨rfl, hb⟩
  have S10 := Lib.hid hb
  clear hb
  clear a0 a1 c0 c1 c2
  clear z0 z1 z2
  clear FH
  have FH := Lib.hid (fun w a0 => gfHas_at h.length (.slice A_a h.length c_a) (Ch.fullR false h (l ++ [(zk, zb, za)])) zb za w a0 (fun s hs => (HOK.out false).small hs))
  rw [H2.out false] at FH
  obtain ⟨a0, a1⟩ := (T_a.out.later (below_all (below_all S8.out S9.out) S10.out)).cells
  obtain ⟨c0, c1, c2⟩ := (T_c.out.later S10.out).cells
  go_wp2_with fail
  refine (FH.out _ (U_a.out.below (below_all (below_all S8.out S9.out) S10.out))).mono ?_
  rintro e W11 ⟨rfl, hb⟩
  have S11 := Lib.hid hb
  clear hb
  clear a0 a1 c0 c1 c2
  clear FH
  have FH := Lib.hid (fun w a0 => gfHas_at h.length (.slice A_b h.length c_b) (Ch.fullR true h (l ++ [(zk, zb, za)])) za zb w a0 (fun s hs => (HOK.out true).small hs))
  rw [H1.out true] at FH
  obtain ⟨b0, b1⟩ := (T_b.out.later (below_all (below_all S9.out S10.out) S11.out)).cells
  obtain ⟨c0, c1, c2⟩ := (T_c.out.later (below_all S10.out S11.out)).cells
  go_wp2_with fail
  refine (FH.out _ (U_b.out.below (below_all (below_all S9.out S10.out) S11.out))).mono ?_
  rintro e W12 ⟨rfl, hb⟩
  have S12 := Lib.hid hb
  clear hb
  clear b0 b1 c0 c1 c2
  clear FH
  have FH := Lib.hid (fun w a0 => gfHas_at h.length (.slice A_b h.length c_b) (Ch.fullR true h (l ++ [(zk, zb, za)])) zb za w a0 (fun s hs => (HOK.out true).small hs))
  rw [H2.out true] at FH
  obtain ⟨b0, b1⟩ := (T_b.out.later (below_all (below_all (below_all S9.out S10.out) S11.out) S12.out)).cells
  obtain ⟨c0, c1, c2⟩ := (T_c.out.later (below_all (below_all S10.out S11.out) S12.out)).cells
  go_wp2_with fail
  refine (FH.out _ (U_b.out.below (below_all (below_all (below_all S9.out S10.out) S11.out) S12.out))).mono ?_
  rintro e W13 ⟨rfl, hb⟩
  have S13 := Lib.hid hb
  clear hb
  clear b0 b1 c0 c1 c2
  clear FH
  go_wp2_with fail
  go_ret
  exact ⟨rfl, (below_all BW.out (below_all (below_all (below_all (below_all S1.out S2.out) S3.out) SM.out) (below_all (below_all (below_all (below_all (below_all (below_all S7.out S8.out) S9.out) S10.out) S11.out) S12.out) S13.out)))⟩
end Go.Proofs.Ytahacjfeopjbaaa
