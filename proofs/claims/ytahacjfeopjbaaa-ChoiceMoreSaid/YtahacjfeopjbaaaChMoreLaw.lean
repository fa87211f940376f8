/-
  The law ChoiceMore: with more choices there are more edges, of writes, of reads, and of all; what was open, and is chosen, is not open.
  Conditions: the arguments read as a history and as choices.
-/
import Derived.Test.YtahacjfeopjbaaaChAwake
import Derived.Test.YtahacjfeopjbaaaHiAll
import Derived.Test.YtahacjfeopjbaaaChRefC
import Derived.Test.YtahacjfeopjbaaaChRefD
import Derived.Test.YtahacjfeopjbaaaChMoreRow
import Derived.Test.YtahacjfeopjbaaaGfAll
import Derived.Deep.RegionHeld3
import Derived.Lib.QuietBelow
set_option maxRecDepth 4000
namespace Go.Proofs.Ytahacjfeopjbaaa
open Go.RowKit

namespace Ch
open Gf So
/-- What Full answers, either way. -/
noncomputable def fullA (h : List Txn) (level : Int) (l : List (Int × Int × Int)) : List Nat := if levB level = true then fullR (decide (level = 1)) h l else []
noncomputable def fullN (h : List Txn) (level : Int) : Int := if levB level = true then (h.length : Int) else 0
def fullE (level : Int) : Int := if levB level = true then 0 else 1
noncomputable def fullK (h : List Txn) (level : Int) : Nat := if levB level = true then h.length else 0
theorem fullA_len (h : List Txn) (level : Int) (l : List (Int × Int × Int)) : (fullA h level l).length = fullK h level := by
  unfold fullA fullK
  cases levB level with
  | false => rfl
  | true => exact full_len _ _ _
theorem fullK_le (h : List Txn) (level : Int) : fullK h level ≤ h.length := by
  unfold fullK
  cases levB level with
  | false => exact Nat.zero_le _
  | true => exact Nat.le_refl _
theorem isC_left {l : List (Int × Int × Int)} {c : Int × Int × Int} (k : Int) (a b : Nat) (q : isC l k a b) : isC (l ++ [c]) k a b := List.mem_append_left _ q
theorem sub_bits {n : Nat} {g m : List Nat} (_hg : Ok n g) (_hm : Ok n m) (hs : ∀ x y, bit g x y = true → bit m x y = true) (x : Nat) (h1 : x < g.length) (h2 : x < m.length) : Bi.sub g[x] m[x] = true := by
  rw [Bi.sub_iff]
  intro j _ hj
  rw [← bit_at h1] at hj
  rw [← bit_at h2]
  exact hs x j hj
theorem rw_sub {h : List Txn} {l : List (Int × Int × Int)} {c : Int × Int × Int} (h1 : rightC h l = true) (h2 : rightC h (l ++ [c]) = true) (x : Nat) (a : x < (rwR h l).length) (b : x < (rwR h (l ++ [c])).length) : Bi.sub (rwR h l)[x] (rwR h (l ++ [c]))[x] = true := by
  obtain ⟨hr, _, o1⟩ := rightC_iff.1 h1
  obtain ⟨_, _, o2⟩ := rightC_iff.1 h2
  exact sub_bits (rw_ok hr) (rw_ok hr) (fun u v q => (rw_bit hr o2).2 (((rw_bit hr o1).1 q).more isC_left)) x a b
theorem full_sub {h : List Txn} {level : Int} {l : List (Int × Int × Int)} {c : Int × Int × Int} (h1 : rightC h l = true) (h2 : rightC h (l ++ [c]) = true) (x : Nat) (a : x < (fullA h level l).length) (b : x < (fullA h level (l ++ [c])).length) : Bi.sub (fullA h level l)[x] (fullA h level (l ++ [c]))[x] = true := by
  obtain ⟨hr, _, o1⟩ := rightC_iff.1 h1
  obtain ⟨_, _, o2⟩ := rightC_iff.1 h2
  cases hl : levB level with
  | false => rw [fullA_len, fullK, hl] at a; exact absurd a (Nat.not_lt_zero _)
  | true =>
    have e : ∀ m, fullA h level m = fullR (decide (level = 1)) h m := fun m => by rw [fullA, hl]; rfl
    simp only [e] at a b ⊢
    exact sub_bits (full_ok _ hr) (full_ok _ hr) (fun u v q => (full_bit _ hr o2).2 (((full_bit _ hr o1).1 q).more isC_left)) x a b
theorem fullA_small {h : List Txn} {level : Int} {l : List (Int × Int × Int)} (hr : Hi.Right h) : ∀ s ∈ fullA h level l, s < 18446744073709551616 := fun s hs => by
  unfold fullA at hs
  cases hl : levB level with
  | false => rw [hl] at hs; cases hs
  | true => rw [hl, if_pos rfl] at hs; exact (full_ok _ hr).small hs
theorem ww_has {h : List Txn} {l : List (Int × Int × Int)} (hrc : rightC h l = true) {k a b : Int} (hc : (k, a, b) ∈ l) : hasR (h.length : Int) (wwR h l) a b = true := by
  obtain ⟨hr, _, ho⟩ := rightC_iff.1 hrc
  obtain ⟨x, y, e, hi⟩ := all_spelled ho hc
  obtain ⟨rfl, rfl⟩ : a = (x : Int) ∧ b = (y : Int) := by simpa using e
  obtain ⟨h1, h2, _⟩ := isC_choices ho _ _ _ hi
  rw [hasR_nat (ww_ok hr) (wr_lt h1) (wr_lt h2), ww_bit hr ho]
  exact ⟨_, hi⟩
/-- What is chosen is not open. -/
theorem open_not {h : List Txn} {l : List (Int × Int × Int)} {p : Nat × Nat × Nat} (hp : openR h l = some p) {c : Int × Int × Int} (hc : c ∈ l) : toI p ≠ c ∧ toI p ≠ back c := by
  have h1 := List.find?_some hp
  have h2 : ¬ openB l p = false := by rw [h1]; simp
  rw [openB_yes, not_or] at h2
  refine ⟨fun e => h2.1 (by rw [e]; exact hc), fun e => h2.2 (by rw [e]; exact hc)⟩
end Ch

/-- Full, whatever level: a graph, or none and an error. -/
theorem chFull_any (h : List So.Txn) (u : Value) (level : Int) (l : List (Int × Int × Int)) (v : Value) (w : World) (hu : Txns w u h) (hl : Tris w v l) (hs : Ix.Small h) (hn : l.length ≤ 4294967296) (hr : Ch.rightC h l = true) : Calls Try.prog 12 #[.agg #[u], .int .i64 level, v] w fun e w' =>
    ∃ x, e = .returned (.tuple #[.agg #[.int .i64 (Ch.fullN h level), x], .int .i64 (Ch.fullE level)]) ∧ Us w' x (Ch.fullA h level l) ∧ Below w.heap.size w w' := by
  unfold Ch.fullN Ch.fullE Ch.fullA
  cases hv : Ch.levB level with
  | false =>
    refine (chFull_no h u level l v w hu hl hs hn (by rw [hv, Bool.and_false])).mono ?_
    rintro e w1 ⟨rfl, hb⟩
    exact ⟨_, rfl, (OwnU.nil w1 0).us, hb⟩
  | true =>
    refine (chFull_at h u level l v w hu hl hs hn hr hv).mono ?_
    rintro e w1 ⟨x, rfl, ho, hb⟩
    exact ⟨x, rfl, ho.us, hb⟩

set_option maxHeartbeats 16000000 in
theorem lawChoiceMore (h : List So.Txn) (u : Value) (level : Int) (l : List (Int × Int × Int)) (v : Value) (k a b : Int) (w : World) (hv : Txns w u h) (hl : Tris w v l) : Calls Try.prog 5 #[.agg #[u, .int .i64 level, v, .int .i64 k, .int .i64 a, .int .i64 b]] w (RetBool w true) := by
  obtain ⟨i0, hi0, hz0, hz1, hz2⟩ := info_parts tri_info
  have I0 := Lib.hid hi0
  have I1 := Lib.hid hz0
  have I2 := Lib.hid hz1
  have I3 := Lib.hid hz2
  clear hi0 hz0 hz1 hz2
  have HV := Lib.hid hv
  have HL := Lib.hid hl
  obtain ⟨A, c, rfl, -⟩ := hv.spelled
  obtain ⟨B, d, rfl, -⟩ := hl.spelled
  clear hv hl
  have X0 := Lib.hid (Cs.new w 53 [.slice A h.length c, .int .i64 level, .slice B l.length d, .int .i64 k, .int .i64 a, .int .i64 b])
  have bx := alloc_below w (.cells #[.slice A h.length c, .int .i64 level, .slice B l.length d, .int .i64 k, .int .i64 a, .int .i64 b] 53)
  have sx := World.size_alloc w (.cells #[.slice A h.length c, .int .i64 level, .slice B l.length d, .int .i64 k, .int .i64 a, .int .i64 b] 53)
  go_enter Try.func5, Try.ntmps5
  go_upto_region 1 with fail
  generalize w.alloc (.cells #[.slice A h.length c, .int .i64 level, .slice B l.length d, .int .i64 k, .int .i64 a, .int .i64 b] 53) = wx at *
  have x0 := X0.out.cell 0 _ rfl
  have x1 := X0.out.cell 1 _ rfl
  have x2 := X0.out.cell 2 _ rfl
  have x3 := X0.out.cell 3 _ rfl
  have x4 := X0.out.cell 4 _ rfl
  have x5 := X0.out.cell 5 _ rfl
  have by1 := alloc_below wx (.cells #[.slice A h.length c] 24)
  have sy := World.size_alloc wx (.cells #[.slice A h.length c] 24)
  have ny := Boxed.new wx 24 (.slice A h.length c)
  rw [sx] at sy ny
  have Y0 := Lib.hid (X0.out.later by1)
  have NY := Lib.hid ny
  have BX := Lib.hid bx
  have BY := Lib.hid by1
  clear bx by1 ny
  go_upto_region 2 with fail
  generalize wx.alloc (.cells #[.slice A h.length c] 24) = wy at *
  clear x0 x1 x2 x3 x4 x5
  have x0 := Y0.out.cell 0 _ rfl
  have x1 := Y0.out.cell 1 _ rfl
  have x2 := Y0.out.cell 2 _ rfl
  have x3 := Y0.out.cell 3 _ rfl
  have x4 := Y0.out.cell 4 _ rfl
  have x5 := Y0.out.cell 5 _ rfl
  have bz := alloc_below wy (.cells #[.int .i64 k, .int .i64 a, .int .i64 b] 38)
  have tz := Three.new wy 38 (.int .i64 k) (.int .i64 a) (.int .i64 b)
  rw [sy] at tz
  have T_c := Lib.hid tz
  have N_h := Lib.hid (Boxed.later NY.out bz)
  have BW := Lib.hid (below_all BX.out (below_all BY.out bz))
  clear tz bz X0 Y0 NY BX BY
  go_upto_region 5 with fail
  generalize wy.alloc (.cells #[.int .i64 k, .int .i64 a, .int .i64 b] 38) = W0 at *
  clear x0 x1 x2 x3 x4 x5 sx sy
  have V_h := Lib.hid (HV.out.below BW.out)
  go_wp2_with fail
  refine (chAwake_at _).mono ?_
  rintro e W1 ⟨rfl, hb⟩
  have S1 := Lib.hid hb
  clear hb
  have h0 := (Boxed.later N_h.out S1.out).cell
  go_wp2_with fail
  refine (few8_at h _ _ (V_h.out.below S1.out)).mono ?_
  rintro e W2 ⟨rfl, hb⟩
  have S2 := Lib.hid hb
  clear hb
  clear h0
  cases hf : Hi.fewB h with
  | false =>
    clear hf
    have h0 := (Boxed.later N_h.out (below_all S1.out S2.out)).cell
    go_wp2_with fail
    go_ret
    exact ⟨rfl, (below_all BW.out (below_all S1.out S2.out))⟩
  | true =>
  have HSM := Lib.hid (Hi.few_small hf).2
  clear hf
  have h0 := (Boxed.later N_h.out (below_all S1.out S2.out)).cell
  by_cases h60 : 60 < l.length
  ·
    go_wp2_with fail
    go_ret
    exact ⟨rfl, (below_all BW.out (below_all S1.out S2.out))⟩
  clear h0
  have HLN : Hid (l.length ≤ 4294967296) := by rw [Hid]; omega
  have F_c := Lib.hid (fun w a b => chRight_at h (.slice A h.length c) l (.slice B l.length d) w a b HSM.out HLN.out)
  cases hrc : Ch.rightC h l with
  | false =>
    rw [hrc] at F_c
    clear hrc
    have h0 := (Boxed.later N_h.out (below_all S1.out S2.out)).cell
    go_wp2_with fail
    refine (F_c.out _ (V_h.out.below (below_all S1.out S2.out)) (HL.out.below (below_all BW.out (below_all S1.out S2.out)))).mono ?_
    rintro e W3 ⟨rfl, hb⟩
    have S3 := Lib.hid hb
    clear hb
    clear h0
    go_wp2_with fail
    go_ret
    exact ⟨rfl, (below_all BW.out (below_all (below_all S1.out S2.out) S3.out))⟩
  | true =>
  rw [hrc] at F_c
  have h0 := (Boxed.later N_h.out (below_all S1.out S2.out)).cell
  go_wp2_with fail
  refine (F_c.out _ (V_h.out.below (below_all S1.out S2.out)) (HL.out.below (below_all BW.out (below_all S1.out S2.out)))).mono ?_
  rintro e W3 ⟨rfl, hb⟩
  have S3 := Lib.hid hb
  clear hb
  clear h0
  have h20 : l.length < 20000 := by omega
  have hmr := Ch.right_more (h := h) h20 (k, a, b)
  rw [hrc, Bool.true_and] at hmr
  have HRC := Lib.hid hrc
  have HMR := Lib.hid hmr
  have HR := Lib.hid (Ch.rightC_iff.1 hrc).1
  have h32 : h.length ≤ 32 := HR.out.1
  have HLM : Hid ((l ++ [(k, a, b)]).length ≤ 4294967296) := by rw [Hid, List.length_append, List.length_singleton]; omega
  clear hrc hmr
  go_upto_region 12 with fail
  have LCX := Lib.hid (HL.out.below (below_all BW.out (below_all (below_all S1.out S2.out) S3.out)))
  go_upto_region 13 with (at_builtin; (refine wpList_append_sl W3 rfl (.tmp 49) (.tmp 50) 25 rfl W3.heap.size 38 i0 _ 3 24 Try.underlying25 I0.out I1.out I2.out I3.out rfl (by decide) (.slice none 0 0) 0 [] rfl (World.ownsRow_nil _ _ _ _) (.slice B l.length d) l.length (l.flatMap triC) rfl LCX.out (tri_ones l) (by simp only [maxLen]; omega) (by omega) (Nat.le_refl _) ?_; intro v2 w2 hown2 hgrow2 hat2; rw [Nat.zero_add, List.nil_append] at hown2; obtain ⟨A_c, c_c, rfl⟩ := own_form hown2; have O_c := Lib.hid hown2; have hb2 := below_append (Below.refl W3.heap.size W3) (Nat.le_refl _) (World.ownsRow_nil W3 W3.heap.size 38 3) hgrow2; have S4 := Lib.hid hb2; clear hown2 hgrow2 hat2 hb2))
  clear LCX
  obtain ⟨c0, c1, c2⟩ := (T_c.out.later (below_all (below_all (below_all S1.out S2.out) S3.out) S4.out)).cells
  have HBX := Lib.hid (below_all S4.out (alloc_below w2 (.cells #[.int .i64 k, .int .i64 a, .int .i64 b] 38)))
  have HWX := Lib.hid (own_below O_c.out (below_all (Below.refl _ _) (alloc_below w2 (.cells #[.int .i64 k, .int .i64 a, .int .i64 b] 38))))
  have HNX := Lib.hid (new_tri w2 (k, a, b) 38)
  go_upto_region 14 with (at_builtin; refine wpList_append_own_at _ rfl _ _ 25 rfl W3.heap.size 38 i0 _ 3 24 Try.underlying25 I0.out I1.out I2.out I3.out rfl (by decide) _ l.length _ rfl HWX.out ⟨w2.heap.size, 0, none⟩ 1 1 (triC (k, a, b)) rfl rfl HNX.out (one_triC _) (by simp only [maxLen]; omega) (by omega) HBX.out.size ?_; intro v9 w9 hown9 hgrow9 hnil9 hat9; obtain ⟨A_m, c_m, rfl⟩ := own_form hown9; have T_m := Lib.hid (tri_more hown9); have S5 := Lib.hid (below_append HBX.out HBX.out.size HWX.out hgrow9); clear hown9 hgrow9 hnil9 hat9)
  clear HBX HWX HNX
  clear c0 c1 c2
  have SM := Lib.hid S5.out
  have F_m := Lib.hid (fun w p q => chRight_at h (.slice A h.length c) (l ++ [(k, a, b)]) (.slice A_m (l.length + 1) c_m) w p q HSM.out HLM.out)
  cases hone : Ch.oneB h (k, a, b) with
  | false =>
    have hrm := HMR.out.trans hone
    rw [hrm] at F_m
    obtain ⟨en, ex, -, -⟩ := Ch.ans_no hrm
    have F_n := Lib.hid (fun w p => chRight_at h (.slice A h.length c) [] (.slice none 0 0) w p (Tris.nil w none) HSM.out (by decide))
    rw [Ch.right_nil HR.out] at F_n
    have F_w := Lib.hid (fun w p q => chWw_at h (.slice A h.length c) (l ++ [(k, a, b)]) (.slice A_m (l.length + 1) c_m) w p q HSM.out HLM.out)
    rw [en, ex] at F_w
    clear en ex hrm hone
    have h0 := (Boxed.later N_h.out (below_all (below_all (below_all S1.out S2.out) S3.out) SM.out)).cell
    go_wp2_with fail
    refine (F_m.out _ (V_h.out.below (below_all (below_all (below_all S1.out S2.out) S3.out) SM.out)) T_m.out).mono ?_
    rintro e W6 ⟨rfl, hb⟩
    have S6 := Lib.hid hb
    clear hb
    clear h0
    have h0 := (Boxed.later N_h.out (below_all (below_all (below_all (below_all S1.out S2.out) S3.out) SM.out) S6.out)).cell
    go_wp2_with fail
    refine (F_n.out _ (V_h.out.below (below_all (below_all (below_all (below_all S1.out S2.out) S3.out) SM.out) S6.out))).mono ?_
    rintro e W7 ⟨rfl, hb⟩
    have S7 := Lib.hid hb
    clear hb
    clear h0
    have h0 := (Boxed.later N_h.out (below_all (below_all (below_all (below_all S1.out S2.out) S3.out) SM.out) (below_all S6.out S7.out))).cell
    go_wp2_with fail
    refine (F_w.out _ (V_h.out.below (below_all (below_all (below_all (below_all S1.out S2.out) S3.out) SM.out) (below_all S6.out S7.out))) (T_m.out.below (below_all S6.out S7.out))).mono ?_
    rintro e W8 ⟨v, rfl, ho, hb⟩
    have S8 := Lib.hid hb
    clear hb
    clear h0
    obtain ⟨A_w, c_w, rfl, hu⟩ := own_is (k := 0) ho rfl
    have UU := Lib.hid hu
    clear ho hu
    go_wp2_with fail
    refine (gfEdges_at 0 (.slice A_w 0 c_w) [] _ UU.out ⟨Nat.zero_le _, rfl, fun s hs => by cases hs⟩).mono ?_
    rintro e W9 ⟨v, rfl, ho, hb⟩
    have S9 := Lib.hid hb
    clear hb
    obtain ⟨A9, c9, rfl⟩ := own_form (show World.ownsRow _ _ _ _ _ _ _ from ho)
    clear ho
    go_wp2_with fail
    go_ret
    exact ⟨rfl, (below_all BW.out (below_all (below_all (below_all (below_all S1.out S2.out) S3.out) SM.out) (below_all (below_all (below_all S6.out S7.out) S8.out) S9.out)))⟩
  | true =>
  have hrm := HMR.out.trans hone
  rw [hrm] at F_m
  have HRM := Lib.hid hrm
  have hcm : (k, a, b) ∈ (l ++ [(k, a, b)]) := List.mem_append_right _ List.mem_cons_self
  clear hone
  have F_a := Lib.hid (fun w p q => chFull_any h (.slice A h.length c) level l (.slice B l.length d) w p q HSM.out HLN.out HRC.out)
  have F_b := Lib.hid (fun w p q => chFull_any h (.slice A h.length c) level (l ++ [(k, a, b)]) (.slice A_m (l.length + 1) c_m) w p q HSM.out HLM.out HRM.out)
  have F_p := Lib.hid (fun w p q => chRw_at h (.slice A h.length c) l (.slice B l.length d) w p q HSM.out HLN.out)
  have F_q := Lib.hid (fun w p q => chRw_at h (.slice A h.length c) (l ++ [(k, a, b)]) (.slice A_m (l.length + 1) c_m) w p q HSM.out HLM.out)
  have F_w := Lib.hid (fun w p q => chWw_at h (.slice A h.length c) (l ++ [(k, a, b)]) (.slice A_m (l.length + 1) c_m) w p q HSM.out HLM.out)
  have F_o := Lib.hid (fun w p q => chOpen_at h (.slice A h.length c) (l ++ [(k, a, b)]) (.slice A_m (l.length + 1) c_m) w p q HSM.out HLM.out)
  obtain ⟨n1, -, p1, -⟩ := Ch.ans_yes HRC.out
  obtain ⟨n2, w2', p2, o2'⟩ := Ch.ans_yes hrm
  rw [n1, p1] at F_p
  rw [n2, p2] at F_q
  rw [n2, w2'] at F_w
  rw [o2'] at F_o
  clear n1 p1 n2 w2' p2 o2'
  have HWH := Lib.hid (Ch.ww_has hrm hcm)
  have HOP := Lib.hid (fun p (hp : Ch.openR h (l ++ [(k, a, b)]) = some p) => Ch.open_not hp hcm)
  have HS1 := Lib.hid (fun x p q => Ch.rw_sub (x := x) HRC.out hrm p q)
  have HS2 := Lib.hid (fun x p q => Ch.full_sub (level := level) (x := x) HRC.out hrm p q)
  have L_a := Lib.hid (Ch.fullA_len h level l)
  have L_b := Lib.hid (Ch.fullA_len h level (l ++ [(k, a, b)]))
  have L_p := Lib.hid (Ch.rw_len h l)
  have L_q := Lib.hid (Ch.rw_len h (l ++ [(k, a, b)]))
  have L_w := Lib.hid (Ch.ww_len h (l ++ [(k, a, b)]))
  have hkl := Ch.fullK_le h level
  have M_a := Lib.hid (Ch.fullA_small (level := level) (l := l) HR.out)
  have M_b := Lib.hid (Ch.fullA_small (level := level) (l := (l ++ [(k, a, b)])) HR.out)
  have M_p : Hid (∀ s ∈ Ch.rwR h l, s < 18446744073709551616) := fun s hs => (Ch.rw_ok HR.out).small hs
  have M_q : Hid (∀ s ∈ Ch.rwR h (l ++ [(k, a, b)]), s < 18446744073709551616) := fun s hs => (Ch.rw_ok HR.out).small hs
  have M_w : Hid (∀ s ∈ Ch.wwR h (l ++ [(k, a, b)]), s < 18446744073709551616) := fun s hs => (Ch.ww_ok HR.out).small hs
  clear hrm hcm
  generalize Ch.fullN h level = fn at *
  generalize Ch.fullE level = fe at *
  generalize Ch.fullK h level = fk at *
  generalize Ch.fullA h level l = l_a at *
  generalize Ch.fullA h level (l ++ [(k, a, b)]) = l_b at *
  generalize Ch.rwR h l = l_p at *
  generalize Ch.rwR h (l ++ [(k, a, b)]) = l_q at *
  generalize Ch.wwR h (l ++ [(k, a, b)]) = l_w at *
  unfold RetOpen at F_o
  generalize Ch.openR h (l ++ [(k, a, b)]) = oo at *
  have h0 := (Boxed.later N_h.out (below_all (below_all (below_all S1.out S2.out) S3.out) SM.out)).cell
  go_wp2_with fail
  refine (F_m.out _ (V_h.out.below (below_all (below_all (below_all S1.out S2.out) S3.out) SM.out)) T_m.out).mono ?_
  rintro e W6 ⟨rfl, hb⟩
  have S6 := Lib.hid hb
  clear hb
  clear h0
  have h0 := (Boxed.later N_h.out (below_all (below_all (below_all (below_all S1.out S2.out) S3.out) SM.out) S6.out)).cell
  go_wp2_with fail
  refine (F_a.out _ (V_h.out.below (below_all (below_all (below_all (below_all S1.out S2.out) S3.out) SM.out) S6.out)) (HL.out.below (below_all BW.out (below_all (below_all (below_all (below_all S1.out S2.out) S3.out) SM.out) S6.out)))).mono ?_
  rintro e V ⟨v, rfl, hu, hb⟩
  obtain ⟨A_a, c_a, rfl, hu_a⟩ := us_is (k := fk) hu L_a.out
  clear hu
  have b := alloc_below V (.cells #[.int .i64 fn, .slice A_a fk c_a] 32)
  have S7 := Lib.hid (below_all hb b)
  have T_a := Lib.hid (Two.new V 32 (.int .i64 fn) (.slice A_a fk c_a))
  have U_a := Lib.hid (hu_a.below b)
  clear hb b
  clear h0
  have h0 := (Boxed.later N_h.out (below_all (below_all (below_all (below_all S1.out S2.out) S3.out) SM.out) (below_all S6.out S7.out))).cell
  go_wp2_with fail
  generalize V.alloc (.cells #[.int .i64 fn, .slice A_a fk c_a] 32) = W7 at *
  generalize V.heap.size = o_a at *
  refine (F_b.out _ (V_h.out.below (below_all (below_all (below_all (below_all S1.out S2.out) S3.out) SM.out) (below_all S6.out S7.out))) (T_m.out.below (below_all S6.out S7.out))).mono ?_
  rintro e V ⟨v, rfl, hu, hb⟩
  obtain ⟨A_b, c_b, rfl, hu_b⟩ := us_is (k := fk) hu L_b.out
  clear hu
  have b := alloc_below V (.cells #[.int .i64 fn, .slice A_b fk c_b] 32)
  have S8 := Lib.hid (below_all hb b)
  have T_b := Lib.hid (Two.new V 32 (.int .i64 fn) (.slice A_b fk c_b))
  have U_b := Lib.hid (hu_b.below b)
  clear hb b
  clear h0
  have hfe : (fe != fe) = false := by simp
  have h0 := (Boxed.later N_h.out (below_all (below_all (below_all (below_all S1.out S2.out) S3.out) SM.out) (below_all (below_all S6.out S7.out) S8.out))).cell
  go_wp2_with fail
  generalize V.alloc (.cells #[.int .i64 fn, .slice A_b fk c_b] 32) = W8 at *
  generalize V.heap.size = o_b at *
  refine (F_p.out _ (V_h.out.below (below_all (below_all (below_all (below_all S1.out S2.out) S3.out) SM.out) (below_all (below_all S6.out S7.out) S8.out))) (HL.out.below (below_all BW.out (below_all (below_all (below_all (below_all S1.out S2.out) S3.out) SM.out) (below_all (below_all S6.out S7.out) S8.out))))).mono ?_
  rintro e V ⟨v, rfl, ho, hb⟩
  obtain ⟨A_p, c_p, rfl, hu_p⟩ := own_is (k := h.length) ho L_p.out
  clear ho
  have b := alloc_below V (.cells #[.int .i64 h.length, .slice A_p h.length c_p] 32)
  have S9 := Lib.hid (below_all hb b)
  have T_p := Lib.hid (Two.new V 32 (.int .i64 h.length) (.slice A_p h.length c_p))
  have U_p := Lib.hid (hu_p.below b)
  clear hb b
  clear h0
  have h0 := (Boxed.later N_h.out (below_all (below_all (below_all (below_all S1.out S2.out) S3.out) SM.out) (below_all (below_all (below_all S6.out S7.out) S8.out) S9.out))).cell
  go_wp2_with fail
  generalize V.alloc (.cells #[.int .i64 h.length, .slice A_p h.length c_p] 32) = W9 at *
  generalize V.heap.size = o_p at *
  refine (F_q.out _ (V_h.out.below (below_all (below_all (below_all (below_all S1.out S2.out) S3.out) SM.out) (below_all (below_all (below_all S6.out S7.out) S8.out) S9.out))) (T_m.out.below (below_all (below_all (below_all S6.out S7.out) S8.out) S9.out))).mono ?_
  rintro e V ⟨v, rfl, ho, hb⟩
  obtain ⟨A_q, c_q, rfl, hu_q⟩ := own_is (k := h.length) ho L_q.out
  clear ho
  have b := alloc_below V (.cells #[.int .i64 h.length, .slice A_q h.length c_q] 32)
  have S10 := Lib.hid (below_all hb b)
  have T_q := Lib.hid (Two.new V 32 (.int .i64 h.length) (.slice A_q h.length c_q))
  have U_q := Lib.hid (hu_q.below b)
  clear hb b
  clear h0
  have h0 := (Boxed.later N_h.out (below_all (below_all (below_all (below_all S1.out S2.out) S3.out) SM.out) (below_all (below_all (below_all (below_all S6.out S7.out) S8.out) S9.out) S10.out))).cell
  go_wp2_with fail
  generalize V.alloc (.cells #[.int .i64 h.length, .slice A_q h.length c_q] 32) = W10 at *
  generalize V.heap.size = o_q at *
  refine (F_w.out _ (V_h.out.below (below_all (below_all (below_all (below_all S1.out S2.out) S3.out) SM.out) (below_all (below_all (below_all (below_all S6.out S7.out) S8.out) S9.out) S10.out))) (T_m.out.below (below_all (below_all (below_all (below_all S6.out S7.out) S8.out) S9.out) S10.out))).mono ?_
  rintro e V ⟨v, rfl, ho, hb⟩
  obtain ⟨A_w, c_w, rfl, hu_w⟩ := own_is (k := h.length) ho L_w.out
  clear ho
  have b := alloc_below V (.cells #[.int .i64 h.length, .slice A_w h.length c_w] 32)
  have S11 := Lib.hid (below_all hb b)
  have T_w := Lib.hid (Two.new V 32 (.int .i64 h.length) (.slice A_w h.length c_w))
  have U_w := Lib.hid (hu_w.below b)
  clear hb b
  clear h0
  clear F_a F_b F_p F_q F_w F_c F_m
  have hnn : ((h.length : Int) != (h.length : Int)) = false := by simp
  have hff : ((fk : Int) != (fk : Int)) = false := by simp
  have hnn2 : (h.length != h.length) = false := by simp
  have hff2 : (fk != fk) = false := by simp
  obtain ⟨p0, p1⟩ := (T_p.out.later (below_all S10.out S11.out)).cells
  obtain ⟨q0, q1⟩ := (T_q.out.later S11.out).cells
  obtain ⟨a0, a1⟩ := (T_a.out.later (below_all (below_all (below_all S8.out S9.out) S10.out) S11.out)).cells
  obtain ⟨b0, b1⟩ := (T_b.out.later (below_all (below_all S9.out S10.out) S11.out)).cells
  obtain ⟨w0, w1⟩ := T_w.out.cells
  obtain ⟨c0, c1, c2⟩ := (T_c.out.later (below_all (below_all (below_all (below_all S1.out S2.out) S3.out) SM.out) (below_all (below_all (below_all (below_all (below_all S6.out S7.out) S8.out) S9.out) S10.out) S11.out))).cells
  go_wp2_with fail
  generalize V.alloc (.cells #[.int .i64 h.length, .slice A_w h.length c_w] 32) = W11 at *
  generalize V.heap.size = o_w at *
  refine (gfHas_at h.length (.slice A_w h.length c_w) l_w a b _ U_w.out M_w.out).mono ?_
  rintro e W12 ⟨rfl, hb⟩
  have S12 := Lib.hid hb
  clear hb
  clear p0 p1 q0 q1 a0 a1 b0 b1 w0 w1 c0 c1 c2
  rw [HWH.out]
  go_wp2_with fail
  clear hfe hnn hff hnn2 hff2
  have UC_p := Lib.hid (U_p.out.below (below_all (below_all S10.out S11.out) S12.out))
  have UC_q := Lib.hid (U_q.out.below (below_all S11.out S12.out))
  go_loopw [17] (fun i wr => ∃ j : Nat, j ≤ h.length ∧ i = .int .i64 j ∧ Hid (Below W12.heap.size W12 wr)) (fun i _ => h.length - (intOf i).toNat)
  case atStart => exact ⟨0, Nat.zero_le _, rfl, Below.refl _ _⟩
  case round =>
    obtain ⟨j, hj, rfl, HB⟩ := hrel
    have S13 := HB
    by_cases hlt : j < h.length
    ·
      have h1 : j < l_p.length := by rw [L_p.out]; exact hlt
      have h2 : j < l_q.length := by rw [L_q.out]; exact hlt
      obtain ⟨ad1, e1, hb1, hx1⟩ := us_at (UC_p.out.below HB.out) j h1
      obtain ⟨ad2, e2, hb2, hx2⟩ := us_at (UC_q.out.below HB.out) j h2
      subst e1
      subst e2
      clear hb1 hb2
      have hsub := HS1.out j h1 h2
      have hs1 := M_p.out _ (List.getElem_mem h1)
      have hs2 := M_q.out _ (List.getElem_mem h2)
      generalize l_p[j]'h1 = r1 at *
      generalize l_q[j]'h2 = r2 at *
      have FS := Lib.hid (fun w => rSub10_at r1 r2 w hs1 hs2)
      rw [hsub] at FS
      clear hsub
      have hj1 : (0 : Int) ≤ (j : Int) := Int.natCast_nonneg _
      have hj2 : (j : Int) < (h.length : Int) := by omega
      have X1 := Lib.hid hx1
      have X2 := Lib.hid hx2
      clear hx1 hx2
      obtain ⟨p0, p1⟩ := (T_p.out.later (below_all (below_all (below_all S10.out S11.out) S12.out) S13.out)).cells
      obtain ⟨q0, q1⟩ := (T_q.out.later (below_all (below_all S11.out S12.out) S13.out)).cells
      go_wp2_with fail
      clear p0 p1 q0 q1
      have HK : Hid (∀ W', Below wr.heap.size wr W' → W'.cell? ⟨o_p, 0, none⟩ = some (.int .i64 h.length) ∧ W'.cell? ⟨o_p, 1, none⟩ = some (.slice (some ad1) h.length c_p) ∧ W'.cell? ⟨o_q, 0, none⟩ = some (.int .i64 h.length) ∧ W'.cell? ⟨o_q, 1, none⟩ = some (.slice (some ad2) h.length c_q) ∧ W'.cell? (ad1.add j) = some (.int .u64 (r1 : Int)) ∧ W'.cell? (ad2.add j) = some (.int .u64 (r2 : Int))) := fun W' h => ⟨(T_p.out.later (below_all (below_all (below_all (below_all S10.out S11.out) S12.out) S13.out) h)).cells.1, (T_p.out.later (below_all (below_all (below_all (below_all S10.out S11.out) S12.out) S13.out) h)).cells.2, (T_q.out.later (below_all (below_all (below_all S11.out S12.out) S13.out) h)).cells.1, (T_q.out.later (below_all (below_all (below_all S11.out S12.out) S13.out) h)).cells.2, st_stays h X1.out, st_stays h X2.out⟩
      obtain ⟨p0, p1, q0, q1, s1, s2⟩ := HK.out _ (Below.refl _ wr)
      have D := Lib.hid (Below.refl wr.heap.size wr).drew
      go_region_held3 (fun W' => W'.cell? ⟨o_p, 0, none⟩ = some (.int .i64 h.length) ∧ W'.cell? ⟨o_p, 1, none⟩ = some (.slice (some ad1) h.length c_p) ∧ W'.cell? ⟨o_q, 0, none⟩ = some (.int .i64 h.length) ∧ W'.cell? ⟨o_q, 1, none⟩ = some (.slice (some ad2) h.length c_q) ∧ W'.cell? (ad1.add j) = some (.int .u64 (r1 : Int)) ∧ W'.cell? (ad2.add j) = some (.int .u64 (r2 : Int)))
        (first | (exact ⟨p0, p1, q0, q1, s1, s2⟩) | (exact HK.out _ D.out) | (exact HK.out _ Y1.out))
        (first
                | (go_at_call 28; (with_reducible refine (FS.out _).mono ?_); rintro e W14 ⟨rfl, hz⟩; have Y1 := Lib.hid (below_all D.out hz); clear hz))
      all_goals
        have S14 := Lib.hid Y1.out
        clear p0 p1 q0 q1 s1 s2 HK D Y1
        go_wp2_with fail
        go_roundw
        case rel => exact ⟨j + 1, by omega, by go_num, (below_all S13.out S14.out)⟩
        case measure => simp [intOf]; omega
    ·
      obtain ⟨q9, hq9⟩ : ∃ q9, q9 = j := ⟨_, rfl⟩
      clear hq9 q9
      obtain ⟨p0, p1⟩ := (T_p.out.later (below_all (below_all (below_all S10.out S11.out) S12.out) S13.out)).cells
      clear UC_p UC_q
      go_wp2_with fail
      clear p0 p1
      generalize hwz : wr = wz at *
      clear hwz
      have UC_a := Lib.hid (U_a.out.below (below_all (below_all (below_all (below_all (below_all S8.out S9.out) S10.out) S11.out) S12.out) S13.out))
      have UC_b := Lib.hid (U_b.out.below (below_all (below_all (below_all (below_all S9.out S10.out) S11.out) S12.out) S13.out))
      go_loopw [19] (fun i wr => ∃ j : Nat, j ≤ fk ∧ i = .int .i64 j ∧ Hid (Below wz.heap.size wz wr)) (fun i _ => fk - (intOf i).toNat)
      case atStart => exact ⟨0, Nat.zero_le _, rfl, Below.refl _ _⟩
      case round =>
        obtain ⟨j, hj, rfl, HB⟩ := hrel
        have S14 := HB
        by_cases hlt : j < fk
        ·
          have h1 : j < l_a.length := by rw [L_a.out]; exact hlt
          have h2 : j < l_b.length := by rw [L_b.out]; exact hlt
          obtain ⟨ad1, e1, hb1, hx1⟩ := us_at (UC_a.out.below HB.out) j h1
          obtain ⟨ad2, e2, hb2, hx2⟩ := us_at (UC_b.out.below HB.out) j h2
          subst e1
          subst e2
          clear hb1 hb2
          have hsub := HS2.out j h1 h2
          have hs1 := M_a.out _ (List.getElem_mem h1)
          have hs2 := M_b.out _ (List.getElem_mem h2)
          generalize l_a[j]'h1 = r1 at *
          generalize l_b[j]'h2 = r2 at *
          have FS := Lib.hid (fun w => rSub10_at r1 r2 w hs1 hs2)
          rw [hsub] at FS
          clear hsub
          have hj1 : (0 : Int) ≤ (j : Int) := Int.natCast_nonneg _
          have hj2 : (j : Int) < (fk : Int) := by omega
          have X1 := Lib.hid hx1
          have X2 := Lib.hid hx2
          clear hx1 hx2
          obtain ⟨a0, a1⟩ := (T_a.out.later (below_all (below_all (below_all (below_all (below_all (below_all S8.out S9.out) S10.out) S11.out) S12.out) S13.out) S14.out)).cells
          obtain ⟨b0, b1⟩ := (T_b.out.later (below_all (below_all (below_all (below_all (below_all S9.out S10.out) S11.out) S12.out) S13.out) S14.out)).cells
          go_wp2_with fail
          clear a0 a1 b0 b1
          have HK : Hid (∀ W', Below wr.heap.size wr W' → W'.cell? ⟨o_a, 0, none⟩ = some (.int .i64 fn) ∧ W'.cell? ⟨o_a, 1, none⟩ = some (.slice (some ad1) fk c_a) ∧ W'.cell? ⟨o_b, 0, none⟩ = some (.int .i64 fn) ∧ W'.cell? ⟨o_b, 1, none⟩ = some (.slice (some ad2) fk c_b) ∧ W'.cell? (ad1.add j) = some (.int .u64 (r1 : Int)) ∧ W'.cell? (ad2.add j) = some (.int .u64 (r2 : Int))) := fun W' h => ⟨(T_a.out.later (below_all (below_all (below_all (below_all (below_all (below_all (below_all S8.out S9.out) S10.out) S11.out) S12.out) S13.out) S14.out) h)).cells.1, (T_a.out.later (below_all (below_all (below_all (below_all (below_all (below_all (below_all S8.out S9.out) S10.out) S11.out) S12.out) S13.out) S14.out) h)).cells.2, (T_b.out.later (below_all (below_all (below_all (below_all (below_all (below_all S9.out S10.out) S11.out) S12.out) S13.out) S14.out) h)).cells.1, (T_b.out.later (below_all (below_all (below_all (below_all (below_all (below_all S9.out S10.out) S11.out) S12.out) S13.out) S14.out) h)).cells.2, st_stays h X1.out, st_stays h X2.out⟩
          obtain ⟨a0, a1, b0, b1, s1, s2⟩ := HK.out _ (Below.refl _ wr)
          have D := Lib.hid (Below.refl wr.heap.size wr).drew
          go_region_held3 (fun W' => W'.cell? ⟨o_a, 0, none⟩ = some (.int .i64 fn) ∧ W'.cell? ⟨o_a, 1, none⟩ = some (.slice (some ad1) fk c_a) ∧ W'.cell? ⟨o_b, 0, none⟩ = some (.int .i64 fn) ∧ W'.cell? ⟨o_b, 1, none⟩ = some (.slice (some ad2) fk c_b) ∧ W'.cell? (ad1.add j) = some (.int .u64 (r1 : Int)) ∧ W'.cell? (ad2.add j) = some (.int .u64 (r2 : Int)))
            (first | (exact ⟨a0, a1, b0, b1, s1, s2⟩) | (exact HK.out _ D.out) | (exact HK.out _ Y1.out))
            (first
                        | (go_at_call 28; (with_reducible refine (FS.out _).mono ?_); rintro e W15 ⟨rfl, hz⟩; have Y1 := Lib.hid (below_all D.out hz); clear hz))
          all_goals
            have S15 := Lib.hid Y1.out
            clear a0 a1 b0 b1 s1 s2 HK D Y1
            go_wp2_with fail
            go_roundw
            case rel => exact ⟨j + 1, by omega, by go_num, (below_all S14.out S15.out)⟩
            case measure => simp [intOf]; omega
        ·
          obtain rfl : j = fk := by omega
          obtain ⟨a0, a1⟩ := (T_a.out.later (below_all (below_all (below_all (below_all (below_all (below_all S8.out S9.out) S10.out) S11.out) S12.out) S13.out) S14.out)).cells
          clear UC_a UC_b
          cases oo with
          | none =>
            dsimp only [Option.map, Option.getD, Option.isSome] at F_o
            have h0 := (Boxed.later N_h.out (below_all (below_all (below_all (below_all S1.out S2.out) S3.out) SM.out) (below_all (below_all (below_all (below_all (below_all (below_all (below_all (below_all S6.out S7.out) S8.out) S9.out) S10.out) S11.out) S12.out) S13.out) S14.out))).cell
            go_wp2_with fail
            refine (F_o.out _ (V_h.out.below (below_all (below_all (below_all (below_all S1.out S2.out) S3.out) SM.out) (below_all (below_all (below_all (below_all (below_all (below_all (below_all (below_all S6.out S7.out) S8.out) S9.out) S10.out) S11.out) S12.out) S13.out) S14.out))) (T_m.out.below (below_all (below_all (below_all (below_all (below_all (below_all (below_all (below_all S6.out S7.out) S8.out) S9.out) S10.out) S11.out) S12.out) S13.out) S14.out))).mono ?_
            rintro e V ⟨rfl, hb⟩
            have b := alloc_below V (.cells #[.int .i64 0, .int .i64 0, .int .i64 0] 38)
            have S15 := Lib.hid (below_all hb b)
            have T_o := Lib.hid (Three.new V 38 (.int .i64 0) (.int .i64 0) (.int .i64 0))
            clear hb b
            clear a0 a1 h0
            go_wp2_with fail
            generalize V.alloc (.cells #[.int .i64 0, .int .i64 0, .int .i64 0] 38) = W15 at *
            generalize V.heap.size = o_o at *
            have HK : Hid (∀ W', Below W15.heap.size W15 W' → W'.cell? ⟨o_o, 0, none⟩ = some (.int .i64 0) ∧ W'.cell? ⟨o_o, 1, none⟩ = some (.int .i64 0) ∧ W'.cell? ⟨o_o, 2, none⟩ = some (.int .i64 0) ∧ W'.cell? ⟨w.heap.size + 1 + 1, 0, none⟩ = some (.int .i64 k) ∧ W'.cell? ⟨w.heap.size + 1 + 1, 1, none⟩ = some (.int .i64 a) ∧ W'.cell? ⟨w.heap.size + 1 + 1, 2, none⟩ = some (.int .i64 b)) := fun W' h => ⟨(T_o.out.later h).cells.1, (T_o.out.later h).cells.2.1, (T_o.out.later h).cells.2.2, (T_c.out.later (below_all (below_all (below_all (below_all (below_all S1.out S2.out) S3.out) SM.out) (below_all (below_all (below_all (below_all (below_all (below_all (below_all (below_all (below_all S6.out S7.out) S8.out) S9.out) S10.out) S11.out) S12.out) S13.out) S14.out) S15.out)) h)).cells.1, (T_c.out.later (below_all (below_all (below_all (below_all (below_all S1.out S2.out) S3.out) SM.out) (below_all (below_all (below_all (below_all (below_all (below_all (below_all (below_all (below_all S6.out S7.out) S8.out) S9.out) S10.out) S11.out) S12.out) S13.out) S14.out) S15.out)) h)).cells.2.1, (T_c.out.later (below_all (below_all (below_all (below_all (below_all S1.out S2.out) S3.out) SM.out) (below_all (below_all (below_all (below_all (below_all (below_all (below_all (below_all (below_all S6.out S7.out) S8.out) S9.out) S10.out) S11.out) S12.out) S13.out) S14.out) S15.out)) h)).cells.2.2⟩
            obtain ⟨o0, o1, o2, c0, c1, c2⟩ := HK.out _ (Below.refl _ W15)
            have k0 := cell_regrown o0
            have k1 := cell_regrown o1
            have k2 := cell_regrown o2
            have k3 := cell_regrown c0
            have k4 := cell_regrown c1
            have k5 := cell_regrown c2
            clear HK o0 o1 o2 c0 c1 c2
            refine wp_region_quiet_below (by kernel_rfl) (by kernel_rfl) ?_
            repeat (go_big_quiet_step (fail))
            refine wpQuiet_nil ?_
            intro _ hw1
            obtain ⟨⟨dq, osq⟩, hw2⟩ := hw1
            subst hw2
            have S16 := Lib.hid (below_regrown W15 dq osq)
            clear k0 k1 k2 k3 k4 k5
            generalize Sort.grow (redrawn W15 dq) osq = W16 at *
            go_wp2_with fail
            go_ret
            exact ⟨rfl, (below_all BW.out (below_all (below_all (below_all (below_all S1.out S2.out) S3.out) SM.out) (below_all (below_all (below_all (below_all (below_all (below_all (below_all (below_all (below_all (below_all S6.out S7.out) S8.out) S9.out) S10.out) S11.out) S12.out) S13.out) S14.out) S15.out) S16.out)))⟩
          | some pz =>
            obtain ⟨y0, y1, y2⟩ := pz
            obtain ⟨hn1, hn2⟩ := HOP.out _ rfl
            dsimp only [Option.map, Option.getD, Option.isSome] at F_o
            simp only [Ch.toI, Ch.back] at hn1 hn2
            generalize ((y0 : Nat) : Int) = z0 at *
            generalize ((y1 : Nat) : Int) = z1 at *
            generalize ((y2 : Nat) : Int) = z2 at *
            have hd1 := tri_ne hn1
            have hd2 := tri_ne hn2
            clear hn1 hn2
            have h0 := (Boxed.later N_h.out (below_all (below_all (below_all (below_all S1.out S2.out) S3.out) SM.out) (below_all (below_all (below_all (below_all (below_all (below_all (below_all (below_all S6.out S7.out) S8.out) S9.out) S10.out) S11.out) S12.out) S13.out) S14.out))).cell
            go_wp2_with fail
            refine (F_o.out _ (V_h.out.below (below_all (below_all (below_all (below_all S1.out S2.out) S3.out) SM.out) (below_all (below_all (below_all (below_all (below_all (below_all (below_all (below_all S6.out S7.out) S8.out) S9.out) S10.out) S11.out) S12.out) S13.out) S14.out))) (T_m.out.below (below_all (below_all (below_all (below_all (below_all (below_all (below_all (below_all S6.out S7.out) S8.out) S9.out) S10.out) S11.out) S12.out) S13.out) S14.out))).mono ?_
            rintro e V ⟨rfl, hb⟩
            have b := alloc_below V (.cells #[.int .i64 z0, .int .i64 z1, .int .i64 z2] 38)
            have S15 := Lib.hid (below_all hb b)
            have T_o := Lib.hid (Three.new V 38 (.int .i64 z0) (.int .i64 z1) (.int .i64 z2))
            clear hb b
            clear a0 a1 h0
            go_wp2_with fail
            generalize V.alloc (.cells #[.int .i64 z0, .int .i64 z1, .int .i64 z2] 38) = W15 at *
            generalize V.heap.size = o_o at *
            rcases hd1 with q1 | ⟨q1, q2⟩ | ⟨q1, q2, q3⟩ <;> rcases hd2 with r1 | ⟨r1, r2⟩ | ⟨r1, r2, r3⟩ <;> (try (have zz := q1.symm.trans r1; cases zz; done))
            all_goals
              have HK : Hid (∀ W', Below W15.heap.size W15 W' → W'.cell? ⟨o_o, 0, none⟩ = some (.int .i64 z0) ∧ W'.cell? ⟨o_o, 1, none⟩ = some (.int .i64 z1) ∧ W'.cell? ⟨o_o, 2, none⟩ = some (.int .i64 z2) ∧ W'.cell? ⟨w.heap.size + 1 + 1, 0, none⟩ = some (.int .i64 k) ∧ W'.cell? ⟨w.heap.size + 1 + 1, 1, none⟩ = some (.int .i64 a) ∧ W'.cell? ⟨w.heap.size + 1 + 1, 2, none⟩ = some (.int .i64 b)) := fun W' h => ⟨(T_o.out.later h).cells.1, (T_o.out.later h).cells.2.1, (T_o.out.later h).cells.2.2, (T_c.out.later (below_all (below_all (below_all (below_all (below_all S1.out S2.out) S3.out) SM.out) (below_all (below_all (below_all (below_all (below_all (below_all (below_all (below_all (below_all S6.out S7.out) S8.out) S9.out) S10.out) S11.out) S12.out) S13.out) S14.out) S15.out)) h)).cells.1, (T_c.out.later (below_all (below_all (below_all (below_all (below_all S1.out S2.out) S3.out) SM.out) (below_all (below_all (below_all (below_all (below_all (below_all (below_all (below_all (below_all S6.out S7.out) S8.out) S9.out) S10.out) S11.out) S12.out) S13.out) S14.out) S15.out)) h)).cells.2.1, (T_c.out.later (below_all (below_all (below_all (below_all (below_all S1.out S2.out) S3.out) SM.out) (below_all (below_all (below_all (below_all (below_all (below_all (below_all (below_all (below_all S6.out S7.out) S8.out) S9.out) S10.out) S11.out) S12.out) S13.out) S14.out) S15.out)) h)).cells.2.2⟩
              obtain ⟨o0, o1, o2, c0, c1, c2⟩ := HK.out _ (Below.refl _ W15)
              have D := Lib.hid (Below.refl W15.heap.size W15).drew
              go_region_held3 (fun W' => W'.cell? ⟨o_o, 0, none⟩ = some (.int .i64 z0) ∧ W'.cell? ⟨o_o, 1, none⟩ = some (.int .i64 z1) ∧ W'.cell? ⟨o_o, 2, none⟩ = some (.int .i64 z2) ∧ W'.cell? ⟨w.heap.size + 1 + 1, 0, none⟩ = some (.int .i64 k) ∧ W'.cell? ⟨w.heap.size + 1 + 1, 1, none⟩ = some (.int .i64 a) ∧ W'.cell? ⟨w.heap.size + 1 + 1, 2, none⟩ = some (.int .i64 b))
                (first | (exact ⟨o0, o1, o2, c0, c1, c2⟩) | (exact HK.out _ D.out) | (exact HK.out _ Y1.out))
                (first
                                | (go_at_call 29; (with_reducible refine (rBack18_at k a b _).mono ?_); rintro e W16 ⟨rfl, hz⟩; have Y1 := Lib.hid (below_all D.out hz); clear hz))
              all_goals
                have S16 := Lib.hid Y1.out
                clear o0 o1 o2 c0 c1 c2 HK D Y1
                go_wp2_with fail
                go_ret
                exact ⟨rfl, (below_all BW.out (below_all (below_all (below_all (below_all S1.out S2.out) S3.out) SM.out) (below_all (below_all (below_all (below_all (below_all (below_all (below_all (below_all (below_all (below_all S6.out S7.out) S8.out) S9.out) S10.out) S11.out) S12.out) S13.out) S14.out) S15.out) S16.out)))⟩
end Go.Proofs.Ytahacjfeopjbaaa
