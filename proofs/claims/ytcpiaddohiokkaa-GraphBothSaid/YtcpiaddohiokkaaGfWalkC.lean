/-
  What graph's New and Add answer.
  Conditions: rows hold sets below 2^64.
-/
import Derived.Test.YtcpiaddohiokkaaGfWalkB
set_option maxRecDepth 4000
namespace Go.Proofs.Ytcpiaddohiokkaa
open Go.RowKit

theorem gfNew_no (n : Int) (h : (decide (0 ≤ n) && decide (n ≤ 64)) = false) (w : World) : Calls Try.prog 37 #[.int .i64 n] w (RetNoG w) := by
  go_enter Try.func37, Try.ntmps37
  go_wp2_with fail
  refine (gfMay_at n _).mono ?_
  rintro e w1 ⟨rfl, rfl⟩
  rw [h]
  go_wp2_with fail
  obtain ⟨p0, p1⟩ := (Two.new w 24 (.int .i64 0) (.slice none 0 0)).cells
  exact bodyPost_ret (res_g rfl _ w.heap.size _ 0 1 none 0 0 rfl rfl p0 p1) rfl ⟨rfl, alloc_below _ _⟩
theorem gfNew_at (n : Nat) (hn : n ≤ 64) (w : World) : Calls Try.prog 37 #[.int .i64 n] w (RetG w n (Gf.zeros n)) := by
  have h : (decide (0 ≤ (n : Int)) && decide ((n : Int) ≤ 64)) = true := by rw [decide_eq_true (by omega), decide_eq_true (by omega)]; rfl
  have hmk := fun w => gf_make w n (by omega)
  have hz : (Gf.zeros n).length = n := List.length_replicate
  go_enter Try.func37, Try.ntmps37
  go_wp2_with fail
  refine (gfMay_at n _).mono ?_
  rintro e w1 ⟨rfl, rfl⟩
  rw [h]
  go_wp2_with fail
  have T := Two.new w 24 (.int .i64 n) (.slice (some ⟨w.heap.size + 1, 0, none⟩) n n)
  have B := alloc_below w (.cells #[.int .i64 n, .slice (some ⟨w.heap.size + 1, 0, none⟩) n n] 24)
  have hs : (w.alloc (.cells #[.int .i64 n, .slice (some ⟨w.heap.size + 1, 0, none⟩) n n] 24)).heap.size = w.heap.size + 1 := World.size_alloc _ _
  generalize w.alloc (.cells #[.int .i64 n, .slice (some ⟨w.heap.size + 1, 0, none⟩) n n] 24) = W at *
  have R := (RowU.made W n).own (base := w.heap.size) (by omega) (by simp only [maxLen]; omega)
  have B2 := alloc_below W (.cells (madeCells #[.int .u64 0] n) 49)
  obtain ⟨p0, p1⟩ := (T.later B2).cells
  rw [hs, hz] at R
  exact bodyPost_ret (res_g rfl _ w.heap.size _ n 0 _ n n rfl rfl p0 p1) rfl ⟨_, rfl, R, below_all B B2⟩

/-- Whether an edge may be added. -/
def Gf.addB (n : Int) (l : List Nat) (a b : Int) : Bool := okB n l && (isN n a && isN n b)

set_option maxHeartbeats 1000000 in
theorem gfAdd_no (n : Int) (v : Value) (l : List Nat) (a b : Int) (w : World) (hv : Us w v l) (hs : ∀ x ∈ l, x < 18446744073709551616) (hno : Gf.addB n l a b = false) : Calls Try.prog 10 #[.agg #[.int .i64 n, v], .int .i64 a, .int .i64 b] w (RetNoG w) := by
  have HV := Lib.hid hv
  obtain ⟨A, c, rfl, -⟩ := hv.spelled
  have T0 := Lib.hid ((Two.new w 24 (.int .i64 n) (.slice A l.length c)).later (alloc_below _ (.cells #[.int .i64 0, .slice none 0 0] 24)))
  have T1 := Lib.hid (Two.new (w.alloc (.cells #[.int .i64 n, .slice A l.length c] 24)) 24 (.int .i64 0) (.slice none 0 0))
  rw [World.size_alloc] at T1
  have BW := Lib.hid (below_all (alloc_below w (.cells #[.int .i64 n, .slice A l.length c] 24)) (alloc_below _ (.cells #[.int .i64 0, .slice none 0 0] 24)))
  have F1 := Lib.hid (fun w h => gfRight_at n (.slice A l.length c) l w h hs)
  have F2 := Lib.hid (fun w => gfNode_at n (.slice A l.length c) a w)
  have F3 := Lib.hid (fun w => gfNode_at n (.slice A l.length c) b w)
  have hno' : (Gf.okB n l && (Gf.isN n a && Gf.isN n b)) = false := hno
  have HE := Lib.hid (fun (X : World) (tmps : Array Value) (hb : Below w.heap.size w X) (hT : Two X (w.heap.size + 1) 24 (.int .i64 0) (.slice none 0 0)) (hp : tmps.getD 6 undef = .pointer (some ⟨w.heap.size + 1, 0, none⟩)) (hq : tmps.getD 7 undef = .int .i64 1) =>
    show bodyPost Try.prog Try.f10 (RetNoG w) Exit.ret { tmps := tmps, defers := [] } ((X.setCell ⟨w.heap.size + 1, 0, none⟩ (.int .i64 0)).setCell ⟨w.heap.size + 1, 1, none⟩ (.slice none 0 0)) by
      obtain ⟨p0, p1⟩ := (hT.put (x := .int .i64 0) (y := .slice none 0 0)).cells
      exact bodyPost_ret (res_g rfl _ (w.heap.size + 1) _ 0 1 none 0 0 hp hq p0 p1) rfl ⟨rfl, (hb.setCell (p := ⟨w.heap.size + 1, 0, none⟩) (Nat.le_succ _) _).setCell (p := ⟨w.heap.size + 1, 1, none⟩) (Nat.le_succ _) _⟩)
  clear hs hv hno
  generalize Gf.okB n l = p at *
  generalize Gf.isN n a = q at *
  generalize Gf.isN n b = q2 at *
  cases p with
  | false =>
    clear hno'
    go_enter Try.func10, Try.ntmps10
    go_wp2_with fail
    generalize (w.alloc (.cells #[.int .i64 n, .slice A l.length c] 24)).alloc (.cells #[.int .i64 0, .slice none 0 0] 24) = W at *
    refine (F1.out _ (HV.out.below BW.out)).mono ?_
    rintro e w1 ⟨rfl, hb1⟩
    have B1 := Lib.hid (below_all BW.out hb1)
    have TR := Lib.hid (T1.out.later hb1)
    obtain ⟨r0, r1⟩ := TR.out.cells
    have f0 := TR.out.frozen 0
    have f1 := TR.out.frozen 1
    clear hb1
    go_wp2_with fail
    exact HE.out _ _ B1.out TR.out rfl rfl
  | true =>
    cases q with
    | false =>
      clear hno'
      go_enter Try.func10, Try.ntmps10
      go_wp2_with fail
      generalize (w.alloc (.cells #[.int .i64 n, .slice A l.length c] 24)).alloc (.cells #[.int .i64 0, .slice none 0 0] 24) = W at *
      refine (F1.out _ (HV.out.below BW.out)).mono ?_
      rintro e w1 ⟨rfl, hb1⟩
      have B1 := Lib.hid (below_all BW.out hb1)
      have TR1 := Lib.hid (T1.out.later hb1)
      obtain ⟨c0, c1⟩ := (T0.out.later hb1).cells
      clear hb1
      go_wp2_with fail
      refine (F2.out _).mono ?_
      rintro e w2 ⟨rfl, hb2⟩
      have B2 := Lib.hid (below_all B1.out hb2)
      have TR := Lib.hid (TR1.out.later hb2)
      obtain ⟨r0, r1⟩ := TR.out.cells
      have f0 := TR.out.frozen 0
      have f1 := TR.out.frozen 1
      clear hb2 c0 c1
      go_wp2_with fail
      exact HE.out _ _ B2.out TR.out rfl rfl
    | true =>
      obtain rfl : q2 = false := by simpa using hno'
      clear hno'
      go_enter Try.func10, Try.ntmps10
      go_wp2_with fail
      generalize (w.alloc (.cells #[.int .i64 n, .slice A l.length c] 24)).alloc (.cells #[.int .i64 0, .slice none 0 0] 24) = W at *
      refine (F1.out _ (HV.out.below BW.out)).mono ?_
      rintro e w1 ⟨rfl, hb1⟩
      have B1 := Lib.hid (below_all BW.out hb1)
      have TR1 := Lib.hid (T1.out.later hb1)
      have TA1 := Lib.hid (T0.out.later hb1)
      obtain ⟨c0, c1⟩ := TA1.out.cells
      clear hb1
      go_wp2_with fail
      refine (F2.out _).mono ?_
      rintro e w2 ⟨rfl, hb2⟩
      have B2 := Lib.hid (below_all B1.out hb2)
      have TR2 := Lib.hid (TR1.out.later hb2)
      obtain ⟨d0, d1⟩ := (TA1.out.later hb2).cells
      clear hb2 c0 c1
      go_wp2_with fail
      refine (F3.out _).mono ?_
      rintro e w3 ⟨rfl, hb3⟩
      have B3 := Lib.hid (below_all B2.out hb3)
      have TR := Lib.hid (TR2.out.later hb3)
      obtain ⟨r0, r1⟩ := TR.out.cells
      have f0 := TR.out.frozen 0
      have f1 := TR.out.frozen 1
      clear hb3 d0 d1
      go_wp2_with fail
      exact HE.out _ _ B3.out TR.out rfl rfl

theorem gf_size : (Try.prog.info? 49).map (·.size) = some 1 := by kernel_rfl
set_option maxHeartbeats 2000000 in
theorem gfAdd_at (n : Nat) (v : Value) (l : List Nat) (a b : Nat) (w : World) (hv : Us w v l) (hok : Gf.Ok n l) (ha : a < n) (hb : b < n) : Calls Try.prog 10 #[.agg #[.int .i64 n, v], .int .i64 a, .int .i64 b] w (RetG w n (Gf.addR l a b)) := by
  obtain rfl : l.length = n := hok.2.1
  have HV := Lib.hid hv
  obtain ⟨A, c, rfl, hf⟩ := hv.spelled
  have hal : a < l.length := ha
  obtain ⟨ad, rfl, hblk, -⟩ := hf a hal
  have T0 := Lib.hid ((Two.new w 24 (.int .i64 l.length) (.slice (some ad) l.length c)).later (alloc_below _ (.cells #[.int .i64 0, .slice none 0 0] 24)))
  have T1 := Lib.hid (Two.new (w.alloc (.cells #[.int .i64 l.length, .slice (some ad) l.length c] 24)) 24 (.int .i64 0) (.slice none 0 0))
  rw [World.size_alloc] at T1
  have BW := Lib.hid (below_all (alloc_below w (.cells #[.int .i64 l.length, .slice (some ad) l.length c] 24)) (alloc_below _ (.cells #[.int .i64 0, .slice none 0 0] 24)))
  have hs : ∀ x ∈ l, x < 18446744073709551616 := fun x hx => hok.small hx
  have F1 := Lib.hid (fun w h => gfRight_at l.length (.slice (some ad) l.length c) l w h hs)
  have F2 := Lib.hid (fun w => gfNode_at l.length (.slice (some ad) l.length c) a w)
  have F3 := Lib.hid (fun w => gfNode_at l.length (.slice (some ad) l.length c) b w)
  have hokB := (Gf.okB_nat l.length l).2 hok
  rw [hokB] at F1
  rw [Gf.isN_yes ha] at F2
  rw [Gf.isN_yes hb] at F3
  have hx := hs _ (List.getElem_mem hal)
  have HAdd : Hid (Gf.addR l a b = l.set a (Bi.withN (l[a]'hal) (b : Int))) := by
    rw [Hid, Gf.addR, List.getD_eq_getElem?_getD, List.getElem?_eq_getElem hal]
    rfl
  have F4 := Lib.hid (fun w => biWith_at (l[a]'hal) b w hx)
  have hmk := fun w => gf_make w l.length (Nat.le_trans hok.1 (by decide))
  have hn64 := hok.1
  have HZ := Lib.hid (show (Gf.zeros l.length).length = l.length from List.length_replicate)
  have HC := Lib.hid (show splice ((Gf.zeros l.length).flatMap uC) 0 (l.flatMap uC) = l.flatMap uC by
    rw [splice, List.take_zero, List.nil_append, List.drop_of_length_le (by rw [uC_flat, uC_flat, HZ.out]; omega), List.append_nil])
  have HL := Lib.hid (uC_flat l)
  have HLZ := Lib.hid (uC_flat (Gf.zeros l.length))
  have HON := Lib.hid (gf_ones l)
  obtain ⟨q, hq⟩ : ∃ q, q = Bi.withN (l[a]'hal) (b : Int) := ⟨_, rfl⟩
  rw [← hq] at F4 HAdd
  clear hs hv hf hok hokB hx hq
  go_enter Try.func10, Try.ntmps10
  go_wp2_with fail
  generalize (w.alloc (.cells #[.int .i64 l.length, .slice (some ad) l.length c] 24)).alloc (.cells #[.int .i64 0, .slice none 0 0] 24) = W at *
  refine (F1.out _ (HV.out.below BW.out)).mono ?_
  rintro e w1 ⟨rfl, hb1⟩
  have B1 := Lib.hid (below_all BW.out hb1)
  have TR1 := Lib.hid (T1.out.later hb1)
  have TA1 := Lib.hid (T0.out.later hb1)
  obtain ⟨c0, c1⟩ := TA1.out.cells
  clear hb1
  go_wp2_with fail
  refine (F2.out _).mono ?_
  rintro e w2 ⟨rfl, hb2⟩
  have B2 := Lib.hid (below_all B1.out hb2)
  have TR2 := Lib.hid (TR1.out.later hb2)
  have TA2 := Lib.hid (TA1.out.later hb2)
  obtain ⟨d0, d1⟩ := TA2.out.cells
  clear hb2 c0 c1
  go_wp2_with fail
  refine (F3.out _).mono ?_
  rintro e w3 ⟨rfl, hb3⟩
  have B3 := Lib.hid (below_all B2.out hb3)
  have TR3 := Lib.hid (TR2.out.later hb3)
  have TA3 := Lib.hid (TA2.out.later hb3)
  obtain ⟨c0, c1⟩ := TA3.out.cells
  clear hb3 d0 d1
  go_upto_region 4 with fail
  have B4 := Lib.hid (below_all B3.out (alloc_below w3 (.cells (madeCells #[.int .u64 0] l.length) 49)))
  have TR4 := Lib.hid (TR3.out.later (alloc_below w3 (.cells (madeCells #[.int .u64 0] l.length) 49)))
  have TA4 := Lib.hid (TA3.out.later (alloc_below w3 (.cells (madeCells #[.int .u64 0] l.length) 49)))
  have R4 := Lib.hid (RowU.made w3 l.length)
  have hg := TR3.out.lt
  generalize w3.alloc (.cells (madeCells #[.int .u64 0] l.length) 49) = w4 at *
  generalize w3.heap.size = g at *
  clear c0 c1
  obtain ⟨c0, c1⟩ := TA4.out.cells
  have S4 : Hid (∀ j u, (l.flatMap uC)[j]? = some u → w4.cell? (ad.add j) = some u) := by
    obtain ⟨_, A0, c0', e0, _, _, hh⟩ := HV.out.below B4.out
    cases e0
    obtain ⟨ad', e1, _, h2⟩ := hh (by omega)
    cases e1
    exact h2
  go_upto_region 5 with (refine wpList_copy_splice rfl (.tmp 28) (.tmp 30) 22 22 rfl 49 Try.underlying22 gf_size _ _ _ _ _ _ rfl rfl g 0 ((Gf.zeros l.length).flatMap uC) 49 R4.out (l.flatMap uC) (by rw [HL.out]; exact (Nat.min_self _).symm) (fun _ => ⟨rfl, ad, rfl, S4.out⟩) (by rw [HL.out, HLZ.out, HZ.out]; omega) HON.out g w4 (Below.refl g w4) (Nat.le_refl g) ?_; intro w5 HG5 hB5; rw [HC.out] at HG5; have HB5 := Lib.hid hB5; clear hB5)
  have R5 : Hid (RowU w5 g l) := HG5.out
  have TR5 := Lib.hid (two_at TR4.out HB5.out hg)
  have TA5 := Lib.hid (two_at TA4.out HB5.out (by omega))
  have B5 := Lib.hid (B4.out.trans (HB5.out.mono (by omega)))
  have e5 := R5.out.cell a hal
  have f5 := R5.out.frozen a
  have TR6 := Lib.hid (two_far TR5.out ⟨g, a, none⟩ (by show g ≠ w.heap.size + 1; omega) (.int .u64 q))
  have TA6 := Lib.hid (two_far TA5.out ⟨g, a, none⟩ (by show g ≠ w.heap.size; omega) (.int .u64 q))
  have R6 := Lib.hid (R5.out.put a hal q)
  have B6 := Lib.hid (B5.out.setCell (p := ⟨g, a, none⟩) (by show w.heap.size ≤ g; omega) (.int .u64 q))
  generalize l[a]'hal = x at *
  clear HG5 HB5 R5 TR5 TA5 B5 c0 c1 TR4 TA4 R4 S4
  go_wp2_with fail
  refine (F4.out _).mono ?_
  rintro e w6 ⟨rfl, rfl⟩
  go_upto_region 6 with fail
  generalize World.setCell _ ⟨g, a, none⟩ (.int .u64 (q : Int)) = X at *
  obtain ⟨r0, r1⟩ := TR6.out.cells
  have g0 := TR6.out.frozen 0
  have g1 := TR6.out.frozen 1
  have a0 := TA6.out.cells.1
  have HL2 := Lib.hid (show (l.set a q).length = l.length from List.length_set)
  clear e5 f5
  go_wp2_with fail
  rw [HAdd.out]
  exact end_g (p := 6) (u := 7) rfl TR6.out R6.out B6.out (Nat.le_succ _) hg (by rw [HL2.out]; simp only [maxLen]; omega) _ HL2.out.symm _ rfl rfl
end Go.Proofs.Ytcpiaddohiokkaa
