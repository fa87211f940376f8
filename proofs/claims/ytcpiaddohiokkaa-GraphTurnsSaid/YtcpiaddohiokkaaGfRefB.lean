/-
  What the reference's Set of layer 12 answers.
  Conditions: rows hold sets below 2^64.
-/
import Derived.Test.YtcpiaddohiokkaaGfRefA
set_option maxRecDepth 4000
namespace Go.Proofs.Ytcpiaddohiokkaa
open Go.RowKit

/-- A row of the call's own with an element lies at a block's head. -/
theorem own_head {w : World} {base : Nat} {v : Value} {l : List Nat} (h : OwnU w base v l) (hl : 0 < l.length) : ∃ g c, v = .slice (some ⟨g, 0, none⟩) l.length c := by
  rcases h.2 with ⟨_, h0⟩ | ⟨g, cap, _, hv, _⟩
  · omega
  · exact ⟨g, cap, hv⟩

set_option maxHeartbeats 2000000 in
theorem rSet12_at (n : Int) (v : Value) (l : List Nat) (a : Nat) (b : Int) (w : World) (hv : Us w v l) (ha : a < l.length) (hs : l[a] < 18446744073709551616) (hl : l.length ≤ 64) : Calls Try.prog 18 #[.agg #[.int .i64 n, v], .int .i64 a, .int .i64 b] w (RetR w n (l.set a (Bi.withN l[a] b))) := by
  obtain ⟨i0, hi0, hz0, hz1, hz2⟩ := info_parts gf_info
  have I0 := Lib.hid hi0
  have I1 := Lib.hid hz0
  have I2 := Lib.hid hz1
  have I3 := Lib.hid hz2
  clear hi0 hz0 hz1 hz2
  have HV := Lib.hid hv
  obtain ⟨A, c, rfl, -⟩ := hv.spelled
  have b1 := alloc_below w (.cells #[.int .i64 n, .slice A l.length c] 26)
  have b2 := alloc_below (w.alloc (.cells #[.int .i64 n, .slice A l.length c] 26)) (.cells #[.int .i64 0, .slice none 0 0] 26)
  have b3 := alloc_below ((w.alloc (.cells #[.int .i64 n, .slice A l.length c] 26)).alloc (.cells #[.int .i64 0, .slice none 0 0] 26)) (.cells #[.int .i64 n, .slice none 0 0] 26)
  have t1 := Two.new (w.alloc (.cells #[.int .i64 n, .slice A l.length c] 26)) 26 (.int .i64 0) (.slice none 0 0)
  have t2 := Two.new ((w.alloc (.cells #[.int .i64 n, .slice A l.length c] 26)).alloc (.cells #[.int .i64 0, .slice none 0 0] 26)) 26 (.int .i64 n) (.slice none 0 0)
  rw [World.size_alloc] at t1
  rw [World.size_alloc, World.size_alloc] at t2
  have T0 := Lib.hid (((Two.new w 26 (.int .i64 n) (.slice A l.length c)).later b2).later b3)
  have T1 := Lib.hid (t1.later b3)
  have T2 := Lib.hid t2
  have BW := Lib.hid (below_all (below_all b1 b2) b3)
  clear b1 b2 b3 t1 t2 hv
  have HON := Lib.hid (gf_ones l)
  have F := Lib.hid (fun w => rWith10_at (l[a]'ha) b w hs)
  obtain ⟨q, hq⟩ : ∃ q, q = Bi.withN (l[a]'ha) b := ⟨_, rfl⟩
  rw [← hq] at F ⊢
  clear hq
  go_enter Try.func18, Try.ntmps18
  go_upto_region 2 with fail
  generalize ((w.alloc (.cells #[.int .i64 n, .slice A l.length c] 26)).alloc (.cells #[.int .i64 0, .slice none 0 0] 26)).alloc (.cells #[.int .i64 n, .slice none 0 0] 26) = W at *
  have HU := Lib.hid (HV.out.below BW.out)
  obtain ⟨c0, c1⟩ := T0.out.cells
  obtain ⟨d0, d1⟩ := T2.out.cells
  have HSZ := Lib.hid T2.out.lt
  go_upto_region 3 with (at_builtin; (refine wpList_append_sl W rfl (.tmp 12) (.tmp 14) 22 rfl (w.heap.size + 1 + 1 + 1) 49 i0 _ 1 8 Try.underlying22 I0.out I1.out I2.out I3.out rfl (by decide) (.slice none 0 0) 0 [] rfl (World.ownsRow_nil _ _ _ _) (.slice A l.length c) l.length (l.flatMap uC) rfl HU.out HON.out (by simp only [maxLen]; omega) (by omega) HSZ.out ?_; intro v3 w3 hown3 hgrow3 hat3; rw [Nat.zero_add, List.nil_append] at hown3; obtain ⟨g, c3, rfl⟩ := own_head hown3 (by omega); have HO3 := Lib.hid (show OwnU w3 (w.heap.size + 1 + 1 + 1) (.slice (some ⟨g, 0, none⟩) l.length c3) l from hown3); have hb3 := below_append (Below.refl (w.heap.size + 1 + 1 + 1) W) HSZ.out (World.ownsRow_nil W (w.heap.size + 1 + 1 + 1) 49 1) hgrow3; have HB3 := Lib.hid hb3; have T23 := Lib.hid (two_at T2.out hb3 (by omega)); have f1 := T23.out.frozen 1; have g1 := T23.out.cells.2; clear hown3 hgrow3 hat3 hb3))
  have O4 : Hid (OwnU (w3.setCell ⟨w.heap.size + 1 + 1, 1, none⟩ (.slice (some ⟨g, 0, none⟩) l.length c3)) (w.heap.size + 1 + 1 + 1) (.slice (some ⟨g, 0, none⟩) l.length c3) l) := own_setCell HO3.out (by omega)
  have T24 : Hid (Two (w3.setCell ⟨w.heap.size + 1 + 1, 1, none⟩ (.slice (some ⟨g, 0, none⟩) l.length c3)) (w.heap.size + 1 + 1) 26 (.int .i64 n) (.slice (some ⟨g, 0, none⟩) l.length c3)) := two_put1 T23.out
  have T14 : Hid (Two (w3.setCell ⟨w.heap.size + 1 + 1, 1, none⟩ (.slice (some ⟨g, 0, none⟩) l.length c3)) (w.heap.size + 1) 26 (.int .i64 0) (.slice none 0 0)) := two_far (two_at T1.out HB3.out (by omega)) _ (by show w.heap.size + 1 + 1 ≠ w.heap.size + 1; omega) _
  have B4 : Hid (Below w.heap.size w (w3.setCell ⟨w.heap.size + 1 + 1, 1, none⟩ (.slice (some ⟨g, 0, none⟩) l.length c3))) := (BW.out.trans (HB3.out.mono (by omega))).setCell (p := ⟨w.heap.size + 1 + 1, 1, none⟩) (by show w.heap.size ≤ w.heap.size + 1 + 1; omega) _
  generalize w3.setCell ⟨w.heap.size + 1 + 1, 1, none⟩ (.slice (some ⟨g, 0, none⟩) l.length c3) = w4 at *
  clear c0 c1 d0 d1 f1 g1 HO3 HB3 T23 T0 T1 T2 BW HU
  have e1 := T24.out.cells.2
  have e2 := O4.out.cell a ha
  have f2 := O4.out.frozen a
  have hgl := O4.out.lt
  have O5 : Hid (OwnU (w4.setCell ⟨g, a, none⟩ (.int .u64 (q : Int))) (w.heap.size + 1 + 1 + 1) (.slice (some ⟨g, 0, none⟩) (l.set a q).length c3) (l.set a q)) := by
    rw [List.length_set]
    exact O4.out.put a ha _
  rw [List.length_set] at O5
  have T25 := Lib.hid (two_far T24.out ⟨g, a, none⟩ (by show g ≠ w.heap.size + 1 + 1; omega) (.int .u64 (q : Int)))
  have T15 := Lib.hid (two_far T14.out ⟨g, a, none⟩ (by show g ≠ w.heap.size + 1; omega) (.int .u64 (q : Int)))
  have B5 := Lib.hid (B4.out.setCell (p := ⟨g, a, none⟩) (by show w.heap.size ≤ g; omega) (.int .u64 (q : Int)))
  generalize l[a]'ha = x at *
  go_region_law (go_simp; go_at_call 34; refine (F.out _).mono ?_; rintro e w5 ⟨rfl, rfl⟩)
  all_goals
    obtain ⟨p0, p1⟩ := Two.cells T25.out
    obtain ⟨r0, r1⟩ := Two.cells T15.out
    have s0 := Two.frozen T15.out 0
    have s1 := Two.frozen T15.out 1
    go_wp2_with fail
    exact end_rd (p := 6) rfl T15.out O5.out (by omega) B5.out (Nat.le_succ _) _ rfl
end Go.Proofs.Ytcpiaddohiokkaa
