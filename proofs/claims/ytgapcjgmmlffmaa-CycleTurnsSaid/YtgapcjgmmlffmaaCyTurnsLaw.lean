/-
  The law CycleTurns: a cycle that begins at another one of its nodes is one; without an edge of it none is; two nodes the same are none.
  Conditions: rows hold sets below 2^64; the library's table for the lowest bit holds what its text says.
-/
import Derived.Test.YtgapcjgmmlffmaaCyAwake
import Derived.Test.YtgapcjgmmlffmaaCyMore
import Derived.Test.YtgapcjgmmlffmaaGfAll
import Derived.BigRegion
import Derived.Deep.RegionHeld3
set_option maxRecDepth 4000
namespace Go.Proofs.Ytgapcjgmmlffmaa
open Go.RowKit

theorem cyt_info : (Try.prog.info? 3).map (fun i => (i.zero, i.size, i.bytes)) = some (some (.int .i64 0), 1, 8) := by kernel_rfl
theorem cyt_uinfo : (Try.prog.info? 40).map (fun i => (i.zero, i.size, i.bytes)) = some (some (.int .u64 0), 1, 8) := by kernel_rfl
theorem ns_rest {w : World} {A : Option Addr} {n c : Nat} {l : List Int} (h : Ns w (.slice A n c) l) (m : Nat) (hm : m ≤ l.length) : Ns w (.slice (if c = m then A else A.map (·.add (m * 1))) (n - m) (c - m)) (l.drop m) := by
  obtain ⟨h1, A1, c1, hv, hc, hz, hh⟩ := h
  cases hv
  have hlen : (l.drop m).length = l.length - m := List.length_drop
  refine ⟨by rw [flat_len nC_len], _, _, by rw [hlen], by rw [hlen]; omega, fun hn => ?_, fun h0 => ?_⟩
  · by_cases e : c = m
    · omega
    · rw [if_neg e] at hn
      have : A = none := by cases A with
        | none => rfl
        | some a => cases hn
      have := hz this
      omega
  · rw [hlen] at h0
    obtain ⟨ad, rfl, hb, hcell⟩ := hh (by omega)
    rw [if_neg (by omega)]
    refine ⟨ad.add (m * 1), rfl, by rw [add_block]; exact hb, fun j u hu => ?_⟩
    rw [Go.Deep.add_add]
    refine hcell _ _ ?_
    have hj := (List.getElem?_eq_some_iff.1 hu).1
    rw [flat_len nC_len, hlen] at hj
    have e2 : l.flatMap nC = (l.take m).flatMap nC ++ (l.drop m).flatMap nC := by rw [← List.flatMap_append, List.take_append_drop]
    have e3 : ((l.take m).flatMap nC).length = m * 1 := by rw [flat_len nC_len, List.length_take]; omega
    rw [e2, List.getElem?_append_right (by omega), e3, Nat.add_sub_cancel_left]
    exact hu
/-- A row's end and its front, as the walk slices them. -/
theorem row_end (l : List Int) (A : Option Addr) (c k : Nat) (hk : k < l.length) : ∃ (A' : Option Addr) (m c' : Nat), m = l.length - k ∧ (∀ W : World, (Instr.sliceAt 25 (.slice A l.length c) (some (.int .i64 (k : Int))) none none).run Try.prog W = .ok (.slice A' m c') W) ∧
    ∀ W : World, Ns W (.slice A l.length c) l → Sl W 1 (.slice A' m c') m ((l.drop k).flatMap nC) := by
  refine ⟨if c = k then A else A.map (·.add (k * 1)), l.length - k, c - k, rfl, fun W => ?_, fun W h => ?_⟩
  · have hel : Try.prog.elem 25 = 3 := by kernel_rfl
    have hsz : (sizeOf 3).run Try.prog W = .ok 1 W := by kernel_rfl
    have hun : Try.prog.underlying 25 = some (.slice (Try.prog.elem 25)) := by rw [hel]; exact Try.underlying25
    rw [run_sliceAt_slice W _ _ _ _ _ hun, run_slice_l W _ _ _ _ hun .i64 (k : Int) (by omega) (by omega), hel, hsz, Int.toNat_natCast]
    rfl
  · have h2 := ns_rest h k (Nat.le_of_lt hk)
    unfold Ns Rows' at h2
    rw [List.length_drop] at h2
    exact h2
theorem row_front (l : List Int) (A : Option Addr) (c k : Nat) (hk : k ≤ c) (W : World) : (Instr.sliceAt 25 (.slice A l.length c) none (some (.int .i64 (k : Int))) none).run Try.prog W = .ok (.slice A k c) W := by
  have hel : Try.prog.elem 25 = 3 := by kernel_rfl
  have hsz : (sizeOf 3).run Try.prog W = .ok 1 W := by kernel_rfl
  have hun : Try.prog.underlying 25 = some (.slice (Try.prog.elem 25)) := by rw [hel]; exact Try.underlying25
  rw [run_sliceAt_slice W _ _ _ _ _ hun, run_slice_h W _ _ _ _ hun .i64 (k : Int) (by omega) (by omega), hel, hsz]
  have e : ∀ B : Option Addr, B.map (·.add (0 * 1)) = B := fun B => by cases B <;> simp [add_zero']
  simp only [Result.andThen, sliced, e, ite_self, Nat.sub_zero, Int.toNat_natCast]

set_option maxHeartbeats 8000000 in
theorem lawCycleTurns (n : Int) (u : Value) (l : List Nat) (q : List Int) (v : Value) (k : Int) (w : World) (hu : Us w u l) (hs : ∀ x ∈ l, x < 18446744073709551616) (hv : Ns w v q) : Calls Try.prog 5 #[.agg #[.int .i64 n, u], v, .int .i64 k] w (RetBool w true) := by
  obtain ⟨i0, hi0, hz0, hz1, hz2⟩ := info_parts cyt_info
  have I0 := Lib.hid hi0
  have I1 := Lib.hid hz0
  have I2 := Lib.hid hz1
  have I3 := Lib.hid hz2
  obtain ⟨j0, hj0, hy0, hy1, hy2⟩ := info_parts cyt_uinfo
  have J0 := Lib.hid hj0
  have J1 := Lib.hid hy0
  have J2 := Lib.hid hy1
  have J3 := Lib.hid hy2
  have HU := Lib.hid hu
  have HS := Lib.hid hs
  have HV := Lib.hid hv
  have HON := Lib.hid (gf_ones l)
  have HOQ : Hid (∀ l' : List Int, ∀ u ∈ l'.flatMap nC, u.oneCell' = true) := fun l' u hu => by
    obtain ⟨x, _, hx⟩ := List.mem_flatMap.1 hu
    exact one_nC x u hx
  obtain ⟨A, c, rfl, -⟩ := hu.spelled
  obtain ⟨B, d, rfl, -⟩ := hv.spelled
  have HCAP : Hid (q.length ≤ d) := by
    obtain ⟨_, A1, c1, e, hc, _⟩ := hv
    cases e
    exact hc
  have T_g := Lib.hid (Two.new w 24 (.int .i64 n) (.slice A l.length c))
  have BW := Lib.hid (alloc_below w (.cells #[.int .i64 n, .slice A l.length c] 24))
  clear hu hs hv hi0 hz0 hz1 hz2 hj0 hy0 hy1 hy2
  go_enter Try.func5, Try.ntmps5
  go_wp2_with fail
  generalize w.alloc (.cells #[.int .i64 n, .slice A l.length c] 24) = W0 at *
  go_wp2_with fail
  refine (cyAwake_at _).mono ?_
  rintro e W1 ⟨rfl, hb⟩
  have B1 := Lib.hid (below_all BW.out hb)
  have T1 := Lib.hid (T_g.out.later hb)
  clear hb T_g BW
  obtain ⟨g0, g1⟩ := T1.out.cells
  by_cases h70 : 70 < l.length
  · go_wp2_with fail
    go_ret
    exact ⟨rfl, B1.out⟩
  by_cases hq70 : 70 < q.length
  · go_wp2_with fail
    go_ret
    exact ⟨rfl, B1.out⟩
  by_cases hk0 : k < 0
  · go_wp2_with fail
    go_ret
    exact ⟨rfl, B1.out⟩
  by_cases hkl : (q.length : Int) ≤ k
  · go_wp2_with fail
    go_ret
    exact ⟨rfl, B1.out⟩
  obtain ⟨j, rfl⟩ : ∃ j : Nat, k = (j : Int) := ⟨k.toNat, by omega⟩
  have hj : j < q.length := by omega
  obtain ⟨AE, m, cE, hm, hend, hendr⟩ := row_end q B d j hj
  have hfront := fun W => row_front q B d j (Nat.le_trans (Nat.le_of_lt hj) HCAP.out) W
  have NV1 := Lib.hid (HV.out.below B1.out)
  have NE1 := Lib.hid (hendr W1 NV1.out)
  have NF1 : Hid (Sl W1 1 (.slice B j d) j ((q.take j).flatMap nC)) := by
    have h2 := Ns.take NV1.out j (Nat.le_of_lt hj)
    unfold Ns Rows' at h2
    rw [List.length_take, Nat.min_eq_left (Nat.le_of_lt hj)] at h2
    exact h2
  have HM := Lib.hid hm
  clear hendr hm
  go_upto_region 8 with (at_builtin; (refine wpList_append_sl W1 rfl (.tmp 34) (.tmp 37) 25 rfl W1.heap.size 3 i0 _ 1 8 Try.underlying25 I0.out I1.out I2.out I3.out rfl (by decide) (.slice none 0 0) 0 [] rfl (World.ownsRow_nil _ _ _ _) (.slice AE m cE) m ((q.drop j).flatMap nC) rfl NE1.out (HOQ.out _) (by have := HM.out; simp only [maxLen]; omega) (by have := HM.out; omega) (Nat.le_refl _) ?_; intro v2 w2 hown2 hgrow2 hat2; rw [Nat.zero_add, List.nil_append] at hown2; obtain ⟨A2, c2, rfl⟩ := own_form hown2; have O2 := Lib.hid hown2; have hb2 := below_append (Below.refl W1.heap.size W1) (Nat.le_refl _) (World.ownsRow_nil W1 W1.heap.size 3 1) hgrow2; have S2 := Lib.hid hb2; clear hown2 hgrow2 hat2 hb2))
  have NF2 := Lib.hid (Sl.below NF1.out S2.out)
  go_upto_region 9 with (at_builtin; (refine wpList_append_sl w2 rfl (.tmp 39) (.tmp 42) 25 rfl W1.heap.size 3 i0 _ 1 8 Try.underlying25 I0.out I1.out I2.out I3.out rfl (by decide) (.slice A2 m c2) m _ rfl O2.out (.slice B j d) j ((q.take j).flatMap nC) rfl NF2.out (HOQ.out _) (by have := HM.out; simp only [maxLen]; omega) (by have := HM.out; omega) S2.out.size ?_; intro v3 w3 hown3 hgrow3 hat3; obtain ⟨A3, c3, rfl⟩ := own_form hown3; have O3 := Lib.hid hown3; have hb3 := below_append S2.out S2.out.size O2.out hgrow3; have S3 := Lib.hid hb3; clear hown3 hgrow3 hat3 hb3))
  have NT : Hid (Ns w3 (.slice A3 (m + j) c3) (q.drop j ++ q.take j)) := by
    have h2 : (q.drop j ++ q.take j).length = m + j := by rw [List.length_append, List.length_drop, List.length_take, HM.out, Nat.min_eq_left (Nat.le_of_lt hj)]
    have h3 := Sl.own O3.out
    rw [← List.flatMap_append] at h3
    show Sl w3 1 _ (q.drop j ++ q.take j).length _
    rw [h2]
    exact h3
  have NV3 := Lib.hid (NV1.out.below S3.out)
  have B3 := Lib.hid (below_all B1.out S3.out)
  have T3 := Lib.hid (T1.out.later S3.out)
  have HROT := Lib.hid (Cy.IsC.rot (n := n) (g := l) (Nat.le_of_lt hj))
  have HTL : Hid ((q.drop j ++ q.take j).length ≤ 4294967296) := by rw [Hid, List.length_append, List.length_drop, List.length_take]; omega
  generalize hmj : m + j = mj at *
  generalize q.drop j ++ q.take j = qt at *
  clear g0 g1 T1 B1 NV1 NE1 NF1 NF2 O2 O3 S2 S3 hend hfront HM hmj
  obtain ⟨g0, g1⟩ := T3.out.cells
  by_cases hP : Cy.IsC n l q
  · have HP := Lib.hid hP
    have HPT := Lib.hid (HROT.out.2 hP)
    obtain ⟨x, hxq, hxl⟩ := hP.row hj
    have HXQ := Lib.hid hxq
    have hlen := hP.len
    clear hP hxq
    go_wp2_with fail
    refine (cyIs_at n (.slice A l.length c) l q (.slice B q.length d) _ (HU.out.below B3.out) HS.out NV3.out (by omega)).mono ?_
    rintro e w4 ⟨b4, rfl, hi4, hb4⟩
    obtain rfl : b4 = true := hi4.2 HP.out
    have B4 := Lib.hid (below_all B3.out hb4)
    have T4 := Lib.hid (T3.out.later hb4)
    have NV4 := Lib.hid (NV3.out.below hb4)
    have NT4 := Lib.hid (NT.out.below hb4)
    clear hi4 hb4 g0 g1 T3 B3 NV3 NT
    obtain ⟨g0, g1⟩ := T4.out.cells
    go_wp2_with fail
    refine (cyIs_at n (.slice A l.length c) l qt (.slice A3 mj c3) _ (HU.out.below B4.out) HS.out NT4.out HTL.out).mono ?_
    rintro e w5 ⟨b5, rfl, hi5, hb5⟩
    obtain rfl : b5 = true := hi5.2 HPT.out
    have B5 := Lib.hid (below_all B4.out hb5)
    have T5 := Lib.hid (T4.out.later hb5)
    have NV5 := Lib.hid (NV4.out.below hb5)
    clear hi5 hb5 g0 g1 T4 B4 NV4 NT4 HROT HPT HTL
    obtain ⟨B', d', e, hf⟩ := NV5.out.spelled
    cases e
    obtain ⟨ad, rfl, hadb, hx5⟩ := hf j hj
    rw [HXQ.out] at hx5
    have HX5 := Lib.hid hx5
    have HAD := Lib.hid hadb
    clear hf hadb
    obtain ⟨g0, g1⟩ := T5.out.cells
    have hd1 : decide ((x : Int) < 0) = false := decide_eq_false (by omega)
    have hd2 : decide ((l.length : Int) ≤ (x : Int)) = false := decide_eq_false (by omega)
    have hd3 : decide (l.length ≤ x) = false := decide_eq_false (by omega)
    have hj1 : (0 : Int) ≤ (j : Int) := Int.natCast_nonneg _
    have hj2 : (j : Int) < (q.length : Int) := by omega
    go_wp2_with fail
    go_quiet (fail)
    have HBQ := Lib.hid (below_drewN (Below.refl w5.heap.size w5) nq)
    have B6 := Lib.hid (below_all B5.out HBQ.out)
    have T6 := Lib.hid (T5.out.later HBQ.out)
    have NV6 := Lib.hid (NV5.out.below HBQ.out)
    have hx6 := st_stays HBQ.out HX5.out
    have HAD6 := Lib.hid (Nat.lt_of_lt_of_le HAD.out HBQ.out.size)
    clear g0 g1 hx5 T5 B5 NV5 HX5 HAD HBQ
    generalize w5.drewN nq = w6 at *
    have HX6 := Lib.hid hx6
    clear hx6
    obtain ⟨g0, g1⟩ := T6.out.cells
    obtain ⟨s0, s1⟩ := (T6.out.later (alloc_below w6 (.cells #[.int .i64 0, .slice none 0 0] 24))).cells
    go_upto_region 18 with fail
    have b7 := alloc_below w6 (.cells #[.int .i64 n, .slice none 0 0] 24)
    have T7 := Lib.hid (T6.out.later b7)
    have B7 := Lib.hid (below_all B6.out b7)
    have U7 := Lib.hid (HU.out.below B7.out)
    have HX7 := Lib.hid (st_stays b7 HX6.out)
    have B67 := Lib.hid b7
    have O7 := Lib.hid (Two.new w6 24 (.int .i64 n) (.slice none 0 0))
    have HLO := Lib.hid (show w.heap.size < w6.heap.size from T6.out.lt)
    have HSZ := Lib.hid O7.out.lt
    clear g0 g1 s0 s1 b7 T6 B7 HX6
    generalize w6.alloc (.cells #[.int .i64 n, .slice none 0 0] 24) = w7 at *
    generalize hoo : w6.heap.size = oo at *
    have HOO := Lib.hid hoo
    clear hoo
    obtain ⟨a0, a1⟩ := T7.out.cells
    obtain ⟨o0, o1⟩ := O7.out.cells
    go_upto_region 19 with (at_builtin; (refine wpList_append_sl w7 rfl (.tmp 73) (.tmp 75) 22 rfl (oo + 1) 40 j0 _ 1 8 Try.underlying22 J0.out J1.out J2.out J3.out rfl (by decide) (.slice none 0 0) 0 [] rfl (World.ownsRow_nil _ _ _ _) (.slice A l.length c) l.length (l.flatMap uC) rfl U7.out HON.out (by simp only [maxLen]; omega) (by omega) HSZ.out ?_; intro v8 w8 hown8 hgrow8 hat8; rw [Nat.zero_add, List.nil_append] at hown8; have O8 := Lib.hid (show OwnU w8 (oo + 1) v8 l from hown8); obtain ⟨g8, c8, rfl⟩ := own_head O8.out (Nat.zero_lt_of_lt hxl); have hb8 := below_append (Below.refl (oo + 1) w7) HSZ.out (World.ownsRow_nil w7 (oo + 1) 40 1) hgrow8; have HB8 := Lib.hid hb8; have TO8 := Lib.hid (two_at O7.out hb8 (by omega)); have f1 := TO8.out.frozen 1; have k1 := TO8.out.cells.2; clear hown8 hgrow8 hat8 hb8))
    have T9 : Hid (Two (w8.setCell ⟨oo, 1, none⟩ (.slice (some ⟨g8, 0, none⟩) l.length c8)) w.heap.size 24 (.int .i64 n) (.slice A l.length c)) := two_far (two_at T7.out HB8.out (by have := HLO.out; omega)) _ (by have := HLO.out; show oo ≠ w.heap.size; omega) _
    have TO9 : Hid (Two (w8.setCell ⟨oo, 1, none⟩ (.slice (some ⟨g8, 0, none⟩) l.length c8)) oo 24 (.int .i64 n) (.slice (some ⟨g8, 0, none⟩) l.length c8)) := two_put1 TO8.out
    have O9 : Hid (OwnU (w8.setCell ⟨oo, 1, none⟩ (.slice (some ⟨g8, 0, none⟩) l.length c8)) (oo + 1) (.slice (some ⟨g8, 0, none⟩) l.length c8) l) := own_setCell O8.out (by omega)
    have BO9 : Hid (Below oo w7 (w8.setCell ⟨oo, 1, none⟩ (.slice (some ⟨g8, 0, none⟩) l.length c8))) := (HB8.out.mono (Nat.le_succ _)).setCell (p := ⟨oo, 1, none⟩) (Nat.le_refl _) _
    generalize w8.setCell ⟨oo, 1, none⟩ (.slice (some ⟨g8, 0, none⟩) l.length c8) = w9 at *
    clear a0 a1 o0 o1 f1 k1 O8 HB8 TO8 T7 U7
    obtain ⟨o0, o1⟩ := TO9.out.cells
    have x9 : w9.cell? (ad.add j) = some (.int .i64 (x : Int)) := (BO9.out.cell (p := ad.add j) (by rw [add_block]; exact HAD6.out)).trans HX7.out
    have r0 := O9.out.cell x hxl
    have r1 := O9.out.frozen x
    have W69 : Hid (Below w6.heap.size w6 w9) := by rw [HOO.out]; exact B67.out.trans BO9.out
    have hg8 := O9.out.lt
    have HB9 := Lib.hid (below_all B6.out W69.out)
    have NV9 := Lib.hid (NV6.out.below W69.out)
    have HSX := Lib.hid (show oo ≠ g8 from Nat.ne_of_lt hg8.1)
    have HSY := Lib.hid (show (ad.add j).block ≠ g8 from by have := HAD6.out; rw [add_block]; omega)
    have HGW := Lib.hid (show w9.heap.size > g8 from hg8.2)
    have HG0 := Lib.hid hg8.1
    have hx1 : (0 : Int) ≤ (x : Int) := Int.natCast_nonneg _
    have hx2 : (x : Int) < (l.length : Int) := by omega
    clear B67 BO9 W69 NV6 HX7 hg8
    go_region_held3 (fun W' => W'.cell? ⟨oo, 1, none⟩ = some (.slice (some ⟨g8, 0, none⟩) l.length c8) ∧ W'.cell? (ad.add j) = some (.int .i64 (x : Int)))
      (first | (exact ⟨o1, x9⟩) | (exact ⟨(far_cell HSX.out).trans o1, (far_cell HSY.out).trans x9⟩))
      (fail)
    all_goals
      have OA : Hid (OwnU ((w9.setCell ⟨g8, x, none⟩ (.int .u64 0)).drew) (oo + 1) (.slice (some ⟨g8, 0, none⟩) l.length c8) (l.set x 0)) := O9.out.put x hxl 0
      have TOA : Hid (Two ((w9.setCell ⟨g8, x, none⟩ (.int .u64 0)).drew) oo 24 (.int .i64 n) (.slice (some ⟨g8, 0, none⟩) l.length c8)) := two_far TO9.out ⟨g8, x, none⟩ (fun e => HSX.out e.symm) _
      have TA : Hid (Two ((w9.setCell ⟨g8, x, none⟩ (.int .u64 0)).drew) w.heap.size 24 (.int .i64 n) (.slice A l.length c)) := two_far T9.out ⟨g8, x, none⟩ (by have := HLO.out; have := HG0.out; show g8 ≠ w.heap.size; omega) _
      have BA : Hid (Below w.heap.size w ((w9.setCell ⟨g8, x, none⟩ (.int .u64 0)).drew)) := (HB9.out.setCell (p := ⟨g8, x, none⟩) (by have := HLO.out; have := HG0.out; show w.heap.size ≤ g8; omega) _).drew
      clear o0 o1 x9 r0 r1 O9 TO9 T9 HB9 NV9 HSX HSY HGW HG0 HLO HSZ
      generalize (w9.setCell ⟨g8, x, none⟩ (.int .u64 0)).drew = wA at *
      have NVA := Lib.hid (HV.out.below BA.out)
      have UOA := Lib.hid OA.out.us
      clear OA
      go_upto_region 22 with (at_builtin; (refine wpList_append_sl wA rfl (.tmp 85) (.tmp 86) 25 rfl wA.heap.size 3 i0 _ 1 8 Try.underlying25 I0.out I1.out I2.out I3.out rfl (by decide) (.slice none 0 0) 0 [] rfl (World.ownsRow_nil _ _ _ _) (.slice (some ad) q.length d) q.length (q.flatMap nC) rfl NVA.out (HOQ.out _) (by simp only [maxLen]; omega) (by omega) (Nat.le_refl _) ?_; intro v2 wB hown2 hgrow2 hat2; rw [Nat.zero_add, List.nil_append] at hown2; obtain ⟨A2', c2', rfl⟩ := own_form hown2; have OB := Lib.hid hown2; have hb2 := below_append (Below.refl wA.heap.size wA) (Nat.le_refl _) (World.ownsRow_nil wA wA.heap.size 3 1) hgrow2; have SB := Lib.hid hb2; clear hown2 hgrow2 hat2 hb2))
      have NVB := Lib.hid (Ns.below NVA.out SB.out)
      go_upto_region 23 with (at_builtin; (refine wpList_append_sl wB rfl (.tmp 88) (.tmp 89) 25 rfl wA.heap.size 3 i0 _ 1 8 Try.underlying25 I0.out I1.out I2.out I3.out rfl (by decide) (.slice A2' q.length c2') q.length _ rfl OB.out (.slice (some ad) q.length d) q.length (q.flatMap nC) rfl NVB.out (HOQ.out _) (by simp only [maxLen]; omega) (by omega) SB.out.size ?_; intro v3 wC hown3 hgrow3 hat3; obtain ⟨A3', c3', rfl⟩ := own_form hown3; have OC := Lib.hid hown3; have hb3 := below_append SB.out SB.out.size OB.out hgrow3; have SC := Lib.hid hb3; clear hown3 hgrow3 hat3 hb3))
      have TOC := Lib.hid (TOA.out.later SC.out)
      have TC := Lib.hid (TA.out.later SC.out)
      have BC := Lib.hid (below_all BA.out SC.out)
      have NVC := Lib.hid (NVA.out.below SC.out)
      have UOC := Lib.hid (UOA.out.below SC.out)
      have NQC : Hid (Ns wC (.slice A3' (q.length + q.length) c3') (q ++ q)) := by
        have h3 := Sl.own OC.out
        rw [← List.flatMap_append] at h3
        show Sl wC 1 _ (q ++ q).length _
        rw [List.length_append]
        exact h3
      generalize q.length + q.length = qq at *
      have HLS : Hid (∀ y ∈ l.set x 0, y < 18446744073709551616) := fun y hy => by
        rcases List.mem_or_eq_of_mem_set hy with h | h
        · exact HS.out y h
        · omega
      have HN1 := Lib.hid (Cy.IsC.less (n := n) hj HXQ.out hxl)
      have HN2 := Lib.hid (Cy.IsC.twice (n := n) (g := l) (Nat.zero_lt_of_lt hj))
      clear OB OC SB SC TOA TA BA NVA UOA NVB
      obtain ⟨o0, o1⟩ := TOC.out.cells
      obtain ⟨g0, g1⟩ := TC.out.cells
      have hle : decide ((q.length : Int) ≤ n) = true := decide_eq_true hlen
      go_wp2_with fail
      refine (cyIs_at n (.slice (some ⟨g8, 0, none⟩) l.length c8) (l.set x 0) q (.slice (some ad) q.length d) _ UOC.out HLS.out NVC.out (by omega)).mono ?_
      rintro e wD ⟨bD, rfl, hiD, hbD⟩
      obtain rfl : bD = false := by
        cases bD with
        | false => rfl
        | true => exact absurd (hiD.1 rfl) HN1.out
      have BD := Lib.hid (below_all BC.out hbD)
      have TD := Lib.hid (TC.out.later hbD)
      have NQD := Lib.hid (NQC.out.below hbD)
      clear hiD hbD o0 o1 g0 g1 TOC TC BC NVC UOC NQC
      obtain ⟨g0, g1⟩ := TD.out.cells
      go_wp2_with fail
      refine (cyIs_at n (.slice A l.length c) l (q ++ q) (.slice A3' qq c3') _ (HU.out.below BD.out) HS.out NQD.out (by rw [List.length_append]; omega)).mono ?_
      rintro e wE ⟨bE, rfl, hiE, hbE⟩
      obtain rfl : bE = false := by
        cases bE with
        | false => rfl
        | true => exact absurd (hiE.1 rfl) HN2.out
      have BE := Lib.hid (below_all BD.out hbE)
      have TE := Lib.hid (TD.out.later hbE)
      clear hiE hbE g0 g1 TD BD NQD
      obtain ⟨g0, g1⟩ := TE.out.cells
      go_wp2_with fail
      go_ret
      exact ⟨rfl, BE.out⟩
  · have HP := Lib.hid hP
    have HPT := Lib.hid (fun h => hP (HROT.out.1 h))
    clear hP
    go_wp2_with fail
    refine (cyIs_at n (.slice A l.length c) l q (.slice B q.length d) _ (HU.out.below B3.out) HS.out NV3.out (by omega)).mono ?_
    rintro e w4 ⟨b4, rfl, hi4, hb4⟩
    obtain rfl : b4 = false := by
      cases b4 with
      | false => rfl
      | true => exact absurd (hi4.1 rfl) HP.out
    have B4 := Lib.hid (below_all B3.out hb4)
    have T4 := Lib.hid (T3.out.later hb4)
    have NT4 := Lib.hid (NT.out.below hb4)
    clear hi4 hb4 g0 g1 T3 B3 NV3 NT
    obtain ⟨g0, g1⟩ := T4.out.cells
    go_wp2_with fail
    refine (cyIs_at n (.slice A l.length c) l qt (.slice A3 mj c3) _ (HU.out.below B4.out) HS.out NT4.out HTL.out).mono ?_
    rintro e w5 ⟨b5, rfl, hi5, hb5⟩
    obtain rfl : b5 = false := by
      cases b5 with
      | false => rfl
      | true => exact absurd (hi5.1 rfl) HPT.out
    have B5 := Lib.hid (below_all B4.out hb5)
    clear hi5 hb5 g0 g1 T4 B4 NT4
    go_wp2_with fail
    go_ret
    exact ⟨rfl, B5.out⟩
end Go.Proofs.Ytgapcjgmmlffmaa
