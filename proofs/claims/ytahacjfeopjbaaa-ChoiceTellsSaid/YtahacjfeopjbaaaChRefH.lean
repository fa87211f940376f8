/-
  What the reference's Of of layer 18 answers.
  Conditions: rows of at most 4294967296.
-/
import Derived.Test.YtahacjfeopjbaaaChAns
import Derived.Test.YtahacjfeopjbaaaIxRef
set_option maxRecDepth 4000
namespace Go.Proofs.Ytahacjfeopjbaaa
open Go.RowKit

set_option maxHeartbeats 4000000 in
theorem rOf18_at (h : List So.Txn) (u : Value) (o : List Int) (v : Value) (w : World) (hv : Txns w u h) (ho : Ns w v o) (hs : Ix.Small h) (hn : o.length ≤ 4294967296) : Calls Try.prog 23 #[.agg #[u], v] w (RetTris w (Ch.ofA h o)) := by
  obtain ⟨i0, hi0, hz0, hz1, hz2⟩ := info_parts tri_info
  have I0 := Lib.hid hi0
  have I1 := Lib.hid hz0
  have I2 := Lib.hid hz1
  have I3 := Lib.hid hz2
  clear hi0 hz0 hz1 hz2
  have HV := Lib.hid hv
  have HO := Lib.hid ho
  obtain ⟨A0, c0', rfl, -⟩ := hv.spelled
  obtain ⟨B, d, rfl, -⟩ := ho.spelled
  have FR := Lib.hid (fun w hw => rRight8_at h (.slice A0 h.length c0') w hw hs.2)
  have hl32 := hs.1
  have FP := Lib.hid (fun w hw => rPerm18_at o (.slice B o.length d) h.length w hw hn hl32)
  have F1 := Lib.hid (fun w hw => rPairs9_at h (.slice A0 h.length c0') w hw hs)
  have T0 := Lib.hid (Boxed.new w 24 (.slice A0 h.length c0'))
  have BW := Lib.hid (alloc_below w (.cells #[.slice A0 h.length c0'] 24))
  cases hrp : Hi.rightB h && Ch.permB o h.length with
  | false =>
    rw [Ch.ofA_no hrp]
    have hcase : Hid (Hi.rightB h = false ∨ Hi.rightB h = true ∧ Ch.permB o h.length = false) := by
      cases hb : Hi.rightB h with
      | false => exact .inl rfl
      | true => rw [hb, Bool.true_and] at hrp; exact .inr ⟨rfl, hrp⟩
    clear hv ho hs hrp
    generalize Hi.rightB h = rb at *
    generalize Ch.permB o h.length = pb at *
    go_enter Try.func23, Try.ntmps23
    go_wp2_with fail
    generalize w.alloc (.cells #[.slice A0 h.length c0'] 24) = W at *
    refine (FR.out _ (HV.out.below BW.out)).mono ?_
    rintro e w1 ⟨rfl, hb1⟩
    have B1 := Lib.hid (below_all BW.out hb1)
    have a0 := (Boxed.later T0.out hb1).cell
    clear hb1
    go_wp2_with fail
    refine (FP.out _ (HO.out.below B1.out)).mono ?_
    rintro e w2 ⟨rfl, rfl⟩
    clear a0
    rcases hcase.out with e | ⟨e, e2⟩
    · subst e
      go_wp2_with fail
      go_ret
      exact ⟨_, rfl, World.ownsRow_nil _ _ _ _, B1.out⟩
    · subst e
      subst e2
      go_wp2_with fail
      go_ret
      exact ⟨_, rfl, World.ownsRow_nil _ _ _ _, B1.out⟩
  | true =>
    obtain ⟨hb, hp⟩ := Bool.and_eq_true_iff.1 hrp
    have hr := (Hi.rightB_iff h).1 hb
    obtain ⟨on, rfl, p⟩ := Ch.permB_iff.1 hp
    rw [hb] at FR
    rw [hp] at FP
    rw [Ch.ofA_yes hr p]
    rw [Ix.pairsA_yes hb] at F1
    have FX := Lib.hid (fun (x : Nat) (w : World) h (hx : x < (Bi.nums on).length → True) => rPlace18_at (Bi.nums on) (.slice B (Bi.nums on).length d) (x : Int) w h hn)
    have HPL : Hid (∀ x, x < h.length → Ch.placeI (Bi.nums on) (x : Int) = (Ch.pos on x : Int)) := fun x hx => Ch.place_pos p hx
    have HPS : Hid (∀ i (hi : i < (Ix.pairs h).length), (Ix.pairs h)[i].2.1 < h.length ∧ (Ix.pairs h)[i].2.2 < h.length) := fun i hi => by
      obtain ⟨_, _, h1, h2⟩ := Ix.mem_pairs (List.getElem_mem hi)
      exact ⟨(Ix.mem_writers.1 h1).1, (Ix.mem_writers.1 h2).1⟩
    have HPB : Hid (∀ x, x < h.length → Ch.pos on x < 4294967296) := fun x hx => Nat.lt_of_lt_of_le (p.pos_lt hx) (by rw [Bi.nums_len] at hn; exact hn)
    have hpl : (Ix.pairs h).length ≤ 20000 := Ch.pairs_few hr
    obtain ⟨R, hR⟩ : ∃ R, R = Ch.ofR h on := ⟨_, rfl⟩
    rw [← hR]
    have HRL : Hid (R.length = (Ix.pairs h).length) := by rw [Hid, hR, Ch.ofR, List.length_map]
    have HRA : Hid (∀ i (hi : i < (Ix.pairs h).length) (hi' : i < R.length), R[i] = Ch.chooses on (Ix.pairs h)[i]) := fun i hi hi' => by
      subst hR
      exact List.getElem_map _
    have HNL := Lib.hid (Bi.nums_len on)
    clear hv ho hs hrp hb hr hp p hR
    generalize Ix.pairs h = P at *
    go_enter Try.func23, Try.ntmps23
    go_wp2_with fail
    generalize w.alloc (.cells #[.slice A0 h.length c0'] 24) = W at *
    refine (FR.out _ (HV.out.below BW.out)).mono ?_
    rintro e w1 ⟨rfl, hb1⟩
    have B1 := Lib.hid (below_all BW.out hb1)
    have a0 := (Boxed.later T0.out hb1).cell
    clear hb1
    go_wp2_with fail
    refine (FP.out _ (HO.out.below B1.out)).mono ?_
    rintro e w2 ⟨rfl, rfl⟩
    go_wp2_with fail
    refine (F1.out _ (HV.out.below B1.out)).mono ?_
    rintro e w3 ⟨vp, rfl, hc, hb3⟩
    have HC := Lib.hid hc
    obtain ⟨Ap, cp, rfl, hp⟩ := hc.spelled
    have HP := Lib.hid hp
    have B3 := Lib.hid (below_all B1.out hb3)
    clear hc hp hb3 a0
    go_wp2_with fail
    go_loopw [8, 9] (fun vo ix wr => ∃ (i : Nat) (AO : Option Addr) (cO : Nat), i ≤ P.length ∧ vo = .slice AO i cO ∧ ix = .int .i64 i ∧ Hid (wr.ownsRow w3.heap.size 38 3 (.slice AO i cO) i ((R.take i).flatMap triC)) ∧ Hid (Below w3.heap.size w3 wr)) (fun _ ix _ => P.length - (intOf ix).toNat)
    case atStart => exact ⟨0, none, 0, Nat.zero_le _, rfl, rfl, World.ownsRow_nil _ _ _ _, Below.refl _ _⟩
    case round =>
      obtain ⟨i, AO, cO, hi, rfl, rfl, HW, HB⟩ := hrel
      by_cases hlt : i < P.length
      · obtain ⟨ad, rfl, hbl, hin⟩ := HP.out i hlt
        have HIN : Hid (∀ W', Below w3.heap.size w3 W' → W'.cell? (ad.add (i * 3)) = some (.int .i64 ((P[i]'hlt).1 : Int)) ∧ W'.cell? ⟨(ad.add (i * 3)).block, (ad.add (i * 3)).off + 1, none⟩ = some (.int .i64 ((P[i]'hlt).2.1 : Int)) ∧ W'.cell? ⟨(ad.add (i * 3)).block, (ad.add (i * 3)).off + 2, none⟩ = some (.int .i64 ((P[i]'hlt).2.2 : Int))) := fun W' hb => by
          obtain ⟨h1, h2, h3⟩ := hin.below hbl hb
          exact ⟨h1, h2, h3⟩
        have hiR : i < R.length := by rw [HRL.out]; exact hlt
        have HRI := Lib.hid (HRA.out i hlt hiR)
        have HTK : Hid (R.take (i + 1) = R.take i ++ [R[i]'hiR]) := List.take_succ_eq_append_getElem hiR
        obtain ⟨hza, hzb⟩ := HPS.out i hlt
        have HCH : Hid (Ch.chooses on (P[i]'hlt) = if Ch.pos on (P[i]'hlt).2.1 ≤ Ch.pos on (P[i]'hlt).2.2 then (((P[i]'hlt).1 : Int), ((P[i]'hlt).2.1 : Int), ((P[i]'hlt).2.2 : Int)) else (((P[i]'hlt).1 : Int), ((P[i]'hlt).2.2 : Int), ((P[i]'hlt).2.1 : Int))) := rfl
        rw [HRI.out] at HTK
        clear HRI
        generalize P[i]'hlt = z at *
        obtain ⟨zk, za, zb⟩ := z
        dsimp only at HIN HCH hza hzb
        have FA := Lib.hid (fun w h => FX.out za w h fun _ => trivial)
        have FB := Lib.hid (fun w h => FX.out zb w h fun _ => trivial)
        rw [HPL.out za hza] at FA
        rw [HPL.out zb hzb] at FB
        have hpa := HPB.out za hza
        have hpb := HPB.out zb hzb
        generalize Ch.pos on za = pa at *
        generalize Ch.pos on zb = pb at *
        generalize Ch.chooses on (zk, za, zb) = ch at *
        clear hin hza hzb
        have hi1 : (0 : Int) ≤ (i : Int) := Int.natCast_nonneg _
        have hi2 : (i : Int) < (P.length : Int) := by omega
        obtain ⟨z0, z1, z2⟩ := HIN.out _ HB.out
        have b5 := alloc_below wr (.cells #[.int .i64 (zk : Int), .int .i64 (za : Int), .int .i64 (zb : Int)] 38)
        have T5 := Lib.hid (Three.new wr 38 (.int .i64 (zk : Int)) (.int .i64 (za : Int)) (.int .i64 (zb : Int)))
        have B5 := Lib.hid b5
        have S5 : Hid (wr.heap.size < (wr.alloc (.cells #[.int .i64 (zk : Int), .int .i64 (za : Int), .int .i64 (zb : Int)] 38)).heap.size) := by rw [Hid, World.size_alloc]; exact Nat.lt_succ_self _
        obtain ⟨y0, y1, y2⟩ := T5.out.cells
        clear b5
        go_wp2_with fail
        generalize wr.alloc (.cells #[.int .i64 (zk : Int), .int .i64 (za : Int), .int .i64 (zb : Int)] 38) = w5 at *
        clear z0 z1 z2
        refine (FA.out w5 (HO.out.below (below_all B3.out (below_all HB.out B5.out)))).mono ?_
        rintro e w6 ⟨rfl, rfl⟩
        go_wp2_with fail
        refine (FB.out _ (HO.out.below (below_all B3.out (below_all HB.out B5.out)))).mono ?_
        rintro e w7 ⟨rfl, rfl⟩
        by_cases hab : pa ≤ pb
        · have q1 : decide ((pa : Int) > (pb : Int)) = false := decide_eq_false (by omega)
          have q2 : decide ((pb : Int) < (pa : Int)) = false := decide_eq_false (by omega)
          have q3 : decide (pb < pa) = false := decide_eq_false (by omega)
          have HCE : Hid (ch = ((zk : Int), (za : Int), (zb : Int))) := by rw [Hid, HCH.out, if_pos hab]
          clear hab
          have HW8 := Lib.hid (own_below HW.out (below_all B5.out (alloc_below w7 (.cells #[.int .i64 (zk : Int), .int .i64 (za : Int), .int .i64 (zb : Int)] 38))))
          have HB8 := Lib.hid (below_all HB.out (below_all B5.out (alloc_below w7 (.cells #[.int .i64 (zk : Int), .int .i64 (za : Int), .int .i64 (zb : Int)] 38))))
          have HN8 := Lib.hid (new_tri w7 ((zk : Int), (za : Int), (zb : Int)) 38)
          go_wp2_with (at_builtin; refine wpList_append_own_at _ rfl _ _ 25 rfl w3.heap.size 38 i0 _ 3 24 Try.underlying25 I0.out I1.out I2.out I3.out rfl (by decide) _ i _ rfl HW8.out ⟨w7.heap.size, 0, none⟩ 1 1 (triC ((zk : Int), (za : Int), (zb : Int))) rfl rfl HN8.out (one_triC _) (by simp only [maxLen]; omega) (by omega) HB8.out.size ?_; intro v9 w9 hown9 hgrow9 hnil9 hat9; have HO9 := Lib.hid hown9; have HB9 := Lib.hid (below_append HB8.out HB8.out.size HW8.out hgrow9); obtain ⟨A9, c9, hv9⟩ := own_form hown9; subst hv9; clear hown9 hgrow9 hnil9 hat9)
          have HO10 : Hid (w9.ownsRow w3.heap.size 38 3 (.slice A9 (i + 1) c9) (i + 1) ((R.take (i + 1)).flatMap triC)) := by rw [Hid, HTK.out, HCE.out, List.flatMap_append]; simpa using HO9.out
          clear HO9
          go_roundw
          case rel => exact ⟨i + 1, A9, c9, by omega, rfl, by go_num, HO10.out, HB9.out⟩
          case measure => simp [intOf]; omega
        · have q1 : decide ((pa : Int) > (pb : Int)) = true := decide_eq_true (by omega)
          have q2 : decide ((pb : Int) < (pa : Int)) = true := decide_eq_true (by omega)
          have q3 : decide (pb < pa) = true := decide_eq_true (by omega)
          have HCE : Hid (ch = ((zk : Int), (zb : Int), (za : Int))) := by rw [Hid, HCH.out, if_neg hab]
          clear hab
          go_wp2_with fail
          refine (rBack18_at _ _ _ _).mono ?_
          rintro e w8 ⟨rfl, hb8⟩
          have T8 := Lib.hid (T5.out.later hb8)
          have B8 := Lib.hid (((below_all B5.out hb8).setCell (p := ⟨wr.heap.size, 0, none⟩) (Nat.le_refl _) (.int .i64 (zk : Int))).setCell (p := ⟨wr.heap.size, 1, none⟩) (Nat.le_refl _) (.int .i64 (zb : Int)) |>.setCell (p := ⟨wr.heap.size, 2, none⟩) (Nat.le_refl _) (.int .i64 (za : Int)))
          have T9 := Lib.hid (show Three (((w8.setCell ⟨wr.heap.size, 0, none⟩ (.int .i64 (zk : Int))).setCell ⟨wr.heap.size, 1, none⟩ (.int .i64 (zb : Int))).setCell ⟨wr.heap.size, 2, none⟩ (.int .i64 (za : Int))) wr.heap.size 38 (.int .i64 (zk : Int)) (.int .i64 (zb : Int)) (.int .i64 (za : Int)) from T8.out.put)
          clear hb8 y0 y1 y2
          obtain ⟨y0, y1, y2⟩ := T8.out.cells
          have f0 := T8.out.frozen 0
          have f1 := T8.out.frozen 1
          have f2 := T8.out.frozen 2
          go_upto_region 15 with fail
          generalize ((w8.setCell ⟨wr.heap.size, 0, none⟩ (.int .i64 (zk : Int))).setCell ⟨wr.heap.size, 1, none⟩ (.int .i64 (zb : Int))).setCell ⟨wr.heap.size, 2, none⟩ (.int .i64 (za : Int)) = w10 at *
          clear y0 y1 y2 f0 f1 f2
          obtain ⟨y0, y1, y2⟩ := T9.out.cells
          have HW8 := Lib.hid (own_below HW.out (below_all B8.out (alloc_below w10 (.cells #[.int .i64 (zk : Int), .int .i64 (zb : Int), .int .i64 (za : Int)] 38))))
          have HB8 := Lib.hid (below_all HB.out (below_all B8.out (alloc_below w10 (.cells #[.int .i64 (zk : Int), .int .i64 (zb : Int), .int .i64 (za : Int)] 38))))
          have HN8 := Lib.hid (new_tri w10 ((zk : Int), (zb : Int), (za : Int)) 38)
          go_wp2_with (at_builtin; refine wpList_append_own_at _ rfl _ _ 25 rfl w3.heap.size 38 i0 _ 3 24 Try.underlying25 I0.out I1.out I2.out I3.out rfl (by decide) _ i _ rfl HW8.out ⟨w10.heap.size, 0, none⟩ 1 1 (triC ((zk : Int), (zb : Int), (za : Int))) rfl rfl HN8.out (one_triC _) (by simp only [maxLen]; omega) (by omega) HB8.out.size ?_; intro v9 w9 hown9 hgrow9 hnil9 hat9; have HO9 := Lib.hid hown9; have HB9 := Lib.hid (below_append HB8.out HB8.out.size HW8.out hgrow9); obtain ⟨A9, c9, hv9⟩ := own_form hown9; subst hv9; clear hown9 hgrow9 hnil9 hat9)
          have HO10 : Hid (w9.ownsRow w3.heap.size 38 3 (.slice A9 (i + 1) c9) (i + 1) ((R.take (i + 1)).flatMap triC)) := by rw [Hid, HTK.out, HCE.out, List.flatMap_append]; simpa using HO9.out
          clear HO9
          go_roundw
          case rel => exact ⟨i + 1, A9, c9, by omega, rfl, by go_num, HO10.out, HB9.out⟩
          case measure => simp [intOf]; omega
      · obtain rfl : i = P.length := by omega
        have HRT : Hid (R.take P.length = R) := by rw [Hid, ← HRL.out, List.take_length]
        have HWF := HW.out
        rw [HRT.out] at HWF
        have HWG := Lib.hid HWF
        have HBF := Lib.hid (below_all B3.out HB.out)
        have HBS := Lib.hid B3.out.size
        clear HWF
        go_wp2_with fail
        go_ret
        refine ⟨_, rfl, ?_, HBF.out⟩
        rw [HRL.out]
        exact HWG.out.mono HBS.out
end Go.Proofs.Ytahacjfeopjbaaa
