/-
  What the reference's Parse and Show of layer 4 answer: Di.parseR, Di.showR; what was in memory stays as it was.
  Conditions: a text that is parsed has at most 2^32 bytes.
-/
import Derived.Test.YtpicoccpgpmfhaaDoorDiRefA
import Derived.Test.YtpicoccpgpmfhaaDoorDiWalkA
namespace Go.Proofs.YtpicoccpgpmfhaaDoor
open Go.RowKit

set_option maxHeartbeats 1000000 in
theorem rDiParse_at (s : List UInt8) (w : World) (hs : s.length ≤ 4294967296) : Calls Tryd.prog 9 #[.string (Ln.bs s)] w (RetEvs w (Di.parseR s)) := by
  obtain ⟨i0, hi0, hz0, hz1, hz2⟩ := info_parts ev_info
  have I0 := Lib.hid hi0
  have I1 := Lib.hid hz0
  have I2 := Lib.hid hz1
  have I3 := Lib.hid hz2
  clear hi0 hz0 hz1 hz2
  have HS := Lib.hid hs
  clear hs
  go_enter Tryd.func9, Tryd.ntmps9
  go_wp2_with fail
  refine (rSplit_at s w HS.out).mono ?_
  rintro e w1 ⟨v1, rfl, hs1, hb1⟩
  have B1 := Lib.hid hb1
  clear hb1
  by_cases hq : (Ln.splitR s).2 = 0
  · have HQ := Lib.hid hq
    have hl := Ln.splitR_len s
    have HM : Hid (∀ x ∈ (Ln.splitR s).1, x.length ≤ 4294967296) := fun x hx => Nat.le_trans (Di.line_len s hq x hx) HS.out
    have HP0 : Hid (Di.bad (Ln.splitR s).1 = 0 → Di.parseR s = (Di.evs (Ln.splitR s).1, 0, 0)) := fun h => Di.parse_ok s hq h
    have HP1 : Hid (Di.bad (Ln.splitR s).1 ≠ 0 → Di.parseR s = ([], (Di.place (Ln.splitR s).1 : Int), Di.bad (Ln.splitR s).1)) := fun h => Di.parse_bad s hq h
    rw [hq]
    generalize (Ln.splitR s).1 = l at *
    obtain ⟨A, c, rfl, hform⟩ := hs1.form
    have HF := Lib.hid hform
    clear hform hs1 hq
    go_wp2_with fail
    go_loopw [7, 8] (fun v i wr => EventsRel w1 l v i wr) (fun _ i _ => l.length - (intOf i).toNat)
    case atStart => exact ⟨0, Nat.zero_le _, rfl, rfl, World.ownsRow_nil _ _ _ _, Below.refl _ _⟩
    case round =>
      obtain ⟨k, hk, rfl, hbad, hown, hb⟩ := hrel
      have HA := Lib.hid hbad
      have HO := Lib.hid hown
      have HB := Lib.hid hb
      obtain ⟨A', cp, rfl⟩ := own_form hown
      clear hbad hown hb
      by_cases hlt : k < l.length
      · obtain ⟨ad, rfl, hblk, hcell⟩ := HF.out k hlt
        obtain ⟨x, hx⟩ : ∃ x, x = l[k]'hlt := ⟨_, rfl⟩
        have hc2 : wr.cell? (ad.add k) = some (.string (Ln.bs x)) := by rw [hx]; exact (HB.out.cell (by rw [add_block]; exact hblk)).trans hcell
        have HXM : Hid (x.length ≤ 4294967296) := by rw [hx]; exact HM.out _ (List.getElem_mem _)
        have HBT := Lib.hid (Di.bad_take l k hlt HA.out)
        have HET := Lib.hid (Di.evs_take l k hlt)
        rw [← hx] at HBT HET
        have hdl : (Di.evs (l.take k)).length ≤ 400 := by rw [Di.evs_len, List.length_take]; omega
        generalize Di.evs (l.take k) = d at *
        clear hcell hx
        go_wp2_with fail
        refine (rEvParse_at x _ HXM.out).mono ?_
        rintro e w2 ⟨rfl, hb1⟩
        have HB1 := Lib.hid (HB.out.trans (hb1.mono HB.out.size))
        have HO1 := Lib.hid (own_below HO.out hb1)
        obtain ⟨y, hy⟩ : ∃ y, y = (Ev.parseR x).1 := ⟨_, rfl⟩
        rw [← hy] at HET ⊢
        unfold evV
        clear hb1 hy HO
        by_cases hq : (Ev.parseR x).2 = 0
        · rw [hq]
          have HA1 : Hid (Di.bad (l.take (k + 1)) = 0) := HBT.out.1.trans hq
          clear hq HBT
          have HO2 := Lib.hid ((HO1.out.alloc (.cells #[.int .i64 y.kind, .int .i64 y.session, .int .i64 y.key, .int .i64 y.value] 35)).alloc (.cells #[.int .i64 y.kind, .int .i64 y.session, .int .i64 y.key, .int .i64 y.value] 35))
          have HB2 := Lib.hid ((HB1.out.alloc HB1.out.size (.cells #[.int .i64 y.kind, .int .i64 y.session, .int .i64 y.key, .int .i64 y.value] 35)).alloc (Nat.le_trans HB1.out.size (by simp)) (.cells #[.int .i64 y.kind, .int .i64 y.session, .int .i64 y.key, .int .i64 y.value] 35))
          go_wp2_with (at_builtin; refine wpList_append_own_at _ rfl _ _ 22 rfl w1.heap.size 35 i0 _ 4 32 Tryd.underlying22 I0.out I1.out I2.out I3.out rfl (by decide) _ d.length (d.flatMap evCells) rfl HO2.out ⟨w2.heap.size + 1, 0, none⟩ 1 1 (evCells y) rfl rfl (new_ev2 w2 _ y _) (one_evs y) (by simp only [maxLen]; omega) (by omega) HB2.out.size ?_; intro v' w3 hown' hgrow hnil hat; have HO3 := Lib.hid hown'; have HG3 := Lib.hid hgrow; clear hown' hgrow hnil hat)
          go_roundw
          case rel =>
            refine ⟨k + 1, by omega, by go_num, HA1.out, ?_, below_append HB2.out HB2.out.size HO2.out HG3.out⟩
            rw [HET.out]
            exact Evs.own_snoc HO3.out
          case measure => simp [intOf]; omega
        · obtain ⟨e1, e2⟩ := HBT.out.2 hq
          have HR : Hid (Di.parseR s = ([], (k : Int) + 1, (Ev.parseR x).2)) := by
            rw [Hid, HP1.out (by rw [e1]; exact hq), e1, e2]
            rfl
          have hqb : ((Ev.parseR x).2 != 0) = true := by rw [bne_iff_ne]; exact hq
          generalize (Ev.parseR x).2 = q at *
          clear e1 e2 hq HBT
          go_wp2_with fail
          refine bodyPost_ret (results_tmp3 rfl _ _ _) rfl ?_
          exact RetEvs.mk _ _ _ (by rw [HR.out]) (by rw [HR.out]) (by rw [HR.out]; exact Evs.nil _ _) (below_all B1.out (HB1.out.alloc HB1.out.size _))
      · have HKE : Hid (Di.parseR s = (Di.evs (l.take k), 0, 0)) := by
          have h : l.take k = l := List.take_of_length_le (by omega)
          have h2 := HA.out
          rw [h] at h2
          rw [Hid, h, HP0.out h2]
        generalize Di.evs (l.take k) = d at *
        go_wp2_with fail
        refine bodyPost_ret (results_tmp3 rfl _ _ _) rfl ?_
        exact RetEvs.mk _ _ _ (by rw [HKE.out]) (by rw [HKE.out]) (by rw [HKE.out]; exact Evs.own HO.out) (below_all B1.out HB.out)
  · have HR := Lib.hid (Di.parse_split s hq)
    have hqb : ((Ln.splitR s).2 != 0) = true := by rw [bne_iff_ne]; exact hq
    generalize (Ln.splitR s).2 = q at *
    clear hs1 hq
    go_wp2_with fail
    refine bodyPost_ret (results_tmp3 rfl _ _ _) rfl ?_
    exact RetEvs.mk _ _ _ (by rw [HR.out]) (by rw [HR.out]) (by rw [HR.out]; exact Evs.nil _ _) B1.out

theorem joinS_take (l : List Ev.Event) (k : Nat) (hk : k < l.length) : Ln.joinS (Di.lines (l.take (k + 1))) = Ln.joinS (Di.lines (l.take k)) ++ ((Ev.showR l[k]).1 ++ [10]) := by
  rw [Di.lines_take l k hk, Ln.joinS_snoc]

set_option maxHeartbeats 1000000 in
theorem rDiShow_at (l : List Ev.Event) (v : Value) (w : World) (hv : Evs w v l) : Calls Tryd.prog 11 #[v] w (RetStr w (Di.showR l)) := by
  obtain ⟨A, c, rfl, hform⟩ := hv.spelled
  have HF := Lib.hid hform
  clear hform hv
  by_cases hm : 400 < l.length
  · have HR := Lib.hid (Di.show_many l hm)
    have hm2 : decide ((400 : Int) < (l.length : Int)) = true := by simp; omega
    go_enter Tryd.func11, Tryd.ntmps11
    go_wp2
    go_ret2
    exact RetStr.mk _ _ (by rw [HR.out]) (by rw [HR.out]; rfl) (Below.refl _ _)
  · have hm2 : decide ((400 : Int) < (l.length : Int)) = false := by simp; omega
    have hm3 : l.length ≤ 400 := by omega
    have HM := Lib.hid hm
    clear hm
    go_enter Tryd.func11, Tryd.ntmps11
    go_wp2
    go_loopw [4, 5] (fun t i wr => ∃ k : Nat, k ≤ l.length ∧ i = .int .i64 k ∧ (l.take k).all Ev.right = true ∧ t = .string (Ln.bs (Ln.joinS (Di.lines (l.take k)))) ∧ Below w.heap.size w wr) (fun _ i _ => l.length - (intOf i).toNat)
    case atStart => exact ⟨0, Nat.zero_le _, rfl, rfl, rfl, Below.refl _ _⟩
    case round =>
      obtain ⟨k, hk, rfl, ha, rfl, hb⟩ := hrel
      have HA := Lib.hid ha
      have HB := Lib.hid hb
      clear ha hb
      by_cases hlt : k < l.length
      · obtain ⟨ad, rfl, hblk, hE⟩ := HF.out k hlt
        obtain ⟨x, hx⟩ : ∃ x, x = l[k]'hlt := ⟨_, rfl⟩
        rw [← hx] at hE
        have HE := Lib.hid (hE.below hblk HB.out)
        have hc0 := HE.out.c0
        have hc1 := HE.out.c1
        have hc2 := HE.out.c2
        have hc3 := HE.out.c3
        have HLT := Lib.hid (joinS_take l k hlt)
        have HRT := Lib.hid (Di.right_take l k hlt)
        have HRN := Lib.hid (Di.right_not l k hlt)
        rw [← hx] at HLT HRT HRN
        have hdl : (Ln.joinS (Di.lines (l.take k))).length ≤ 16400 := by
          have h := Di.lines_join (l.take k)
          rw [List.length_take] at h
          omega
        generalize Ln.joinS (Di.lines (l.take k)) = d at *
        have hxl := Ev.showR_len x
        clear hE hx
        go_wp2_with fail
        refine (rEvShow_at x _).mono ?_
        rintro e w1 ⟨rfl, hb1⟩
        have HB1 := Lib.hid (HB.out.trans (hb1.mono HB.out.size))
        clear hb1 hc0 hc1 hc2 hc3 HE
        cases hr : Ev.right x with
        | true =>
          rw [show (Ev.showR x).2 = 0 from by rw [Ev.showR, if_pos hr]]
          have HA1 : Hid ((l.take (k + 1)).all Ev.right = true) := by rw [Hid, HRT.out, HA.out, hr]; rfl
          generalize (Ev.showR x).1 = y at *
          have hs1 : (Ln.bs d).size = d.length := Ln.bs_size d
          have hs2 : (Ln.bs y).size = y.length := Ln.bs_size y
          have hv1 : ¬ 9223372036854775807 < (Ln.bs d).size + (Ln.bs y).size := by omega
          have hv2 : ¬ 9223372036854775807 < (Ln.bs d).size + (Ln.bs y).size + 1 := by omega
          clear hr hs1 hs2
          go_wp2_with fail
          go_roundw
          case rel =>
            refine ⟨k + 1, by omega, by go_num, HA1.out, ?_, HB1.out⟩
            rw [HLT.out, ← List.append_assoc, ← bs_add, ← bs_add]
            rfl
          case measure => simp [intOf]; omega
        | false =>
          rw [show (Ev.showR x).2 = 1 from by rw [Ev.showR, if_neg (by rw [hr]; simp)]]
          have HR := Lib.hid (Di.show_arg l HM.out (HRN.out hr))
          clear hr
          go_wp2_with fail
          go_ret2
          exact RetStr.mk _ _ (by rw [HR.out]) (by rw [HR.out]; rfl) HB1.out
      · have HT : Hid (l.take k = l) := by rw [Hid, List.take_of_length_le (by omega)]
        rw [HT.out] at HA ⊢
        have HR := Lib.hid (Di.show_ok l HM.out HA.out)
        go_wp2_with fail
        go_ret2
        exact RetStr.mk _ _ (by rw [HR.out]) (by rw [HR.out]) HB.out
end Go.Proofs.YtpicoccpgpmfhaaDoor
