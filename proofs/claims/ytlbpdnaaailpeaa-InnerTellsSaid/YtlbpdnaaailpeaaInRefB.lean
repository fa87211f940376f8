/-
  What the reference's Look of layer 6 answers: In.lookR; what was in memory stays as it was.
  Conditions: a row has at most 2^32 elements.
-/
import Derived.Test.YtlbpdnaaailpeaaInRefA
import Derived.Test.YtlbpdnaaailpeaaInWalkB
import Derived.Test.YtlbpdnaaailpeaaInLook
import Derived.Test.YtlbpdnaaailpeaaInLawA
import Derived.Deep.LoopGhost
import Derived.Deep.DeepCutAuto
namespace Go.Proofs.Ytlbpdnaaailpeaa
open Go.RowKit

theorem rresults_face (X : World) (b : Nat) (tmps : Array Value) (x y : Value) (n q : Int) (hp : tmps.getD 2 undef = .pointer (some ⟨b, 0, none⟩)) (hn : tmps.getD 3 undef = .int .i64 n) (hq : tmps.getD 4 undef = .int .i64 q)
    (h0 : X.cell? ⟨b, 0, none⟩ = some x) (h1 : X.cell? ⟨b, 1, none⟩ = some y) : (results Try.f9 tmps).run Try.prog X = .ok (.tuple #[.agg #[x, y], .int .i64 n, .int .i64 q]) X := by
  rw [Array.getD_eq_getD_getElem?] at hp hn hq
  simp [results, Try.results9, hp, hn, hq, asAddr, go_sem, h0, h1]
theorem rend_face {w X : World} {r : (List (Int × Int) × List (Int × Int)) × Int × Int} {rs ws : List (Int × Int)} {n q : Int} (hr : r = ((rs, ws), n, q)) (tmps : Array Value) (b : Nat) (x y : Value) (h0 : X.cell? ⟨b, 0, none⟩ = some x) (h1 : X.cell? ⟨b, 1, none⟩ = some y)
    (hx : Its X x rs) (hy : Its X y ws) (hb : Below w.heap.size w X) (hp : tmps.getD 2 undef = .pointer (some ⟨b, 0, none⟩)) (hn : tmps.getD 3 undef = .int .i64 n) (hq : tmps.getD 4 undef = .int .i64 q) :
    bodyPost Try.prog Try.f9 (RetFace w r) Exit.ret { tmps := tmps, defers := [] } X := by
  refine bodyPost_ret (rresults_face X b tmps x y n q hp hn hq h0 h1) rfl ?_
  subst hr
  exact ⟨x, y, rfl, hx, hy, hb⟩
/-- While the ops are looked through: the result variable is as it was made; what was in memory stays. -/
structure RefAt6 (w wr : World) : Prop where
  below : Below w.heap.size w wr
  res : wr.heap[w.heap.size]? = some (.cells #[.slice none 0 0, .slice none 0 0] 34 (0, 0))
theorem RefAt6.start (w : World) : RefAt6 w (w.alloc (.cells #[.slice none 0 0, .slice none 0 0] 34)) := ⟨alloc_below _ _, heap_alloc_new _ _⟩
theorem RefAt6.later {w wr w1 : World} (h : RefAt6 w wr) (hb : Below wr.heap.size wr w1) : RefAt6 w w1 := ⟨below_all h.below hb, (hb.block _ (lt_of_block h.res)).trans h.res⟩
theorem rend_bad {w W : World} {r : (List (Int × Int) × List (Int × Int)) × Int × Int} {n q : Int} (h : RefAt6 w W) (hr : r = (([], []), n, q)) (tmps : Array Value) (hp : tmps.getD 2 undef = .pointer (some ⟨w.heap.size, 0, none⟩)) (hn : tmps.getD 3 undef = .int .i64 n) (hq : tmps.getD 4 undef = .int .i64 q) :
    bodyPost Try.prog Try.f9 (RetFace w r) Exit.ret { tmps := tmps, defers := [] } ((W.setCell ⟨w.heap.size, 0, none⟩ (.slice none 0 0)).setCell ⟨w.heap.size, 1, none⟩ (.slice none 0 0)) := by
  have hc := (two_set (two_set h.res (.slice none 0 0)).1 (.slice none 0 0)).2
  obtain ⟨e0, e1, _⟩ := two_cells hc
  exact rend_face hr tmps _ _ _ e0 e1 (Its.nil _ _) (Its.nil _ _) ((h.below.setCell (Nat.le_refl _) _).setCell (Nat.le_refl _) _) hp hn hq
/-- The face, as far as it is filled, behind what was in memory. -/
def RFaceIs (wr wx : World) (rs ws : List (Int × Int)) : Prop := ∃ u v, FaceAt 34 43 wx wr.heap.size rs ws u v ∧ Below wr.heap.size wr wx

def RMid (w0 : World) (l : List Ev.Event) (k : Nat) (wx : World) : Prop := ∃ u v, FaceAt 34 43 wx w0.heap.size (In.readsTo l (k + 1)) (In.writesTo l k) u v ∧ Below w0.heap.size w0 wx
set_option maxHeartbeats 4000000 in
set_option maxRecDepth 4000 in
theorem rLook_at (l : List Ev.Event) (v : Value) (w : World) (hv : Evs w v l) (hl : l.length ≤ 4294967296) : Calls Try.prog 9 #[v] w (RetFace w (In.lookR l)) := by
  obtain ⟨i0, hi0, hz0, hz1, hz2⟩ := info_parts rit_info
  have I0 := Lib.hid hi0
  have I1 := Lib.hid hz0
  have I2 := Lib.hid hz1
  have I3 := Lib.hid hz2
  clear hi0 hz0 hz1 hz2
  obtain ⟨A, c, rfl, hform⟩ := hv.spelled
  have HV := Lib.hid hv
  have HF := Lib.hid hform
  clear hform hv
  go_enter Try.func9, Try.ntmps9
  go_wp2
  go_loopw [5] (fun t wr => ∃ k : Nat, k ≤ l.length ∧ t = .int .i64 k ∧ Hid (∀ j, j < k → In.errAt l j = 0) ∧ RefAt6 w wr) (fun t _ => l.length - (intOf t).toNat)
  case atStart => exact ⟨0, Nat.zero_le _, rfl, fun j hj => absurd hj (by omega), RefAt6.start w⟩
  case round =>
    obtain ⟨k, hk, rfl, hno, hat⟩ := hrel
    have HA := Lib.hid hat
    clear hat
    by_cases hlt : k < l.length
    · have V1 := Lib.hid (HV.out.below HA.out.below)
      by_cases hq : In.errAt l k = 0
      · have HQ := Lib.hid hq
        clear hq
        go_wp2_with fail
        refine (rWrong_at l _ k _ V1.out hlt hl).mono ?_
        rintro e w1 ⟨rfl, hb1⟩
        rw [HQ.out]
        have HN := Lib.hid (HA.out.later hb1)
        clear hb1
        go_wp2_with fail
        go_roundw
        case rel => exact ⟨k + 1, by omega, by go_num, In.next_ok l k hno.out HQ.out, HN.out⟩
        case measure => simp [intOf]; omega
      · have hqb : (In.errAt l k != 0) = true := by rw [bne_iff_ne]; exact hq
        have HR := Lib.hid (In.look_bad l k hno.out hq)
        clear hq
        go_wp2_with fail
        refine (rWrong_at l _ k _ V1.out hlt hl).mono ?_
        rintro e w1 ⟨rfl, hb1⟩
        have HN := Lib.hid (HA.out.later hb1)
        obtain ⟨r0, r1, r2⟩ := two_cells HN.out.res
        have t0 := r2 0
        have t1 := r2 1
        clear hb1 r2
        go_wp2_with fail
        exact rend_bad HN.out HR.out _ rfl rfl rfl
    · have HR := Lib.hid (In.all_ok l k (by omega) hno.out)
      have HFS := Lib.hid (face_start 34 43 wr)
      go_wp2_with fail
      clear hno hlt
      obtain ⟨w0, rfl⟩ : ∃ w0, w0 = wr := ⟨_, rfl⟩
      have hlt0 := lt_of_block HA.out.res
      go_loopg [8] 16 (fun g t wx => ∃ k : Nat, k ≤ 16 ∧ g = 16 - k ∧ t = .int .i64 k ∧ RFaceIs w0 wx (In.readsTo l k) (In.writesTo l k))
      case atStart => exact ⟨0, Nat.zero_le _, rfl, rfl, _, _, HFS.out, (Below.refl _ _).alloc (Nat.le_refl _) _⟩
      case round =>
        clear HFS hk
        rename_i k0
        obtain ⟨k, hk, rfl, rfl, hface⟩ := hrel
        have HFC := Lib.hid hface
        clear hface
        by_cases hlt : k < 16
        · have hd16 : decide ((k : Int) < 16) = true := by simp; omega
          go_wp2_with fail
          obtain ⟨wq, rfl⟩ : ∃ wq, wq = wr := ⟨_, rfl⟩
          have HBQ := Lib.hid (below_all HA.out.below HFC.out.choose_spec.choose_spec.2)
          go_loopg [9, 10] l.length (fun g s9 s10 wx => wq = wx ∧ ∃ j : Nat, j ≤ l.length ∧ j = g ∧ s10 = .int .i64 ((j : Int) - 1) ∧ s9 = .int .i64 (In.firstAt (k : Int) l j))
          case atStart => exact ⟨rfl, l.length, Nat.le_refl _, rfl, rfl, by rw [In.firstAt_end]⟩
          case round =>
            obtain ⟨rfl, j, hj, rfl, rfl, rfl⟩ := hrel
            cases j with
            | zero =>
              rw [show ((0 : Nat) : Int) - 1 = -1 from rfl]
              have hcase := In.firstAt_cases l k
              obtain ⟨rb, hrb⟩ : ∃ rb, rb = (In.rd l k).isSome := ⟨_, rfl⟩
              generalize In.firstAt (k : Int) l 0 = fa at hcase ⊢
              have HRB := Lib.hid hrb
              have HCS := Lib.hid hcase
              clear hcase hrb
              go_upto_region 17 with fail
              go_cut [54] (fun s54 wx => s54 = .bool rb ∧ wq = wx)
              case first =>
                rcases HCS.out with ⟨rfl, e2⟩ | ⟨n, hn, rfl, e2⟩
                · have E2 := Lib.hid e2
                  clear e2 HCS
                  go_wp2_with fail
                  go_meet
                  exact ⟨by rw [HRB.out, E2.out]; rfl, rfl⟩
                · obtain ⟨ad, rfl, hblk, hE⟩ := HF.out n hn
                  obtain ⟨hc0, hc1, hc2, hc3⟩ := hE.below hblk HBQ.out
                  have hn0 : (0 : Int) ≤ (n : Int) := by omega
                  have E2 := Lib.hid e2
                  clear e2 hE HCS
                  generalize l[n]'hn = x at *
                  rcases eql_parts x.kind 1 with ⟨q, hK⟩ | ⟨q, hK⟩
                  · go_wp2_with fail
                    go_meet
                    exact ⟨by rw [HRB.out, E2.out, if_neg (by simpa using hK.out)]; rfl, rfl⟩
                  · go_wp2_with fail
                    go_meet
                    exact ⟨by rw [HRB.out, E2.out, if_pos (by simpa using hK.out)]; rfl, rfl⟩
              case rest =>
                obtain ⟨rfl, rfl⟩ := hcut
                go_upto_if 54 with fail
                go_cut [] (fun wx => RMid w0 l k wx)
                case first =>
                  obtain ⟨fu, fv, hFA, hFB⟩ := HFC.out
                  obtain ⟨d0, _, _⟩ := two_cells hFA.cell
                  obtain ⟨A3, c3, rfl⟩ := own_form hFA.reads
                  have HFA0 := Lib.hid hFA
                  have HFB := Lib.hid hFB
                  have hrl := In.reads_len l k
                  have HS := Lib.hid hFA.lt
                  clear hFA hFB HFC
                  rcases HCS.out with ⟨rfl, e2⟩ | ⟨n, hn, rfl, e2⟩
                  · have E2 := Lib.hid e2
                    obtain rfl : rb = false := by rw [HRB.out, e2]; rfl
                    clear e2 HCS HRB
                    go_wp2_with fail
                    go_meet
                    exact ⟨_, _, by rw [In.readsTo_succ, E2.out]; simpa using HFA0.out, HFB.out⟩
                  · obtain ⟨ad, rfl, hblk, hE⟩ := HF.out n hn
                    obtain ⟨hc0, hc1, hc2, hc3⟩ := hE.below hblk HBQ.out
                    have hn0 : (0 : Int) ≤ (n : Int) := by omega
                    have E2 := Lib.hid e2
                    clear e2 hE HCS
                    generalize l[n]'hn = x at *
                    by_cases hK : x.kind = 1
                    · obtain rfl : rb = true := by rw [HRB.out, E2.out, if_pos hK]; rfl
                      have HRD : Hid (In.rd l k = some ((k : Int), x.value)) := by rw [Hid, E2.out, if_pos hK]
                      clear hK E2
                      have HFA := Lib.hid (tell_ready HFA0.out (.cells #[.int .i64 (k : Int), .int .i64 x.value] 43))
                      have d2 := cell_new d0 (.cells #[.int .i64 (k : Int), .int .i64 x.value] 43)
                      have hc3' := cell_new hc3 (.cells #[.int .i64 (k : Int), .int .i64 x.value] 43)
                      have HN := Lib.hid (new_row wq (itC ((k : Int), x.value)) 43)
                      go_wp2_with fail
                      go_region_law (refine step_append_lies _ rfl (.tmp 56) (.tmp 64) 32 rfl (w0.heap.size + 1) 43 i0 _ 2 16 Try.underlying32 I0.out I1.out I2.out I3.out rfl (by decide) (.slice A3 (In.readsTo l k).length c3) (In.readsTo l k).length ((In.readsTo l k).flatMap itC) (by simp [Act.eval]) HFA.out.1.reads ⟨wq.heap.size, 0, none⟩ 1 1 (itC ((k : Int), x.value)) (by simp [Act.eval]) rfl HN.out (one_its _) (by decide) (by simp only [maxLen]; omega) (by omega) (by have := HS.out; simp; omega) (wq.heap.size + 1) (by simp) ?_; intro g2 cap2 w2 hown2 hgrow2 hat2 hlt2; obtain ⟨e3, f3⟩ := HFA.out.2.2.1 w2 hgrow2; have HO2 := Lib.hid hown2; have HG2 := Lib.hid hgrow2; have HA2 := Lib.hid hat2; clear hown2 hgrow2 hat2 hlt2)
                      all_goals
                        go_wp2_with fail
                        go_meet
                        obtain ⟨h1, h2⟩ := HFA.out.1.addRead ((k : Int), x.value) HO2.out HG2.out (HA2.out.imp id (fun e => by rw [e]; simp [World.drewN]))
                        exact ⟨_, _, by rw [In.readsTo_succ, HRD.out]; exact h1, HFB.out.trans (HFA.out.2.1.trans h2)⟩
                    · obtain rfl : rb = false := by rw [HRB.out, E2.out, if_neg hK]; rfl
                      have HRD : Hid (In.rd l k = none) := by rw [Hid, E2.out, if_neg hK]
                      clear hK E2
                      go_wp2_with fail
                      go_meet
                      exact ⟨_, _, by rw [In.readsTo_succ, HRD.out]; simpa using HFA0.out, HFB.out⟩
                case rest =>
                  obtain ⟨fu, fv, hFA, hFB⟩ := hcut
                  obtain ⟨_, d1, _⟩ := two_cells hFA.cell
                  obtain ⟨A4, c4, rfl⟩ := own_form hFA.writes
                  have HFA0 := Lib.hid hFA
                  have HFB := Lib.hid hFB
                  have hwl := In.writes_len l k
                  have HS := Lib.hid hFA.lt
                  have VC := Lib.hid (HV.out.below (below_all HA.out.below hFB))
                  have HBC := Lib.hid (below_all HA.out.below hFB)
                  clear hFA hFB HFC
                  go_wp2_with fail
                  refine (rAhead_at l _ l.length 2 (k : Int) wc VC.out (Nat.le_refl _) hl).mono ?_
                  rintro e w' ⟨rfl, rfl⟩
                  have hcs := In.lastAt_cases 2 (k : Int) l l.length (Nat.le_refl _)
                  rw [List.take_length] at hcs
                  rcases hcs with ⟨e2, e1⟩ | ⟨n, hn, e2, e1⟩
                  · rw [e1]
                    have HWR : Hid (In.wr l k = none) := by rw [Hid, In.wr, e2]; rfl
                    clear e1 e2
                    go_wp2_with fail
                    go_roundg (16 - (k + 1))
                    case measure => omega
                    case rel => exact ⟨k + 1, by omega, rfl, by go_num, _, _, by rw [In.writesTo_succ, HWR.out]; simpa using HFA0.out, HFB.out⟩
                  · obtain ⟨ad, rfl, hblk, hE⟩ := HF.out n hn
                    obtain ⟨hc0, hc1, hc2, hc3⟩ := hE.below hblk HBC.out
                    have hn0 : (0 : Int) ≤ (n : Int) := by omega
                    have HWR : Hid (In.wr l k = some ((k : Int), (l[n]'hn).value)) := by rw [Hid, In.wr, e2]; rfl
                    rw [e1]
                    clear e1 e2 hE
                    generalize l[n]'hn = x at *
                    have HFA := Lib.hid (tell_ready HFA0.out (.cells #[.int .i64 (k : Int), .int .i64 x.value] 43))
                    have d2 := cell_new d1 (.cells #[.int .i64 (k : Int), .int .i64 x.value] 43)
                    have hc3' := cell_new hc3 (.cells #[.int .i64 (k : Int), .int .i64 x.value] 43)
                    have HN := Lib.hid (new_row wc (itC ((k : Int), x.value)) 43)
                    go_wp2_with fail
                    go_region_law (refine step_append_lies _ rfl (.tmp 75) (.tmp 83) 32 rfl (w0.heap.size + 1) 43 i0 _ 2 16 Try.underlying32 I0.out I1.out I2.out I3.out rfl (by decide) (.slice A4 (In.writesTo l k).length c4) (In.writesTo l k).length ((In.writesTo l k).flatMap itC) (by simp [Act.eval]) HFA.out.1.writes ⟨wc.heap.size, 0, none⟩ 1 1 (itC ((k : Int), x.value)) (by simp [Act.eval]) rfl HN.out (one_its _) (by decide) (by simp only [maxLen]; omega) (by omega) (by have := HS.out; simp; omega) (wc.heap.size + 1) (by simp) ?_; intro g2 cap2 w2 hown2 hgrow2 hat2 hlt2; obtain ⟨e3, f3⟩ := HFA.out.2.2.2 w2 hgrow2; have HO2 := Lib.hid hown2; have HG2 := Lib.hid hgrow2; have HA2 := Lib.hid hat2; clear hown2 hgrow2 hat2 hlt2)
                    all_goals
                      go_wp2_with fail
                      go_roundg (16 - (k + 1))
                      case measure => omega
                      case rel =>
                        obtain ⟨h1, h2⟩ := HFA.out.1.addWrite ((k : Int), x.value) HO2.out HG2.out (HA2.out.imp id (fun e => by rw [e]; simp [World.drewN]))
                        exact ⟨k + 1, by omega, rfl, by go_num, _, _, by rw [In.writesTo_succ, HWR.out]; exact h1, HFB.out.trans (HFA.out.2.1.trans h2)⟩
            | succ j =>
              rw [show ((j + 1 : Nat) : Int) - 1 = (j : Int) by omega]
              have hlt2 : j < l.length := by omega
              obtain ⟨ad, rfl, hblk, hE⟩ := HF.out j hlt2
              have HH := Lib.hid (In.firstAt_hit (k : Int) l j hlt2)
              have HM := Lib.hid (In.firstAt_miss (k : Int) l j hlt2)
              have hE2 := hE.below hblk HBQ.out
              generalize l[j]'hlt2 = x at *
              obtain ⟨hc0, hc1, hc2, hc3⟩ := hE2
              rcases eql_parts x.key (k : Int) with ⟨q, hK⟩ | ⟨q, hK⟩
              · rw [← HM.out (by simpa using hK.out)]
                go_wp2_with fail
                go_roundg j
                case measure => omega
                case rel => exact ⟨rfl, j, by omega, rfl, rfl, rfl⟩
              · go_wp2_with fail
                go_roundg j
                case measure => omega
                case rel => exact ⟨rfl, j, by omega, rfl, rfl, by rw [HH.out (by simpa using hK.out)]⟩
        · obtain rfl : k = 16 := by omega
          obtain ⟨fu, fv, hFA, hFB⟩ := HFC.out
          have HRS : Hid (wr.heap[w.heap.size]? = some (.cells #[.slice none 0 0, .slice none 0 0] 34 (0, 0))) := (hFB.block _ hlt0).trans HA.out.res
          obtain ⟨r0, r1, r2⟩ := two_cells HRS.out
          have t0 := r2 0
          have t1 := r2 1
          obtain ⟨d0, d1, _⟩ := two_cells hFA.cell
          obtain ⟨A3, c3, rfl⟩ := own_form hFA.reads
          obtain ⟨A4, c4, rfl⟩ := own_form hFA.writes
          have HFA0 := Lib.hid hFA
          have HFB := Lib.hid hFB
          clear r2 hFA hFB HFC
          go_wp2_with fail
          obtain ⟨e0, e1, _⟩ := two_cells (two_set (two_set HRS.out (.slice A3 (In.readsTo l 16).length c3)).1 (.slice A4 (In.writesTo l 16).length c4)).2
          have hlo : w.heap.size < w0.heap.size + 1 := by omega
          exact rend_face HR.out _ _ _ _ e0 e1 (Rows'.own (ownsRow_setCell_below (ownsRow_setCell_below HFA0.out.reads hlo _) hlo _)) (Rows'.own (ownsRow_setCell_below (ownsRow_setCell_below HFA0.out.writes hlo _) hlo _))
            (((below_all HA.out.below HFB.out).setCell (Nat.le_refl _) _).setCell (Nat.le_refl _) _) rfl rfl rfl
end Go.Proofs.Ytlbpdnaaailpeaa
