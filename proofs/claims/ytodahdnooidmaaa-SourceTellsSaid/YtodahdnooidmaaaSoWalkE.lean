/-
  What source.Hist answers: So.histR, the history of any transactions, or which one is wrong, and how; what was in memory stays as it was.
  Conditions: a row of ops has at most 2^32 elements.
-/
import Derived.Test.YtodahdnooidmaaaSoWalkD
set_option maxRecDepth 4000
namespace Go.Proofs.Ytodahdnooidmaaa
open Go.RowKit

/-- Hist's result variable is as it was made; what was in memory stays. -/
structure HistRes (w wr : World) : Prop where
  below : Below w.heap.size w wr
  res : wr.heap[w.heap.size]? = some (.cells #[.slice none 0 0] 27 (0, 0))
theorem HistRes.start (w : World) : HistRes w (w.alloc (.cells #[.slice none 0 0] 27)) := ⟨alloc_below _ _, heap_alloc_new _ _⟩
theorem HistRes.later {w wr w1 : World} (h : HistRes w wr) (hb : Below wr.heap.size wr w1) : HistRes w w1 := ⟨below_all h.below hb, (hb.block _ (lt_of_block h.res)).trans h.res⟩
theorem hist_no {w W : World} {r : List So.Txn × Int × Int} {n q : Int} (h : HistRes w W) (hr : r = ([], n, q)) (tmps : Array Value) (hp : tmps.getD 2 undef = .pointer (some ⟨w.heap.size, 0, none⟩)) (hn : tmps.getD 3 undef = .int .i64 n) (hq : tmps.getD 4 undef = .int .i64 q) :
    bodyPost Try.prog Try.f9 (RetHistOwn w r) Exit.ret { tmps := tmps, defers := [] } (W.setCell ⟨w.heap.size, 0, none⟩ (.slice none 0 0)) :=
  end_hist9 hr tmps _ _ (one_cell (one_set h.res _)).1 [] rfl (OwnTxns.nil _ _ _ _ _) (h.below.setCell (Nat.le_refl _) _) hp hn hq
set_option maxHeartbeats 2000000 in
theorem hist_own (l : List Gr.Tx) (v : Value) (w : World) (hv : Txs w v l) (hl : l.length ≤ 4294967296) (ho : ∀ t ∈ l, t.ops.length ≤ 4294967296) : Calls Try.prog 9 #[v] w (RetHistOwn w (So.histR l)) := by
  obtain ⟨A, c, rfl, _⟩ := hv.spelled
  have HR0 := Lib.hid (HistRes.start w)
  have HV := Lib.hid (hv.below (alloc_below w (.cells #[.slice none 0 0] 27)))
  have HO := Lib.hid ho
  obtain ⟨r0, r1⟩ := one_cell HR0.out.res
  clear hv ho
  go_enter Try.func9, Try.ntmps9
  by_cases h32 : 32 < l.length
  · have hd : decide ((32 : Int) < (l.length : Int)) = true := by simp; omega
    have HR := Lib.hid (So.hist_many l h32)
    go_wp2_with fail
    exact end_hist9 HR.out _ _ _ r0 [] rfl (OwnTxns.nil _ _ _ _ _) HR0.out.below rfl rfl rfl
  have hd : decide ((32 : Int) < (l.length : Int)) = false := by simp; omega
  have hl32 : l.length ≤ 32 := by omega
  clear h32
  go_wp2_with fail
  refine (checkOps_at l _ _ HV.out hl HO.out).mono ?_
  rintro e w1 ⟨rfl, hb1⟩
  have HR1 := Lib.hid (HR0.out.later hb1)
  have HV1 := Lib.hid (HV.out.below hb1)
  clear hb1 HR0 HV r0 r1
  rcases So.first_cases l 0 (by omega) with ⟨hc0, hf⟩ | ⟨i, q, hf, hq, _, hbad⟩
  rotate_left
  · rw [hf]
    have hqb : (q != 0) = true := by rw [bne_iff_ne]; exact hq
    have HR := Lib.hid (hbad hl32 (fun r hr => absurd hr (by omega)))
    obtain ⟨r0, r1⟩ := one_cell HR1.out.res
    clear hf hq hbad
    go_wp2_with fail
    exact hist_no HR1.out HR.out _ rfl rfl rfl
  rw [hf]
  have HC0 := Lib.hid hc0
  clear hf hc0
  go_wp2_with fail
  refine (writersOf_at l _ _ HV1.out hl32 HO.out HC0.out).mono ?_
  rintro e w2 ⟨o, rfl, hmap, hb2⟩
  have HR2 := Lib.hid (HR1.out.later hb2)
  have HV2 := Lib.hid (HV1.out.below hb2)
  clear hb2 HR1 HV1
  rcases So.first_cases l 1 (by omega) with ⟨hc1, hf⟩ | ⟨i, q, hf, hq, _, hbad⟩
  rotate_left
  · rw [hf]
    have hqb : (q != 0) = true := by rw [bne_iff_ne]; exact hq
    have HR := Lib.hid (hbad hl32 (fun r hr => by obtain rfl : r = 0 := by omega
                                                  exact HC0.out))
    obtain ⟨r0, r1⟩ := one_cell HR2.out.res
    clear hf hq hbad hmap
    go_wp2_with fail
    exact hist_no HR2.out HR.out _ rfl rfl rfl
  rw [hf]
  have HC1 := Lib.hid hc1
  obtain ⟨b, n, D, rfl, hm, hwr⟩ := hmap hc1
  have HM2 := Lib.hid hm
  have HW := Lib.hid hwr
  clear hf hc1 hmap hm hwr
  go_wp2_with fail
  refine (facesOf_at l _ _ HV2.out hl HO.out).mono ?_
  rintro e w3 ⟨AF, nF, cF, rfl, hfaces, hb3⟩
  have HR3 := Lib.hid (HR2.out.later hb3)
  have HV3 := Lib.hid (HV2.out.below hb3)
  have HM3 : Hid (w3.ownsMap Try.prog 74 (plainElem Try.prog 3) b n D) := HM2.out.kept (row := none) ⟨hb3.os, hb3.tape, hb3.output, hb3.size, fun k hk _ => hb3.block k hk⟩ (by simp)
  clear hb3 HR2 HV2 HM2
  rcases So.first_cases l 2 (by omega) with ⟨hc2, hf⟩ | ⟨i, q, hf, hq, _, hbad⟩
  rotate_left
  · rw [hf]
    have hqb : (q != 0) = true := by rw [bne_iff_ne]; exact hq
    have HR := Lib.hid (hbad hl32 (fun r hr => by
      obtain rfl | rfl : r = 0 ∨ r = 1 := by omega
      · exact HC0.out
      · exact HC1.out))
    obtain ⟨r0, r1⟩ := one_cell HR3.out.res
    clear hf hq hbad hfaces
    go_wp2_with fail
    exact hist_no HR3.out HR.out _ rfl rfl rfl
  rw [hf]
  have HF3 := Lib.hid (hfaces hc2)
  have HEND := Lib.hid (So.hist_end l hl32 (fun p hp => by
    obtain rfl | rfl | rfl : p = 0 ∨ p = 1 ∨ p = 2 := by omega
    · exact HC0.out
    · exact HC1.out
    · exact hc2))
  clear hf hc2 hfaces
  go_wp2_with fail
  refine (soNumbers_at l _ _ HV3.out hl).mono ?_
  rintro e w4 ⟨nv, rfl, hnum, hb4⟩
  obtain ⟨AN, nN, cN, rfl⟩ := own_any hnum
  have HR4 := Lib.hid (HR3.out.later hb4)
  have HP4 : Hid (PastAt w4 l (.slice A l.length c) b (.slice AF nF cF) (.slice AN nN cN)) :=
    ⟨HV3.out.below hb4, ⟨n, D, HM3.out.kept (row := none) ⟨hb4.os, hb4.tape, hb4.output, hb4.size, fun k hk _ => hb4.block k hk⟩ (by simp), HW.out⟩, HF3.out.below hb4, Rows'.own hnum⟩
  have HP5 := Lib.hid (HP4.out.below (alloc_below w4 (.cells #[.slice A l.length c, .map (some b), .slice AF nF cF, .slice AN nN cN] 58)))
  have HR5 := Lib.hid (HR4.out.later (alloc_below w4 (.cells #[.slice A l.length c, .map (some b), .slice AF nF cF, .slice AN nN cN] 58)))
  clear hnum hb4 HR3 HV3 HM3 HF3 HP4 HR4
  go_wp2_with fail
  refine (history_at l _ b _ _ _ HP5.out hl32 HC0.out).mono ?_
  rintro e w6 ⟨v6, p6, rfl, ho6, hp6, hb6⟩
  have HR6 := Lib.hid (HR5.out.later hb6)
  obtain ⟨r0, r1⟩ := one_cell HR6.out.res
  obtain ⟨A6, c6, rfl⟩ := own_form ho6.row
  have HO6 := Lib.hid (ho6.mono (base' := w.heap.size + 1) (lt_of_block HR5.out.res))
  have HP6 := Lib.hid hp6
  clear ho6 hp6 hb6 HP5 HR5
  generalize So.endR l = r at *
  obtain ⟨ts, n6, q6⟩ := r
  dsimp only at HP6 ⊢
  go_wp2_with fail
  exact end_hist9 HEND.out _ _ _ (one_cell (one_set HR6.out.res _)).1 p6 HP6.out ((HO6.out.set (a := ⟨w.heap.size, 0, none⟩) (by show w.heap.size < w.heap.size + 1; omega) _).mono (Nat.le_succ _)) (HR6.out.below.setCell (Nat.le_refl _) _) rfl rfl rfl
theorem hist_at (l : List Gr.Tx) (v : Value) (w : World) (hv : Txs w v l) (hl : l.length ≤ 4294967296) (ho : ∀ t ∈ l, t.ops.length ≤ 4294967296) : Calls Try.prog 9 #[v] w (RetHist w (So.histR l)) :=
  (hist_own l v w hv hl ho).mono fun _ _ h => h.ret
end Go.Proofs.Ytodahdnooidmaaa
