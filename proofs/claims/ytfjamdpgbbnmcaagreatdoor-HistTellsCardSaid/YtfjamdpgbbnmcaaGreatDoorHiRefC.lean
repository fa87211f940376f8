/-
  What the reference's Parse and Show of layer 8 answer: the history of a text, or where it is wrong, and the text of a history.
  Conditions: a text has at most 2^32 bytes, a row at most 2^32 elements.
-/
import Derived.Test.YtfjamdpgbbnmcaaGreatDoorHiRefB
set_option maxRecDepth 4000
namespace Go.Proofs.YtfjamdpgbbnmcaaGreatDoor
open Go.RowKit

/-- A variable that holds a slice is no part of a row that begins with an integer: it may be written. -/
theorem sl_put {w : World} {b size n m c : Nat} {t : TypeId} {A : Option Addr} {v : Value} {xs : List Value} (hb : Boxed w b t (.slice A m c)) (h : Sl w size v n xs) (hx : ∀ u, xs[0]? = some u → ∃ k i, u = .int k i) (x : Value) : Sl (w.setCell ⟨b, 0, none⟩ x) size v n xs := by
  obtain ⟨h1, A', c', e, hc, hz, hh⟩ := h
  refine ⟨h1, A', c', e, hc, hz, fun h0 => ?_⟩
  obtain ⟨ad, e2, hlt, hcell⟩ := hh h0
  cases xs with
  | nil => exact ⟨ad, e2, by simpa using hlt, fun j u hu => by simp at hu⟩
  | cons u0 r =>
    obtain ⟨k, i, rfl⟩ := hx _ rfl
    have hc0 := hcell 0 _ rfl
    rw [add_zero'] at hc0
    have hne : ad.block ≠ b := fun e => by
      have hb' : w.heap[ad.block]? = some (.cells #[.slice A m c] t (0, 0)) := by rw [e]; exact hb
      simp only [World.cell?, hb'] at hc0
      split at hc0
      · cases hc0
      · have : ad.off = 0 ∨ 0 < ad.off := by omega
        rcases this with q | q
        · simp [q] at hc0
        · rw [Array.getElem?_eq_none (show #[Value.slice A m c].size ≤ ad.off from q)] at hc0
          cases hc0
    exact ⟨ad, e2, by simpa using hlt, fun j u hu => (set_far (by rw [add_block]; exact hne)).trans (hcell j u hu)⟩
theorem txns_put {w : World} {b m c : Nat} {t : TypeId} {A : Option Addr} {v : Value} {l : List So.Txn} (hb : Boxed w b t (.slice A m c)) (h : Txns w v l) (x : Value) : Txns (w.setCell ⟨b, 0, none⟩ x) v l := by
  obtain ⟨p, h1, h2, h3⟩ := h
  refine ⟨p, h1, sl_put hb h2 (fun u hu => ?_) x, fun y hy => ⟨sl_put hb (h3 y hy).1 (fun u hu => ?_) x, sl_put hb (h3 y hy).2 (fun u hu => ?_) x⟩⟩
  · cases p with
    | nil => simp at hu
    | cons y r => simp [txnC] at hu; exact ⟨_, _, hu.symm⟩
  · cases hw : y.1.writes with
    | nil => rw [hw] at hu; simp at hu
    | cons z r => rw [hw] at hu; simp [nC] at hu; exact ⟨_, _, hu.symm⟩
  · cases hw : y.1.reads with
    | nil => rw [hw] at hu; simp at hu
    | cons z r => rw [hw] at hu; simp [itC] at hu; exact ⟨_, _, hu.symm⟩

theorem rresults_parse (X : World) (b : Nat) (tmps : Array Value) (x : Value) (n q : Int) (hp : tmps.getD 2 undef = .pointer (some ⟨b, 0, none⟩)) (hn : tmps.getD 3 undef = .int .i64 n) (hq : tmps.getD 4 undef = .int .i64 q) (h0 : X.cell? ⟨b, 0, none⟩ = some x) :
    (results Tryz.f7 tmps).run Tryz.prog X = .ok (.tuple #[.agg #[x], .int .i64 n, .int .i64 q]) X := by
  rw [Array.getD_eq_getD_getElem?] at hp hn hq
  simp [results, Tryz.results7, hp, hn, hq, asAddr, go_sem, h0]
theorem rend_parse {w X : World} {r : List So.Txn × Int × Int} {ts : List So.Txn} {n q : Int} (hr : r = (ts, n, q)) (tmps : Array Value) (b : Nat) (x : Value) (h0 : X.cell? ⟨b, 0, none⟩ = some x) (hx : Txns X x ts) (hb : Below w.heap.size w X)
    (hp : tmps.getD 2 undef = .pointer (some ⟨b, 0, none⟩)) (hn : tmps.getD 3 undef = .int .i64 n) (hq : tmps.getD 4 undef = .int .i64 q) :
    bodyPost Tryz.prog Tryz.f7 (RetHist w r) Exit.ret { tmps := tmps, defers := [] } X := by
  refine bodyPost_ret (rresults_parse X b tmps x n q hp hn hq h0) rfl ?_
  subst hr
  exact ⟨x, rfl, hx, hb⟩
theorem rparse_no {w W : World} {r : List So.Txn × Int × Int} {n q : Int} (h : HistRes w W) (hr : r = ([], n, q)) (tmps : Array Value) (hp : tmps.getD 2 undef = .pointer (some ⟨w.heap.size, 0, none⟩)) (hn : tmps.getD 3 undef = .int .i64 n) (hq : tmps.getD 4 undef = .int .i64 q) :
    bodyPost Tryz.prog Tryz.f7 (RetHist w r) Exit.ret { tmps := tmps, defers := [] } (W.setCell ⟨w.heap.size, 0, none⟩ (.slice none 0 0)) :=
  rend_parse hr tmps _ _ (one_cell (one_set h.res _)).1 (Txns.nil _ _) (h.below.setCell (Nat.le_refl _) _) hp hn hq

set_option maxHeartbeats 2000000 in
theorem rParse8_at (s : List UInt8) (w : World) (hs : s.length ≤ 4294967296) : Calls Tryz.prog 7 #[.string (Ln.bs s)] w (RetHist w (Hi.parseR s)) := by
  have HR0 := Lib.hid (HistRes.start w)
  have HM := Lib.hid hs
  clear hs
  go_enter Tryz.func7, Tryz.ntmps7
  go_wp2_with fail
  generalize w.alloc (.cells #[.slice none 0 0] 24) = w1 at *
  refine (rDiParse_at s _ HM.out).mono ?_
  rintro e w2 ⟨v2, rfl, hs2, hb2⟩
  obtain ⟨A2, c2, rfl, _⟩ := hs2.spelled
  have HR2 := Lib.hid (HR0.out.later hb2)
  have S2 := Lib.hid hs2
  have HP1 := Lib.hid (Hi.parse_one (s := s))
  have HP2 := Lib.hid (Hi.parse_two (s := s))
  have HP3 := Lib.hid (Hi.parse_three (s := s))
  have HP4 := Lib.hid (Hi.parse_all (s := s))
  have HLN := Lib.hid (Di.parse_len s)
  clear hs2 hb2 HR0
  generalize Di.parseR s = d at *
  obtain ⟨l, dp, dq⟩ := d
  dsimp only at *
  obtain ⟨r0, r1⟩ := one_cell HR2.out.res
  by_cases h1 : dq = 0
  rotate_left
  · have hqb : (dq != 0) = true := by rw [bne_iff_ne]; exact h1
    have HR := Lib.hid (HP1.out h1)
    clear h1
    go_wp2_with fail
    exact rparse_no HR2.out HR.out _ rfl rfl rfl
  subst h1
  replace HP2 := Lib.hid (HP2.out rfl)
  replace HP3 := Lib.hid (HP3.out rfl)
  replace HP4 := Lib.hid (HP4.out rfl)
  have HGS := Lib.hid (Hi.group_small l)
  have hgp := Hi.group_place l
  have hll := HLN.out
  clear HP1
  go_wp2_with fail
  refine (rGroup_at l _ w2 S2.out (Nat.le_trans HLN.out (by decide))).mono ?_
  rintro e w3 ⟨v3, rfl, hs3, hb3⟩
  obtain ⟨A3, c3, rfl, _⟩ := hs3.spelled
  have HR3 := Lib.hid (HR2.out.later hb3)
  have S3 := Lib.hid hs3
  clear hs3 hb3 HR2 r0 r1
  generalize Gr.groupR l = g at *
  obtain ⟨txs, gp, gq⟩ := g
  dsimp only at *
  obtain ⟨r0, r1⟩ := one_cell HR3.out.res
  by_cases h2 : gq = 0
  rotate_left
  · have hqb : (gq != 0) = true := by rw [bne_iff_ne]; exact h2
    have HR := Lib.hid (HP2.out h2)
    clear h2
    go_wp2_with fail
    exact rparse_no HR3.out HR.out _ rfl rfl rfl
  subst h2
  replace HP3 := Lib.hid (HP3.out rfl)
  replace HP4 := Lib.hid (HP4.out rfl)
  obtain ⟨hg32, hgs⟩ := HGS.out rfl
  have HOP := Lib.hid hgs
  have HPL := Lib.hid (Hi.hist_place txs)
  clear HP2 HGS hgs hgp
  go_wp2_with fail
  refine (rHist7_at txs _ w3 S3.out (by omega) (fun t ht => by have := (HOP.out t ht).1; omega)).mono ?_
  rintro e w4 ⟨v4, rfl, hs4, hb4⟩
  obtain ⟨A4, c4, rfl, _⟩ := hs4.spelled
  generalize So.histR txs = r at *
  obtain ⟨ts, hp, hq⟩ := r
  dsimp only at *
  have HB5 := Lib.hid (below_all hb4 (alloc_below w4 (.cells #[.slice A4 ts.length c4] 24)))
  have HR5 := Lib.hid (HR3.out.later HB5.out)
  have S5 := Lib.hid (hs4.below (alloc_below w4 (.cells #[.slice A4 ts.length c4] 24)))
  have T5 := Lib.hid (S3.out.below HB5.out)
  have m5 := (Boxed.new w4 24 (.slice A4 ts.length c4)).cell
  clear hs4 hb4 HR3 r0 r1
  obtain ⟨r0, r1⟩ := one_cell HR5.out.res
  by_cases h3 : hq = 0
  · subst h3
    have HR := Lib.hid (HP4.out rfl)
    clear HP3 HP4 HPL
    go_wp2_with fail
    generalize w4.alloc (.cells #[.slice A4 ts.length c4] 24) = w5 at *
    exact rend_parse HR.out _ _ _ (one_cell (one_set HR5.out.res _)).1 (txns_put HR5.out.res S5.out _) (HR5.out.below.setCell (Nat.le_refl _) _) rfl rfl rfl
  · have hqb : (hq != 0) = true := by rw [bne_iff_ne]; exact h3
    obtain ⟨k, hk, rfl⟩ := HPL.out h3
    have HR := Lib.hid (HP3.out h3)
    rw [Hi.first_at txs k hk] at HR
    obtain ⟨ad, u, rfl, _, hT⟩ := txs_at T5.out k hk
    have hfk := (HOP.out _ (List.getElem_mem hk)).2
    obtain ⟨_, _, k2, _⟩ := hT
    generalize txs[k].first = f at *
    clear h3 HP3 HP4 HPL HOP
    go_wp2_with fail
    generalize w4.alloc (.cells #[.slice A4 ts.length c4] 24) = w5 at *
    have k2' : (w5.setCell ⟨w.heap.size, 0, none⟩ (.slice none 0 0)).cell? ⟨(ad.add (k * 4)).block, (ad.add (k * 4)).off + 2, none⟩ = some (.int .i64 f) := by
      by_cases e : (ad.add (k * 4)).block = w.heap.size
      · have hb' := HR5.out.res
        rw [← e] at hb'
        simp [World.cell?, hb'] at k2
      · exact (set_far e).trans k2
    have HRN := Lib.hid (HR5.out.later ((Below.refl _ w5).drew))
    go_region
    all_goals
      go_wp2_with fail
      exact rparse_no HRN.out HR.out _ rfl rfl rfl

theorem events_take (h : List So.Txn) (k : Nat) (hk : k < h.length) : Gr.eventsR ((Hi.txsOf h).take (k + 1)) = Gr.eventsR ((Hi.txsOf h).take k) ++ Gr.txEvents (Hi.txOf k h[k]) := by
  rw [txs_take h k hk, Gr.eventsR, Gr.eventsR, List.flatMap_append]
  simp
set_option maxHeartbeats 2000000 in
theorem rShow8_at (h : List So.Txn) (u : Value) (w : World) (hv : Txns w u h) (ho : ∀ t ∈ h, t.writes.length ≤ 4294967296 ∧ t.reads.length ≤ 4294967296) : Calls Tryz.prog 9 #[.agg #[u]] w (RetStr w (Hi.showR h)) := by
  obtain ⟨i0, hi0, hz0, hz1, hz2⟩ := info_parts ev_info
  have I0 := Lib.hid hi0
  have I1 := Lib.hid hz0
  have I2 := Lib.hid hz1
  have I3 := Lib.hid hz2
  clear hi0 hz0 hz1 hz2
  have HB0 := Lib.hid (alloc_below w (.cells #[u] 24))
  have HV := Lib.hid (hv.below HB0.out)
  obtain ⟨A, c, rfl, hform⟩ := hv.spelled
  have HF := Lib.hid hform
  have HO := Lib.hid ho
  have c0 := (Boxed.new w 24 (.slice A h.length c)).cell
  have HC0 := Lib.hid c0
  clear hv ho hform
  go_enter Tryz.func9, Tryz.ntmps9
  go_wp2_with fail
  generalize w.alloc (.cells #[.slice A h.length c] 24) = w1 at *
  refine (rRight8_at h _ _ HV.out HO.out).mono ?_
  rintro e w2 ⟨rfl, hb2⟩
  have HB2 := Lib.hid hb2
  clear hb2 c0
  by_cases hr : Hi.Right h
  rotate_left
  · have HE := Lib.hid (Hi.show_not h hr)
    rw [Hi.rightB_no hr]
    clear hr
    go_wp2_with fail
    go_ret2
    exact ⟨by rw [HE.out]; rfl, below_all HB0.out HB2.out⟩
  have HRT := Lib.hid hr
  rw [Hi.rightB_yes hr]
  have hl32 := hr.1
  have HLE := Lib.hid (Hi.events_few hr)
  clear hr
  go_wp2_with fail
  go_loopw [5, 6] (fun v i wr => ∃ k : Nat, k ≤ h.length ∧ i = .int .i64 k ∧ Hid (OpsRel w1 (Gr.eventsR ((Hi.txsOf h).take k)) v wr)) (fun _ i _ => h.length - (intOf i).toNat)
  case atStart => exact ⟨0, Nat.zero_le _, rfl, World.ownsRow_nil _ _ _ _, HB2.out⟩
  case round =>
    obtain ⟨k, hk, rfl, HOR⟩ := hrel
    obtain ⟨AV, cV, rfl⟩ := own_form HOR.out.1
    have cb := cell_later HOR.out.2 HC0.out
    by_cases hlt : k < h.length
    · obtain ⟨ad, x, y, rfl, hblk, hE, hx, hy⟩ := HF.out k hlt
      have HBW := Lib.hid (below_all HB0.out HOR.out.2)
      have HTK := Lib.hid (events_take h k hlt)
      have hlen : (Gr.eventsR ((Hi.txsOf h).take k)).length + (Gr.txEvents (Hi.txOf k h[k])).length ≤ 4294967296 := by
        have h1 := Gr.eventsR_len (Hi.txsOf h) (k + 1)
        rw [HTK.out, List.length_append] at h1
        exact Nat.le_trans h1 HLE.out
      obtain ⟨e0, e1, e2⟩ := hE.below hblk HBW.out
      have HOK := Lib.hid (Hi.right_len HRT.out _ (List.getElem_mem hlt))
      have HFR : Hid (∀ y ∈ h[k].reads, -1 ≤ y.2 ∧ y.2 ≤ 4294967296) := fun y hy => by
        rcases (HRT.out.2 k hlt).froms y hy with q | ⟨j, hj, q, _⟩
        · omega
        · omega
      generalize h[k] = t at *
      obtain ⟨A1, c1, rfl, _⟩ := hx.spelled
      obtain ⟨A2, c2, rfl, _⟩ := hy.spelled
      have HX := Lib.hid (hx.below HBW.out)
      have HY := Lib.hid (hy.below HBW.out)
      generalize Gr.eventsR ((Hi.txsOf h).take k) = d at *
      clear hE hx hy
      go_wp2_with fail
      refine (rEvents8_at t _ _ k _ HX.out HY.out (by omega) HOK.out.1 HOK.out.2 HFR.out).mono ?_
      rintro e w4 ⟨ov, rfl, hov, hb4⟩
      obtain ⟨Ak, nk, ck, rfl⟩ := own_any hov
      have HB4 := Lib.hid (below_all HOR.out.2 hb4)
      have HO4 := Lib.hid (own_below HOR.out.1 hb4)
      have HSL := Lib.hid (Sl.own hov)
      clear hov hb4 e0 e1 e2
      generalize Gr.txEvents (Hi.txOf k t) = te at *
      go_wp2_with (at_builtin; refine wpList_append_sl _ rfl (.tmp 20) (.tmp 27) 45 rfl w1.heap.size 74 i0 _ 4 32 Tryz.underlying45 I0.out I1.out I2.out I3.out rfl (by decide) _ d.length (d.flatMap evCells) rfl HO4.out _ te.length (te.flatMap evCells) rfl HSL.out (all_evs te) (by simp only [maxLen]; omega) (by omega) HB4.out.size ?_; intro v5 w5 hown5 hgrow5 hat5; have HO5 := Lib.hid (own_evs te hown5); have HB5 := Lib.hid (below_append HB4.out HB4.out.size HO4.out hgrow5); clear hown5 hgrow5 hat5)
      go_roundw
      case rel =>
        refine ⟨k + 1, by omega, by go_num, ?_⟩
        rw [Hid, HTK.out]
        exact ⟨HO5.out, HB5.out⟩
      case measure => simp [intOf]; omega
    · have HE : Hid (Gr.eventsR ((Hi.txsOf h).take k) = Hi.events h) := by rw [Hid, List.take_of_length_le (by rw [Hi.txsOf_len]; omega)]; rfl
      have HSI := Lib.hid (Hi.show_is h HRT.out)
      have HEV : Hid (Evs wr (.slice AV (Gr.eventsR ((Hi.txsOf h).take k)).length cV) (Hi.events h)) := by rw [Hid, ← HE.out]; exact Evs.own HOR.out.1
      generalize Value.slice AV (Gr.eventsR ((Hi.txsOf h).take k)).length cV = V at *
      clear HE
      go_wp2_with fail
      refine (rDiShow_at _ _ _ HEV.out).mono ?_
      rintro e w5 ⟨rfl, hb5⟩
      have HB5 := Lib.hid (below_all HB0.out (below_all HOR.out.2 hb5))
      rw [← HSI.out]
      clear hb5
      go_wp2_with fail
      go_ret2
      exact ⟨rfl, HB5.out⟩
end Go.Proofs.YtfjamdpgbbnmcaaGreatDoor
