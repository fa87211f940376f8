/-
  What the reference's one of layer 7 answers: a committed transaction, as a history has it (So.txnOf), or the first error of its reads; what was in memory stays as it was.
  Conditions: at most 32 transactions, a row of ops has at most 2^32 elements; the ops may be, and what was committed may be looked at.
-/
import Derived.Test.YtodahdnooidmaaaSoRefD
import Derived.Test.YtodahdnooidmaaaSoWalkD
set_option maxRecDepth 4000
namespace Go.Proofs.Ytodahdnooidmaaa
open Go.RowKit

theorem three_get {w : World} {b : Nat} {x0 x1 x2 : Value} {t : TypeId} (h : w.heap[b]? = some (.cells #[x0, x1, x2] t (0, 0))) : (w.cell? ⟨b, 0, none⟩ = some x0 ∧ w.cell? ⟨b, 1, none⟩ = some x1 ∧ w.cell? ⟨b, 2, none⟩ = some x2) ∧ ∀ k, w.frozen? ⟨b, k, none⟩ = false := by
  refine ⟨⟨?_, ?_, ?_⟩, fun k => ?_⟩
  · simp [World.cell?, h]
  · simp [World.cell?, h]
  · simp [World.cell?, h]
  · simp [World.frozen?, h]
theorem three_set {w : World} {b : Nat} {x0 x1 x2 : Value} {t : TypeId} (h : w.heap[b]? = some (.cells #[x0, x1, x2] t (0, 0))) (y0 y1 y2 : Value) : (((w.setCell ⟨b, 0, none⟩ y0).setCell ⟨b, 1, none⟩ y1).setCell ⟨b, 2, none⟩ y2).heap[b]? = some (.cells #[y0, y1, y2] t (0, 0)) := by
  simp [World.setCell, Array.getElem?_modify, h]
theorem three_one {w : World} {b : Nat} {x0 x1 x2 : Value} {t : TypeId} (h : w.heap[b]? = some (.cells #[x0, x1, x2] t (0, 0))) (y : Value) : (w.setCell ⟨b, 1, none⟩ y).heap[b]? = some (.cells #[x0, y, x2] t (0, 0)) ∧ (w.setCell ⟨b, 2, none⟩ y).heap[b]? = some (.cells #[x0, x1, y] t (0, 0)) := by
  simp [World.setCell, Array.getElem?_modify, h]
/-- While one fills its variable, which lies at W's end. -/
structure OneMid (W wx : World) (s : Int) (ks : List Int) (ys : List (Int × Int)) (kv rv : Value) : Prop where
  cell : wx.heap[W.heap.size]? = some (.cells #[.int .i64 s, kv, rv] 41 (0, 0))
  writes : wx.ownsRow (W.heap.size + 1) 3 1 kv ks.length (ks.flatMap nC)
  reads : wx.ownsRow (W.heap.size + 1) 43 2 rv ys.length (ys.flatMap itC)
  below : Below W.heap.size W wx
section
variable {W wx w3 : World} {s : Int} {ks : List Int} {ys : List (Int × Int)} {kv rv v' : Value}
theorem OneMid.later (h : OneMid W wx s ks ys kv rv) (hb : Below wx.heap.size wx w3) : OneMid W w3 s ks ys kv rv :=
  ⟨(hb.block _ (lt_of_block h.cell)).trans h.cell, own_below h.writes hb, own_below h.reads hb, below_all h.below hb⟩
theorem one_start (W : World) (s : Int) : OneMid W (W.alloc (.cells #[.int .i64 s, .slice none 0 0, .slice none 0 0] 41)) s [] [] (.slice none 0 0) (.slice none 0 0) :=
  ⟨heap_alloc_new _ _, World.ownsRow_nil _ _ _ _, World.ownsRow_nil _ _ _ _, alloc_below _ _⟩
theorem OneMid.ready (h : OneMid W wx s ks ys kv rv) (o : Obj) : OneMid W ((wx.alloc o).drewN 1) s ks ys kv rv ∧
    (∀ w2, ((wx.alloc o).drewN 1).grownBy w2 kv.ownBlock → w2.cell? ⟨W.heap.size, 1, none⟩ = some kv ∧ w2.frozen? ⟨W.heap.size, 1, none⟩ = false) ∧ (∀ w2, ((wx.alloc o).drewN 1).grownBy w2 rv.ownBlock → w2.cell? ⟨W.heap.size, 2, none⟩ = some rv ∧ w2.frozen? ⟨W.heap.size, 2, none⟩ = false) := by
  have h2 : OneMid W ((wx.alloc o).drewN 1) s ks ys kv rv := (h.later (alloc_below wx o)).later (drewN_below _ 1)
  refine ⟨h2, fun w2 hg => ?_, fun w2 hg => ?_⟩
  · have := three_get ((hg.block _ (lt_of_block h2.cell) (fun e => own_above h2.writes e.symm)).trans h2.cell)
    exact ⟨this.1.2.1, this.2 1⟩
  · have := three_get ((hg.block _ (lt_of_block h2.cell) (fun e => own_above h2.reads e.symm)).trans h2.cell)
    exact ⟨this.1.2.2, this.2 2⟩
theorem OneMid.addWrite (h : OneMid W wx s ks ys kv rv) (n : Int) (hrow : w3.ownsRow (W.heap.size + 1) 3 1 v' (ks.length + 1) (ks.flatMap nC ++ nC n)) (hg : wx.grownBy w3 kv.ownBlock) : OneMid W (w3.setCell ⟨W.heap.size, 1, none⟩ v') s (ks ++ [n]) ys v' rv := by
  have hc := (hg.block _ (lt_of_block h.cell) (fun e => own_above h.writes e.symm)).trans h.cell
  refine ⟨(three_one hc v').1, ownsRow_setCell_below (Rows'.own_snoc hrow) (by show W.heap.size < W.heap.size + 1; omega) _, ownsRow_setCell_below (h.reads.kept hg (own_types h.reads h.writes (by decide))) (by show W.heap.size < W.heap.size + 1; omega) _, ?_⟩
  exact (h.below.grown hg h.below.size (fun j hj => by have := (h.writes.lt j hj).1; omega)).setCell (Nat.le_refl _) _
theorem OneMid.addRead (h : OneMid W wx s ks ys kv rv) (y : Int × Int) (hrow : w3.ownsRow (W.heap.size + 1) 43 2 v' (ys.length + 1) (ys.flatMap itC ++ itC y)) (hg : wx.grownBy w3 rv.ownBlock) : OneMid W (w3.setCell ⟨W.heap.size, 2, none⟩ v') s ks (ys ++ [y]) kv v' := by
  have hc := (hg.block _ (lt_of_block h.cell) (fun e => own_above h.reads e.symm)).trans h.cell
  refine ⟨(three_one hc v').2, ownsRow_setCell_below (h.writes.kept hg (own_types h.writes h.reads (by decide))) (by show W.heap.size < W.heap.size + 1; omega) _, ownsRow_setCell_below (Rows'.own_snoc hrow) (by show W.heap.size < W.heap.size + 1; omega) _, ?_⟩
  exact (h.below.grown hg h.below.size (fun j hj => by have := (h.reads.lt j hj).1; omega)).setCell (Nat.le_refl _) _
end
/-- A transaction of a history, and an error: where there is none its rows are in memory of the call's own. -/
def RetTxn (w : World) (t : So.Txn) (q : Int) (e : Ending) (w' : World) : Prop := ∃ (s : Int) (A : Option Addr) (n c : Nat) (A' : Option Addr) (n' c' : Nat), e = .returned (.tuple #[.agg #[.int .i64 s, .slice A n c, .slice A' n' c'], .int .i64 q]) ∧
  (q = 0 → s = t.session ∧ w'.ownsRow w.heap.size 3 1 (.slice A n c) t.writes.length (t.writes.flatMap nC) ∧ w'.ownsRow w.heap.size 43 2 (.slice A' n' c') t.reads.length (t.reads.flatMap itC)) ∧ Below w.heap.size w w'
theorem results_one (X : World) (b : Nat) (tmps : Array Value) (x0 x1 x2 : Value) (q : Int) (hp : tmps.getD 4 undef = .pointer (some ⟨b, 0, none⟩)) (hq : tmps.getD 5 undef = .int .i64 q) (h0 : X.cell? ⟨b, 0, none⟩ = some x0) (h1 : X.cell? ⟨b, 1, none⟩ = some x1) (h2 : X.cell? ⟨b, 2, none⟩ = some x2) :
    (results Try.f22 tmps).run Try.prog X = .ok (.tuple #[.agg #[x0, x1, x2], .int .i64 q]) X := by
  rw [Array.getD_eq_getD_getElem?] at hp hq
  simp [results, Try.results22, hp, hq, asAddr, go_sem, h0, h1, h2]
theorem end_one {w X : World} {t : So.Txn} {q : Int} (tmps : Array Value) (b : Nat) (s : Int) (A : Option Addr) (n c : Nat) (A' : Option Addr) (n' c' : Nat) (hres : X.heap[b]? = some (.cells #[.int .i64 s, .slice A n c, .slice A' n' c'] 41 (0, 0)))
    (hf : q = 0 → s = t.session ∧ X.ownsRow w.heap.size 3 1 (.slice A n c) t.writes.length (t.writes.flatMap nC) ∧ X.ownsRow w.heap.size 43 2 (.slice A' n' c') t.reads.length (t.reads.flatMap itC)) (hb : Below w.heap.size w X)
    (hp : tmps.getD 4 undef = .pointer (some ⟨b, 0, none⟩)) (hq : tmps.getD 5 undef = .int .i64 q) :
    bodyPost Try.prog Try.f22 (RetTxn w t q) Exit.ret { tmps := tmps, defers := [] } X := by
  obtain ⟨⟨h0, h1, h2⟩, _⟩ := three_get hres
  exact bodyPost_ret (results_one X b tmps _ _ _ q hp hq h0 h1 h2) rfl ⟨s, A, n, c, A', n', c', rfl, hf, hb⟩
theorem keys_take (ws : List (Int × Int)) (k : Nat) (hk : k < ws.length) : (ws.take (k + 1)).map (·.1) = (ws.take k).map (·.1) ++ [ws[k].1] := by rw [List.take_succ_eq_append_getElem hk, List.map_append]; rfl
set_option maxHeartbeats 4000000 in
theorem rOne7_at (l : List Gr.Tx) (v : Value) (m : Nat) (w : World) (hv : Txs w v l) (hm : m < l.length) (hl : l.length ≤ 32) (ho : ∀ t ∈ l, t.ops.length ≤ 4294967296) (hc0 : So.Clean l 0) (hc2 : So.Clean l 2) (hd : l[m].done = true) :
    Calls Try.prog 22 #[v, .int .i64 (m : Int)] w (RetTxn w (So.txnOf l l[m]) (So.readsErr l (In.readsTo l[m].ops 16))) := by
  obtain ⟨i0, hi0, hz0, hz1, hz2⟩ := info_parts int_info
  have I0 := Lib.hid hi0
  have I1 := Lib.hid hz0
  have I2 := Lib.hid hz1
  have I3 := Lib.hid hz2
  clear hi0 hz0 hz1 hz2
  obtain ⟨j0, hi0, hz0, hz1, hz2⟩ := info_parts take_info
  have J0 := Lib.hid hi0
  have J1 := Lib.hid hz0
  have J2 := Lib.hid hz1
  have J3 := Lib.hid hz2
  clear hi0 hz0 hz1 hz2
  have HV := Lib.hid hv
  have HO := Lib.hid ho
  have HC2 := Lib.hid hc2
  obtain ⟨A, c, rfl, hform⟩ := hv.spelled
  obtain ⟨ad, u, rfl, hblk, hT, hU⟩ := hform m hm
  have HGD := Lib.hid (good_of_zero _ ((So.clean_look l).1 hc2 _ (List.getElem_mem hm) hd))
  have HROK := Lib.hid (reads_ok _ ((So.mayT_iff _).1 ((So.clean_may l).1 hc0 _ (List.getElem_mem hm))).1)
  have hol := ho _ (List.getElem_mem hm)
  obtain ⟨t, ht⟩ : ∃ t, t = l[m]'hm := ⟨_, rfl⟩
  rw [← ht] at hT hU HGD HROK hol ⊢
  obtain ⟨Au, cu, rfl, _⟩ := hU.spelled
  have HT := Lib.hid hT
  have HB0 := Lib.hid (alloc_below w (.cells #[.int .i64 0, .slice none 0 0, .slice none 0 0] 41))
  have HRES := Lib.hid (heap_alloc_new w (.cells #[.int .i64 0, .slice none 0 0, .slice none 0 0] 41))
  have HU := Lib.hid (hU.below HB0.out)
  obtain ⟨k0, k1, k2, k3⟩ := hT.below hblk HB0.out
  have hm0 : (0 : Int) ≤ (m : Int) := by omega
  have hm1 : (m : Int) < (l.length : Int) := by omega
  rw [show So.txnOf l t = ⟨t.session, (In.writesTo t.ops 16).map (·.1), takesL l (In.readsTo t.ops 16)⟩ from rfl]
  have hrl := In.reads_len t.ops 16
  have hwl := In.writes_len t.ops 16
  generalize In.readsTo t.ops 16 = rs at *
  generalize In.writesTo t.ops 16 = ws at *
  clear hform hv ho hT hU ht hc0 hc2 hd
  go_enter Try.func22, Try.ntmps22
  go_wp2_with fail
  refine (rLook_at t.ops _ _ HU.out hol).mono ?_
  rintro e w1 ⟨fx, fy, rfl, hx, hy, hb1⟩
  rw [HGD.out] at hx hy ⊢
  dsimp only at hx hy ⊢
  obtain ⟨Ax, cx, rfl, hxs⟩ := hx.spelled
  obtain ⟨Ay, cy, rfl, hys⟩ := hy.spelled
  have HW1 := Lib.hid (alloc_below w1 (.cells #[.slice Ax rs.length cx, .slice Ay ws.length cy] 65))
  have HX1 := Lib.hid (twoV_new w1 (.slice Ax rs.length cx) (.slice Ay ws.length cy) 65)
  have HBW := Lib.hid (below_all (below_all HB0.out hb1) HW1.out)
  have HR1 : Hid ((w1.alloc (.cells #[.slice Ax rs.length cx, .slice Ay ws.length cy] 65)).heap[w.heap.size]? = some (.cells #[.int .i64 0, .slice none 0 0, .slice none 0 0] 41 (0, 0))) := ((below_all hb1 HW1.out).block _ (lt_of_block HRES.out)).trans HRES.out
  have HXS := Lib.hid hxs
  have HYS := Lib.hid hys
  obtain ⟨g0, g1, g2, g3⟩ := HT.out.below hblk HBW.out
  clear hx hy hxs hys hb1 HB0 HRES HU k0 k1 k2 k3
  go_wp2_with fail
  obtain ⟨b1, hb1⟩ : ∃ b1, b1 = w1.heap.size := ⟨_, rfl⟩
  have HSZ : Hid ((w1.alloc (.cells #[.slice Ax rs.length cx, .slice Ay ws.length cy] 65)).heap.size = b1 + 1) := by rw [Hid, hb1]; exact size_new _ _
  rw [← hb1] at HX1 ⊢
  generalize w1.alloc (.cells #[.slice Ax rs.length cx, .slice Ay ws.length cy] 65) = W at *
  have HST := Lib.hid (one_start W t.session)
  rw [← HSZ.out]
  have HXW := Lib.hid (fun wx (hb : Below W.heap.size W wx) => HX1.out.below hb)
  have HXI : Hid (∀ wx, Below W.heap.size W wx → ∀ (k : Nat) (hk : k < rs.length), ∃ ad : Addr, Ax = some ad ∧ ItIn wx ad k rs[k]) := fun wx hb k hk => by
    obtain ⟨a, e, hl, hi⟩ := HXS.out k hk
    exact ⟨a, e, hi.below hl (HW1.out.trans (hb.mono HW1.out.size))⟩
  have HYI : Hid (∀ wx, Below W.heap.size W wx → ∀ (k : Nat) (hk : k < ws.length), ∃ ad : Addr, Ay = some ad ∧ ItIn wx ad k ws[k]) := fun wx hb k hk => by
    obtain ⟨a, e, hl, hi⟩ := HYS.out k hk
    exact ⟨a, e, hi.below hl (HW1.out.trans (hb.mono HW1.out.size))⟩
  have HILT : Hid (∀ (k : Nat) (_ : k < rs.length), ∀ ad : Addr, Ax = some ad → ad.block < W.heap.size) := fun k hk ad e => by
    obtain ⟨a, e', hl, _⟩ := HXS.out k hk
    rw [e'] at e
    cases e
    exact Nat.lt_of_lt_of_le hl HW1.out.size
  clear hb1 HXS HYS HX1 g0 g1 g2 g3
  have hbW : b1 < W.heap.size := by have := HSZ.out; omega
  go_loopw [10] (fun i wx => ∃ (k : Nat) (kv : Value), k ≤ ws.length ∧ i = .int .i64 k ∧ OneMid W wx t.session ((ws.take k).map (·.1)) [] kv (.slice none 0 0)) (fun i _ => ws.length - (intOf i).toNat)
  case atStart => exact ⟨0, _, Nat.zero_le _, rfl, HST.out⟩
  case round =>
    clear HST
    obtain ⟨k, kv, hk, rfl, hmid⟩ := hrel
    have HM := Lib.hid hmid
    obtain ⟨⟨c0, c1, c2⟩, _⟩ := three_get hmid.cell
    obtain ⟨x0, x1⟩ := HXW.out _ hmid.below
    obtain ⟨AV, nV, cV, rfl⟩ := own_any hmid.writes
    clear hmid
    by_cases hlt : k < ws.length
    · obtain ⟨ad2, rfl, hI⟩ := HYI.out _ HM.out.below k hlt
      have HTK := Lib.hid (keys_take ws k hlt)
      have hkl : ((ws.take k).map (·.1)).length = k := by simp; omega
      obtain ⟨y0, y1⟩ := hI
      generalize ws[k]'hlt = z at *
      have HLK := Lib.hid hkl
      clear hkl
      generalize (ws.take k).map (·.1) = d at *
      have HRDY := Lib.hid (HM.out.ready (.cells #[.int .i64 z.1] 3))
      have e1 := cell_new c1 (.cells #[.int .i64 z.1] 3)
      have e2 := cell_new x1 (.cells #[.int .i64 z.1] 3)
      have e3 := cell_new y0 (.cells #[.int .i64 z.1] 3)
      have HN := Lib.hid (new_nC wr z.1 3)
      have HSW := Lib.hid (lt_of_block HM.out.cell)
      go_wp2_with fail
      go_region_law (refine step_append_lies _ rfl (.tmp 38) (.tmp 45) 38 rfl (W.heap.size + 1) 3 i0 _ 1 8 Try.underlying38 I0.out I1.out I2.out I3.out rfl (by decide) (.slice AV nV cV) d.length (d.flatMap nC) (by simp [Act.eval]) HRDY.out.1.writes ⟨wr.heap.size, 0, none⟩ 1 1 (nC z.1) (by simp [Act.eval]) rfl HN.out (one_nC _) (by decide) (by have := HLK.out; simp only [maxLen]; omega) (by have := HLK.out; omega) (by have := HSW.out; simp; omega) (wr.heap.size + 1) (by simp) ?_; intro g2 cap2 w2 hown2 hgrow2 hat2 hlt2; obtain ⟨f1, f2⟩ := HRDY.out.2.1 w2 hgrow2; have HN2 := Lib.hid (HRDY.out.1.addWrite z.1 hown2 hgrow2); clear hown2 hgrow2 hat2 hlt2)
      all_goals
        go_wp2_with fail
        go_roundw
        case rel => exact ⟨k + 1, _, by omega, by go_num, by rw [HTK.out]; exact HN2.out⟩
        case measure => simp [intOf]; omega
    · have HTA : Hid ((ws.take k).map (·.1) = ws.map (·.1)) := by rw [Hid, List.take_of_length_le (by omega)]
      have HMA := HM.out
      rw [HTA.out] at HMA
      have HM0 := Lib.hid HMA
      have HVW := Lib.hid (HV.out.below HBW.out)
      have hwW : w.heap.size < W.heap.size := lt_of_block HR1.out
      clear HM HMA HTA c0 c1 c2
      go_wp2_with fail
      clear hk hlt
      go_loopw [11] (fun i wx => ∃ (k : Nat) (rv : Value), k ≤ rs.length ∧ i = .int .i64 k ∧ Hid (So.readsErr l rs = So.readsErr l (rs.drop k)) ∧ OneMid W wx t.session (ws.map (·.1)) (takesL l (rs.take k)) (.slice AV nV cV) rv) (fun i _ => rs.length - (intOf i).toNat)
      case atStart => exact ⟨0, _, Nat.zero_le _, rfl, rfl, HM0.out⟩
      case round =>
        clear HM0 x0 x1
        rename_i k9
        obtain ⟨k, rv, hk, rfl, hre, hmid⟩ := hrel
        have HM := Lib.hid hmid
        obtain ⟨⟨c0, c1, c2⟩, _⟩ := three_get hmid.cell
        obtain ⟨x0, x1⟩ := HXW.out _ hmid.below
        obtain ⟨AR, nR, cR, rfl⟩ := own_any hmid.reads
        have HRR : Hid (wr.heap[w.heap.size]? = some (.cells #[.int .i64 0, .slice none 0 0, .slice none 0 0] 41 (0, 0))) := (hmid.below.block _ hwW).trans HR1.out
        clear hmid
        by_cases hlt : k < rs.length
        · obtain ⟨ad2, rfl, hI⟩ := HXI.out _ HM.out.below k hlt
          have HTK := Lib.hid (takesL_take l rs k hlt)
          have HLK := Lib.hid (takesL_len l rs k hk)
          have HST := Lib.hid (So.readsErr_step l rs k hlt)
          obtain ⟨⟨j, hj, hyj⟩, _⟩ := HROK.out _ (List.getElem_mem hlt)
          have HII := Lib.hid hI
          have hIlt := HILT.out k hlt ad2 rfl
          obtain ⟨y0, y1⟩ := hI
          generalize rs[k]'hlt = y at *
          generalize takesL l (rs.take k) = d at *
          have HYJ := Lib.hid hyj
          have HV2 := Lib.hid ((HVW.out.below HM.out.below).below ((Below.refl _ wr).drew))
          have HMD := Lib.hid (HM.out.later ((Below.refl _ wr).drew))
          clear hyj
          go_wp2_with fail
          go_region_held3 (fun w' => w'.cell? ⟨b1, 0, none⟩ = some (.slice (some ad2) rs.length cx) ∧ w'.cell? (ad2.add (k * 2)) = some (.int .i64 y.1) ∧ w'.cell? ⟨(ad2.add (k * 2)).block, (ad2.add (k * 2)).off + 1, none⟩ = some (.int .i64 y.2))
            (first | (exact ⟨x0, y0, y1⟩) | (exact HKEEP.out))
            (first | (go_at_call 33; (with_reducible refine (rFrom_at l _ y _ HV2.out hl HO.out HC2.out j hj HYJ.out).mono ?_); rintro e w3 ⟨rfl, hb3⟩; have HM3 := Lib.hid (HMD.out.later hb3); have hb4 := below_all ((Below.refl _ wr).drew) hb3; have HK3 := Lib.hid (HII.out.below (Nat.lt_of_lt_of_le hIlt HM.out.below.size) hb4); have HKEEP : Hid (w3.cell? ⟨b1, 0, none⟩ = some (.slice (some ad2) rs.length cx) ∧ w3.cell? (ad2.add (k * 2)) = some (.int .i64 y.1) ∧ w3.cell? ⟨(ad2.add (k * 2)).block, (ad2.add (k * 2)).off + 1, none⟩ = some (.int .i64 y.2)) := (⟨(HXW.out _ HM3.out.below).1, HK3.out.c0, HK3.out.c1⟩); have HR3 : Hid (w3.heap[w.heap.size]? = some (.cells #[.int .i64 0, .slice none 0 0, .slice none 0 0] 41 (0, 0))) := ((HM3.out.below.block _ hwW).trans HR1.out); clear hb3 hb4))
          all_goals
            by_cases hq : (So.fromR l y).2 = 0
            · have HRE : Hid (So.readsErr l rs = So.readsErr l (rs.drop (k + 1))) := by rw [Hid, hre.out, HST.out, if_neg (by simpa using hq)]
              rw [hq]
              generalize (So.fromR l y).1 = r at *
              obtain ⟨⟨_, _, d2⟩, _⟩ := three_get HM3.out.cell
              obtain ⟨z0, z1, z2⟩ := HKEEP.out
              have HRDY := Lib.hid (HM3.out.ready (.cells #[.int .i64 y.1, .int .i64 r] 43))
              have e1 := cell_new d2 (.cells #[.int .i64 y.1, .int .i64 r] 43)
              have e2 := cell_new z0 (.cells #[.int .i64 y.1, .int .i64 r] 43)
              have e3 := cell_new z1 (.cells #[.int .i64 y.1, .int .i64 r] 43)
              have HN := Lib.hid (new_row w3 (itC (y.1, r)) 43)
              have HSW := Lib.hid (lt_of_block HM3.out.cell)
              clear hq c0 c1 c2 x0 x1 y0 y1
              go_wp2_with fail
              go_region_law (refine step_append_lies _ rfl (.tmp 77) (.tmp 86) 39 rfl (W.heap.size + 1) 43 j0 _ 2 16 Try.underlying39 J0.out J1.out J2.out J3.out rfl (by decide) (.slice AR nR cR) d.length (d.flatMap itC) (by simp [Act.eval]) HRDY.out.1.reads ⟨w3.heap.size, 0, none⟩ 1 1 (itC (y.1, r)) (by simp [Act.eval]) rfl HN.out (one_its _) (by decide) (by have := HLK.out; simp only [maxLen]; omega) (by have := HLK.out; omega) (by have := HSW.out; simp; omega) (w3.heap.size + 1) (by simp) ?_; intro g2 cap2 w4 hown2 hgrow2 hat2 hlt2; obtain ⟨f1, f2⟩ := HRDY.out.2.2 w4 hgrow2; have HN2 := Lib.hid (HRDY.out.1.addRead (y.1, r) hown2 hgrow2); clear hown2 hgrow2 hat2 hlt2)
              all_goals
                go_wp2_with fail
                go_roundw
                case rel => exact ⟨k + 1, _, by omega, by go_num, HRE, by rw [HTK.out]; exact HN2.out⟩
                case measure => simp [intOf]; omega
            · have hqb : ((So.fromR l y).2 != 0) = true := by rw [bne_iff_ne]; exact hq
              have HRE : Hid (So.readsErr l rs = (So.fromR l y).2) := by rw [Hid, hre.out, HST.out, if_pos (by simpa using hq)]
              have HNZ := Lib.hid hq
              obtain ⟨⟨r0, r1, r2⟩, r3⟩ := three_get HR3.out
              have s0 := r3 0
              have s1 := r3 1
              have s2 := r3 2
              have HBX := Lib.hid (HBW.out.trans (HM3.out.below.mono (Nat.le_of_lt hwW)))
              clear hq r3
              go_wp2_with fail
              rw [HRE.out]
              exact end_one _ _ _ _ _ _ _ _ _ (three_set HR3.out _ _ _) (fun h => absurd h HNZ.out) (((HBX.out.setCell (Nat.le_refl _) _).setCell (Nat.le_refl _) _).setCell (Nat.le_refl _) _) rfl rfl
        · have HRE : Hid (So.readsErr l rs = 0) := by rw [Hid, hre.out, So.readsErr_end _ _ _ (by omega)]
          have HTA : Hid (rs.take k = rs) := List.take_of_length_le (by omega)
          have HMA := HM.out
          rw [HTA.out] at HMA
          have HM9 := Lib.hid HMA
          obtain ⟨⟨r0, r1, r2⟩, r3⟩ := three_get HRR.out
          have s0 := r3 0
          have s1 := r3 1
          have s2 := r3 2
          have HBX := Lib.hid (HBW.out.trans (HM.out.below.mono (Nat.le_of_lt hwW)))
          clear r3 HMA HM HTA
          go_wp2_with fail
          rw [HRE.out]
          refine end_one _ _ _ _ _ _ _ _ _ (three_set HRR.out _ _ _) (fun _ => ⟨rfl, ?_, ?_⟩) (((HBX.out.setCell (Nat.le_refl _) _).setCell (Nat.le_refl _) _).setCell (Nat.le_refl _) _) rfl rfl
          · exact (ownsRow_setCell_below (ownsRow_setCell_below (ownsRow_setCell_below HM9.out.writes (by show w.heap.size < W.heap.size + 1; omega) _) (by show w.heap.size < W.heap.size + 1; omega) _) (by show w.heap.size < W.heap.size + 1; omega) _).mono (by omega)
          · exact (ownsRow_setCell_below (ownsRow_setCell_below (ownsRow_setCell_below HM9.out.reads (by show w.heap.size < W.heap.size + 1; omega) _) (by show w.heap.size < W.heap.size + 1; omega) _) (by show w.heap.size < W.heap.size + 1; omega) _).mono (by omega)
end Go.Proofs.Ytodahdnooidmaaa
