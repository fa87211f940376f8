/-
  SourceRight answers true for every row of transactions: what is told has all that were committed, in order, each with rising keys, and reads from others that write that key, or from none; the transactions stay as they were.
  Conditions: none.
-/
import Derived.Test.YtodahdnooidmaaaSoGone
set_option maxRecDepth 4000
namespace Go.Proofs.Ytodahdnooidmaaa
open Go.RowKit

namespace So
theorem done_session (l : List Gr.Tx) (i : Nat) (hi : i < l.length) (hd : l[i].done = true) : ∃ h : ((l.take i).filter (·.done)).length < (txns l).length, (txns l)[((l.take i).filter (·.done)).length].session = l[i].session := by
  have h1 := done_at l i hi hd
  have hlt : ((l.take i).filter (·.done)).length < (l.filter (·.done)).length := (List.getElem?_eq_some_iff.1 h1).1
  refine ⟨by rw [txns_len]; exact hlt, ?_⟩
  have e : (txns l)[((l.take i).filter (·.done)).length]'(by rw [txns_len]; exact hlt) = txnOf l ((l.filter (·.done))[((l.take i).filter (·.done)).length]'hlt) := by simp [txns]
  rw [e, txnOf]
  rw [List.getElem?_eq_getElem hlt] at h1
  have h2 := Option.some.inj h1
  rw [h2]
theorem txn_rises (l : List Gr.Tx) (i : Nat) (hi : i < (txns l).length) : Rises (txns l)[i].writes ∧ Rises ((txns l)[i].reads.map (·.1)) := by
  have hlt : i < (l.filter (·.done)).length := by rw [← txns_len]; exact hi
  have e : (txns l)[i] = txnOf l ((l.filter (·.done))[i]'hlt) := by simp [txns]
  rw [e]
  refine ⟨writes_rise _, ?_⟩
  rw [txn_reads]
  exact reads_rise _
theorem read_rises {ys : List (Int × Int)} (h : Rises (ys.map (·.1))) (j : Nat) (hj : j < ys.length) : 0 ≤ ys[j].1 ∧ ys[j].1 < 16 ∧ ∀ i (hi : i < j), ys[i].1 < ys[j].1 := by
  have := rises_at h j (by simpa using hj)
  simpa using this
end So
/-- A variable of two cells. -/
def Two (w : World) (b : Nat) (x y : Value) : Prop := w.cell? ⟨b, 0, none⟩ = some x ∧ w.cell? ⟨b, 1, none⟩ = some y
theorem Two.below {w w' : World} {b : Nat} {x y : Value} (h : Two w b x y) (hb : Below w.heap.size w w') : Two w' b x y :=
  ⟨(hb.cell (World.block_lt_of_cell? w _ h.1)).trans h.1, (hb.cell (World.block_lt_of_cell? w _ h.2)).trans h.2⟩
theorem two_new (w : World) (x y : Value) (t : TypeId) : Two (w.alloc (.cells #[x, y] t)) w.heap.size x y := ⟨new_cell w _ _ 0 _ rfl, new_cell w _ _ 1 _ rfl⟩
set_option maxHeartbeats 8000000 in
set_option maxRecDepth 10000 in
theorem lawSourceRight (l : List Gr.Tx) (v : Value) (w : World) (hv : Txs w v l) : Calls Try.prog 4 #[v] w (RetBool w true) := by
  have V0 := Lib.hid hv
  obtain ⟨A, c, rfl, _⟩ := hv.spelled
  clear hv
  go_enter Try.func4, Try.ntmps4
  go_wp2_with fail
  refine (soAwake_at w).mono ?_
  rintro e w1 ⟨rfl, hb1⟩
  have V1 := Lib.hid (V0.out.below hb1)
  have B1 := Lib.hid hb1
  clear hb1 V0
  go_wp2_with fail
  refine (few_at l _ _ V1.out).mono ?_
  rintro e w1' ⟨rfl, rfl⟩
  cases hfew : fewB l with
  | false =>
    go_wp2_with fail
    go_ret
    exact ⟨rfl, B1.out⟩
  | true =>
  obtain ⟨h40, ho40⟩ := (fewB_iff l).1 hfew
  have HL : Hid (l.length ≤ 4294967296) := by rw [Hid]; omega
  have HO : Hid (∀ t ∈ l, t.ops.length ≤ 4294967296) := fun t ht => by have := ho40 t ht; omega
  clear hfew ho40
  go_wp2_with fail
  refine (hist_at l _ _ V1.out HL.out HO.out).mono ?_
  rintro e w2 ⟨v2, rfl, hs2, hb2⟩
  have HSM := Lib.hid (So.hist_small l)
  rcases So.hist_two l with ⟨hq, hnil, hplace⟩ | ⟨hl32, hcl, hok⟩
  · have hqb : ((So.histR l).2.2 != 0) = true := by rw [bne_iff_ne]; exact hq
    obtain ⟨A2, c2, rfl⟩ := hs2.none_ hnil
    have B2 := Lib.hid (below_all B1.out hb2)
    generalize (So.histR l).2.2 = q at *
    rcases hplace with h0 | ⟨i, hi, h0⟩
    · rw [h0]
      clear hq hnil hs2 hb2 h0
      go_wp2_with fail
      go_ret
      exact ⟨rfl, below_all B2.out (alloc_below _ _)⟩
    · rw [h0]
      by_cases hi0 : i = 0
      · subst hi0
        clear hq hnil hs2 hb2 h0
        go_wp2_with fail
        go_ret
        exact ⟨rfl, below_all B2.out (alloc_below _ _)⟩
      · have p0 : ((i : Int) == 0) = false := by rw [beq_eq_false_iff_ne]; omega
        have p1 : decide ((0 : Int) < (i : Int)) = true := by simp; omega
        have p3 : decide (0 < i) = true := by simp; omega
        have p2 : decide ((i : Int) < (l.length : Int)) = true := by simp; omega
        have p4 : decide (i < l.length) = true := by simp; omega
        clear hq hnil hs2 hb2 h0 hi0
        go_wp2_with fail
        go_ret
        exact ⟨rfl, below_all B2.out (alloc_below _ _)⟩
  rw [hok] at hs2 HSM ⊢
  dsimp only at hs2 HSM ⊢
  have HRF := Lib.hid (So.read_from l (hcl 2 (by omega)) (hcl 3 (by omega)))
  have HRI := Lib.hid (So.txn_rises l)
  have HDS := Lib.hid (So.done_session l)
  have HTL := Lib.hid (So.txns_len l)
  have HNX := Lib.hid (So.done_next l)
  obtain ⟨A2, c2, rfl, _⟩ := hs2.spelled
  have hb2' := below_all hb2 (alloc_below w2 (.cells #[.slice A2 (So.txns l).length c2] 27))
  have S2 := Lib.hid (hs2.below (alloc_below w2 (.cells #[.slice A2 (So.txns l).length c2] 27)))
  have N2 := Lib.hid (heap_alloc_new w2 (.cells #[.slice A2 (So.txns l).length c2] 27))
  have V2 := Lib.hid (V1.out.below hb2')
  have B2 := Lib.hid (below_all B1.out hb2')
  have hbs : w2.heap.size < (w2.alloc (.cells #[.slice A2 (So.txns l).length c2] 27)).heap.size := by simp
  obtain ⟨_, _, hve, hform⟩ := V2.out.spelled
  cases hve
  obtain ⟨_, _, hve, hform2⟩ := S2.out.spelled
  cases hve
  have HF := Lib.hid hform
  have HG := Lib.hid hform2
  have htl : (So.txns l).length ≤ 32 := by
    rw [So.txns_len]
    have := List.length_filter_le (·.done) l
    omega
  clear hs2 hb2 hb2' V1 B1 hcl hok hform hform2
  go_wp2_with fail
  generalize hW : w2.alloc (.cells #[.slice A2 (So.txns l).length c2] 27) = W at *
  clear hW
  have HCELL : Hid (∀ wx, Below W.heap.size W wx → wx.cell? ⟨w2.heap.size, 0, none⟩ = some (.slice A2 (So.txns l).length c2)) := fun wx hb => (one_cell ((hb.block _ hbs).trans N2.out)).1
  generalize hts : So.txns l = ts at *
  clear hts
  go_loopw [8, 9] (fun n i wr => ∃ k : Nat, k ≤ l.length ∧ i = .int .i64 k ∧ n = .int .i64 (((l.take k).filter (·.done)).length : Int) ∧ Below W.heap.size W wr) (fun _ i _ => l.length - (intOf i).toNat)
  case atStart => exact ⟨0, Nat.zero_le _, rfl, rfl, Below.refl _ _⟩
  case round =>
    obtain ⟨k, hk, rfl, rfl, hb⟩ := hrel
    have HB := Lib.hid hb
    have hcell := HCELL.out _ hb
    have hcl : ((l.take k).filter (·.done)).length ≤ 32 := Nat.le_trans (List.length_filter_le _ _) (by rw [List.length_take]; omega)
    clear hb
    by_cases hlt : k < l.length
    · obtain ⟨ad, u, rfl, hblk, hT, _⟩ := HF.out k hlt
      have HN := Lib.hid (HNX.out k hlt)
      have HD := Lib.hid (HDS.out k hlt)
      obtain ⟨t, ht⟩ : ∃ t, t = l[k]'hlt := ⟨_, rfl⟩
      rw [← ht] at hT HN HD
      obtain ⟨k0, k1, k2, k3⟩ := hT.below hblk HB.out
      clear hT ht
      generalize ((l.take k).filter (·.done)).length = n1 at *
      cases hd : t.done with
      | false =>
        rw [hd] at k1 HN
        go_wp2_with fail
        go_roundw
        case rel => exact ⟨k + 1, by omega, by go_num, by rw [HN.out]; go_num, HB.out⟩
        case measure => simp [intOf]; omega
      | true =>
        rw [hd] at k1 HN
        obtain ⟨hn, hses⟩ := HD.out hd
        have hge : decide ((n1 : Int) ≥ (ts.length : Int)) = false := by simp; omega
        have hn0 : (0 : Int) ≤ (n1 : Int) := by omega
        obtain ⟨ad2, x, y, rfl, hblk2, hT2, _, _⟩ := HG.out n1 hn
        obtain ⟨m0, _, _⟩ := hT2.below hblk2 HB.out
        rw [hses] at m0
        have hne : (t.session != t.session) = false := by simp
        clear hT2 hses
        go_wp2_with fail
        go_quiet (fail)
        go_wp2_with fail
        go_roundw
        case rel => exact ⟨k + 1, by omega, by go_num, by rw [HN.out]; go_num, below_drewN HB.out _⟩
        case measure => simp [intOf]; omega
    · have HEQ : Hid (((l.take k).filter (·.done)).length = ts.length) := by rw [Hid, List.take_of_length_le (by omega)]; exact HTL.out.symm
      rw [HEQ.out]
      clear HEQ hcl HF HDS HNX
      obtain ⟨wz, rfl⟩ : ∃ wz, wz = wr := ⟨_, rfl⟩
      go_wp2_with fail
      go_loopw [10] (fun i wr => ∃ k : Nat, k ≤ ts.length ∧ i = .int .i64 k ∧ Below W.heap.size W wr) (fun i _ => ts.length - (intOf i).toNat)
      case atStart => exact ⟨0, Nat.zero_le _, rfl, HB.out⟩
      case round =>
        clear HB hcell
        obtain ⟨i, hi, rfl, hb⟩ := hrel
        have HB := Lib.hid hb
        have hcell := HCELL.out _ hb
        clear hb
        by_cases hit : i < ts.length
        · obtain ⟨ad, x, y, rfl, hblk, hT, hx, hy⟩ := HG.out i hit
          have hR := HRI.out i hit
          have hRF := HRF.out i hit
          obtain ⟨t, ht⟩ : ∃ t, t = ts[i]'hit := ⟨_, rfl⟩
          rw [← ht] at hT hx hy hR hRF
          obtain ⟨Ax, cx, rfl, hxs⟩ := hx.spelled
          obtain ⟨Ay, cy, rfl, hys⟩ := hy.spelled
          have hwl : t.writes.length ≤ 4294967296 ∧ t.reads.length ≤ 4294967296 := by rw [ht]; exact HSM.out.2 _ (List.getElem_mem _)
          have hwl1 := hwl.1
          have hwl2 := hwl.2
          obtain ⟨t0, t1, t2⟩ := hT.below hblk HB.out
          have HXS := Lib.hid hxs
          have HYS := Lib.hid hys
          have HR := Lib.hid hR
          have HRR := Lib.hid hRF
          have HTV := Lib.hid (TxnVar.new wr t (.slice Ax t.writes.length cx) (.slice Ay t.reads.length cy) 41)
          have HBW := Lib.hid (below_all HB.out (alloc_below wr (.cells #[.int .i64 t.session, .slice Ax t.writes.length cx, .slice Ay t.reads.length cy] 41)))
          clear hT hx hy hR hRF ht hxs hys hwl
          go_wp2_with fail
          obtain ⟨n1, hn1⟩ : ∃ n1, n1 = wr.heap.size := ⟨_, rfl⟩
          rw [← hn1] at HTV ⊢
          generalize hW1 : wr.alloc (.cells #[.int .i64 t.session, .slice Ax t.writes.length cx, .slice Ay t.reads.length cy] 41) = W1 at *
          clear hW1 hn1 HB hcell t0 t1 t2
          go_loopw [12] (fun j wx => ∃ m : Nat, m ≤ t.writes.length ∧ j = .int .i64 m ∧ TxnVar wx n1 t (.slice Ax t.writes.length cx) (.slice Ay t.reads.length cy) ∧ Below W.heap.size W wx) (fun j _ => t.writes.length - (intOf j).toNat)
          case atStart => exact ⟨0, Nat.zero_le _, rfl, HTV.out, HBW.out⟩
          case round =>
            clear HTV HBW
            obtain ⟨m, hm, rfl, hv, hb⟩ := hrel
            have HV := Lib.hid hv
            have HB := Lib.hid hb
            obtain ⟨v0, v1, v2⟩ := hv
            clear hb
            by_cases hmt : m < t.writes.length
            · obtain ⟨ad2, rfl, hblk2, hc⟩ := HXS.out m hmt
              obtain ⟨r0, r1, r2⟩ := So.rises_at HR.out.1 m hmt
              have c0 := (HB.out.cell (p := ad2.add m) (by rw [add_block]; exact hblk2)).trans hc
              have p0 : decide (t.writes[m]'hmt < 0) = false := by simp; omega
              have p1 : decide (t.writes[m]'hmt ≥ 16) = false := by simp; omega
              clear hc r0 r1
              by_cases hm0 : m = 0
              · subst hm0
                rw [add_zero'] at c0
                generalize t.writes[0]'hmt = y at *
                clear r2
                go_wp2_with fail
                go_quiet (fail)
                go_wp2_with fail
                go_roundw
                case rel => exact ⟨0 + 1, by omega, by go_num, HV.out.below (drewN_below _ _), below_drewN HB.out _⟩
                case measure => simp [intOf]; omega
              · obtain ⟨m1, hm1⟩ : ∃ m1, m = m1 + 1 := ⟨m - 1, by omega⟩
                have hmt2 : m1 < t.writes.length := by omega
                obtain ⟨_, e9, _, hc2⟩ := HXS.out m1 hmt2
                cases e9
                have d0 := (HB.out.cell (p := ad2.add m1) (by rw [add_block]; exact hblk2)).trans hc2
                have p2 : decide (t.writes[m]'hmt ≤ t.writes[m1]'hmt2) = false := by have := r2 m1 (by omega); simp; omega
                have p3 : decide ((0 : Int) < (m : Int)) = true := by simp; omega
                have p4 : decide (0 < m) = true := by simp; omega
                have hs1 : IntKind.i64.wrap ((m : Int) - 1) = (m1 : Int) := by rw [IntWalk.i64_in _ (by omega)]; omega
                have hs2 : (m : Int) - 1 = (m1 : Int) := by omega
                generalize t.writes[m]'hmt = y at *
                generalize t.writes[m1]'hmt2 = z at *
                clear r2 hc2 hm1 hm0
                go_wp2_with fail
                go_quiet (fail)
                go_wp2_with fail
                go_roundw
                case rel => exact ⟨m + 1, by omega, by go_num, HV.out.below (drewN_below _ _), below_drewN HB.out _⟩
                case measure => simp [intOf]; omega
            · go_wp2_with fail
              clear hm hmt v0 v1 v2
              obtain ⟨wy, rfl⟩ : ∃ wy, wy = wr := ⟨_, rfl⟩
              go_loopw [13] (fun j wx => ∃ m : Nat, m ≤ t.reads.length ∧ j = .int .i64 m ∧ TxnVar wx n1 t (.slice Ax t.writes.length cx) (.slice Ay t.reads.length cy) ∧ Below W.heap.size W wx) (fun j _ => t.reads.length - (intOf j).toNat)
              case atStart => exact ⟨0, Nat.zero_le _, rfl, HV.out, HB.out⟩
              case round =>
                clear HV HB
                obtain ⟨j, hj, rfl, hv, hb⟩ := hrel
                have HV := Lib.hid hv
                have HB := Lib.hid hb
                obtain ⟨v0, v1, v2⟩ := hv
                clear hb
                by_cases hjt : j < t.reads.length
                · obtain ⟨ad3, rfl, hblk3, hI⟩ := HYS.out j hjt
                  obtain ⟨r0, r1, r2⟩ := So.read_rises HR.out.2 j hjt
                  have hfrom := HRR.out _ (List.getElem_mem hjt)
                  obtain ⟨y, hy⟩ : ∃ y, y = t.reads[j]'hjt := ⟨_, rfl⟩
                  rw [← hy] at hI r0 r1 hfrom
                  have HY := Lib.hid hy
                  obtain ⟨c0', c1'⟩ := hI.below hblk3 HB.out
                  have c0 : True := trivial
                  have p0 : decide (y.1 < 0) = false := by simp; omega
                  have p1 : decide (y.1 ≥ 16) = false := by simp; omega
                  clear r0 r1 hy
                  rcases hfrom with hz | ⟨f, hf, hz, hfi, hmem⟩
                  · rw [hz] at c1'
                    have p7 : ((-1 : Int) == (i : Int)) = false := by rw [beq_eq_false_iff_ne]; omega
                    have p6 : decide ((-1 : Int) ≥ (ts.length : Int)) = false := decide_eq_false (by omega)
                    clear hz
                    by_cases hj0 : j = 0
                    · have p3 : decide ((0 : Int) < (j : Int)) = false := decide_eq_false (by omega)
                      have p4 : decide (0 < j) = false := decide_eq_false (by omega)
                      clear hj0 r2
                      have HV3 := Lib.hid (HV.out.below (alloc_below wr (.cells #[.int .i64 y.1, .int .i64 (-1)] 43)))
                      have HB3 := Lib.hid (below_all HB.out (alloc_below wr (.cells #[.int .i64 y.1, .int .i64 (-1)] 43)))
                      have HX3 := Lib.hid (two_new wr (.int .i64 y.1) (.int .i64 (-1)) 43)
                      clear hI
                      go_wp2_with fail
                      obtain ⟨n2, hn2⟩ : ∃ n2, n2 = wr.heap.size := ⟨_, rfl⟩
                      rw [← hn2] at HX3 ⊢
                      generalize hW3 : wr.alloc (.cells #[.int .i64 y.1, .int .i64 (-1)] 43) = W3 at *
                      obtain ⟨s0, s1, s2⟩ := HV3.out
                      obtain ⟨z0, z1⟩ := HX3.out
                      have hcell3 := HCELL.out _ HB3.out
                      clear hW3 hn2 HV HB v0 v1 v2 c0 c0' c1'
                      go_quiet (fail)
                      go_wp2_with fail
                      go_loopw [15, 16] (fun s15 s16 wx => s15 = .bool true ∧ s16 = .int .i64 0 ∧ TxnVar wx n1 t (.slice Ax t.writes.length cx) (.slice (some ad3) t.reads.length cy) ∧ Below W.heap.size W wx) (fun _ _ _ => 0)
                      case atStart => exact ⟨rfl, rfl, HV3.out.below (drewN_below _ _), below_drewN HB3.out _⟩
                      case round =>
                        clear HV3 HB3 HX3 s0 s1 s2 z0 z1 hcell3
                        obtain ⟨rfl, rfl, hv, hb⟩ := hrel
                        have HV := Lib.hid hv
                        have HB := Lib.hid hb
                        clear hv hb
                        go_wp2_with fail
                        go_roundw
                        case rel => exact ⟨j + 1, by omega, by go_num, HV.out, HB.out⟩
                        case measure => simp [intOf]; omega
                    · obtain ⟨j1, hj1⟩ : ∃ j1, j = j1 + 1 := ⟨j - 1, by omega⟩
                      have hjt2 : j1 < t.reads.length := by omega
                      obtain ⟨_, e9, _, hI2⟩ := HYS.out j1 hjt2
                      cases e9
                      have p2 : decide (y.1 ≤ (t.reads[j1]'hjt2).1) = false := by have := r2 j1 (by omega); rw [← HY.out] at this; simp; omega
                      have p3 : decide ((0 : Int) < (j : Int)) = true := by simp; omega
                      have p4 : decide (0 < j) = true := by simp; omega
                      have hs1 : IntKind.i64.wrap ((j : Int) - 1) = (j1 : Int) := by rw [IntWalk.i64_in _ (by omega)]; omega
                      have hs2 : (j : Int) - 1 = (j1 : Int) := by omega
                      generalize t.reads[j1]'hjt2 = g at *
                      clear hj1 hj0 r2
                      have HV3 := Lib.hid (HV.out.below (alloc_below wr (.cells #[.int .i64 y.1, .int .i64 (-1)] 43)))
                      have HB3 := Lib.hid (below_all HB.out (alloc_below wr (.cells #[.int .i64 y.1, .int .i64 (-1)] 43)))
                      have HX3 := Lib.hid (two_new wr (.int .i64 y.1) (.int .i64 (-1)) 43)
                      clear hI
                      go_wp2_with fail
                      obtain ⟨n2, hn2⟩ : ∃ n2, n2 = wr.heap.size := ⟨_, rfl⟩
                      rw [← hn2] at HX3 ⊢
                      generalize hW3 : wr.alloc (.cells #[.int .i64 y.1, .int .i64 (-1)] 43) = W3 at *
                      obtain ⟨s0, s1, s2⟩ := HV3.out
                      obtain ⟨z0, z1⟩ := HX3.out
                      have hcell3 := HCELL.out _ HB3.out
                      have k0 := (hI2.below hblk3 HB3.out).c0
                      clear hW3 hn2 HV HB v0 v1 v2 c0 c0' c1'
                      go_quiet (fail)
                      go_wp2_with fail
                      go_loopw [15, 16] (fun s15 s16 wx => s15 = .bool true ∧ s16 = .int .i64 0 ∧ TxnVar wx n1 t (.slice Ax t.writes.length cx) (.slice (some ad3) t.reads.length cy) ∧ Below W.heap.size W wx) (fun _ _ _ => 0)
                      case atStart => exact ⟨rfl, rfl, HV3.out.below (drewN_below _ _), below_drewN HB3.out _⟩
                      case round =>
                        clear HV3 HB3 HX3 s0 s1 s2 z0 z1 hcell3
                        obtain ⟨rfl, rfl, hv, hb⟩ := hrel
                        have HV := Lib.hid hv
                        have HB := Lib.hid hb
                        clear hv hb
                        go_wp2_with fail
                        go_roundw
                        case rel => exact ⟨j + 1, by omega, by go_num, HV.out, HB.out⟩
                        case measure => simp [intOf]; omega
                  · rw [hz] at c1'
                    have p5 : decide ((f : Int) < -1) = false := decide_eq_false (by omega)
                    have p6 : decide ((f : Int) ≥ (ts.length : Int)) = false := decide_eq_false (by omega)
                    have p7 : ((f : Int) == (i : Int)) = false := by rw [beq_eq_false_iff_ne]; omega
                    have p9 : (f == i) = false := by rw [beq_eq_false_iff_ne]; exact hfi
                    have p10 : decide (f ≥ ts.length) = false := decide_eq_false (by omega)
                    have p11 : decide (ts.length ≤ f) = false := decide_eq_false (by omega)
                    have p12 : decide ((ts.length : Int) ≤ (f : Int)) = false := decide_eq_false (by omega)
                    have p8 : decide ((f : Int) < 0) = false := decide_eq_false (by omega)
                    have hf0 : (0 : Int) ≤ (f : Int) := by omega
                    have hf1 : (f : Int) < (ts.length : Int) := by omega
                    obtain ⟨_, xf, yf, ef, hblkf, hTf', hxf, _⟩ := HG.out f hf
                    cases ef
                    have hfl : (ts[f]'hf).writes.length ≤ 4294967296 := (HSM.out.2 _ (List.getElem_mem _)).1
                    obtain ⟨tf, htf⟩ : ∃ tf, tf = ts[f]'hf := ⟨_, rfl⟩
                    rw [← htf] at hTf' hxf hmem hfl
                    obtain ⟨Af, cf, rfl, hnf⟩ := hxf.spelled
                    have hTf := Lib.hid hTf'
                    have HNF := Lib.hid hnf
                    have HMEM := Lib.hid hmem
                    clear hz hTf' hnf hxf hmem hfi htf
                    by_cases hj0 : j = 0
                    · have p3 : decide ((0 : Int) < (j : Int)) = false := decide_eq_false (by omega)
                      have p4 : decide (0 < j) = false := decide_eq_false (by omega)
                      clear hj0 r2
                      have HV3 := Lib.hid (HV.out.below (alloc_below wr (.cells #[.int .i64 y.1, .int .i64 (f : Int)] 43)))
                      have HB3 := Lib.hid (below_all HB.out (alloc_below wr (.cells #[.int .i64 y.1, .int .i64 (f : Int)] 43)))
                      have HX3 := Lib.hid (two_new wr (.int .i64 y.1) (.int .i64 (f : Int)) 43)
                      clear hI
                      go_wp2_with fail
                      obtain ⟨n2, hn2⟩ : ∃ n2, n2 = wr.heap.size := ⟨_, rfl⟩
                      rw [← hn2] at HX3 ⊢
                      generalize hW3 : wr.alloc (.cells #[.int .i64 y.1, .int .i64 (f : Int)] 43) = W3 at *
                      obtain ⟨s0, s1, s2⟩ := HV3.out
                      obtain ⟨z0, z1⟩ := HX3.out
                      have hcell3 := HCELL.out _ HB3.out
                      clear hW3 hn2 HV HB v0 v1 v2 c0 c0' c1'
                      go_quiet (fail)
                      go_wp2_with fail
                      go_loopw [15, 16] (fun s15 s16 wx => ∃ (b : Bool) (m : Nat), m ≤ tf.writes.length ∧ s15 = .bool b ∧ s16 = .int .i64 m ∧ Hid (b = false → ∀ a (ha : a < tf.writes.length), a < m → tf.writes[a] ≠ y.1) ∧ TxnVar wx n1 t (.slice Ax t.writes.length cx) (.slice (some ad3) t.reads.length cy) ∧ Two wx n2 (.int .i64 y.1) (.int .i64 (f : Int)) ∧ Below W.heap.size W wx) (fun _ i _ => tf.writes.length - (intOf i).toNat)
                      case atStart => exact ⟨false, 0, Nat.zero_le _, rfl, rfl, (fun _ a _ h => absurd h (by omega)), HV3.out.below (drewN_below _ _), HX3.out.below (drewN_below _ _), below_drewN HB3.out _⟩
                      case round =>
                        clear HV3 HB3 HX3 s0 s1 s2 z0 z1 hcell3
                        obtain ⟨b, m, hm, rfl, rfl, hno, hv, hx, hb⟩ := hrel
                        have HV := Lib.hid hv
                        have HB := Lib.hid hb
                        have HX := Lib.hid hx
                        obtain ⟨z0, z1⟩ := hx
                        have hcell := HCELL.out _ hb
                        obtain ⟨_, f1, _⟩ := hTf.out.below hblkf hb
                        clear hv hb
                        cases b with
                        | true =>
                          go_wp2_with fail
                          go_roundw
                          case rel => exact ⟨j + 1, by omega, by go_num, HV.out, HB.out⟩
                          case measure => simp [intOf]; omega
                        | false =>
                          have hmlt : m < tf.writes.length := by
                            rcases Nat.lt_or_ge m tf.writes.length with h | h
                            · exact h
                            · obtain ⟨a, ha, hae⟩ := List.getElem_of_mem HMEM.out
                              exact absurd hae (hno.out rfl a ha (by omega))
                          obtain ⟨ad5, rfl, hblk5, hc5⟩ := HNF.out m hmlt
                          have g5 := (HB.out.cell (p := ad5.add m) (by rw [add_block]; exact hblk5)).trans hc5
                          have hm0' : (0 : Int) ≤ (m : Int) := by omega
                          have hm1' : (m : Int) < (tf.writes.length : Int) := by omega
                          have HST : Hid ((tf.writes[m] == y.1) = false → ∀ a (ha : a < tf.writes.length), a < m + 1 → tf.writes[a] ≠ y.1) := fun h a ha ham => by
                            by_cases e : a = m
                            · subst e; exact beq_eq_false_iff_ne.1 h
                            · exact hno.out rfl a ha (by omega)
                          obtain ⟨val, hval⟩ : ∃ val, val = tf.writes[m]'hmlt := ⟨_, rfl⟩
                          rw [← hval] at g5 HST
                          clear hc5 hval
                          cases hbb : (val == y.1) with
                          | true =>
                            clear HST
                            go_wp2_with fail
                            go_quiet (fail)
                            go_wp2_with fail
                            go_roundw
                            case rel => exact ⟨true, m + 1, by omega, rfl, by go_num, (fun h => by cases h), HV.out.below (drewN_below _ _), HX.out.below (drewN_below _ _), below_drewN HB.out _⟩
                            case measure => simp [intOf]; omega
                          | false =>
                            have HS2 := Lib.hid (HST.out hbb)
                            clear HST
                            go_wp2_with fail
                            go_quiet (fail)
                            go_wp2_with fail
                            go_roundw
                            case rel => exact ⟨false, m + 1, by omega, rfl, by go_num, (fun _ => HS2.out), HV.out.below (drewN_below _ _), HX.out.below (drewN_below _ _), below_drewN HB.out _⟩
                            case measure => simp [intOf]; omega
                    · obtain ⟨j1, hj1⟩ : ∃ j1, j = j1 + 1 := ⟨j - 1, by omega⟩
                      have hjt2 : j1 < t.reads.length := by omega
                      obtain ⟨_, e9, _, hI2⟩ := HYS.out j1 hjt2
                      cases e9
                      have p2 : decide (y.1 ≤ (t.reads[j1]'hjt2).1) = false := by have := r2 j1 (by omega); rw [← HY.out] at this; simp; omega
                      have p3 : decide ((0 : Int) < (j : Int)) = true := by simp; omega
                      have p4 : decide (0 < j) = true := by simp; omega
                      have hs1 : IntKind.i64.wrap ((j : Int) - 1) = (j1 : Int) := by rw [IntWalk.i64_in _ (by omega)]; omega
                      have hs2 : (j : Int) - 1 = (j1 : Int) := by omega
                      generalize t.reads[j1]'hjt2 = g at *
                      clear hj1 hj0 r2
                      have HV3 := Lib.hid (HV.out.below (alloc_below wr (.cells #[.int .i64 y.1, .int .i64 (f : Int)] 43)))
                      have HB3 := Lib.hid (below_all HB.out (alloc_below wr (.cells #[.int .i64 y.1, .int .i64 (f : Int)] 43)))
                      have HX3 := Lib.hid (two_new wr (.int .i64 y.1) (.int .i64 (f : Int)) 43)
                      clear hI
                      go_wp2_with fail
                      obtain ⟨n2, hn2⟩ : ∃ n2, n2 = wr.heap.size := ⟨_, rfl⟩
                      rw [← hn2] at HX3 ⊢
                      generalize hW3 : wr.alloc (.cells #[.int .i64 y.1, .int .i64 (f : Int)] 43) = W3 at *
                      obtain ⟨s0, s1, s2⟩ := HV3.out
                      obtain ⟨z0, z1⟩ := HX3.out
                      have hcell3 := HCELL.out _ HB3.out
                      have k0 := (hI2.below hblk3 HB3.out).c0
                      clear hW3 hn2 HV HB v0 v1 v2 c0 c0' c1'
                      go_quiet (fail)
                      go_wp2_with fail
                      go_loopw [15, 16] (fun s15 s16 wx => ∃ (b : Bool) (m : Nat), m ≤ tf.writes.length ∧ s15 = .bool b ∧ s16 = .int .i64 m ∧ Hid (b = false → ∀ a (ha : a < tf.writes.length), a < m → tf.writes[a] ≠ y.1) ∧ TxnVar wx n1 t (.slice Ax t.writes.length cx) (.slice (some ad3) t.reads.length cy) ∧ Two wx n2 (.int .i64 y.1) (.int .i64 (f : Int)) ∧ Below W.heap.size W wx) (fun _ i _ => tf.writes.length - (intOf i).toNat)
                      case atStart => exact ⟨false, 0, Nat.zero_le _, rfl, rfl, (fun _ a _ h => absurd h (by omega)), HV3.out.below (drewN_below _ _), HX3.out.below (drewN_below _ _), below_drewN HB3.out _⟩
                      case round =>
                        clear HV3 HB3 HX3 s0 s1 s2 z0 z1 hcell3
                        obtain ⟨b, m, hm, rfl, rfl, hno, hv, hx, hb⟩ := hrel
                        have HV := Lib.hid hv
                        have HB := Lib.hid hb
                        have HX := Lib.hid hx
                        obtain ⟨z0, z1⟩ := hx
                        have hcell := HCELL.out _ hb
                        obtain ⟨_, f1, _⟩ := hTf.out.below hblkf hb
                        clear hv hb
                        cases b with
                        | true =>
                          go_wp2_with fail
                          go_roundw
                          case rel => exact ⟨j + 1, by omega, by go_num, HV.out, HB.out⟩
                          case measure => simp [intOf]; omega
                        | false =>
                          have hmlt : m < tf.writes.length := by
                            rcases Nat.lt_or_ge m tf.writes.length with h | h
                            · exact h
                            · obtain ⟨a, ha, hae⟩ := List.getElem_of_mem HMEM.out
                              exact absurd hae (hno.out rfl a ha (by omega))
                          obtain ⟨ad5, rfl, hblk5, hc5⟩ := HNF.out m hmlt
                          have g5 := (HB.out.cell (p := ad5.add m) (by rw [add_block]; exact hblk5)).trans hc5
                          have hm0' : (0 : Int) ≤ (m : Int) := by omega
                          have hm1' : (m : Int) < (tf.writes.length : Int) := by omega
                          have HST : Hid ((tf.writes[m] == y.1) = false → ∀ a (ha : a < tf.writes.length), a < m + 1 → tf.writes[a] ≠ y.1) := fun h a ha ham => by
                            by_cases e : a = m
                            · subst e; exact beq_eq_false_iff_ne.1 h
                            · exact hno.out rfl a ha (by omega)
                          obtain ⟨val, hval⟩ : ∃ val, val = tf.writes[m]'hmlt := ⟨_, rfl⟩
                          rw [← hval] at g5 HST
                          clear hc5 hval
                          cases hbb : (val == y.1) with
                          | true =>
                            clear HST
                            go_wp2_with fail
                            go_quiet (fail)
                            go_wp2_with fail
                            go_roundw
                            case rel => exact ⟨true, m + 1, by omega, rfl, by go_num, (fun h => by cases h), HV.out.below (drewN_below _ _), HX.out.below (drewN_below _ _), below_drewN HB.out _⟩
                            case measure => simp [intOf]; omega
                          | false =>
                            have HS2 := Lib.hid (HST.out hbb)
                            clear HST
                            go_wp2_with fail
                            go_quiet (fail)
                            go_wp2_with fail
                            go_roundw
                            case rel => exact ⟨false, m + 1, by omega, rfl, by go_num, (fun _ => HS2.out), HV.out.below (drewN_below _ _), HX.out.below (drewN_below _ _), below_drewN HB.out _⟩
                            case measure => simp [intOf]; omega
                · go_wp2_with fail
                  go_roundw
                  case rel => exact ⟨i + 1, by omega, by go_num, HB.out⟩
                  case measure => simp [intOf]; omega
        · have hqq : ((ts.length : Int) == (ts.length : Int)) = true := by simp
          go_wp2_with fail
          go_ret
          exact ⟨rfl, below_all B2.out HB.out⟩
end Go.Proofs.Ytodahdnooidmaaa
