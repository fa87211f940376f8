/-
  SourceNames answers true for every row of transactions and every number: with all values but 0 others, that are told apart as they were, all is the same; the transactions stay as they were.
  Conditions: none.
-/
import Derived.Test.YtodahdnooidmaaaSoGone
import Derived.Test.YtodahdnooidmaaaSoNames
set_option maxRecDepth 4000
namespace Go.Proofs.Ytodahdnooidmaaa
open Go.RowKit

theorem four_get {w : World} {b : Nat} {x0 x1 x2 x3 : Value} {t : TypeId} (h : w.heap[b]? = some (.cells #[x0, x1, x2, x3] t (0, 0))) : w.cell? ⟨b, 0, none⟩ = some x0 ∧ w.cell? ⟨b, 1, none⟩ = some x1 ∧ w.cell? ⟨b, 2, none⟩ = some x2 ∧ w.cell? ⟨b, 3, none⟩ = some x3 ∧ w.frozen? ⟨b, 3, none⟩ = false := by
  refine ⟨?_, ?_, ?_, ?_, ?_⟩
  · simp [World.cell?, h]
  · simp [World.cell?, h]
  · simp [World.cell?, h]
  · simp [World.cell?, h]
  · simp [World.frozen?, h]
theorem four_last {w : World} {b : Nat} {x0 x1 x2 x3 : Value} {t : TypeId} (h : w.heap[b]? = some (.cells #[x0, x1, x2, x3] t (0, 0))) (x : Value) : (w.setCell ⟨b, 3, none⟩ x).heap[b]? = some (.cells #[x0, x1, x2, x] t (0, 0)) := by
  simp [World.setCell, Array.getElem?_modify, h]
/-- A row of transactions of the call's own whose ops are rows of its own. -/
structure OwnOther (w : World) (base : Nat) (v : Value) (q : List (Gr.Tx × Value)) : Prop where
  row : w.ownsRow base 37 4 v q.length (q.flatMap txC)
  ops : ∀ x ∈ q, w.ownsRow base 45 4 x.2 x.1.ops.length (x.1.ops.flatMap evCells)
theorem OwnOther.nil (w : World) (base : Nat) : OwnOther w base (.slice none 0 0) [] := ⟨World.ownsRow_nil _ _ _ _, fun _ hx => (List.not_mem_nil hx).elim⟩
theorem OwnOther.below {w w' : World} {base : Nat} {v : Value} {q : List (Gr.Tx × Value)} (h : OwnOther w base v q) (hb : Below w.heap.size w w') : OwnOther w' base v q := ⟨own_below h.row hb, fun x hx => own_below (h.ops x hx) hb⟩
theorem OwnOther.txs {w : World} {base : Nat} {v : Value} {q : List (Gr.Tx × Value)} (h : OwnOther w base v q) : Txs w v (q.map (·.1)) := ⟨q, rfl, Sl.own h.row, fun x hx => Evs.own (h.ops x hx)⟩
theorem OwnOther.snoc {w w' : World} {base : Nat} {v v' : Value} {q : List (Gr.Tx × Value)} {x : Gr.Tx × Value} (h : OwnOther w base v q) (hx : w.ownsRow base 45 4 x.2 x.1.ops.length (x.1.ops.flatMap evCells))
    (hrow : w'.ownsRow base 37 4 v' (q.length + 1) (q.flatMap txC ++ txC x)) (hg : w.grownBy w' v.ownBlock) : OwnOther w' base v' (q ++ [x]) := by
  refine ⟨Rows'.own_snoc hrow, fun y hy => ?_⟩
  rcases List.mem_append.1 hy with hy | hy
  · exact (h.ops y hy).kept hg (own_types (h.ops y hy) h.row (by decide))
  · rw [List.mem_singleton.1 hy]
    exact hx.kept hg (own_types hx h.row (by decide))
/-- While one transaction's ops are laid anew: its variable's block, and the row so far. -/
structure OtherMid (wr wx : World) (t : Gr.Tx) (d : Int) (m : Nat) (V : Value) : Prop where
  cell : wx.heap[wr.heap.size]? = some (.cells #[.int .i64 t.session, .bool t.done, .int .i64 t.first, V] 37 (0, 0))
  row : wx.ownsRow (wr.heap.size + 1) 45 4 V ((t.ops.take m).map (So.ren (So.shift d))).length (((t.ops.take m).map (So.ren (So.shift d))).flatMap evCells)
  below : Below wr.heap.size wr wx
theorem OtherMid.later {wr wx w' : World} {t : Gr.Tx} {d : Int} {m : Nat} {V : Value} (h : OtherMid wr wx t d m V) (hb : Below wx.heap.size wx w') : OtherMid wr w' t d m V :=
  ⟨(hb.block _ (lt_of_block h.cell)).trans h.cell, own_below h.row hb, below_all h.below hb⟩
theorem OtherMid.more {wr wx w3 : World} {t : Gr.Tx} {d : Int} {m : Nat} {V V' : Value} (h : OtherMid wr wx t d m V) (hm : m < t.ops.length)
    (hrow : w3.ownsRow (wr.heap.size + 1) 45 4 V' (((t.ops.take m).map (So.ren (So.shift d))).length + 1) (((t.ops.take m).map (So.ren (So.shift d))).flatMap evCells ++ evCells (So.ren (So.shift d) t.ops[m]))) (hg : wx.grownBy w3 V.ownBlock) :
    OtherMid wr (w3.setCell ⟨wr.heap.size, 3, none⟩ V') t d (m + 1) V' := by
  have hne : some wr.heap.size ≠ V.ownBlock := fun e => by
    have := (h.row.lt _ e.symm).1
    omega
  have hc : w3.heap[wr.heap.size]? = some (.cells #[.int .i64 t.session, .bool t.done, .int .i64 t.first, V] 37 (0, 0)) := (hg.block _ (lt_of_block h.cell) hne).trans h.cell
  refine ⟨four_last hc V', ?_, ?_⟩
  · have e : (t.ops.take (m + 1)).map (So.ren (So.shift d)) = (t.ops.take m).map (So.ren (So.shift d)) ++ [So.ren (So.shift d) t.ops[m]] := by rw [List.take_succ_eq_append_getElem hm, List.map_append]; rfl
    rw [e]
    exact ownsRow_setCell_below (Evs.own_snoc hrow) (by show wr.heap.size < wr.heap.size + 1; omega) _
  · exact (h.below.grown hg h.below.size (fun j hj => by have := (h.row.lt j hj).1; omega)).setCell (Nat.le_refl _) _
theorem other_start (wr : World) (t : Gr.Tx) (d : Int) : OtherMid wr (wr.alloc (.cells #[.int .i64 t.session, .bool t.done, .int .i64 t.first, .slice none 0 0] 37)) t d 0 (.slice none 0 0) :=
  ⟨heap_alloc_new _ _, World.ownsRow_nil _ _ _ _, alloc_below _ _⟩
theorem ren_pos (d : Int) (x : Ev.Event) (h : 0 < x.value) : So.ren (So.shift d) x = ⟨x.kind, x.session, x.key, x.value + d⟩ := by rw [So.ren, So.shift, if_pos h]
theorem ren_non (d : Int) (x : Ev.Event) (h : ¬ 0 < x.value) : So.ren (So.shift d) x = ⟨x.kind, x.session, x.key, x.value⟩ := by rw [So.ren, So.shift, if_neg h]
/-- What stands behind the append: the variable's last cell may be written. -/
theorem OtherMid.free {wr wx w3 : World} {t : Gr.Tx} {d : Int} {m : Nat} {V : Value} (h : OtherMid wr wx t d m V) (hg : wx.grownBy w3 V.ownBlock) : w3.cell? ⟨wr.heap.size, 3, none⟩ = some V ∧ w3.frozen? ⟨wr.heap.size, 3, none⟩ = false := by
  have hne : some wr.heap.size ≠ V.ownBlock := fun e => by
    have := (h.row.lt _ e.symm).1
    omega
  have := four_get ((hg.block _ (lt_of_block h.cell) hne).trans h.cell)
  exact ⟨this.2.2.2.1, this.2.2.2.2⟩
set_option maxHeartbeats 4000000 in
theorem lawSourceNames (l : List Gr.Tx) (v : Value) (d : Int) (w : World) (hv : Txs w v l) : Calls Try.prog 5 #[v, .int .i64 d] w (RetBool w true) := by
  obtain ⟨j0, hi0, hz0, hz1, hz2⟩ := info_parts gtx_info
  have J0 := Lib.hid hi0
  have J1 := Lib.hid hz0
  have J2 := Lib.hid hz1
  have J3 := Lib.hid hz2
  clear hi0 hz0 hz1 hz2
  obtain ⟨i0, hi0, hz0, hz1, hz2⟩ := info_parts ev_info
  have I0 := Lib.hid hi0
  have I1 := Lib.hid hz0
  have I2 := Lib.hid hz1
  have I3 := Lib.hid hz2
  clear hi0 hz0 hz1 hz2
  have V0 := Lib.hid hv
  obtain ⟨A, c, rfl, _⟩ := hv.spelled
  clear hv
  go_enter Try.func5, Try.ntmps5
  go_wp2_with fail
  refine (soAwake_at w).mono ?_
  rintro e w1 ⟨rfl, hb1⟩
  have V1 := Lib.hid (V0.out.below hb1)
  have B1 := Lib.hid hb1
  clear hb1 V0
  go_wp2_with fail
  refine (few_at l _ _ V1.out).mono ?_
  rintro e w1' ⟨rfl, rfl⟩
  cases hfew : fewB l with
  | false =>
    go_wp2_with fail
    go_ret
    exact ⟨rfl, B1.out⟩
  | true =>
  obtain ⟨h40, ho40⟩ := (fewB_iff l).1 hfew
  have HL : Hid (l.length ≤ 4294967296) := by rw [Hid]; omega
  have HO : Hid (∀ t ∈ l, t.ops.length ≤ 4294967296) := fun t ht => by have := ho40 t ht; omega
  have HO40 := Lib.hid ho40
  clear hfew ho40
  by_cases hd0 : d < 0
  · have q0 : decide (d < 0) = true := by simpa using hd0
    clear hd0
    go_wp2_with fail
    go_ret
    exact ⟨rfl, B1.out⟩
  have q0 : decide (d < 0) = false := by simpa using hd0
  by_cases hd1 : 1000000 < d
  · have q1 : decide ((1000000 : Int) < d) = true := by simpa using hd1
    clear hd0 hd1
    go_wp2_with fail
    go_ret
    exact ⟨rfl, B1.out⟩
  have q1 : decide ((1000000 : Int) < d) = false := by simpa using hd1
  have hdb0 : 0 ≤ d := by omega
  have hdb1 : d ≤ 1000000 := by omega
  clear hd0 hd1
  obtain ⟨_, _, hve, hform⟩ := V1.out.spelled
  cases hve
  have HF := Lib.hid hform
  clear hform
  go_wp2_with fail
  go_loopw [7, 8] (fun v i wr => ∃ (k : Nat) (q : List (Gr.Tx × Value)), k ≤ l.length ∧ i = .int .i64 k ∧ q.map (·.1) = (l.take k).map (So.renT (So.shift d)) ∧ OwnOther wr w1.heap.size v q ∧ Below w1.heap.size w1 wr) (fun _ i _ => l.length - (intOf i).toNat)
  case atStart => exact ⟨0, [], Nat.zero_le _, rfl, rfl, OwnOther.nil _ _, Below.refl _ _⟩
  case round =>
    obtain ⟨k, q, hk, rfl, hsame, hown, hb⟩ := hrel
    have HOW := Lib.hid hown
    have HB := Lib.hid hb
    have HSA := Lib.hid hsame
    obtain ⟨A3, c3, rfl⟩ := own_form hown.row
    have hql : q.length ≤ 40 := by
      have := congrArg List.length hsame
      rw [List.length_map, List.length_map, List.length_take] at this
      omega
    clear hown hb hsame
    by_cases hlt : k < l.length
    · obtain ⟨ad, u, rfl, hblk, hT, hU⟩ := HF.out k hlt
      have HTK : Hid ((l.take (k + 1)).map (So.renT (So.shift d)) = (l.take k).map (So.renT (So.shift d)) ++ [So.renT (So.shift d) (l[k]'hlt)]) := by rw [Hid, List.take_succ_eq_append_getElem hlt, List.map_append]; rfl
      obtain ⟨t, ht⟩ : ∃ t, t = l[k]'hlt := ⟨_, rfl⟩
      have hol : t.ops.length ≤ 40 := by rw [ht]; exact HO40.out _ (List.getElem_mem _)
      rw [← ht] at hT hU HTK
      obtain ⟨Au, cu, rfl, hev⟩ := hU.spelled
      have HE := Lib.hid hev
      have HTI := Lib.hid hT
      obtain ⟨k0, k1, k2, k3⟩ := hT.below hblk HB.out
      have HST := Lib.hid (other_start wr t d)
      clear hT hU ht hev
      go_wp2_with fail
      obtain ⟨wq, rfl⟩ : ∃ wq, wq = wr := ⟨_, rfl⟩
      go_loopw [10] (fun i wx => ∃ (m : Nat) (V : Value), m ≤ t.ops.length ∧ i = .int .i64 m ∧ OtherMid wq wx t d m V) (fun i _ => t.ops.length - (intOf i).toNat)
      case atStart => exact ⟨0, _, Nat.zero_le _, rfl, HST.out⟩
      case round =>
        obtain ⟨m, V, hm, rfl, hmid⟩ := hrel
        have HM := Lib.hid hmid
        obtain ⟨AV, nV, cV, rfl⟩ := own_any hmid.row
        clear hmid HST
        have HBW := Lib.hid (below_all HB.out HM.out.below)
        obtain ⟨h0, h1, h2, h3⟩ := HTI.out.below hblk HBW.out
        by_cases hmt : m < t.ops.length
        · obtain ⟨ad2, rfl, hblk2, hE2⟩ := HE.out m hmt
          obtain ⟨x, hx⟩ : ∃ x, x = t.ops[m]'hmt := ⟨_, rfl⟩
          rw [← hx] at hE2
          obtain ⟨e0, e1, e2, e3⟩ := hE2.below hblk2 HBW.out
          have HX := Lib.hid hx
          clear hE2 hx
          by_cases hv0 : x.value < 0
          · have p0 : decide (x.value < 0) = true := by simpa using hv0
            clear hv0
            go_wp2_with fail
            go_ret
            exact ⟨rfl, below_all B1.out (below_all HBW.out (alloc_below _ _))⟩
          have p0 : decide (x.value < 0) = false := by simpa using hv0
          by_cases hv1 : 1000000 < x.value
          · have p1 : decide ((1000000 : Int) < x.value) = true := by simpa using hv1
            clear hv0 hv1
            go_wp2_with fail
            go_ret
            exact ⟨rfl, below_all B1.out (below_all HBW.out (alloc_below _ _))⟩
          have p1 : decide ((1000000 : Int) < x.value) = false := by simpa using hv1
          by_cases hv2 : 0 < x.value
          · have p2 : decide (0 < x.value) = true := by simpa using hv2
            have hwr : IntKind.i64.wrap (x.value + d) = x.value + d := IntWalk.i64_in _ (by omega)
            have HRN := Lib.hid (ren_pos d x hv2)
            clear hv0 hv1 hv2
            have HM2 := Lib.hid ((HM.out.later (alloc_below wr (.cells #[.int .i64 x.kind, .int .i64 x.session, .int .i64 x.key, .int .i64 (x.value + d)] 45))).later (alloc_below _ (.cells #[.int .i64 x.kind, .int .i64 x.session, .int .i64 x.key, .int .i64 (x.value + d)] 45)))
            have HNE := Lib.hid (new_ev2 wr (.cells #[.int .i64 x.kind, .int .i64 x.session, .int .i64 x.key, .int .i64 (x.value + d)] 45) ⟨x.kind, x.session, x.key, (x.value + d)⟩ 45)
            have hb3 : wq.heap.size + 1 ≤ ((wr.alloc (.cells #[.int .i64 x.kind, .int .i64 x.session, .int .i64 x.key, .int .i64 (x.value + d)] 45)).alloc (.cells #[.int .i64 x.kind, .int .i64 x.session, .int .i64 x.key, .int .i64 (x.value + d)] 45)).heap.size := lt_of_block HM2.out.cell
            have g3 := (four_get (HM.out.later (alloc_below wr (.cells #[.int .i64 x.kind, .int .i64 x.session, .int .i64 x.key, .int .i64 (x.value + d)] 45))).cell).2.2.2.1
            have HMO := Lib.hid (fun (w3 : World) (V' : Value) => HM2.out.more (w3 := w3) (V' := V') hmt)
            rw [← HX.out, HRN.out] at HMO
            go_wp2_with (at_builtin; refine wpList_append_own_at _ rfl _ _ 35 rfl (wq.heap.size + 1) 45 i0 _ 4 32 Try.underlying35 I0.out I1.out I2.out I3.out rfl (by decide) _ _ _ rfl HM2.out.row ⟨wr.heap.size + 1, 0, none⟩ 1 1 (evCells ⟨x.kind, x.session, x.key, (x.value + d)⟩) rfl rfl HNE.out (one_evs _) (by rw [List.length_map, List.length_take]; simp only [maxLen]; omega) (by rw [List.length_map, List.length_take]; omega) hb3 ?_; intro v4 w4 hown4 hgrow4 hnil4 hat4; have HN4 := Lib.hid (HMO.out w4 v4 hown4 hgrow4); obtain ⟨e4, f4⟩ := HM2.out.free hgrow4; obtain ⟨A4, n4, c4, rfl⟩ := own_any hown4; clear hown4 hgrow4 hnil4 hat4)
            go_roundw
            case rel => exact ⟨m + 1, _, by omega, by go_num, HN4.out⟩
            case measure => simp [intOf]; omega
          · have p2 : decide (0 < x.value) = false := by simpa using hv2
            have HRN := Lib.hid (ren_non d x hv2)
            clear hv0 hv1 hv2
            have HM2 := Lib.hid ((HM.out.later (alloc_below wr (.cells #[.int .i64 x.kind, .int .i64 x.session, .int .i64 x.key, .int .i64 x.value] 45))).later (alloc_below _ (.cells #[.int .i64 x.kind, .int .i64 x.session, .int .i64 x.key, .int .i64 x.value] 45)))
            have HNE := Lib.hid (new_ev2 wr (.cells #[.int .i64 x.kind, .int .i64 x.session, .int .i64 x.key, .int .i64 x.value] 45) ⟨x.kind, x.session, x.key, x.value⟩ 45)
            have hb3 : wq.heap.size + 1 ≤ ((wr.alloc (.cells #[.int .i64 x.kind, .int .i64 x.session, .int .i64 x.key, .int .i64 x.value] 45)).alloc (.cells #[.int .i64 x.kind, .int .i64 x.session, .int .i64 x.key, .int .i64 x.value] 45)).heap.size := lt_of_block HM2.out.cell
            have g3 := (four_get (HM.out.later (alloc_below wr (.cells #[.int .i64 x.kind, .int .i64 x.session, .int .i64 x.key, .int .i64 x.value] 45))).cell).2.2.2.1
            have HMO := Lib.hid (fun (w3 : World) (V' : Value) => HM2.out.more (w3 := w3) (V' := V') hmt)
            rw [← HX.out, HRN.out] at HMO
            go_wp2_with (at_builtin; refine wpList_append_own_at _ rfl _ _ 35 rfl (wq.heap.size + 1) 45 i0 _ 4 32 Try.underlying35 I0.out I1.out I2.out I3.out rfl (by decide) _ _ _ rfl HM2.out.row ⟨wr.heap.size + 1, 0, none⟩ 1 1 (evCells ⟨x.kind, x.session, x.key, x.value⟩) rfl rfl HNE.out (one_evs _) (by rw [List.length_map, List.length_take]; simp only [maxLen]; omega) (by rw [List.length_map, List.length_take]; omega) hb3 ?_; intro v4 w4 hown4 hgrow4 hnil4 hat4; have HN4 := Lib.hid (HMO.out w4 v4 hown4 hgrow4); obtain ⟨e4, f4⟩ := HM2.out.free hgrow4; obtain ⟨A4, n4, c4, rfl⟩ := own_any hown4; clear hown4 hgrow4 hnil4 hat4)
            go_roundw
            case rel => exact ⟨m + 1, _, by omega, by go_num, HN4.out⟩
            case measure => simp [intOf]; omega
        · have HTA : Hid (t.ops.take m = t.ops) := List.take_of_length_le (by omega)
          obtain ⟨x0, x1, x2, x3, _⟩ := four_get HM.out.cell
          have HRW : Hid (wr.ownsRow w1.heap.size 45 4 (.slice AV nV cV) (So.renT (So.shift d) t).ops.length ((So.renT (So.shift d) t).ops.flatMap evCells)) := by
            have := HM.out.row.mono (base' := w1.heap.size) (Nat.le_trans HB.out.size (Nat.le_succ _))
            rw [HTA.out] at this
            exact this
          have HOT := Lib.hid ((HOW.out.below HM.out.below).below (alloc_below wr (.cells #[.int .i64 t.session, .bool t.done, .int .i64 t.first, .slice AV nV cV] 37)))
          have HRA := Lib.hid (HRW.out.alloc (.cells #[.int .i64 t.session, .bool t.done, .int .i64 t.first, .slice AV nV cV] 37))
          have HBA := Lib.hid (below_all HBW.out (alloc_below wr (.cells #[.int .i64 t.session, .bool t.done, .int .i64 t.first, .slice AV nV cV] 37)))
          have HNT := Lib.hid (new_tx wr (So.renT (So.shift d) t) (.slice AV nV cV) 37)
          go_wp2_with (at_builtin; refine wpList_append_own_at _ rfl _ _ 22 rfl w1.heap.size 37 j0 _ 4 48 Try.underlying22 J0.out J1.out J2.out J3.out rfl (by decide) _ q.length _ rfl HOT.out.row ⟨wr.heap.size, 0, none⟩ 1 1 (txC (So.renT (So.shift d) t, .slice AV nV cV)) rfl rfl HNT.out (one_txc _ _ _ _) (by simp only [maxLen]; omega) (by omega) HBA.out.size ?_; intro v5 w5 hown5 hgrow5 hnil5 hat5; have HN5 := Lib.hid (HOT.out.snoc (x := (So.renT (So.shift d) t, .slice AV nV cV)) HRA.out hown5 hgrow5); have HB5 := Lib.hid (below_append HBA.out HBA.out.size HOT.out.row hgrow5); clear hown5 hgrow5 hnil5 hat5)
          go_roundw
          case rel => exact ⟨k + 1, _, by omega, by go_num, by rw [HTK.out, List.map_append, HSA.out]; rfl, HN5.out, HB5.out⟩
          case measure => simp [intOf]; omega
    · have HTX : Hid (Txs wr (.slice A3 q.length c3) (l.map (So.renT (So.shift d)))) := by
        have := HOW.out.txs
        rw [HSA.out, List.take_of_length_le (by omega)] at this
        exact this
      have HVW := Lib.hid (V1.out.below HB.out)
      have BW := Lib.hid (below_all B1.out HB.out)
      have HL2 : Hid ((l.map (So.renT (So.shift d))).length ≤ 4294967296 ∧ ∀ t ∈ l.map (So.renT (So.shift d)), t.ops.length ≤ 4294967296) := by
        refine ⟨by rw [List.length_map]; exact HL.out, fun t ht => ?_⟩
        obtain ⟨y, hy, rfl⟩ := List.mem_map.1 ht
        show (y.ops.map _).length ≤ _
        rw [List.length_map]
        exact HO.out y hy
      have HREN := Lib.hid (So.hist_ren (So.shift_inj d hdb0) (So.shift_zero d) l)
      have HSM := Lib.hid (So.hist_small l)
      clear HOW HB HSA HF V1 B1
      go_wp2_with fail
      refine (hist_at l _ _ HVW.out HL.out HO.out).mono ?_
      rintro e w5 ⟨v5, rfl, hs5, hb5⟩
      obtain ⟨A5, c5, rfl, _⟩ := hs5.spelled
      have hb5' := below_all hb5 (alloc_below w5 (.cells #[.slice A5 (So.histR l).1.length c5] 27))
      have S5 := Lib.hid (hs5.below (alloc_below w5 (.cells #[.slice A5 (So.histR l).1.length c5] 27)))
      have N5 := Lib.hid (heap_alloc_new w5 (.cells #[.slice A5 (So.histR l).1.length c5] 27))
      have T5 := Lib.hid (HTX.out.below hb5')
      have B5 := Lib.hid (below_all BW.out hb5')
      clear hs5 hb5 hb5' HTX HVW BW
      go_wp2_with fail
      refine (hist_at (l.map (So.renT (So.shift d))) _ _ T5.out HL2.out.1 HL2.out.2).mono ?_
      rintro e w6 ⟨v6, rfl, hs6, hb6⟩
      obtain ⟨A6, c6, rfl, _⟩ := hs6.spelled
      have hW6 := alloc_below w6 (.cells #[.slice A6 (So.histR (l.map (So.renT (So.shift d)))).1.length c6] 27)
      have S6 := Lib.hid ((S5.out.below hb6).below hW6)
      have T6 := Lib.hid (hs6.below hW6)
      have d6 := (one_cell ((hW6.block _ (Nat.lt_of_lt_of_le (lt_of_block N5.out) hb6.size)).trans ((hb6.block _ (lt_of_block N5.out)).trans N5.out))).1
      have B6 := Lib.hid (below_all (below_all B5.out hb6) hW6)
      clear hs6 hb6 hW6 S5 N5 T5 B5
      by_cases ha : (So.histR l).2.2 = 1
      · have qa : ((So.histR l).2.2 == 1) = true := by rw [ha]; rfl
        clear ha
        go_wp2_with fail
        go_ret
        exact ⟨rfl, B6.out⟩
      have qa : ((So.histR l).2.2 == 1) = false := by rw [beq_eq_false_iff_ne]; exact ha
      by_cases hb : (So.histR (l.map (So.renT (So.shift d)))).2.2 = 1
      · have qb : ((So.histR (l.map (So.renT (So.shift d)))).2.2 == 1) = true := by rw [hb]; rfl
        clear ha hb
        go_wp2_with fail
        go_ret
        exact ⟨rfl, B6.out⟩
      have heq := HREN.out ha hb
      rw [heq] at T6 B6 S6 d6 ⊢
      clear heq hb ha HREN
      generalize So.histR l = r at *
      obtain ⟨ts, n, e⟩ := r
      dsimp only at *
      have qn : (n == n) = true := by simp
      have qe : (e == e) = true := by simp
      go_wp2_with fail
      refine (rSame7_at ts _ _ _ S6.out T6.out HSM.out.1 HSM.out.2).mono ?_
      rintro e' w7 ⟨rfl, hb7⟩
      have B7 := Lib.hid (below_all B6.out hb7)
      clear hb7 d6
      go_wp2_with fail
      go_ret
      exact ⟨rfl, B7.out⟩
end Go.Proofs.Ytodahdnooidmaaa
