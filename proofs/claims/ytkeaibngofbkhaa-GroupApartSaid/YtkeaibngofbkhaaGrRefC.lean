/-
  The reference's row of transactions beside its row of what is open: that both agree with the transactions that have begun, and go on agreeing when one begins, gets an op, or is closed; and what the reference's Events answers: Gr.eventsR. What was in memory stays as it was.
  Conditions: the events are at most 2^32.
-/
import Derived.Test.YtkeaibngofbkhaaGrRefB
namespace Go.Proofs.Ytkeaibngofbkhaa
open Go.RowKit

/-- Rows of different types lie in different blocks. -/
theorem own_types {w : World} {b1 b2 s1 s2 n1 n2 : Nat} {e1 e2 : TypeId} {v1 v2 : Value} {x1 x2 : List Value} (h1 : w.ownsRow b1 e1 s1 v1 n1 x1) (h2 : w.ownsRow b2 e2 s2 v2 n2 x2) (he : e1 ≠ e2) : v1.ownBlock = none ∨ v1.ownBlock ≠ v2.ownBlock := by
  rcases h1.2 with ⟨rfl, _⟩ | ⟨g1, c1, cur1, rfl, _, hg1, _⟩
  · exact .inl rfl
  · refine .inr fun e => ?_
    rcases h2.2 with ⟨rfl, _⟩ | ⟨g2, c2, cur2, rfl, _, hg2, _⟩
    · cases e
    · have e' : g1 = g2 := by simpa [Value.ownBlock] using e
      rw [e', hg2] at hg1
      cases hg1
      exact he rfl

def openC (st : List (Gr.Tx × Bool)) : List Value := st.map fun x => .bool x.2
/-- What stands behind events that are right. -/
structure RefAt (w wr : World) (v vo : Value) (st : List (Gr.Tx × Bool)) (p : List (Gr.Tx × Value)) : Prop where
  own : OwnTxs wr w.heap.size 40 44 v p
  opn : wr.ownsRow w.heap.size 4 1 vo st.length (openC st)
  same : p.map (·.1) = st.map (·.1)
  fine : Gr.Fine st
  below : Below w.heap.size w wr
theorem RefAt.len {w wr : World} {v vo : Value} {st : List (Gr.Tx × Bool)} {p : List (Gr.Tx × Value)} (h : RefAt w wr v vo st p) : p.length = st.length := by
  have := congrArg List.length h.same
  simpa using this
theorem RefAt.at {w wr : World} {v vo : Value} {st : List (Gr.Tx × Bool)} {p : List (Gr.Tx × Value)} (h : RefAt w wr v vo st p) (j : Nat) (hj : j < p.length) (hj' : j < st.length) : p[j].1 = st[j].1 := by
  have h1 := congrArg (·[j]?) h.same
  simp only [List.getElem?_map, List.getElem?_eq_getElem hj, List.getElem?_eq_getElem hj', Option.map_some, Option.some.injEq] at h1
  exact h1
theorem RefAt.later {w wr w' : World} {v vo : Value} {st : List (Gr.Tx × Bool)} {p : List (Gr.Tx × Value)} (h : RefAt w wr v vo st p) (hb : Below wr.heap.size wr w') : RefAt w w' v vo st p :=
  ⟨h.own.below hb, own_below h.opn hb, h.same, h.fine, below_all h.below hb⟩
theorem RefAt.txs {w wr : World} {v vo : Value} {st : List (Gr.Tx × Bool)} {p : List (Gr.Tx × Value)} (h : RefAt w wr v vo st p) : Txs wr v (st.map (·.1)) := by
  rw [← h.same]
  exact h.own.txs
/-- Where what is open lies. -/
theorem RefAt.cell {w wr : World} {v vo : Value} {st : List (Gr.Tx × Bool)} {p : List (Gr.Tx × Value)} (h : RefAt w wr v vo st p) (j : Nat) (hj : j < st.length) : ∃ g c, vo = .slice (some ⟨g, 0, none⟩) st.length c ∧ wr.cell? ⟨g, j, none⟩ = some (.bool st[j].2) ∧ wr.frozen? ⟨g, j, none⟩ = false := by
  have h0 := h.opn
  rcases h.opn.2 with ⟨_, h1⟩ | ⟨g, cap, cur, rfl, _⟩
  · omega
  · refine ⟨g, cap, rfl, ?_, h0.frozenAt _⟩
    rw [h0.cellAt j (by omega), openC, List.getElem?_map, List.getElem?_eq_getElem hj]
    rfl
/-- One begins. -/
theorem RefAt.begin {w wr w2 w3 : World} {v vo v' vo' : Value} {st : List (Gr.Tx × Bool)} {p : List (Gr.Tx × Value)} (h : RefAt w wr v vo st p) (x : Ev.Event) (i : Nat) (o o' : Obj) (hk : x.kind = 0) (hf : Gr.fault st x = 0)
    (hrow : w2.ownsRow w.heap.size 40 4 v' (p.length + 1) (p.flatMap txC ++ txC (⟨x.session, false, (i : Int), []⟩, .slice none 0 0))) (hg : (wr.alloc o).grownBy w2 v.ownBlock) (hv : v'.ownBlock = v.ownBlock ∨ v'.ownBlock = some (wr.alloc o).heap.size)
    (hopn : w3.ownsRow w.heap.size 4 1 vo' (st.length + 1) (openC st ++ [.bool true])) (hg3 : (w2.alloc o').grownBy w3 vo.ownBlock) :
    RefAt w w3 v' vo' (Gr.next i st x) (p ++ [(⟨x.session, false, (i : Int), []⟩, .slice none 0 0)]) := by
  have e : Gr.next i st x = st ++ [(⟨x.session, false, (i : Int), []⟩, true)] := by rw [Gr.next, if_pos hk]
  have ho1 : (wr.alloc o).ownsRow w.heap.size 4 1 vo st.length (openC st) := h.opn.alloc o
  have hr1 : OwnTxs (wr.alloc o) w.heap.size 40 44 v p := h.own.below (alloc_below wr o)
  have r2 := hr1.snoc rfl hrow hg hv
  have ho2 : w2.ownsRow w.heap.size 4 1 vo st.length (openC st) := ho1.kept hg (own_types ho1 hr1.row (by decide))
  have r3 := r2.below (alloc_below w2 o')
  have ho3 := ho2.alloc o'
  refine ⟨r3.kept hg3 (own_types r3.row ho3 (by decide)) (fun y hy => own_types (r3.ops y hy) ho3 (by decide)), ?_, ?_, h.fine.next i hf, ?_⟩
  · rw [e, List.length_append, List.length_singleton, openC, List.map_append]
    exact hopn
  · rw [e, List.map_append, List.map_append, h.same]
    rfl
  · have hb := below_all h.below (alloc_below wr o)
    have hb2 := below_append hb hb.size hr1.row hg
    have hb3 := below_all hb2 (alloc_below w2 o')
    exact below_append hb3 hb3.size ho3 hg3
/-- The open one gets an op. -/
theorem RefAt.op {w wr w1 : World} {g c : Nat} {vo : Value} {st : List (Gr.Tx × Bool)} {p : List (Gr.Tx × Value)} {u : Value} (h : RefAt w wr (.slice (some ⟨g, 0, none⟩) p.length c) vo st p) (x : Ev.Event) (i j : Nat) (hj : j < p.length) (hj' : j < st.length) (hm : Gr.mine x.session st[j] = true) (hk : x.kind ≠ 0) (hkey : Ev.hasKey x.kind = true) (hf : Gr.fault st x = 0)
    (hu : w1.ownsRow w.heap.size 44 4 u (p[j].1.ops.length + 1) (p[j].1.ops.flatMap evCells ++ evCells x)) (hg : wr.grownBy w1 p[j].2.ownBlock) (hv : u.ownBlock = p[j].2.ownBlock ∨ u.ownBlock = some wr.heap.size) :
    RefAt w (w1.setCell ⟨g, j * 4 + 3, none⟩ u) (.slice (some ⟨g, 0, none⟩) p.length c) vo (Gr.next i st x) (p.set j ({ p[j].1 with ops := p[j].1.ops ++ [x] }, u)) := by
  have e : Gr.next i st x = Gr.upd st x.session (Gr.addOp x) := by rw [Gr.next, if_neg hk, if_pos hkey]
  have hset := Gr.upd_set h.fine x.session (Gr.addOp x) j hj' hm
  have r1 := h.own.grow j hj { p[j].1 with ops := p[j].1.ops ++ [x] } u ⟨rfl, rfl, rfl⟩ (Evs.own_snoc hu) hg hv
  have hops := h.own.ops _ (List.getElem_mem hj)
  have hpj := h.at j hj hj'
  have h2 : st[j].2 = true := ((Gr.mine_iff _ _).1 hm).2
  have ho1 : w1.ownsRow w.heap.size 4 1 vo st.length (openC st) := h.opn.kept hg (own_types h.opn hops (by decide))
  have hrow1 : w1.ownsRow w.heap.size 40 4 (.slice (some ⟨g, 0, none⟩) p.length c) p.length (p.flatMap txC) := h.own.row.kept hg (own_types h.own.row hops (by decide))
  have ho2 := ho1.kept (hrow1.stored (j * 4 + 3) u).2 (own_types ho1 hrow1 (by decide))
  refine ⟨r1, ?_, ?_, h.fine.next i hf, ?_⟩
  · rw [e, hset, List.length_set, openC, List.map_set]
    have e2 : (Value.bool (Gr.addOp x st[j].1).2) = (Value.bool st[j].2) := by rw [h2]; rfl
    rw [e2]
    have e3 : (st.map fun x => Value.bool x.2).set j (.bool st[j].2) = st.map fun x => Value.bool x.2 := by
      apply List.ext_getElem
      · simp
      · intro n h1 _
        rw [List.getElem_set]
        split
        · rename_i h'; subst h'; simp
        · rfl
    rw [e3]
    exact ho2
  · rw [e, hset, List.map_set, List.map_set, h.same, hpj]
    rfl
  · exact (below_append h.below h.below.size hops hg).setCell (h.own.row.lt g rfl).1 _
/-- The open one is closed. -/
theorem RefAt.close {w wr : World} {g c go co : Nat} {st : List (Gr.Tx × Bool)} {p : List (Gr.Tx × Value)} (h : RefAt w wr (.slice (some ⟨g, 0, none⟩) p.length c) (.slice (some ⟨go, 0, none⟩) st.length co) st p) (x : Ev.Event) (b : Bool) (hb3 : (x.kind == 3) = b) (i j : Nat) (hj : j < p.length) (hj' : j < st.length) (hm : Gr.mine x.session st[j] = true) (hk : x.kind ≠ 0) (hkey : Ev.hasKey x.kind = false) (hf : Gr.fault st x = 0) :
    RefAt w ((wr.setCell ⟨go, j, none⟩ (.bool false)).setCell ⟨g, j * 4 + 1, none⟩ (.bool b)) (.slice (some ⟨g, 0, none⟩) p.length c) (.slice (some ⟨go, 0, none⟩) st.length co) (Gr.next i st x) (p.set j ({ p[j].1 with done := b }, p[j].2)) := by
  have hb4 : decide (x.kind = 3) = b := by rw [← hb3]; rfl
  have e : Gr.next i st x = Gr.upd st x.session (Gr.shut b) := by rw [Gr.next, if_neg hk, if_neg (by rw [hkey]; simp), hb4]
  have hset := Gr.upd_set h.fine x.session (Gr.shut b) j hj' hm
  have hpj := h.at j hj hj'
  obtain ⟨s1, s2⟩ := h.opn.stored j (.bool false)
  have r1 : OwnTxs (wr.setCell ⟨go, j, none⟩ (.bool false)) w.heap.size 40 44 (.slice (some ⟨g, 0, none⟩) p.length c) p := h.own.kept s2 (own_types h.own.row h.opn (by decide)) (fun y hy => own_types (h.own.ops y hy) h.opn (by decide))
  have r2 := r1.put j hj 1 (by omega) { p[j].1 with done := b } (.bool b) rfl rfl
  refine ⟨r2, ?_, ?_, h.fine.next i hf, ?_⟩
  · rw [e, hset, List.length_set, openC, List.map_set]
    exact s1.kept (r1.row.stored (j * 4 + 1) (.bool b)).2 (own_types s1 r1.row (by decide))
  · rw [e, hset, List.map_set, List.map_set, h.same, hpj]
    rfl
  · exact (h.below.setCell (h.opn.lt go rfl).1 _).setCell (h.own.row.lt g rfl).1 _

set_option maxHeartbeats 1000000 in
theorem rEvents_at (l : List Gr.Tx) (v : Value) (w : World) (hv : Txs w v l) (hl : (Gr.eventsR l).length ≤ 4294967296) : Calls Try.prog 14 #[v] w (RetEvRow w (Gr.eventsR l)) := by
  obtain ⟨i0, hi0, hz0, hz1, hz2⟩ := info_parts ev_info
  have I0 := Lib.hid hi0
  have I1 := Lib.hid hz0
  have I2 := Lib.hid hz1
  have I3 := Lib.hid hz2
  clear hi0 hz0 hz1 hz2
  obtain ⟨A, c, rfl, hform⟩ := hv.spelled
  have HF := Lib.hid hform
  have HLE := Lib.hid hl
  have hll : l.length ≤ 4294967296 := Nat.le_trans (Gr.eventsR_more l) hl
  clear hform hv hl
  go_enter Try.func14, Try.ntmps14
  go_wp2
  go_loopw [3, 4] (fun v i wr => EventsRel' w l v i wr) (fun _ i _ => l.length - (intOf i).toNat)
  case atStart => exact ⟨0, Nat.zero_le _, rfl, World.ownsRow_nil _ _ _ _, Below.refl _ _⟩
  case round =>
    obtain ⟨k, hk, rfl, hown, hb⟩ := hrel
    have HO := Lib.hid hown
    have HB := Lib.hid hb
    obtain ⟨A', cp, rfl⟩ := own_form hown
    clear hown hb
    by_cases hlt : k < l.length
    · obtain ⟨ad, u, rfl, hblk, hT, hU⟩ := HF.out k hlt
      obtain ⟨t, ht⟩ : ∃ t, t = l[k]'hlt := ⟨_, rfl⟩
      have HT1 := Lib.hid (Gr.eventsR_take l k hlt)
      have hn : (Gr.eventsR (l.take k)).length + (t.ops.length + 2) ≤ 4294967296 := by
        have h1 := Gr.eventsR_len l (k + 1)
        rw [Gr.eventsR_take l k hlt, List.length_append, Gr.txEvents_len, ← ht] at h1
        exact Nat.le_trans h1 HLE.out
      rw [← ht] at hT hU HT1
      obtain ⟨Au, cu, rfl, _⟩ := hU.form
      have HT := Lib.hid hT
      have HU := Lib.hid hU
      have hc0 := (hT.below hblk HB.out).c0
      generalize Gr.eventsR (l.take k) = d at *
      clear hT ht hU
      have HO1 := Lib.hid (HO.out.alloc (.cells #[.int .i64 0, .int .i64 t.session, .int .i64 0, .int .i64 0] 44))
      have HB1 := Lib.hid (HB.out.alloc HB.out.size (.cells #[.int .i64 0, .int .i64 t.session, .int .i64 0, .int .i64 0] 44))
      have HEE := Lib.hid (show d ++ Gr.txEvents t = d ++ [Gr.beginOf t] ++ t.ops ++ [Gr.endOf t] by simp [Gr.txEvents])
      have HEK : ∀ b, t.done = b → Hid (Gr.endOf t = ⟨if b = true then 3 else 4, t.session, 0, 0⟩) := fun b hb => by rw [Hid, Gr.endOf, hb]
      cases hd : t.done
      all_goals
        have HEN := HEK _ hd
        simp only [if_true, if_false, Bool.false_eq_true] at HEN
        clear HEK
        have hdn : ∀ W, Below w.heap.size w W → W.cell? ⟨(ad.add (k * 4)).block, (ad.add (k * 4)).off + 1, none⟩ = some (.bool t.done) := fun W h => (HT.out.below hblk h).c1
        rw [hd] at hdn
        have HDN := Lib.hid hdn
        clear hd hdn
        go_wp2_with (first
          | (at_builtin; refine wpList_append_own_at _ rfl (.tmp 12) (.tmp 19) 22 rfl w.heap.size 44 i0 _ 4 32 Try.underlying22 I0.out I1.out I2.out I3.out rfl (by decide) _ d.length (d.flatMap evCells) rfl HO1.out ⟨wr.heap.size, 0, none⟩ 1 1 (evCells (Gr.beginOf t)) rfl rfl (new_ev wr (Gr.beginOf t) _) (one_evs _) (by simp only [maxLen]; omega) (by omega) HB1.out.size ?_; intro v2 w2 hown2 hgrow2 hnil2 hat2; have HO2 := Lib.hid (own_evs [Gr.beginOf t] (by simpa using hown2)); have HB2 := Lib.hid (below_append HB1.out HB1.out.size HO1.out hgrow2); have HU2 := Lib.hid (HU.out.below HB2.out); have q3 := (HT.out.below hblk HB2.out).c3; clear hnil2 hown2 hgrow2 hat2)
          | (at_builtin; refine wpList_append_sl _ rfl (.tmp 21) (.tmp 26) 22 rfl w.heap.size 44 i0 _ 4 32 Try.underlying22 I0.out I1.out I2.out I3.out rfl (by decide) v2 _ _ rfl HO2.out _ t.ops.length (t.ops.flatMap evCells) rfl HU2.out (all_evs t.ops) (by simp [maxLen]; omega) (by simp; omega) HB2.out.size ?_; intro v3 w3 hown3 hgrow3 hat3; have HO3 := Lib.hid (own_evs t.ops hown3); have HB3 := Lib.hid (below_append HB2.out HB2.out.size HO2.out hgrow3); have q1 := HDN.out _ HB3.out; have q0 := (HT.out.below hblk HB3.out).c0; have HO4 := Lib.hid (HO3.out.alloc (.cells #[.int .i64 (Gr.endOf t).kind, .int .i64 t.session, .int .i64 0, .int .i64 0] 44)); have HB4 := Lib.hid (HB3.out.alloc HB3.out.size (.cells #[.int .i64 (Gr.endOf t).kind, .int .i64 t.session, .int .i64 0, .int .i64 0] 44)); have HNE := Lib.hid (new_ev w3 (Gr.endOf t) 44); rw [HEN.out] at HO4 HB4 HNE; clear hown3 hgrow3 hat3 q3)
          | (at_builtin; refine wpList_append_own_at _ rfl (.tmp 33) (.tmp 41) 22 rfl w.heap.size 44 i0 _ 4 32 Try.underlying22 I0.out I1.out I2.out I3.out rfl (by decide) v3 _ _ rfl HO4.out ⟨w3.heap.size, 0, none⟩ 1 1 _ rfl rfl HNE.out (one_evs _) (by simp [maxLen]; omega) (by simp; omega) HB4.out.size ?_; intro v5 w5 hown5 hgrow5 hnil5 hat5; have HO5 := Lib.hid hown5; have HB5 := Lib.hid (below_append HB4.out HB4.out.size HO4.out hgrow5); clear hnil5 hown5 hgrow5 hat5))
        go_roundw
        case rel =>
          refine ⟨k + 1, by omega, by go_num, ?_, HB5.out⟩
          rw [HT1.out, HEE.out, HEN.out]
          exact own_evs [_] (by simpa using HO5.out)
        case measure => simp [intOf]; omega
    · have HK : Hid (Gr.eventsR (l.take k) = Gr.eventsR l) := by rw [Hid, List.take_of_length_le (by omega)]
      generalize Gr.eventsR (l.take k) = d at *
      go_wp2_with fail
      go_ret
      exact ⟨_, rfl, by rw [← HK.out]; exact Evs.own HO.out, HB.out⟩
end Go.Proofs.Ytkeaibngofbkhaa
