/-
  What group.Events answers, for every row of transactions: Gr.eventsR; what was in memory stays as it was.
  Conditions: the events are at most 2^32.
-/
import Derived.Test.YtkeaibngofbkhaaGrWalkB
namespace Go.Proofs.Ytkeaibngofbkhaa
open Go.RowKit

namespace Gr
theorem eventsR_take (l : List Tx) (k : Nat) (hk : k < l.length) : eventsR (l.take (k + 1)) = eventsR (l.take k) ++ txEvents l[k] := by
  rw [List.take_succ_eq_append_getElem hk, eventsR, eventsR, List.flatMap_append]
  simp
theorem eventsR_len (l : List Tx) (k : Nat) : (eventsR (l.take k)).length ≤ (eventsR l).length := by
  conv => rhs; rw [← List.take_append_drop k l]
  rw [eventsR, eventsR, List.flatMap_append, List.length_append]
  omega
theorem txEvents_len (t : Tx) : (txEvents t).length = t.ops.length + 2 := by simp [txEvents]
theorem eventsR_more (l : List Tx) : l.length ≤ (eventsR l).length := by
  induction l with
  | nil => simp
  | cons t m ih =>
    rw [eventsR, List.flatMap_cons, List.length_append, txEvents_len, List.length_cons]
    rw [eventsR] at ih
    omega
end Gr

/-- A row of events, in memory of the call's own. -/
def RetEvRow (w : World) (l : List Ev.Event) (e : Ending) (w' : World) : Prop := ∃ v, e = .returned v ∧ Evs w' v l ∧ Below w.heap.size w w'

/-- A variable that holds a transaction. -/
structure TxVar (w : World) (b : Nat) (t : Gr.Tx) (u : Value) : Prop where
  c0 : w.cell? ⟨b, 0, none⟩ = some (.int .i64 t.session)
  c1 : w.cell? ⟨b, 1, none⟩ = some (.bool t.done)
  c2 : w.cell? ⟨b, 2, none⟩ = some (.int .i64 t.first)
  c3 : w.cell? ⟨b, 3, none⟩ = some u
theorem TxVar.new (w : World) (t : Gr.Tx) (u : Value) (ty : TypeId) : TxVar (w.alloc (.cells #[.int .i64 t.session, .bool t.done, .int .i64 t.first, u] ty)) w.heap.size t u :=
  ⟨new_cell w _ _ 0 _ rfl, new_cell w _ _ 1 _ rfl, new_cell w _ _ 2 _ rfl, new_cell w _ _ 3 _ rfl⟩
theorem TxVar.grown {w w' : World} {b : Nat} {t : Gr.Tx} {u : Value} {row : Option Nat} (h : TxVar w b t u) (hg : w.grownBy w' row) (hne : some b ≠ row) : TxVar w' b t u :=
  ⟨hg.cell h.c0 hne, hg.cell h.c1 hne, hg.cell h.c2 hne, hg.cell h.c3 hne⟩
theorem TxVar.below {w w' : World} {b : Nat} {t : Gr.Tx} {u : Value} (h : TxVar w b t u) (hb : Below w.heap.size w w') : TxVar w' b t u :=
  h.grown (row := none) ⟨hb.os, hb.tape, hb.output, hb.size, fun k hk _ => hb.block k hk⟩ (by simp)

theorem own_evs {w : World} {base : Nat} {e : TypeId} {v : Value} {d : List Ev.Event} (m : List Ev.Event) (h : w.ownsRow base e 4 v (d.length + m.length) (d.flatMap evCells ++ m.flatMap evCells)) : w.ownsRow base e 4 v (d ++ m).length ((d ++ m).flatMap evCells) := by
  rw [List.length_append, List.flatMap_append]
  exact h

/-- What Events' loop holds at the head of each round. -/
def EventsRel' (w : World) (l : List Gr.Tx) (v i : Value) (wr : World) : Prop :=
  ∃ k : Nat, k ≤ l.length ∧ i = .int .i64 k ∧ wr.ownsRow w.heap.size 44 4 v (Gr.eventsR (l.take k)).length ((Gr.eventsR (l.take k)).flatMap evCells) ∧ Below w.heap.size w wr

set_option maxHeartbeats 1000000 in
theorem events_at (l : List Gr.Tx) (v : Value) (w : World) (hv : Txs w v l) (hl : (Gr.eventsR l).length ≤ 4294967296) : Calls Try.prog 13 #[v] w (RetEvRow w (Gr.eventsR l)) := by
  obtain ⟨i0, hi0, hz0, hz1, hz2⟩ := info_parts ev_info
  have I0 := Lib.hid hi0
  have I1 := Lib.hid hz0
  have I2 := Lib.hid hz1
  have I3 := Lib.hid hz2
  clear hi0 hz0 hz1 hz2
  obtain ⟨A, c, rfl, hform⟩ := hv.spelled
  have HF := Lib.hid hform
  have HLE := Lib.hid hl
  have hll : l.length ≤ 4294967296 := Nat.le_trans (Gr.eventsR_more l) hl
  clear hform hv hl
  go_enter Try.func13, Try.ntmps13
  go_wp2
  go_loopw [3, 9] (fun v i wr => EventsRel' w l v i wr) (fun _ i _ => l.length - (intOf i).toNat)
  case atStart => exact ⟨0, Nat.zero_le _, rfl, World.ownsRow_lit w #[] 0 (Nat.le_refl _) (by simp [maxLen]) (by simp), (Below.refl _ _).alloc (Nat.le_refl _) _⟩
  case round =>
    obtain ⟨k, hk, rfl, hown, hb⟩ := hrel
    have HO := Lib.hid hown
    have HB := Lib.hid hb
    obtain ⟨A', cp, rfl⟩ := own_form hown
    clear hown hb
    by_cases hlt : k < l.length
    · obtain ⟨ad, u, rfl, hblk, hT, hU⟩ := HF.out k hlt
      obtain ⟨t, ht⟩ : ∃ t, t = l[k]'hlt := ⟨_, rfl⟩
      have HT1 := Lib.hid (Gr.eventsR_take l k hlt)
      have hn : (Gr.eventsR (l.take k)).length + (t.ops.length + 2) ≤ 4294967296 := by
        have h1 := Gr.eventsR_len l (k + 1)
        rw [Gr.eventsR_take l k hlt, List.length_append, Gr.txEvents_len, ← ht] at h1
        exact Nat.le_trans h1 HLE.out
      rw [← ht] at hT hU HT1
      obtain ⟨Au, cu, rfl, _⟩ := hU.form
      have HE := Lib.hid (hT.below hblk HB.out)
      have HU := Lib.hid hU
      have hc0 := HE.out.c0
      have hc1 := HE.out.c1
      have hc2 := HE.out.c2
      have hc3 := HE.out.c3
      generalize Gr.eventsR (l.take k) = d at *
      clear hT ht hU
      have HTV := Lib.hid (TxVar.new wr t (.slice Au t.ops.length cu) 26)
      have HO1 := Lib.hid ((HO.out.alloc (.cells #[.int .i64 t.session, .bool t.done, .int .i64 t.first, .slice Au t.ops.length cu] 26)).alloc (.cells #[.int .i64 0, .int .i64 t.session, .int .i64 0, .int .i64 0] 44))
      have HB1 := Lib.hid ((HB.out.alloc HB.out.size (.cells #[.int .i64 t.session, .bool t.done, .int .i64 t.first, .slice Au t.ops.length cu] 26)).alloc (Nat.le_trans HB.out.size (by simp)) (.cells #[.int .i64 0, .int .i64 t.session, .int .i64 0, .int .i64 0] 44))
      have HNF : Hid (some wr.heap.size ≠ (Value.slice A' d.length cp).ownBlock) := by
        rcases ne_fresh HO.out with e | e
        · rw [Hid, e]; simp
        · exact fun e' => e e'.symm
      have HTB := Lib.hid (HTV.out.below (alloc_below _ (.cells #[.int .i64 0, .int .i64 t.session, .int .i64 0, .int .i64 0] 44)))
      go_wp2_with (first
        | (at_builtin; refine wpList_append_own_at _ rfl (.tmp 13) (.tmp 17) 22 rfl w.heap.size 44 i0 _ 4 32 Try.underlying22 I0.out I1.out I2.out I3.out rfl (by decide) _ d.length (d.flatMap evCells) rfl HO1.out ⟨wr.heap.size + 1, 0, none⟩ 1 1 (evCells (Gr.beginOf t)) rfl rfl (new_ev2 wr _ (Gr.beginOf t) _) (one_evs _) (by simp only [maxLen]; omega) (by omega) HB1.out.size ?_; intro v2 w2 hown2 hgrow2 hnil2 hat2; have HO2 := Lib.hid (own_evs [Gr.beginOf t] (by simpa using hown2)); have HB2 := Lib.hid (below_append HB1.out HB1.out.size HO1.out hgrow2); have HT2 := Lib.hid (HTB.out.grown hgrow2 HNF.out); have HU2 := Lib.hid (HU.out.below HB2.out); have HN2 : Hid (some wr.heap.size ≠ v2.ownBlock) := (by rcases hat2 with e | e <;> rw [Hid, e]; exact HNF.out; simp; omega); have q3 := HT2.out.c3; clear hnil2 hown2 hgrow2 hat2)
        | (at_builtin; refine wpList_append_sl _ rfl (.tmp 19) (.tmp 21) 22 rfl w.heap.size 44 i0 _ 4 32 Try.underlying22 I0.out I1.out I2.out I3.out rfl (by decide) v2 _ _ rfl HO2.out _ t.ops.length (t.ops.flatMap evCells) rfl HU2.out (all_evs t.ops) (by simp [maxLen]; omega) (by simp; omega) HB2.out.size ?_; intro v3 w3 hown3 hgrow3 hat3; have HO3 := Lib.hid (own_evs t.ops hown3); have HB3 := Lib.hid (below_append HB2.out HB2.out.size HO2.out hgrow3); have HT3 := Lib.hid (HT2.out.grown hgrow3 HN2.out); clear hown3 hgrow3 hat3 q3))
      have e0 := HT3.out.c0
      have e1 := HT3.out.c1
      have e2 := HT3.out.c2
      have e3 := HT3.out.c3
      have hdl : (d ++ [Gr.beginOf t] ++ t.ops).length + 1 ≤ 4294967296 := by simp; omega
      have HEE := Lib.hid (show d ++ Gr.txEvents t = d ++ [Gr.beginOf t] ++ t.ops ++ [Gr.endOf t] by simp [Gr.txEvents])
      generalize d ++ [Gr.beginOf t] ++ t.ops = d3 at *
      clear HTB HT2 HU2 HO2 HN2 HNF HTV hc0 hc1 hc2 hc3 HE
      go_region_law (first
        | (refine step_append_lies _ rfl (.tmp 23) (.tmp 29) 22 rfl w.heap.size 44 i0 _ 4 32 Try.underlying22 I0.out I1.out I2.out I3.out rfl (by decide) v3 d3.length (d3.flatMap evCells) (by simp [Act.eval]) HO4.out ⟨w4.heap.size, 0, none⟩ 1 1 (evCells (Gr.endOf t)) (by simp [Act.eval]) rfl HNE.out (one_evs _) (by decide) (by simp only [maxLen]; omega) (by omega) (by simp; exact HBS.out) (w4.heap.size + 1) (by simp) ?_; intro g2 cap2 w5 hown5 hgrow5 hat5 hlt5; have HO5 := Lib.hid (own_evs [Gr.endOf t] (by simpa using hown5)); have HB5 := Lib.hid (below_append (HB4.out.alloc HB4.out.size _) (HB4.out.alloc HB4.out.size _).size HO4.out hgrow5); clear hown5 hgrow5 hat5 hlt5)
        | (go_simp; go_at_call 19; refine (lastKind_at t (.slice Au t.ops.length cu) _).mono ?_; rintro e w4 ⟨rfl, hb4⟩; have HB4 := Lib.hid (below_all (below_all HB3.out (drewN_below w3 1)) hb4); have HO4 := Lib.hid ((own_below (own_drewN HO3.out 1) hb4).alloc (.cells #[.int .i64 (Gr.endOf t).kind, .int .i64 t.session, .int .i64 0, .int .i64 0] 44)); have e4 : w4.cell? ⟨wr.heap.size, 0, none⟩ = some (.int .i64 t.session) := (hb4.cell (World.block_lt_of_cell? w3 _ e0)).trans e0; have HNE := Lib.hid (new_ev w4 (Gr.endOf t) 44); have HBS := Lib.hid (Nat.le_trans HB4.out.size (Nat.le_succ w4.heap.size)); clear hb4))
      all_goals
        go_wp2_with fail
        go_roundw
        case rel =>
          refine ⟨k + 1, by omega, by go_num, ?_, HB5.out⟩
          rw [HT1.out, HEE.out]
          exact HO5.out
        case measure => simp [intOf]; omega
    · have HK : Hid (Gr.eventsR (l.take k) = Gr.eventsR l) := by rw [Hid, List.take_of_length_le (by omega)]
      generalize Gr.eventsR (l.take k) = d at *
      go_wp2_with fail
      go_ret
      exact ⟨_, rfl, by rw [← HK.out]; exact Evs.own HO.out, HB.out⟩
end Go.Proofs.Ytkeaibngofbkhaa
