/-
  What the reference's events, Show and Parse of layer 8 answer: a transaction's events, the text of a history, and the history of a text, or where it is wrong.
  Conditions: a row has at most 2^32 elements.
-/
import Derived.Test.YtfjamdpgbbnmcaaGreatDoorHiRefA
import Derived.Test.YtfjamdpgbbnmcaaGreatDoorHiWalkB
import Derived.Test.YtfjamdpgbbnmcaaGreatDoorHiWalkC
import Derived.Test.YtfjamdpgbbnmcaaGreatDoorSoRef
import Derived.Test.YtfjamdpgbbnmcaaGreatDoorGrAll
import Derived.Test.YtfjamdpgbbnmcaaGreatDoorDiAll
set_option maxRecDepth 4000
namespace Go.Proofs.YtfjamdpgbbnmcaaGreatDoor
open Go.RowKit

theorem tx_events (t : So.Txn) (n : Nat) : Gr.txEvents (Hi.txOf n t) = [⟨0, t.session, 0, 0⟩] ++ t.reads.map (Hi.readEv t.session) ++ t.writes.map (Hi.writeEv t.session n) ++ [⟨3, t.session, 0, 0⟩] := by
  simp [Gr.txEvents, Gr.beginOf, Gr.endOf, Hi.txOf, Hi.opsOf]

set_option maxHeartbeats 2000000 in
theorem rEvents8_at (t : So.Txn) (x y : Value) (n : Nat) (w : World) (hx : Ns w x t.writes) (hy : Its w y t.reads) (hn : n ≤ 4294967295) (hw : t.writes.length ≤ 1073741824) (hr : t.reads.length ≤ 1073741824) (hf : ∀ y ∈ t.reads, -1 ≤ y.2 ∧ y.2 ≤ 4294967296) :
    Calls Tryz.prog 20 #[.agg #[.int .i64 t.session, x, y], .int .i64 (n : Int)] w (RetEvOwn w (Gr.txEvents (Hi.txOf n t))) := by
  obtain ⟨i0, hi0, hz0, hz1, hz2⟩ := info_parts ev_info
  have I0 := Lib.hid hi0
  have I1 := Lib.hid hz0
  have I2 := Lib.hid hz1
  have I3 := Lib.hid hz2
  clear hi0 hz0 hz1 hz2
  obtain ⟨A, c, rfl, hformx⟩ := hx.spelled
  obtain ⟨A', c', rfl, hformy⟩ := hy.spelled
  have HX := Lib.hid hformx
  have HY := Lib.hid hformy
  have HF := Lib.hid hf
  have hs1 : (w.alloc (.cells #[.int .i64 t.session, .slice A t.writes.length c, .slice A' t.reads.length c'] 38)).heap.size = w.heap.size + 1 := by simp
  have HB0 := Lib.hid (alloc_below w (.cells #[.int .i64 t.session, .slice A t.writes.length c, .slice A' t.reads.length c'] 38))
  have c0 := new_cell w #[.int .i64 t.session, .slice A t.writes.length c, .slice A' t.reads.length c'] 38 0 _ rfl
  have c1 := new_cell w #[.int .i64 t.session, .slice A t.writes.length c, .slice A' t.reads.length c'] 38 1 _ rfl
  have c2 := new_cell w #[.int .i64 t.session, .slice A t.writes.length c, .slice A' t.reads.length c'] 38 2 _ rfl
  have C0 := Lib.hid c0
  have C1 := Lib.hid c1
  have C2 := Lib.hid c2
  have HS1 := Lib.hid hs1
  have HTE := Lib.hid (tx_events t n)
  clear hx hy hformx hformy hf c1 c2 hs1
  go_enter Tryz.func20, Tryz.ntmps20
  go_wp2_with fail
  generalize w.alloc (.cells #[.int .i64 t.session, .slice A t.writes.length c, .slice A' t.reads.length c'] 38) = w1 at *
  clear c0
  have HST : Hid (OpsRel w1 [⟨0, t.session, 0, 0⟩] (.slice (some ⟨w.heap.size + 1, 0, none⟩) 1 1) (w1.alloc (.cells #[.int .i64 0, .int .i64 t.session, .int .i64 0, .int .i64 0] 74))) := by
    rw [Hid, ← HS1.out]
    exact ⟨World.ownsRow_lit (base := w1.heap.size) (e := 74) (size := 4) w1 #[.int .i64 0, .int .i64 t.session, .int .i64 0, .int .i64 0] 1 (Nat.le_refl _) (by simp [maxLen]) (by simp), alloc_below _ _⟩
  go_loopw [5, 6] (fun v i wr => ∃ k : Nat, k ≤ t.reads.length ∧ i = .int .i64 k ∧ Hid (OpsRel w1 ([⟨0, t.session, 0, 0⟩] ++ (t.reads.take k).map (Hi.readEv t.session)) v wr)) (fun _ i _ => t.reads.length - (intOf i).toNat)
  case atStart => exact ⟨0, Nat.zero_le _, rfl, HST.out⟩
  case round =>
    clear HST
    obtain ⟨k, hk, rfl, HO⟩ := hrel
    obtain ⟨AV, cV, rfl⟩ := own_form HO.out.1
    have s0 := cell_later HO.out.2 C0.out
    have s1 := cell_later HO.out.2 C1.out
    have s2 := cell_later HO.out.2 C2.out
    by_cases hlt : k < t.reads.length
    · obtain ⟨ad, rfl, hblk, hE⟩ := HY.out k hlt
      have HT : Hid ([⟨0, t.session, 0, 0⟩] ++ (t.reads.take (k + 1)).map (Hi.readEv t.session) = ([⟨0, t.session, 0, 0⟩] ++ (t.reads.take k).map (Hi.readEv t.session)) ++ [Hi.readEv t.session t.reads[k]]) := by rw [Hid, ops_reads t k hlt, List.append_assoc]
      have hfk := HF.out _ (List.getElem_mem hlt)
      have hdl : ([(⟨0, t.session, 0, 0⟩ : Ev.Event)] ++ (t.reads.take k).map (Hi.readEv t.session)).length ≤ k + 1 := by rw [List.length_append, List.length_map, List.length_take, List.length_singleton]; omega
      obtain ⟨⟨a, b⟩, hz⟩ : ∃ z, z = t.reads[k]'hlt := ⟨_, rfl⟩
      rw [← hz] at hE HT hfk
      obtain ⟨e0, e1⟩ := hE.below hblk (below_all HB0.out HO.out.2)
      dsimp only at hfk e0 e1
      generalize [(⟨0, t.session, 0, 0⟩ : Ev.Event)] ++ (t.reads.take k).map (Hi.readEv t.session) = d at *
      have HB4 := Lib.hid (below_all HO.out.2 ((Below.refl _ wr).drew))
      have HO4 := Lib.hid ((own_drewN HO.out.1 1).alloc (.cells #[.int .i64 1, .int .i64 t.session, .int .i64 a, .int .i64 (b + 1)] 74))
      have HNE := Lib.hid (new_ev wr.drew (Hi.readEv t.session (a, b)) 74)
      have HBS := Lib.hid (Nat.le_trans HB4.out.size (Nat.le_succ wr.drew.heap.size))
      have hb1 : IntKind.i64.wrap (b + 1) = b + 1 := IntWalk.i64_in _ (by omega)
      clear hE hz
      go_wp2_with fail
      go_region_law (refine step_append_lies _ rfl (.tmp 19) (.tmp 36) 45 rfl w1.heap.size 74 i0 _ 4 32 Tryz.underlying45 I0.out I1.out I2.out I3.out rfl (by decide) (.slice AV d.length cV) d.length (d.flatMap evCells) (by simp [Act.eval]) HO4.out ⟨wr.heap.size, 0, none⟩ 1 1 (evCells (Hi.readEv t.session (a, b))) (by simp [Act.eval]) rfl HNE.out (one_evs _) (by decide) (by simp only [maxLen]; omega) (by omega) (by simp; exact HBS.out) (wr.heap.size + 1) (by simp) ?_; intro g2 cap2 w5 hown5 hgrow5 hat5 hlt5; have HO5 := Lib.hid (own_evs [Hi.readEv t.session (a, b)] (by simpa using hown5)); have HB5 := Lib.hid (below_append (HB4.out.alloc HB4.out.size _) (HB4.out.alloc HB4.out.size _).size HO4.out hgrow5); clear hown5 hgrow5 hat5 hlt5)
      all_goals
        go_wp2_with fail
        go_roundw
        case rel =>
          refine ⟨k + 1, by omega, by go_num, ?_⟩
          rw [Hid, HT.out]
          exact ⟨HO5.out, HB5.out⟩
        case measure => simp [intOf]; omega
    · have HK : Hid ([(⟨0, t.session, 0, 0⟩ : Ev.Event)] ++ (t.reads.take k).map (Hi.readEv t.session) = [⟨0, t.session, 0, 0⟩] ++ t.reads.map (Hi.readEv t.session)) := by rw [Hid, List.take_of_length_le (by omega)]
      have HO1 : Hid (OpsRel w1 ([⟨0, t.session, 0, 0⟩] ++ t.reads.map (Hi.readEv t.session)) (.slice AV ([(⟨0, t.session, 0, 0⟩ : Ev.Event)] ++ (t.reads.take k).map (Hi.readEv t.session)).length cV) wr) := by
        rw [Hid, ← HK.out]; exact HO.out
      have hrl : ([(⟨0, t.session, 0, 0⟩ : Ev.Event)] ++ t.reads.map (Hi.readEv t.session)).length ≤ 1073741825 := by rw [List.length_append, List.length_map, List.length_singleton]; omega
      generalize [(⟨0, t.session, 0, 0⟩ : Ev.Event)] ++ (t.reads.take k).map (Hi.readEv t.session) = d0 at *
      generalize [(⟨0, t.session, 0, 0⟩ : Ev.Event)] ++ t.reads.map (Hi.readEv t.session) = d1 at *
      generalize Value.slice AV d0.length cV = V0 at *
      clear HO HK HY HF
      go_wp2_with fail
      clear s0 s1 s2 hlt hk
      go_loopw [5, 7] (fun v i wr => ∃ k : Nat, k ≤ t.writes.length ∧ i = .int .i64 k ∧ Hid (OpsRel w1 (d1 ++ (t.writes.take k).map (Hi.writeEv t.session n)) v wr)) (fun _ i _ => t.writes.length - (intOf i).toNat)
      case atStart => exact ⟨0, Nat.zero_le _, rfl, by rw [Hid, List.take_zero, List.map_nil, List.append_nil]; exact HO1.out⟩
      case round =>
        clear HO1
        obtain ⟨k, hk, rfl, HO⟩ := hrel
        obtain ⟨AV, cV, rfl⟩ := own_form HO.out.1
        have s0 := cell_later HO.out.2 C0.out
        have s1 := cell_later HO.out.2 C1.out
        by_cases hlt : k < t.writes.length
        · obtain ⟨ad, rfl, hblk, hE⟩ := HX.out k hlt
          have HT : Hid (d1 ++ (t.writes.take (k + 1)).map (Hi.writeEv t.session n) = (d1 ++ (t.writes.take k).map (Hi.writeEv t.session n)) ++ [Hi.writeEv t.session n t.writes[k]]) := by rw [Hid, ops_writes t n k hlt, List.append_assoc]
          have hdl : (d1 ++ (t.writes.take k).map (Hi.writeEv t.session n)).length ≤ 1073741825 + k := by rw [List.length_append, List.length_map, List.length_take]; omega
          obtain ⟨a, hz⟩ : ∃ z, z = t.writes[k]'hlt := ⟨_, rfl⟩
          rw [← hz] at hE HT
          have e0 := cell_later (below_all HB0.out HO.out.2) hE
          generalize d1 ++ (t.writes.take k).map (Hi.writeEv t.session n) = d at *
          have HB4 := Lib.hid (below_all HO.out.2 ((Below.refl _ wr).drew))
          have HO4 := Lib.hid ((own_drewN HO.out.1 1).alloc (.cells #[.int .i64 2, .int .i64 t.session, .int .i64 a, .int .i64 ((n : Int) + 1)] 74))
          have HNE := Lib.hid (new_ev wr.drew (Hi.writeEv t.session n a) 74)
          have HBS := Lib.hid (Nat.le_trans HB4.out.size (Nat.le_succ wr.drew.heap.size))
          have hb1 : IntKind.i64.wrap ((n : Int) + 1) = (n : Int) + 1 := IntWalk.i64_in _ (by omega)
          clear hE hz
          go_wp2_with fail
          go_region_law (refine step_append_lies _ rfl (.tmp 45) (.tmp 56) 45 rfl w1.heap.size 74 i0 _ 4 32 Tryz.underlying45 I0.out I1.out I2.out I3.out rfl (by decide) (.slice AV d.length cV) d.length (d.flatMap evCells) (by simp [Act.eval]) HO4.out ⟨wr.heap.size, 0, none⟩ 1 1 (evCells (Hi.writeEv t.session n a)) (by simp [Act.eval]) rfl HNE.out (one_evs _) (by decide) (by simp only [maxLen]; omega) (by omega) (by simp; exact HBS.out) (wr.heap.size + 1) (by simp) ?_; intro g2 cap2 w5 hown5 hgrow5 hat5 hlt5; have HO5 := Lib.hid (own_evs [Hi.writeEv t.session n a] (by simpa using hown5)); have HB5 := Lib.hid (below_append (HB4.out.alloc HB4.out.size _) (HB4.out.alloc HB4.out.size _).size HO4.out hgrow5); clear hown5 hgrow5 hat5 hlt5)
          all_goals
            go_wp2_with fail
            go_roundw
            case rel =>
              refine ⟨k + 1, by omega, by go_num, ?_⟩
              rw [Hid, HT.out]
              exact ⟨HO5.out, HB5.out⟩
            case measure => simp [intOf]; omega
        · have HE : Hid ((d1 ++ (t.writes.take k).map (Hi.writeEv t.session n)) ++ [⟨3, t.session, 0, 0⟩] = Gr.txEvents (Hi.txOf n t)) := by rw [Hid, List.take_of_length_le (by omega), HTE.out]
          have hdl : (d1 ++ (t.writes.take k).map (Hi.writeEv t.session n)).length ≤ 1073741825 + k := by rw [List.length_append, List.length_map, List.length_take]; omega
          generalize d1 ++ (t.writes.take k).map (Hi.writeEv t.session n) = d at *
          have HO1 := Lib.hid (HO.out.1.alloc (.cells #[.int .i64 3, .int .i64 t.session, .int .i64 0, .int .i64 0] 74))
          have HB1 := Lib.hid (below_all HO.out.2 (alloc_below wr (.cells #[.int .i64 3, .int .i64 t.session, .int .i64 0, .int .i64 0] 74)))
          have HNE := Lib.hid (new_ev wr ⟨3, t.session, 0, 0⟩ 74)
          go_wp2_with (at_builtin; refine wpList_append_own_at _ rfl (.tmp 58) (.tmp 62) 45 rfl w1.heap.size 74 i0 _ 4 32 Tryz.underlying45 I0.out I1.out I2.out I3.out rfl (by decide) _ d.length (d.flatMap evCells) rfl HO1.out ⟨wr.heap.size, 0, none⟩ 1 1 (evCells ⟨3, t.session, 0, 0⟩) rfl rfl HNE.out (one_evs _) (by simp only [maxLen]; omega) (by omega) HB1.out.size ?_; intro v2 w2 hown2 hgrow2 hnil2 hat2; have HO2 := Lib.hid (own_evs [⟨3, t.session, 0, 0⟩] (by simpa using hown2)); have HB2 := Lib.hid (below_append HB1.out HB1.out.size HO1.out hgrow2); clear hown2 hgrow2 hnil2 hat2)
          go_ret
          exact ⟨_, rfl, by rw [← HE.out]; exact HO2.out.mono (by rw [HS1.out]; exact Nat.le_succ _), below_all HB0.out HB2.out⟩
end Go.Proofs.YtfjamdpgbbnmcaaGreatDoor
