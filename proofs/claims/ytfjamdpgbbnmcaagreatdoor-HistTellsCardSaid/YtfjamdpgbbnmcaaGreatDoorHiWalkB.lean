/-
  What hist.Show answers, and the functions that it calls: the transactions of a history, and its text.
  Conditions: a row has at most 2^32 elements.
-/
import Derived.Test.YtfjamdpgbbnmcaaGreatDoorHiWalkA
import Derived.Test.YtfjamdpgbbnmcaaGreatDoorSoAll
import Derived.Test.YtfjamdpgbbnmcaaGreatDoorGrAll
import Derived.Test.YtfjamdpgbbnmcaaGreatDoorDiAll
set_option maxRecDepth 4000
namespace Go.Proofs.YtfjamdpgbbnmcaaGreatDoor
open Go.RowKit

theorem hValue_at (n : Int) (w : World) (h : -1 ≤ n ∧ n ≤ 4294967296) : Calls Tryz.prog 70 #[.int .i64 n] w (RetInt w (n + 1)) := by
  go_enter Tryz.func70, Tryz.ntmps70
  go_wp2_with fail
  go_ret
  exact ⟨ret_int (by go_num), Below.refl _ _⟩

namespace Hi
theorem rises_len {l : List Int} (h : So.Rises l) : l.length ≤ 16 := by
  have key : ∀ k (hk : k < l.length), (k : Int) ≤ l[k] := by
    intro k
    induction k with
    | zero => intro hk; exact (h.1 _ (List.getElem_mem hk)).1
    | succ k ih =>
      intro hk
      have h1 := ih (by omega)
      have h2 : l[k] < l[k + 1] := List.pairwise_iff_getElem.1 h.2 k (k + 1) (by omega) hk (by omega)
      omega
  cases hl : l.length with
  | zero => omega
  | succ m =>
    have h1 := key m (by omega)
    have h2 := (h.1 _ (List.getElem_mem (show m < l.length by omega))).2
    omega
theorem right_len {h : List So.Txn} (hr : Right h) : ∀ t ∈ h, t.writes.length ≤ 1073741824 ∧ t.reads.length ≤ 1073741824 := fun t ht => by
  obtain ⟨k, hk, rfl⟩ := List.getElem_of_mem ht
  have h1 := rises_len (hr.2 k hk).writes
  have h2 := rises_len (hr.2 k hk).reads
  rw [List.length_map] at h2
  omega
theorem sum_le (l : List So.Txn) (f : So.Txn → Nat) (b : Nat) (h : ∀ t ∈ l, f t ≤ b) : (l.map f).sum ≤ l.length * b := by
  induction l with
  | nil => simp
  | cons t r ih =>
    rw [List.map_cons, List.sum_cons, List.length_cons, Nat.succ_mul]
    have h1 := h t List.mem_cons_self
    have h2 := ih (fun x hx => h x (List.mem_cons_of_mem _ hx))
    omega
theorem events_few {h : List So.Txn} (hr : Right h) : (Gr.eventsR (txsOf h)).length ≤ 4294967296 := by
  have h1 : (events h).length = _ := events_len h
  have h2 := sum_le h (fun t => t.reads.length + t.writes.length + 2) 34 (fun t ht => by
    obtain ⟨k, hk, rfl⟩ := List.getElem_of_mem ht
    have h1 := rises_len (hr.2 k hk).writes
    have h2 := rises_len (hr.2 k hk).reads
    rw [List.length_map] at h2
    omega)
  have h3 := hr.1
  show (events h).length ≤ 4294967296
  omega
end Hi

/-- A row of events in memory that the call made. -/
def RetEvOwn (w : World) (l : List Ev.Event) (e : Ending) (w' : World) : Prop := ∃ v, e = .returned v ∧ w'.ownsRow w.heap.size 74 4 v l.length (l.flatMap evCells) ∧ Below w.heap.size w w'

/-- What both loops hold at the head of each round: the events so far. -/
def OpsRel (w1 : World) (d : List Ev.Event) (v : Value) (wr : World) : Prop := wr.ownsRow w1.heap.size 74 4 v d.length (d.flatMap evCells) ∧ Below w1.heap.size w1 wr

theorem ops_reads (t : So.Txn) (k : Nat) (hk : k < t.reads.length) : (t.reads.take (k + 1)).map (Hi.readEv t.session) = (t.reads.take k).map (Hi.readEv t.session) ++ [Hi.readEv t.session t.reads[k]] := by
  rw [List.take_succ_eq_append_getElem hk, List.map_append]
  rfl
theorem ops_writes (t : So.Txn) (n k : Nat) (hk : k < t.writes.length) : (t.writes.take (k + 1)).map (Hi.writeEv t.session n) = (t.writes.take k).map (Hi.writeEv t.session n) ++ [Hi.writeEv t.session n t.writes[k]] := by
  rw [List.take_succ_eq_append_getElem hk, List.map_append]
  rfl

set_option maxHeartbeats 1000000 in
theorem opsOf_at (t : So.Txn) (x y : Value) (n : Nat) (w : World) (hx : Ns w x t.writes) (hy : Its w y t.reads) (hn : n ≤ 4294967295) (hw : t.writes.length ≤ 1073741824) (hr : t.reads.length ≤ 1073741824) (hf : ∀ y ∈ t.reads, -1 ≤ y.2 ∧ y.2 ≤ 4294967296) :
    Calls Tryz.prog 43 #[.agg #[.int .i64 t.session, x, y], .int .i64 (n : Int)] w (RetEvOwn w (Hi.opsOf t n)) := by
  obtain ⟨i0, hi0, hz0, hz1, hz2⟩ := info_parts ev_info
  have I0 := Lib.hid hi0
  have I1 := Lib.hid hz0
  have I2 := Lib.hid hz1
  have I3 := Lib.hid hz2
  clear hi0 hz0 hz1 hz2
  obtain ⟨A, c, rfl, hformx⟩ := hx.spelled
  obtain ⟨A', c', rfl, hformy⟩ := hy.spelled
  have HX := Lib.hid hformx
  have HY := Lib.hid hformy
  have HF := Lib.hid hf
  have hs1 : (w.alloc (.cells #[.int .i64 t.session, .slice A t.writes.length c, .slice A' t.reads.length c'] 38)).heap.size = w.heap.size + 1 := by simp
  have hcell := new_txn w t (.slice A t.writes.length c) (.slice A' t.reads.length c') 38
  have HB0 := Lib.hid (alloc_below w (.cells #[.int .i64 t.session, .slice A t.writes.length c, .slice A' t.reads.length c'] 38))
  have c0 := new_cell w #[.int .i64 t.session, .slice A t.writes.length c, .slice A' t.reads.length c'] 38 0 _ rfl
  have c1 := new_cell w #[.int .i64 t.session, .slice A t.writes.length c, .slice A' t.reads.length c'] 38 1 _ rfl
  have c2 := new_cell w #[.int .i64 t.session, .slice A t.writes.length c, .slice A' t.reads.length c'] 38 2 _ rfl
  have C0 := Lib.hid c0
  have C1 := Lib.hid c1
  have HS1 := Lib.hid hs1
  clear hx hy hformx hformy hf hcell c0 c1 hs1
  go_enter Tryz.func43, Tryz.ntmps43
  go_wp2_with fail
  generalize w.alloc (.cells #[.int .i64 t.session, .slice A t.writes.length c, .slice A' t.reads.length c'] 38) = w1 at *
  clear c2
  go_loopw [5, 13] (fun v i wr => ∃ k : Nat, k ≤ t.reads.length ∧ i = .int .i64 k ∧ Hid (OpsRel w1 ((t.reads.take k).map (Hi.readEv t.session)) v wr)) (fun _ i _ => t.reads.length - (intOf i).toNat)
  case atStart => exact ⟨0, Nat.zero_le _, rfl, World.ownsRow_nil _ _ _ _, Below.refl _ _⟩
  case round =>
    obtain ⟨k, hk, rfl, HO⟩ := hrel
    obtain ⟨AV, cV, rfl⟩ := own_form HO.out.1
    by_cases hlt : k < t.reads.length
    · obtain ⟨ad, rfl, hblk, hE⟩ := HY.out k hlt
      have HT := Lib.hid (ops_reads t k hlt)
      have hfk := HF.out _ (List.getElem_mem hlt)
      have hdl : ((t.reads.take k).map (Hi.readEv t.session)).length ≤ k := by rw [List.length_map, List.length_take]; omega
      obtain ⟨⟨a, b⟩, hz⟩ : ∃ z, z = t.reads[k]'hlt := ⟨_, rfl⟩
      rw [← hz] at hE HT hfk
      obtain ⟨e0, e1⟩ := hE.below hblk (below_all HB0.out HO.out.2)
      dsimp only at hfk e0 e1
      generalize (t.reads.take k).map (Hi.readEv t.session) = d at *
      have HA := Lib.hid (below_all HO.out.2 (alloc_below wr (.cells #[.int .i64 a, .int .i64 b] 40)))
      have HOA := Lib.hid (HO.out.1.alloc (.cells #[.int .i64 a, .int .i64 b] 40))
      have s0 := (HA.out.cell (p := ⟨w.heap.size, 0, none⟩) (by rw [HS1.out]; exact Nat.lt_succ_self _)).trans C0.out
      have t0 := new_cell wr #[.int .i64 a, .int .i64 b] 40 0 _ rfl
      have t1 := new_cell wr #[.int .i64 a, .int .i64 b] 40 1 _ rfl
      have HLT : Hid (wr.heap.size < (wr.alloc (.cells #[.int .i64 a, .int .i64 b] 40)).heap.size) := by rw [Hid, World.size_alloc]; exact Nat.lt_succ_self _
      clear hE hz
      go_wp2_with fail
      generalize wr.alloc (.cells #[.int .i64 a, .int .i64 b] 40) = wa at *
      go_region_law (first
        | (refine step_append_lies _ rfl (.tmp 17) (.tmp 26) 45 rfl w1.heap.size 74 i0 _ 4 32 Tryz.underlying45 I0.out I1.out I2.out I3.out rfl (by decide) (.slice AV d.length cV) d.length (d.flatMap evCells) (by simp [Act.eval]) HO4.out ⟨w4.heap.size, 0, none⟩ 1 1 (evCells (Hi.readEv t.session (a, b))) (by simp [Act.eval]) rfl HNE.out (one_evs _) (by decide) (by simp only [maxLen]; omega) (by omega) (by simp; exact HBS.out) (w4.heap.size + 1) (by simp) ?_; intro g2 cap2 w5 hown5 hgrow5 hat5 hlt5; have HO5 := Lib.hid (own_evs [Hi.readEv t.session (a, b)] (by simpa using hown5)); have HB5 := Lib.hid (below_append (HB4.out.alloc HB4.out.size _) (HB4.out.alloc HB4.out.size _).size HO4.out hgrow5); clear hown5 hgrow5 hat5 hlt5)
        | (go_simp; go_at_call 70; refine (hValue_at b _ hfk).mono ?_; rintro e w4 ⟨rfl, hb4⟩; have HB4 := Lib.hid (below_all (below_all HA.out (drewN_below wa 1)) hb4); have HO4 := Lib.hid ((own_below (own_drewN HOA.out 1) hb4).alloc (.cells #[.int .i64 1, .int .i64 t.session, .int .i64 a, .int .i64 (b + 1)] 74)); have s4 := (HB4.out.cell (p := ⟨w.heap.size, 0, none⟩) (by rw [HS1.out]; exact Nat.lt_succ_self _)).trans C0.out; have t4 : w4.cell? ⟨wr.heap.size, 0, none⟩ = some (.int .i64 a) := (hb4.cell HLT.out).trans t0; have HNE := Lib.hid (new_ev w4 (Hi.readEv t.session (a, b)) 74); have HBS := Lib.hid (Nat.le_trans HB4.out.size (Nat.le_succ w4.heap.size)); clear hb4))
      all_goals
        go_wp2_with fail
        go_roundw
        case rel =>
          refine ⟨k + 1, by omega, by go_num, ?_⟩
          rw [Hid, HT.out]
          exact ⟨HO5.out, HB5.out⟩
        case measure => simp [intOf]; omega
    · have HK : Hid ((t.reads.take k).map (Hi.readEv t.session) = t.reads.map (Hi.readEv t.session)) := by rw [Hid, List.take_of_length_le (by omega)]
      have HO1 : Hid (OpsRel w1 (t.reads.map (Hi.readEv t.session)) (.slice AV ((t.reads.take k).map (Hi.readEv t.session)).length cV) wr) := by
        rw [Hid, ← HK.out]; exact HO.out
      have s1 := (HO.out.2.cell (p := ⟨w.heap.size, 1, none⟩) (by rw [HS1.out]; exact Nat.lt_succ_self _)).trans C1.out
      have hrl : (t.reads.map (Hi.readEv t.session)).length ≤ 1073741824 := by rw [List.length_map]; exact hr
      have HOP : Hid (Hi.opsOf t n = t.reads.map (Hi.readEv t.session) ++ t.writes.map (Hi.writeEv t.session n)) := rfl
      generalize (t.reads.take k).map (Hi.readEv t.session) = d0 at *
      generalize t.reads.map (Hi.readEv t.session) = d1 at *
      generalize Value.slice AV d0.length cV = V0 at *
      clear HO HK HY HF
      go_wp2_with fail
      clear s1 hlt hk
      go_loopw [5, 32] (fun v i wr => ∃ k : Nat, k ≤ t.writes.length ∧ i = .int .i64 k ∧ Hid (OpsRel w1 (d1 ++ (t.writes.take k).map (Hi.writeEv t.session n)) v wr)) (fun _ i _ => t.writes.length - (intOf i).toNat)
      case atStart => exact ⟨0, Nat.zero_le _, rfl, by rw [Hid, List.take_zero, List.map_nil, List.append_nil]; exact HO1.out⟩
      case round =>
        clear HO1
        obtain ⟨k, hk, rfl, HO⟩ := hrel
        obtain ⟨AV, cV, rfl⟩ := own_form HO.out.1
        by_cases hlt : k < t.writes.length
        · obtain ⟨ad, rfl, hblk, hE⟩ := HX.out k hlt
          have HT : Hid (d1 ++ (t.writes.take (k + 1)).map (Hi.writeEv t.session n) = (d1 ++ (t.writes.take k).map (Hi.writeEv t.session n)) ++ [Hi.writeEv t.session n t.writes[k]]) := by rw [Hid, ops_writes t n k hlt, List.append_assoc]
          have hdl : (d1 ++ (t.writes.take k).map (Hi.writeEv t.session n)).length ≤ 1073741824 + k := by rw [List.length_append, List.length_map, List.length_take]; omega
          obtain ⟨a, hz⟩ : ∃ z, z = t.writes[k]'hlt := ⟨_, rfl⟩
          rw [← hz] at hE HT
          have HBW := Lib.hid (below_all HB0.out HO.out.2)
          have e0 := (HBW.out.cell (p := ad.add k) (by rw [add_block]; exact hblk)).trans hE
          generalize d1 ++ (t.writes.take k).map (Hi.writeEv t.session n) = d at *
          have s0 := (HO.out.2.cell (p := ⟨w.heap.size, 0, none⟩) (by rw [HS1.out]; exact Nat.lt_succ_self _)).trans C0.out
          clear hE hz
          go_wp2_with fail
          go_region_law (first
            | (refine step_append_lies _ rfl (.tmp 36) (.tmp 43) 45 rfl w1.heap.size 74 i0 _ 4 32 Tryz.underlying45 I0.out I1.out I2.out I3.out rfl (by decide) (.slice AV d.length cV) d.length (d.flatMap evCells) (by simp [Act.eval]) HO4.out ⟨w4.heap.size, 0, none⟩ 1 1 (evCells (Hi.writeEv t.session n a)) (by simp [Act.eval]) rfl HNE.out (one_evs _) (by decide) (by simp only [maxLen]; omega) (by omega) (by simp; exact HBS.out) (w4.heap.size + 1) (by simp) ?_; intro g2 cap2 w5 hown5 hgrow5 hat5 hlt5; have HO5 := Lib.hid (own_evs [Hi.writeEv t.session n a] (by simpa using hown5)); have HB5 := Lib.hid (below_append (HB4.out.alloc HB4.out.size _) (HB4.out.alloc HB4.out.size _).size HO4.out hgrow5); clear hown5 hgrow5 hat5 hlt5)
            | (go_simp; go_at_call 70; refine (hValue_at (n : Int) _ (by omega)).mono ?_; rintro e w4 ⟨rfl, hb4⟩; have HB4 := Lib.hid (below_all (below_all HO.out.2 (drewN_below wr 1)) hb4); have HO4 := Lib.hid ((own_below (own_drewN HO.out.1 1) hb4).alloc (.cells #[.int .i64 2, .int .i64 t.session, .int .i64 a, .int .i64 ((n : Int) + 1)] 74)); have s4 := (HB4.out.cell (p := ⟨w.heap.size, 0, none⟩) (by rw [HS1.out]; exact Nat.lt_succ_self _)).trans C0.out; have HNE := Lib.hid (new_ev w4 (Hi.writeEv t.session n a) 74); have HBS := Lib.hid (Nat.le_trans HB4.out.size (Nat.le_succ w4.heap.size)); clear hb4))
          all_goals
            go_wp2_with fail
            go_roundw
            case rel =>
              refine ⟨k + 1, by omega, by go_num, ?_⟩
              rw [Hid, HT.out]
              exact ⟨HO5.out, HB5.out⟩
            case measure => simp [intOf]; omega
        · have HE : Hid (d1 ++ (t.writes.take k).map (Hi.writeEv t.session n) = Hi.opsOf t n) := by rw [Hid, List.take_of_length_le (by omega), HOP.out]
          have HO' : Hid (wr.ownsRow w.heap.size 74 4 (.slice AV (d1 ++ (t.writes.take k).map (Hi.writeEv t.session n)).length cV) (Hi.opsOf t n).length ((Hi.opsOf t n).flatMap evCells)) := by
            rw [Hid, ← HE.out]; exact HO.out.1.mono (by rw [HS1.out]; exact Nat.le_succ _)
          go_wp2_with fail
          go_ret
          exact ⟨_, rfl, HO'.out, below_all HB0.out HO.out.2⟩

/-- The transactions so far, and each one's ops, in memory that the call made. -/
structure TxsOwn (w : World) (base : Nat) (v : Value) (p : List (Gr.Tx × Value)) : Prop where
  row : w.ownsRow base 69 4 v p.length (p.flatMap txC)
  ops : ∀ x ∈ p, w.ownsRow base 74 4 x.2 x.1.ops.length (x.1.ops.flatMap evCells)
theorem TxsOwn.below {w w' : World} {base : Nat} {v : Value} {p : List (Gr.Tx × Value)} (h : TxsOwn w base v p) (hb : Below w.heap.size w w') : TxsOwn w' base v p := ⟨own_below h.row hb, fun x hx => own_below (h.ops x hx) hb⟩
theorem TxsOwn.txs {w : World} {base : Nat} {v : Value} {p : List (Gr.Tx × Value)} (h : TxsOwn w base v p) : Txs w v (p.map (·.1)) := ⟨p, rfl, Sl.own h.row, fun x hx => Evs.own (h.ops x hx)⟩
theorem TxsOwn.snoc {w w' : World} {base : Nat} {v v' : Value} {p : List (Gr.Tx × Value)} {x : Gr.Tx × Value} (h : TxsOwn w base v p) (ho : w.ownsRow base 74 4 x.2 x.1.ops.length (x.1.ops.flatMap evCells))
    (hrow : w'.ownsRow base 69 4 v' (p.length + 1) (p.flatMap txC ++ txC x)) (hg : w.grownBy w' v.ownBlock) : TxsOwn w' base v' (p ++ [x]) := by
  have key : ∀ y : Gr.Tx × Value, w.ownsRow base 74 4 y.2 y.1.ops.length (y.1.ops.flatMap evCells) → w'.ownsRow base 74 4 y.2 y.1.ops.length (y.1.ops.flatMap evCells) := fun y hy => hy.kept hg (own_types hy h.row (by decide))
  refine ⟨?_, fun y hy => ?_⟩
  · rw [List.length_append, List.flatMap_append]
    simpa using hrow
  · rcases List.mem_append.1 hy with q | q
    · exact key y (h.ops y q)
    · rw [List.mem_singleton.1 q]; exact key x ho
theorem txs_take (h : List So.Txn) (k : Nat) (hk : k < h.length) : (Hi.txsOf h).take (k + 1) = (Hi.txsOf h).take k ++ [Hi.txOf k h[k]] := by
  rw [List.take_succ_eq_append_getElem (by rw [Hi.txsOf_len]; exact hk), Hi.txsOf_at h k hk]

set_option maxHeartbeats 1000000 in
theorem txsOf_at' (h : List So.Txn) (u : Value) (w : World) (hv : Txns w u h) (hl : h.length ≤ 32) (hr : Hi.Right h) (ho : ∀ t ∈ h, t.writes.length ≤ 1073741824 ∧ t.reads.length ≤ 1073741824) : Calls Tryz.prog 19 #[.agg #[u]] w (RetTxRow w (Hi.txsOf h)) := by
  obtain ⟨i0, hi0, hz0, hz1, hz2⟩ := info_parts gtx_info
  have I0 := Lib.hid hi0
  have I1 := Lib.hid hz0
  have I2 := Lib.hid hz1
  have I3 := Lib.hid hz2
  clear hi0 hz0 hz1 hz2
  have HB0 := Lib.hid (alloc_below w (.cells #[u] 24))
  obtain ⟨A, c, rfl, hform⟩ := hv.spelled
  have HF := Lib.hid hform
  have HO := Lib.hid ho
  have HRT := Lib.hid hr
  have hs1 : (w.alloc (.cells #[.slice A h.length c] 24)).heap.size = w.heap.size + 1 := by simp
  have HS1 := Lib.hid hs1
  have c0 := (Boxed.new w 24 (.slice A h.length c)).cell
  clear hform hv ho hs1 hr
  go_enter Tryz.func19, Tryz.ntmps19
  go_wp2_with fail
  generalize w.alloc (.cells #[.slice A h.length c] 24) = w1 at *
  clear c0
  go_loopw [3, 9] (fun v i wr => ∃ (k : Nat) (p : List (Gr.Tx × Value)), k ≤ h.length ∧ i = .int .i64 k ∧ Hid (p.map (·.1) = (Hi.txsOf h).take k) ∧ Hid (TxsOwn wr w1.heap.size v p) ∧ Hid (Below w1.heap.size w1 wr)) (fun _ i _ => h.length - (intOf i).toNat)
  case atStart => exact ⟨0, [], Nat.zero_le _, rfl, rfl, ⟨World.ownsRow_nil _ _ _ _, fun _ hx => (List.not_mem_nil hx).elim⟩, Below.refl _ _⟩
  case round =>
    obtain ⟨k, p, hk, rfl, HP, HT, HB⟩ := hrel
    obtain ⟨AV, cV, rfl⟩ := own_form HT.out.row
    by_cases hlt : k < h.length
    · obtain ⟨ad, x, y, rfl, hblk, hE, hx, hy⟩ := HF.out k hlt
      have HBW := Lib.hid (below_all HB0.out HB.out)
      have HTK := Lib.hid (txs_take h k hlt)
      have hpl : p.length ≤ k := by
        have := congrArg List.length HP.out
        rw [List.length_map, List.length_take] at this
        omega
      obtain ⟨e0, e1, e2⟩ := hE.below hblk HBW.out
      have HOK := Lib.hid (HO.out _ (List.getElem_mem hlt))
      have HFR : Hid (∀ y ∈ h[k].reads, -1 ≤ y.2 ∧ y.2 ≤ 4294967296) := fun y hy => by
        rcases (HRT.out.2 k hlt).froms y hy with q | ⟨j, hj, q, _⟩
        · omega
        · omega
      generalize h[k] = t at *
      obtain ⟨A1, c1, rfl, _⟩ := hx.spelled
      obtain ⟨A2, c2, rfl, _⟩ := hy.spelled
      have HA := Lib.hid (below_all HB.out (alloc_below wr (.cells #[.int .i64 t.session, .slice A1 t.writes.length c1, .slice A2 t.reads.length c2] 38)))
      have HTA := Lib.hid (HT.out.below (alloc_below wr (.cells #[.int .i64 t.session, .slice A1 t.writes.length c1, .slice A2 t.reads.length c2] 38)))
      have HX := Lib.hid ((hx.below HB0.out).below HA.out)
      have HY := Lib.hid ((hy.below HB0.out).below HA.out)
      have s0 := new_cell wr #[.int .i64 t.session, .slice A1 t.writes.length c1, .slice A2 t.reads.length c2] 38 0 _ rfl
      have s1 := new_cell wr #[.int .i64 t.session, .slice A1 t.writes.length c1, .slice A2 t.reads.length c2] 38 1 _ rfl
      have s2 := new_cell wr #[.int .i64 t.session, .slice A1 t.writes.length c1, .slice A2 t.reads.length c2] 38 2 _ rfl
      have HLT : Hid (wr.heap.size < (wr.alloc (.cells #[.int .i64 t.session, .slice A1 t.writes.length c1, .slice A2 t.reads.length c2] 38)).heap.size) := by rw [Hid, World.size_alloc]; exact Nat.lt_succ_self _
      clear hE hx hy
      go_wp2_with fail
      generalize wr.alloc (.cells #[.int .i64 t.session, .slice A1 t.writes.length c1, .slice A2 t.reads.length c2] 38) = wa at *
      go_region_law (first
        | (refine step_append_lies _ rfl (.tmp 14) (.tmp 21) 56 rfl w1.heap.size 69 i0 _ 4 48 Tryz.underlying56 I0.out I1.out I2.out I3.out rfl (by decide) (.slice AV p.length cV) p.length (p.flatMap txC) (by simp [Act.eval]) HT4.out.row ⟨w4.heap.size, 0, none⟩ 1 1 (txC (Hi.txOf k t, .slice Ak nk ck)) (by simp [Act.eval]) rfl HNE.out (one_txc _ _ _ _) (by decide) (by simp only [maxLen]; omega) (by omega) (by simp; exact HBS.out) (w4.heap.size + 1) (by simp) ?_; intro g2 cap2 w5 hown5 hgrow5 hat5 hlt5; have HT5 := Lib.hid (HT4.out.snoc HO4.out hown5 hgrow5); have HB5 := Lib.hid (below_append (HB4.out.alloc HB4.out.size _) (HB4.out.alloc HB4.out.size _).size HT4.out.row hgrow5); clear hown5 hgrow5 hat5 hlt5)
        | (go_simp; go_at_call 43; (with_reducible refine (opsOf_at t _ _ k _ (HX.out.below ((Below.refl _ wa).drew)) (HY.out.below ((Below.refl _ wa).drew)) (by omega) HOK.out.1 HOK.out.2 HFR.out).mono ?_); rintro e w4 ⟨ov, rfl, hov, hb4⟩; obtain ⟨Ak, nk, ck, rfl⟩ := own_any hov; have HB4 := Lib.hid (below_all (below_all HA.out ((Below.refl _ wa).drew)) hb4); have HT4 := Lib.hid (((HTA.out.below ((Below.refl _ wa).drew)).below hb4).below (alloc_below w4 (.cells #[.int .i64 t.session, .bool true, .int .i64 0, .slice Ak nk ck] 69))); have HO4 : Hid ((w4.alloc (.cells #[.int .i64 t.session, .bool true, .int .i64 0, .slice Ak nk ck] 69)).ownsRow w1.heap.size 74 4 (.slice Ak nk ck) (Hi.txOf k t).ops.length ((Hi.txOf k t).ops.flatMap evCells)) := ((hov.mono (base' := w1.heap.size) HA.out.size).alloc _); have t4 : w4.cell? ⟨wr.heap.size, 0, none⟩ = some (.int .i64 t.session) := (hb4.cell HLT.out).trans s0; have HNE := Lib.hid (new_tx w4 (Hi.txOf k t) (.slice Ak nk ck) 69); have HBS := Lib.hid (Nat.le_trans HB4.out.size (Nat.le_succ w4.heap.size)); clear hb4 hov))
      all_goals
        go_wp2_with fail
        go_roundw
        case rel =>
          refine ⟨k + 1, _, by omega, by go_num, ?_, HT5, HB5⟩
          rw [Hid, HTK.out, List.map_append, HP.out]
          rfl
        case measure => simp [intOf]; omega
    · have HE : Hid (p.map (·.1) = Hi.txsOf h) := by rw [Hid, HP.out, List.take_of_length_le (by rw [Hi.txsOf_len]; omega)]
      go_wp2_with fail
      go_ret
      exact ⟨_, rfl, by rw [← HE.out]; exact HT.out.txs, below_all HB0.out HB.out⟩

theorem hShow_at (h : List So.Txn) (u : Value) (w : World) (hv : Txns w u h) (hK : KW w) (ho : ∀ t ∈ h, t.writes.length ≤ 4294967296 ∧ t.reads.length ≤ 4294967296) : Calls Tryz.prog 8 #[.agg #[u]] w (RetStr w (Hi.showR h)) := by
  have HB0 := Lib.hid (alloc_below w (.cells #[u] 24))
  have HV := Lib.hid (hv.below HB0.out)
  have HK := Lib.hid (hK.below HB0.out)
  obtain ⟨A, c, rfl, _⟩ := hv.spelled
  have HO := Lib.hid ho
  have c0 := (Boxed.new w 24 (.slice A h.length c)).cell
  have HC0 := Lib.hid c0
  have HLT : Hid (w.heap.size < (w.alloc (.cells #[.slice A h.length c] 24)).heap.size) := by rw [Hid, World.size_alloc]; exact Nat.lt_succ_self _
  clear hv hK ho
  go_enter Tryz.func8, Tryz.ntmps8
  go_wp2_with fail
  generalize w.alloc (.cells #[.slice A h.length c] 24) = w1 at *
  refine (hRight_at h _ _ HV.out HO.out).mono ?_
  rintro e w2 ⟨rfl, hb2⟩
  have HB2 := Lib.hid hb2
  have c2 := (hb2.cell (p := ⟨w.heap.size, 0, none⟩) HLT.out).trans HC0.out
  clear hb2
  by_cases hr : Hi.Right h
  · have HRT := Lib.hid hr
    rw [Hi.rightB_yes hr]
    clear hr
    go_wp2_with fail
    refine (txsOf_at' h _ _ (HV.out.below HB2.out) HRT.out.1 HRT.out (fun t ht => Hi.right_len HRT.out t ht)).mono ?_
    rintro e w3 ⟨v3, rfl, hv3, hb3⟩
    have HB3 := Lib.hid (below_all HB2.out hb3)
    have HV3 := Lib.hid hv3
    obtain ⟨A3, c3, rfl, _⟩ := hv3.spelled
    clear hb3 hv3
    go_wp2_with fail
    refine (events_at _ _ _ HV3.out (Hi.events_few HRT.out)).mono ?_
    rintro e w4 ⟨v4, rfl, hv4, hb4⟩
    have HB4 := Lib.hid (below_all HB3.out hb4)
    have HV4 := Lib.hid hv4
    obtain ⟨A4, c4, rfl, _⟩ := hv4.spelled
    clear hb4 hv4
    go_wp2_with fail
    refine (diShow_at _ _ _ HV4.out (HK.out.below HB4.out)).mono ?_
    rintro e w5 ⟨rfl, hb5⟩
    have HB5 := Lib.hid (below_all HB0.out (below_all HB4.out hb5))
    have HE : Hid (Di.showR (Gr.eventsR (Hi.txsOf h)) = Hi.showR h) := (Hi.show_is h HRT.out).symm
    rw [HE.out]
    clear hb5 HE
    go_wp2_with fail
    go_ret2
    exact ⟨rfl, HB5.out⟩
  · have HE := Lib.hid (Hi.show_not h hr)
    rw [Hi.rightB_no hr]
    clear hr
    go_wp2_with fail
    go_ret2
    exact ⟨by rw [HE.out]; rfl, below_all HB0.out HB2.out⟩
end Go.Proofs.YtfjamdpgbbnmcaaGreatDoor
