/-
  What the reference's Same of layer 7 answers of two histories that are one, and the laws' small functions few, op and plain of layer 7; what was in memory stays as it was.
  Conditions: a row has at most 2^32 elements.
-/
import Derived.Test.YtodahdnooidmaaaSoRefA
import Derived.Test.YtodahdnooidmaaaGrAll
set_option maxRecDepth 4000
namespace Go.Proofs.Ytodahdnooidmaaa
open Go.RowKit

/-- A variable that holds a transaction of a history. -/
structure TxnVar (w : World) (b : Nat) (t : So.Txn) (u v : Value) : Prop where
  c0 : w.cell? ⟨b, 0, none⟩ = some (.int .i64 t.session)
  c1 : w.cell? ⟨b, 1, none⟩ = some u
  c2 : w.cell? ⟨b, 2, none⟩ = some v
theorem TxnVar.new (w : World) (t : So.Txn) (u v : Value) (ty : TypeId) : TxnVar (w.alloc (.cells #[.int .i64 t.session, u, v] ty)) w.heap.size t u v :=
  ⟨new_cell w _ _ 0 _ rfl, new_cell w _ _ 1 _ rfl, new_cell w _ _ 2 _ rfl⟩
theorem TxnVar.below {w w' : World} {b : Nat} {t : So.Txn} {u v : Value} (h : TxnVar w b t u v) (hb : Below w.heap.size w w') : TxnVar w' b t u v := by
  have hlt := World.block_lt_of_cell? w _ h.c0
  exact ⟨(hb.cell (p := ⟨b, 0, none⟩) hlt).trans h.c0, (hb.cell (p := ⟨b, 1, none⟩) hlt).trans h.c1, (hb.cell (p := ⟨b, 2, none⟩) hlt).trans h.c2⟩
/-- Two variables of one cell each. -/
def Boxes (w : World) (b : Nat) (u v : Value) : Prop := w.cell? ⟨b, 0, none⟩ = some u ∧ w.cell? ⟨b + 1, 0, none⟩ = some v
theorem Boxes.below {w w' : World} {b : Nat} {u v : Value} (h : Boxes w b u v) (hb : Below w.heap.size w w') : Boxes w' b u v :=
  ⟨(hb.cell (World.block_lt_of_cell? w _ h.1)).trans h.1, (hb.cell (World.block_lt_of_cell? w _ h.2)).trans h.2⟩
theorem boxes_new (w : World) (u v : Value) (t t' : TypeId) : Boxes ((w.alloc (.cells #[u] t)).alloc (.cells #[v] t')) w.heap.size u v := by
  refine ⟨cell_new (new_cell w _ _ 0 _ rfl) _, ?_⟩
  have := new_cell (w.alloc (.cells #[u] t)) #[v] t' 0 _ rfl
  rwa [size_new] at this
set_option maxHeartbeats 2000000 in
theorem rSame7_at (ts : List So.Txn) (u v : Value) (w : World) (hu : Txns w u ts) (hv : Txns w v ts) (hl : ts.length ≤ 4294967296) (ho : ∀ t ∈ ts, t.writes.length ≤ 4294967296 ∧ t.reads.length ≤ 4294967296) : Calls Try.prog 12 #[.agg #[u], .agg #[v]] w (RetBool w true) := by
  obtain ⟨A, c, rfl, hf⟩ := hu.spelled
  obtain ⟨B, c', rfl, hg⟩ := hv.spelled
  have HF := Lib.hid hf
  have HG := Lib.hid hg
  have HO := Lib.hid ho
  have HX0 := Lib.hid (boxes_new w (.slice A ts.length c) (.slice B ts.length c') 27 27)
  have HB0 := Lib.hid (below_all (alloc_below w (.cells #[.slice A ts.length c] 27)) (alloc_below _ (.cells #[.slice B ts.length c'] 27)))
  clear hf hg hu hv ho
  have hb : (((ts.length : Nat) : Int) != ((ts.length : Nat) : Int)) = false := by simp
  go_enter Try.func12, Try.ntmps12
  go_wp2
  go_loopw [5] (fun i wr => ∃ k : Nat, k ≤ ts.length ∧ i = .int .i64 k ∧ Boxes wr w.heap.size (.slice A ts.length c) (.slice B ts.length c') ∧ Below w.heap.size w wr) (fun i _ => ts.length - (intOf i).toNat)
  case atStart => exact ⟨0, Nat.zero_le _, rfl, HX0.out, HB0.out⟩
  case round =>
    clear HX0 HB0
    obtain ⟨k, hk, rfl, hX, hB⟩ := hrel
    have HB := Lib.hid hB
    have HX := Lib.hid hX
    obtain ⟨b0, b1⟩ := hX
    clear hB
    by_cases hlt : k < ts.length
    · obtain ⟨ad, x, y, rfl, hblk, hE, hx, hy⟩ := HF.out k hlt
      obtain ⟨ad', x', y', rfl, hblk', hE', hx', hy'⟩ := HG.out k hlt
      obtain ⟨t, ht⟩ : ∃ t, t = ts[k]'hlt := ⟨_, rfl⟩
      have HL : Hid (t.writes.length ≤ 4294967296 ∧ t.reads.length ≤ 4294967296) := by rw [ht]; exact HO.out _ (List.getElem_mem _)
      rw [← ht] at hE hE' hx hy hx' hy'
      obtain ⟨Ax, cx, rfl, _⟩ := hx.spelled
      obtain ⟨Ay, cy, rfl, _⟩ := hy.spelled
      obtain ⟨Ax', cx', rfl, _⟩ := hx'.spelled
      obtain ⟨Ay', cy', rfl, _⟩ := hy'.spelled
      obtain ⟨c0, c1, c2⟩ := hE.below hblk HB.out
      have hW1 := alloc_below wr (.cells #[.int .i64 t.session, .slice Ax t.writes.length cx, .slice Ay t.reads.length cy] 41)
      have hW2 := alloc_below (wr.alloc (.cells #[.int .i64 t.session, .slice Ax t.writes.length cx, .slice Ay t.reads.length cy] 41)) (.cells #[.int .i64 t.session, .slice Ax' t.writes.length cx', .slice Ay' t.reads.length cy'] 41)
      obtain ⟨g0, g1⟩ := HX.out.below hW1
      obtain ⟨d0, d1, d2⟩ := hE'.below hblk' (below_all HB.out hW1)
      have HX2 := Lib.hid ((HX.out.below hW1).below hW2)
      have HB2 := Lib.hid (below_all (below_all HB.out hW1) hW2)
      have HV1 := Lib.hid ((TxnVar.new wr t (.slice Ax t.writes.length cx) (.slice Ay t.reads.length cy) 41).below hW2)
      have hv2 := TxnVar.new (wr.alloc (.cells #[.int .i64 t.session, .slice Ax t.writes.length cx, .slice Ay t.reads.length cy] 41)) t (.slice Ax' t.writes.length cx') (.slice Ay' t.reads.length cy') 41
      rw [size_new] at hv2
      have HV2 := Lib.hid hv2
      have HXW := Lib.hid (hx.below HB2.out)
      have HYW := Lib.hid (hy.below HB2.out)
      have HXW' := Lib.hid (hx'.below HB2.out)
      have HYW' := Lib.hid (hy'.below HB2.out)
      clear hE hE' hx hy hx' hy' ht hW1 hW2 hv2
      go_wp2_with fail
      refine (rInts_at t.writes _ _ _ HXW.out HXW'.out HL.out.1).mono ?_
      rintro e w2 ⟨rfl, hb2⟩
      have HB3 := Lib.hid (below_all HB2.out hb2)
      have HX3 := Lib.hid (HX2.out.below hb2)
      have HV3 := Lib.hid (HV1.out.below hb2)
      have HV4 := Lib.hid (HV2.out.below hb2)
      have HY3 := Lib.hid (HYW.out.below hb2)
      have HY4 := Lib.hid (HYW'.out.below hb2)
      obtain ⟨p0, p1, p2⟩ := HV3.out
      obtain ⟨q0, q1, q2⟩ := HV4.out
      clear hb2 c0 c1 c2 d0 d1 d2 b0 b1 g0 g1 HX2 HB2 HV1 HV2 HXW HYW HXW' HYW' HX HB
      go_wp2_with fail
      refine (rTakes_at t.reads _ _ _ HY3.out HY4.out HL.out.2).mono ?_
      rintro e w3 ⟨rfl, hb3⟩
      have HB5 := Lib.hid (below_all HB3.out hb3)
      have HX5 := Lib.hid (HX3.out.below hb3)
      obtain ⟨s0, _, _⟩ := HV3.out.below hb3
      obtain ⟨r0, _, _⟩ := HV4.out.below hb3
      have hne : (t.session != t.session) = false := by simp
      clear hb3 p0 p1 p2 q0 q1 q2 HX3 HB3 HV3 HV4 HY3 HY4
      go_wp2_with fail
      go_roundw
      case rel => exact ⟨k + 1, by omega, by go_num, HX5.out, HB5.out⟩
      case measure => simp [intOf]; omega
    · go_wp2_with fail
      go_ret
      exact ⟨rfl, HB.out⟩

/-- Few, and short. -/
def fewB (l : List Gr.Tx) : Bool := decide (l.length ≤ 40) && l.all (fun t => decide (t.ops.length ≤ 40))
theorem fewB_iff (l : List Gr.Tx) : fewB l = true ↔ l.length ≤ 40 ∧ ∀ t ∈ l, t.ops.length ≤ 40 := by
  rw [fewB, Bool.and_eq_true, decide_eq_true_eq, List.all_eq_true]
  simp
theorem few_at (l : List Gr.Tx) (v : Value) (w : World) (hv : Txs w v l) : Calls Try.prog 8 #[v] w fun e w' => e = .returned (.bool (fewB l)) ∧ w = w' := by
  obtain ⟨A, c, rfl, hform⟩ := hv.spelled
  have HF := Lib.hid hform
  clear hform hv
  go_enter Try.func8, Try.ntmps8
  by_cases h4 : 40 < l.length
  · have hd : decide ((40 : Int) < (l.length : Int)) = true := by simp; omega
    have HR : Hid (fewB l = false) := by
      rw [Hid]
      cases hq : fewB l with
      | false => rfl
      | true => have := ((fewB_iff l).1 hq).1; omega
    go_wp2_with fail
    go_ret
    exact ⟨ret_bool HR.out.symm, rfl⟩
  have hd : decide ((40 : Int) < (l.length : Int)) = false := by simp; omega
  have h40 : l.length ≤ 40 := by omega
  clear h4
  go_wp2_with fail
  go_loop [3] (fun i => ∃ k : Nat, k ≤ l.length ∧ i = .int .i64 k ∧ Hid (∀ t ∈ l.take k, t.ops.length ≤ 40)) (fun i => l.length - (intOf i).toNat)
  case atStart => exact ⟨0, Nat.zero_le _, rfl, fun t ht => by cases ht⟩
  case round =>
    obtain ⟨k, hk, rfl, hall⟩ := hrel
    by_cases hlt : k < l.length
    · obtain ⟨ad, u, rfl, hblk, hT, hU⟩ := HF.out k hlt
      obtain ⟨t, ht⟩ : ∃ t, t = l[k]'hlt := ⟨_, rfl⟩
      rw [← ht] at hT hU
      obtain ⟨Au, cu, rfl, _⟩ := hU.form
      have hc3 := hT.c3
      have HT := Lib.hid ht
      clear hT hU ht
      by_cases hq : 40 < t.ops.length
      · have hd2 : decide ((40 : Int) < (t.ops.length : Int)) = true := by simp; omega
        have HR : Hid (fewB l = false) := by
          rw [Hid]
          cases hf : fewB l with
          | false => rfl
          | true =>
            have := ((fewB_iff l).1 hf).2 t (by rw [HT.out]; exact List.getElem_mem _)
            omega
        clear hq
        go_wp2_with fail
        go_ret
        exact ⟨ret_bool HR.out.symm, rfl⟩
      · have hd2 : decide ((40 : Int) < (t.ops.length : Int)) = false := by simp; omega
        have HN : Hid (∀ t ∈ l.take (k + 1), t.ops.length ≤ 40) := fun x hx => by
          rw [List.take_succ_eq_append_getElem hlt] at hx
          rcases List.mem_append.1 hx with hx | hx
          · exact hall.out x hx
          · rw [List.mem_singleton.1 hx, ← HT.out]; omega
        clear hq
        go_wp2_with fail
        go_round
        case rel => exact ⟨k + 1, by omega, by go_num, HN⟩
        case measure => simp [intOf]; omega
    · have HR : Hid (fewB l = true) := (fewB_iff l).2 ⟨h40, fun t ht => hall.out t (by rw [List.take_of_length_le (by omega)]; exact ht)⟩
      go_wp2_with fail
      go_ret
      exact ⟨ret_bool HR.out.symm, rfl⟩
theorem op_at (kind value : Int) (w : World) : Calls Try.prog 13 #[.int .i64 kind, .int .i64 value] w (RetEvRow w [⟨kind, 0, 1, value⟩]) := by
  have HL := Lib.hid (lit_evs w 45 [⟨kind, 0, 1, value⟩] (by simp [maxLen]))
  go_enter Try.func13, Try.ntmps13
  go_wp2_with fail
  go_ret
  exact ⟨_, rfl, HL.out, alloc_below _ _⟩
set_option maxHeartbeats 1000000 in
theorem plain7_at (l : List Gr.Tx) (v : Value) (w : World) (hv : Txs w v l) (hl : l.length ≤ 4294967296) : Calls Try.prog 11 #[v] w (RetTxRow w l) := by
  obtain ⟨j0, hi0, hz0, hz1, hz2⟩ := info_parts gt_info
  have J0 := Lib.hid hi0
  have J1 := Lib.hid hz0
  have J2 := Lib.hid hz1
  have J3 := Lib.hid hz2
  clear hi0 hz0 hz1 hz2
  obtain ⟨p, A, c, hp, rfl, hev, hform⟩ := hv.parts
  have HP := Lib.hid hp
  have hl2 : p.length ≤ 4294967296 := by rw [← hp, List.length_map] at hl; exact hl
  have HE := Lib.hid hev
  have HF := Lib.hid hform
  clear hform hv hev hp hl
  go_enter Try.func11, Try.ntmps11
  go_wp2
  go_loopw [3, 4] (fun v i wr => ∃ k : Nat, k ≤ p.length ∧ i = .int .i64 k ∧ wr.ownsRow w.heap.size 61 4 v k ((p.take k).flatMap txC) ∧ Below w.heap.size w wr) (fun _ i _ => p.length - (intOf i).toNat)
  case atStart => exact ⟨0, Nat.zero_le _, rfl, World.ownsRow_nil _ _ _ _, Below.refl _ _⟩
  case round =>
    obtain ⟨k, hk, rfl, hown, hb⟩ := hrel
    have HO := Lib.hid hown
    have HB := Lib.hid hb
    obtain ⟨A', cp, rfl⟩ := own_form hown
    clear hown hb
    by_cases hlt : k < p.length
    · obtain ⟨ad, rfl, hblk, hT⟩ := HF.out k hlt
      have hU := HE.out _ (List.getElem_mem hlt)
      obtain ⟨x, hx⟩ : ∃ x, x = p[k]'hlt := ⟨_, rfl⟩
      have HTC := Lib.hid (fun (W : World) (V : Value) => own_txc (w := W) (base := w.heap.size) (e := 61) (v := V) p k hlt)
      rw [← hx] at hT hU HTC
      obtain ⟨t, u⟩ := x
      dsimp only at hT hU HTC
      obtain ⟨Au, cu, rfl, _⟩ := hU.form
      have HT := Lib.hid hT
      have HBD := Lib.hid (HB.out.drew)
      have HBA := Lib.hid ((HBD.out).alloc HBD.out.size (.cells #[.int .i64 t.session, .bool t.done, .int .i64 t.first, .slice Au t.ops.length cu] 61))
      have HO1 := Lib.hid (own_drewN (HO.out.alloc (.cells #[.int .i64 t.session, .bool t.done, .int .i64 t.first, .slice Au t.ops.length cu] 61)) 1)
      have HNT := Lib.hid (new_tx wr t (.slice Au t.ops.length cu) 61)
      clear hT hU hx
      go_wp2_with fail
      go_region_held3 (fun w' => w'.cell? (ad.add (k * 4)) = some (.int .i64 t.session) ∧ w'.cell? ⟨(ad.add (k * 4)).block, (ad.add (k * 4)).off + 1, none⟩ = some (.bool t.done) ∧ w'.cell? ⟨(ad.add (k * 4)).block, (ad.add (k * 4)).off + 2, none⟩ = some (.int .i64 t.first) ∧ w'.cell? ⟨(ad.add (k * 4)).block, (ad.add (k * 4)).off + 3, none⟩ = some (.slice Au t.ops.length cu))
        (first | (exact HT.out.on hblk HBD.out) | (exact HT.out.on hblk HBA.out) | (exact HT.out.on hblk HB2.out))
        (first | (refine step_append_lies _ rfl (.tmp 11) (.tmp 33) 32 rfl w.heap.size 61 j0 _ 4 48 Try.underlying32 J0.out J1.out J2.out J3.out rfl (by decide) (.slice A' k cp) k ((p.take k).flatMap txC) (by simp [Act.eval]) HO1.out ⟨wr.heap.size, 0, none⟩ 1 1 (txC (t, .slice Au t.ops.length cu)) (by simp [Act.eval]) rfl HNT.out (one_txc _ _ _ _) (by decide) (by simp only [maxLen]; omega) (by omega) HBA.out.size (wr.heap.size + 1) (by simp) ?_; intro g2 cap2 w2 hown2 hgrow2 hat2 hlt2; have HO2 := Lib.hid hown2; have HB2 := Lib.hid (below_append HBA.out HBA.out.size HO1.out hgrow2); clear hown2 hgrow2 hat2 hlt2))
      all_goals
        go_wp2_with fail
        go_roundw
        case rel => exact ⟨k + 1, by omega, by go_num, HTC.out _ _ HO2.out, HB2.out⟩
        case measure => simp [intOf]; omega
    · have HK : Hid (p.take k = p ∧ k = p.length) := ⟨List.take_of_length_le (by omega), by omega⟩
      go_wp2_with fail
      go_ret
      have h := HO.out
      rw [HK.out.1] at h
      refine ⟨_, rfl, ⟨p, HP.out, ?_, fun x hx => (HE.out x hx).below HB.out⟩, HB.out⟩
      have h2 := Sl.own h
      rw [HK.out.2] at h2 ⊢
      exact h2
end Go.Proofs.Ytodahdnooidmaaa
