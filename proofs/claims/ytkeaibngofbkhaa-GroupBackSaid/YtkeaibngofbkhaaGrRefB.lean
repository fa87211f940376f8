/-
  What the reference's Same of layer 5 answers of two rows that are one, and the laws' Plain: the same transactions, in a row of its own. What was in memory stays as it was.
  Conditions: a row has at most 2^32 elements.
-/
import Derived.Test.YtkeaibngofbkhaaGrRefA
namespace Go.Proofs.Ytkeaibngofbkhaa
open Go.RowKit

/-- A row of transactions, in whatever memory was made. -/
def RetTxRow (w : World) (l : List Gr.Tx) (e : Ending) (w' : World) : Prop := ∃ v, e = .returned v ∧ Txs w' v l ∧ Below w.heap.size w w'

set_option maxHeartbeats 1000000 in
theorem rSame5_at (l : List Gr.Tx) (u v : Value) (w : World) (hu : Txs w u l) (hv : Txs w v l) (hl : l.length ≤ 4294967296) (ho : ∀ t ∈ l, t.ops.length ≤ 4294967296) : Calls Try.prog 10 #[u, v] w (RetBool w true) := by
  obtain ⟨A, c, rfl, hf⟩ := hu.spelled
  obtain ⟨B, c', rfl, hg⟩ := hv.spelled
  have HF := Lib.hid hf
  have HG := Lib.hid hg
  have HO := Lib.hid ho
  clear hf hg hu hv ho
  have hb : (((l.length : Nat) : Int) != ((l.length : Nat) : Int)) = false := by simp
  go_enter Try.func10, Try.ntmps10
  go_wp2
  go_loopw [5] (fun i wr => ∃ k : Nat, k ≤ l.length ∧ i = .int .i64 k ∧ Below w.heap.size w wr) (fun i _ => l.length - (intOf i).toNat)
  case atStart => exact ⟨0, Nat.zero_le _, rfl, Below.refl _ _⟩
  case round =>
    obtain ⟨k, hk, rfl, hB⟩ := hrel
    have HB := Lib.hid hB
    clear hB
    by_cases hlt : k < l.length
    · obtain ⟨ad, y, rfl, hblk, hE, hy⟩ := HF.out k hlt
      obtain ⟨ad', z, rfl, hblk', hE', hz⟩ := HG.out k hlt
      obtain ⟨t, ht⟩ : ∃ t, t = l[k]'hlt := ⟨_, rfl⟩
      rw [← ht] at hE hE' hy hz
      have HOL : Hid (t.ops.length ≤ 4294967296) := by rw [ht]; exact HO.out _ (List.getElem_mem _)
      have HY := Lib.hid ((hy.below HB.out).below (Below.refl _ wr).drew)
      have HZ := Lib.hid ((hz.below HB.out).below (Below.refl _ wr).drew)
      have HE := Lib.hid (hE.below hblk HB.out)
      have HE' := Lib.hid (hE'.below hblk' HB.out)
      have hbw : ad.block < wr.heap.size := Nat.lt_of_lt_of_le hblk HB.out.size
      have hbw' : ad'.block < wr.heap.size := Nat.lt_of_lt_of_le hblk' HB.out.size
      obtain ⟨Ay, cy, rfl, _⟩ := hy.form
      obtain ⟨Az, cz, rfl, _⟩ := hz.form
      have hc0 := HE.out.c0
      have hc1 := HE.out.c1
      have hc2 := HE.out.c2
      have hc3 := HE.out.c3
      have hd0 := HE'.out.c0
      have hd1 := HE'.out.c1
      have hd2 := HE'.out.c2
      have hd3 := HE'.out.c3
      clear hE hE' hy hz ht
      go_wp2_with fail
      go_region_law (go_simp; go_at_call 15; refine (rOne_at t t _ _ _ HY.out HZ.out HOL.out rfl).mono ?_; rintro e w2 ⟨rfl, hb2⟩; have HB2 := Lib.hid (below_all (Below.refl _ wr).drew hb2); clear hb2)
      all_goals
        have HE2 := Lib.hid (HE.out.below hbw HB2.out)
        have HE2' := Lib.hid (HE'.out.below hbw' HB2.out)
        have e2 := HE2.out.c2
        have f2 := HE2'.out.c2
        have hne : (t.first != t.first) = false := by simp
        have HB3 := Lib.hid (below_all HB.out HB2.out)
        clear hc0 hc1 hc2 hc3 hd0 hd1 hd2 hd3 HE HE' HB2
        go_wp2_with fail
        go_quiet (fail)
        go_wp2_with fail
        go_roundw
        case rel => exact ⟨k + 1, by omega, by go_num, below_drewN HB3.out _⟩
        case measure => simp [intOf]; omega
    · go_wp2_with fail
      go_ret
      exact ⟨rfl, HB.out⟩

theorem gt_info : (Try.prog.info? 40).map (fun i => (i.zero, i.size, i.bytes)) = some (some (.agg #[.int .i64 0, .bool false, .int .i64 0, .slice none 0 0]), 4, 48) := by kernel_rfl

theorem Txs.parts {w : World} {v : Value} {l : List Gr.Tx} (h : Txs w v l) :
    ∃ (p : List (Gr.Tx × Value)) (A : Option Addr) (c : Nat), p.map (·.1) = l ∧ v = .slice A p.length c ∧ (∀ x ∈ p, Evs w x.2 x.1.ops) ∧ ∀ (k : Nat) (hk : k < p.length), ∃ ad : Addr, A = some ad ∧ ad.block < w.heap.size ∧ TxIn w ad k p[k].1 p[k].2 := by
  obtain ⟨p, rfl, h2, h3⟩ := h
  obtain ⟨A, c, hv, hh⟩ := h2.form
  refine ⟨p, A, c, rfl, hv, h3, fun k hk => ?_⟩
  obtain ⟨ad, e, hb, hc⟩ := hh (by omega)
  have key : ∀ j (hj : j < 4) x, (txC p[k])[j]? = some x → w.cell? (ad.add (k * 4 + j)) = some x := fun j hj x hx => hc _ _ ((four_at txC_len p k hk j hj).trans hx)
  refine ⟨ad, e, hb, ⟨?_, ?_, ?_, ?_⟩⟩
  · exact key 0 (by omega) _ rfl
  · rw [add_next ad _ 1 (by omega)]; exact key 1 (by omega) _ rfl
  · rw [add_next ad _ 2 (by omega)]; exact key 2 (by omega) _ rfl
  · rw [add_next ad _ 3 (by omega)]; exact key 3 (by omega) _ rfl
theorem TxIn.on {w w' : World} {ad : Addr} {k : Nat} {t : Gr.Tx} {u : Value} (h : TxIn w ad k t u) (hlt : ad.block < w.heap.size) (hb : Below w.heap.size w w') :
    w'.cell? (ad.add (k * 4)) = some (.int .i64 t.session) ∧ w'.cell? ⟨(ad.add (k * 4)).block, (ad.add (k * 4)).off + 1, none⟩ = some (.bool t.done) ∧ w'.cell? ⟨(ad.add (k * 4)).block, (ad.add (k * 4)).off + 2, none⟩ = some (.int .i64 t.first) ∧ w'.cell? ⟨(ad.add (k * 4)).block, (ad.add (k * 4)).off + 3, none⟩ = some u :=
  let h' := h.below hlt hb
  ⟨h'.c0, h'.c1, h'.c2, h'.c3⟩
theorem own_txc {w : World} {base : Nat} {e : TypeId} {v : Value} (p : List (Gr.Tx × Value)) (k : Nat) (hk : k < p.length) (h : w.ownsRow base e 4 v (k + 1) ((p.take k).flatMap txC ++ txC p[k])) : w.ownsRow base e 4 v (k + 1) ((p.take (k + 1)).flatMap txC) := by
  rw [List.take_succ_eq_append_getElem hk, List.flatMap_append]
  simpa using h
theorem one_txc (x : Gr.Tx) (A : Option Addr) (n c : Nat) : ∀ u ∈ txC (x, .slice A n c), u.oneCell' = true := by
  intro u hu
  simp only [txC, List.mem_cons, List.not_mem_nil, or_false] at hu
  rcases hu with rfl | rfl | rfl | rfl
  all_goals rfl

set_option maxHeartbeats 1000000 in
theorem plain_at (l : List Gr.Tx) (v : Value) (w : World) (hv : Txs w v l) (hl : l.length ≤ 4294967296) : Calls Try.prog 11 #[v] w (RetTxRow w l) := by
  obtain ⟨j0, hi0, hz0, hz1, hz2⟩ := info_parts gt_info
  have J0 := Lib.hid hi0
  have J1 := Lib.hid hz0
  have J2 := Lib.hid hz1
  have J3 := Lib.hid hz2
  clear hi0 hz0 hz1 hz2
  obtain ⟨p, A, c, hp, rfl, hev, hform⟩ := hv.parts
  have HP := Lib.hid hp
  have hl2 : p.length ≤ 4294967296 := by rw [← hp, List.length_map] at hl; exact hl
  have HE := Lib.hid hev
  have HF := Lib.hid hform
  clear hform hv hev hp hl
  go_enter Try.func11, Try.ntmps11
  go_wp2
  go_loopw [3, 4] (fun v i wr => ∃ k : Nat, k ≤ p.length ∧ i = .int .i64 k ∧ wr.ownsRow w.heap.size 40 4 v k ((p.take k).flatMap txC) ∧ Below w.heap.size w wr) (fun _ i _ => p.length - (intOf i).toNat)
  case atStart => exact ⟨0, Nat.zero_le _, rfl, World.ownsRow_nil _ _ _ _, Below.refl _ _⟩
  case round =>
    obtain ⟨k, hk, rfl, hown, hb⟩ := hrel
    have HO := Lib.hid hown
    have HB := Lib.hid hb
    obtain ⟨A', cp, rfl⟩ := own_form hown
    clear hown hb
    by_cases hlt : k < p.length
    · obtain ⟨ad, rfl, hblk, hT⟩ := HF.out k hlt
      have hU := HE.out _ (List.getElem_mem hlt)
      obtain ⟨x, hx⟩ : ∃ x, x = p[k]'hlt := ⟨_, rfl⟩
      have HTC := Lib.hid (fun (W : World) (V : Value) => own_txc (w := W) (base := w.heap.size) (e := 40) (v := V) p k hlt)
      rw [← hx] at hT hU HTC
      obtain ⟨t, u⟩ := x
      dsimp only at hT hU HTC
      obtain ⟨Au, cu, rfl, _⟩ := hU.form
      have HT := Lib.hid hT
      have HBD := Lib.hid (HB.out.drew)
      have HBA := Lib.hid ((HBD.out).alloc HBD.out.size (.cells #[.int .i64 t.session, .bool t.done, .int .i64 t.first, .slice Au t.ops.length cu] 40))
      have HO1 := Lib.hid (own_drewN (HO.out.alloc (.cells #[.int .i64 t.session, .bool t.done, .int .i64 t.first, .slice Au t.ops.length cu] 40)) 1)
      have HNT := Lib.hid (new_tx wr t (.slice Au t.ops.length cu) 40)
      clear hT hU hx
      go_wp2_with fail
      go_region_held3 (fun w' => w'.cell? (ad.add (k * 4)) = some (.int .i64 t.session) ∧ w'.cell? ⟨(ad.add (k * 4)).block, (ad.add (k * 4)).off + 1, none⟩ = some (.bool t.done) ∧ w'.cell? ⟨(ad.add (k * 4)).block, (ad.add (k * 4)).off + 2, none⟩ = some (.int .i64 t.first) ∧ w'.cell? ⟨(ad.add (k * 4)).block, (ad.add (k * 4)).off + 3, none⟩ = some (.slice Au t.ops.length cu))
        (first | (exact HT.out.on hblk HBD.out) | (exact HT.out.on hblk HBA.out) | (exact HT.out.on hblk HB2.out))
        (first | (refine step_append_lies _ rfl (.tmp 11) (.tmp 33) 30 rfl w.heap.size 40 j0 _ 4 48 Try.underlying30 J0.out J1.out J2.out J3.out rfl (by decide) (.slice A' k cp) k ((p.take k).flatMap txC) (by simp [Act.eval]) HO1.out ⟨wr.heap.size, 0, none⟩ 1 1 (txC (t, .slice Au t.ops.length cu)) (by simp [Act.eval]) rfl HNT.out (one_txc _ _ _ _) (by decide) (by simp only [maxLen]; omega) (by omega) HBA.out.size (wr.heap.size + 1) (by simp) ?_; intro g2 cap2 w2 hown2 hgrow2 hat2 hlt2; have HO2 := Lib.hid hown2; have HB2 := Lib.hid (below_append HBA.out HBA.out.size HO1.out hgrow2); clear hown2 hgrow2 hat2 hlt2))
      all_goals
        go_wp2_with fail
        go_roundw
        case rel => exact ⟨k + 1, by omega, by go_num, HTC.out _ _ HO2.out, HB2.out⟩
        case measure => simp [intOf]; omega
    · have HK : Hid (p.take k = p ∧ k = p.length) := ⟨List.take_of_length_le (by omega), by omega⟩
      go_wp2_with fail
      go_ret
      have h := HO.out
      rw [HK.out.1] at h
      refine ⟨_, rfl, ⟨p, HP.out, ?_, fun x hx => (HE.out x hx).below HB.out⟩, HB.out⟩
      have h2 := Sl.own h
      rw [HK.out.2] at h2 ⊢
      exact h2
end Go.Proofs.Ytkeaibngofbkhaa
