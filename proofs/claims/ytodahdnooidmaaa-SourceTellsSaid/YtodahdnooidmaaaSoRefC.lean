/-
  What the reference's unlike and from of layer 7 answer: what is wrong with a transaction's writes (So.phase 1), and whose a value is (So.fromR); what was in memory stays as it was.
  Conditions: at most 32 transactions, a row of ops has at most 2^32 elements; from: keys are 0 to 15, and what was committed may be looked at.
-/
import Derived.Test.YtodahdnooidmaaaSoRefB
import Derived.Test.YtodahdnooidmaaaSoWalkC
set_option maxRecDepth 4000
namespace Go.Proofs.Ytodahdnooidmaaa
open Go.RowKit

theorem phase1 (l : List Gr.Tx) (m : Nat) (hm : m < l.length) : So.phase l 1 m = So.unlikeR ((l.take m).flatMap (·.ops)) l[m].ops := by rw [So.phase_at l 1 m hm]; simp [So.phaseT]
theorem times_cap (key v : Int) (l : List Gr.Tx) (ho : ∀ t ∈ l, t.ops.length ≤ 4294967296) (q : Nat) (hq : q ≤ l.length) : So.times key v ((l.take q).flatMap (·.ops)) ≤ q * 4294967296 := by
  induction q with
  | zero => simp [So.times]
  | succ q ih =>
    rw [So.times_flat key v l q (by omega)]
    have h1 := ih (by omega)
    have h2 := So.times_le key v (l[q]'(by omega)).ops
    have h3 := ho (l[q]'(by omega)) (List.getElem_mem _)
    omega
set_option maxHeartbeats 2000000 in
theorem rUnlike_at (l : List Gr.Tx) (v : Value) (m : Nat) (w : World) (hv : Txs w v l) (hm : m < l.length) (hl : l.length ≤ 32) (ho : ∀ t ∈ l, t.ops.length ≤ 4294967296) : Calls Try.prog 20 #[v, .int .i64 (m : Int)] w fun e w' => e = .returned (.int .i64 (So.phase l 1 m)) ∧ Below w.heap.size w w' := by
  obtain ⟨A, c, rfl, hform⟩ := hv.spelled
  have HF := Lib.hid hform
  have HO := Lib.hid ho
  have HCAP := Lib.hid (fun key v => times_cap key v l ho)
  have HFL := Lib.hid (fun key v => So.times_flat key v l)
  obtain ⟨ad, u, rfl, hblk, hT, hU⟩ := hform m hm
  have HP := Lib.hid (phase1 l m hm)
  obtain ⟨t, ht⟩ : ∃ t, t = l[m]'hm := ⟨_, rfl⟩
  have hol : t.ops.length ≤ 4294967296 := by rw [ht]; exact ho _ (List.getElem_mem _)
  rw [← ht] at hT hU HP
  obtain ⟨Au, cu, rfl, hev⟩ := hU.spelled
  have HT := Lib.hid hT
  have HU := Lib.hid hU
  have HE := Lib.hid hev
  have hm0 : (0 : Int) ≤ (m : Int) := by omega
  have hm1 : (m : Int) < (l.length : Int) := by omega
  clear hform hv ho hT hU hev ht
  go_enter Try.func20, Try.ntmps20
  go_wp2
  go_loopw [5] (fun i wr => ∃ k : Nat, k ≤ t.ops.length ∧ i = .int .i64 k ∧ Hid (So.phase l 1 m = So.unlikeR ((l.take m).flatMap (·.ops) ++ t.ops.take k) (t.ops.drop k)) ∧ Below w.heap.size w wr) (fun i _ => t.ops.length - (intOf i).toNat)
  case atStart => exact ⟨0, Nat.zero_le _, rfl, by rw [Hid, HP.out]; simp, Below.refl _ _⟩
  case round =>
    obtain ⟨k, hk, rfl, hun, hb⟩ := hrel
    have HB := Lib.hid hb
    obtain ⟨k0, k1, k2, k3⟩ := HT.out.below hblk hb
    clear hb
    by_cases hlt : k < t.ops.length
    · obtain ⟨ad2, rfl, hblk2, hE⟩ := HE.out k hlt
      have HST := Lib.hid (So.unlike_step ((l.take m).flatMap (·.ops)) t.ops k hlt)
      obtain ⟨x, hx⟩ : ∃ x, x = t.ops[k]'hlt := ⟨_, rfl⟩
      rw [← hx] at hE HST
      obtain ⟨e0, e1, e2, e3⟩ := hE.below hblk2 HB.out
      clear hE hx
      rcases So.opBad_cases ((l.take m).flatMap (·.ops) ++ t.ops.take k) x with ⟨hk2, hbad⟩ | ⟨hk2, ⟨hv0, hbad⟩ | ⟨hv0, hrest⟩⟩
      · have q2 : (x.kind != 2) = true := by rw [bne_iff_ne]; exact hk2
        have HN : Hid (So.phase l 1 m = So.unlikeR ((l.take m).flatMap (·.ops) ++ t.ops.take (k + 1)) (t.ops.drop (k + 1))) := by rw [Hid, hun.out, HST.out, if_neg (by rw [hbad]; decide)]
        clear hk2 hbad
        go_wp2_with fail
        go_roundw
        case rel => exact ⟨k + 1, by omega, by go_num, HN, below_all HB.out (alloc_below _ _)⟩
        case measure => simp [intOf]; omega
      · have q2 : (x.kind != 2) = false := by rw [hk2]; rfl
        have q0 : (x.value == 0) = true := by rw [hv0]; rfl
        have HR : Hid (So.phase l 1 m = 7) := by rw [Hid, hun.out, HST.out, if_pos (by rw [hbad]; decide), hbad]
        clear hk2 hbad hv0
        go_wp2_with fail
        go_ret
        exact ⟨ret_int HR.out.symm, below_all HB.out (alloc_below _ _)⟩
      · have q2 : (x.kind != 2) = false := by rw [hk2]; rfl
        have q0 : (x.value == 0) = false := by rw [beq_eq_false_iff_ne]; exact hv0
        have HRS := Lib.hid hrest
        have HB1 := Lib.hid (below_all HB.out (alloc_below wr (.cells #[.int .i64 x.kind, .int .i64 x.session, .int .i64 x.key, .int .i64 x.value] 45)))
        have HX1 := Lib.hid (four_new wr (.int .i64 x.kind) (.int .i64 x.session) (.int .i64 x.key) (.int .i64 x.value) 45)
        have HS1 : Hid (wr.heap.size < (wr.alloc (.cells #[.int .i64 x.kind, .int .i64 x.session, .int .i64 x.key, .int .i64 x.value] 45)).heap.size) := by simp [Hid]
        clear hk2 hv0 hrest k0 k1 k2
        go_wp2_with fail
        obtain ⟨n1, hn1⟩ : ∃ n1, n1 = wr.heap.size := ⟨_, rfl⟩
        rw [← hn1] at HX1 HS1 ⊢
        generalize wr.alloc (.cells #[.int .i64 x.kind, .int .i64 x.session, .int .i64 x.key, .int .i64 x.value] 45) = W1 at *
        clear hn1 e0 e1 e2 e3 k3
        obtain ⟨k0, k1, k2, k3⟩ := HT.out.below hblk HB1.out
        obtain ⟨x0, x1, x2, x3⟩ := HX1.out
        go_still_tail 9, (by kernel_rfl)
        change wpList _ _ _ _ _ W1.drew
        have HU2 := Lib.hid ((HU.out.below HB1.out).below ((Below.refl _ W1).drew))
        have HB2 := Lib.hid (below_all HB1.out ((Below.refl _ W1).drew))
        have HX2 := Lib.hid (HX1.out.below HS1.out ((Below.refl _ W1).drew))
        have HS2 : Hid (n1 < W1.drew.heap.size) := HS1.out
        clear k0 k1 k2 k3 x0 x1 x2 x3 HX1 HB1 HS1
        generalize W1.drew = W2 at *
        have ht1 : So.times x.key x.value (t.ops.take k) ≤ 4294967296 := Nat.le_trans (So.times_le _ _ _) (by rw [List.length_take]; omega)
        go_wp2_with (go_at_call 30; refine (rWrites_at t _ k x.key x.value _ HU2.out (by omega) hol).mono ?_; rintro e w3 ⟨rfl, hb3⟩; have HB3 := Lib.hid (below_all HB2.out hb3); have HX3 := Lib.hid (HX2.out.below HS2.out hb3); have HS3 : Hid (n1 < w3.heap.size) := (Nat.lt_of_lt_of_le HS2.out hb3.size); clear hb3)
        clear HU2 HB2 HX2 HS2
        obtain ⟨T1, hT1⟩ : ∃ T1, T1 = So.times x.key x.value (t.ops.take k) := ⟨_, rfl⟩
        rw [← hT1] at ht1 ⊢
        have HT1 := Lib.hid hT1
        clear hT1
        go_loopw [7, 8] (fun s7 s8 wx => ∃ (q n : Nat), q ≤ m ∧ s8 = .int .i64 q ∧ s7 = .int .i64 n ∧ Hid (n = T1 + So.times x.key x.value ((l.take q).flatMap (·.ops))) ∧ Four wx n1 (.int .i64 x.kind) (.int .i64 x.session) (.int .i64 x.key) (.int .i64 x.value) ∧ Hid (n1 < wx.heap.size) ∧ Below w.heap.size w wx) (fun _ i _ => m - (intOf i).toNat)
        case atStart => exact ⟨0, T1, Nat.zero_le _, rfl, rfl, by simp [Hid, So.times], HX3.out, HS3, HB3.out⟩
        case round =>
          clear HX3 HS3 HB3
          obtain ⟨q, n, hq, rfl, rfl, hn, hx, hs, hb⟩ := hrel
          have HB := Lib.hid hb
          have HX := Lib.hid hx
          clear hb
          have hcap := HCAP.out x.key x.value q (by omega)
          have hnle : n ≤ (q + 1) * 4294967296 := by rw [hn.out]; omega
          have hn33 : n ≤ 141733920768 := by omega
          clear hnle
          by_cases hqm : q < m
          · have hql : q < l.length := by omega
            obtain ⟨_, u', ead, hblk', hT', hU'⟩ := HF.out q hql
            cases ead
            have HFLQ := Lib.hid (HFL.out x.key x.value q hql)
            have HOQ := HO.out _ (List.getElem_mem hql)
            generalize l[q]'hql = t' at *
            obtain ⟨Au', cu', rfl, _⟩ := hU'.spelled
            obtain ⟨k0, k1, k2, k3⟩ := hT'.below hblk' HB.out
            obtain ⟨x0, x1, x2, x3⟩ := hx
            have hq0 : (0 : Int) ≤ (q : Int) := by omega
            have hq1 : (q : Int) < (l.length : Int) := by omega
            have HU4 := Lib.hid ((hU'.below HB.out).below ((Below.refl _ wr).drew))
            have HB4 := Lib.hid (below_all HB.out ((Below.refl _ wr).drew))
            have HX4 := Lib.hid (HX.out.below hs.out ((Below.refl _ wr).drew))
            have HS4 : Hid (n1 < wr.drew.heap.size) := hs.out
            have htq : So.times x.key x.value t'.ops ≤ 4294967296 := Nat.le_trans (So.times_le _ _ _) HOQ
            have hbsz := Lib.hid HB.out.size
            obtain ⟨T2, hT2⟩ : ∃ T2, T2 = So.times x.key x.value t'.ops := ⟨_, rfl⟩
            have HT2 := Lib.hid hT2
            rw [← hT2] at htq
            clear hT' hU' HB HX hs hT2
            go_wp2_with fail
            have HK : Hid (TxIn wr ad q t' (.slice Au' t'.ops.length cu')) := ⟨k0, k1, k2, k3⟩
            have hbw : ad.block < wr.heap.size := Nat.lt_of_lt_of_le hblk' hbsz.out
            go_region_held3 (fun w' => (w'.cell? (ad.add (q * 4)) = some (.int .i64 t'.session) ∧ w'.cell? ⟨(ad.add (q * 4)).block, (ad.add (q * 4)).off + 1, none⟩ = some (.bool t'.done) ∧ w'.cell? ⟨(ad.add (q * 4)).block, (ad.add (q * 4)).off + 2, none⟩ = some (.int .i64 t'.first) ∧ w'.cell? ⟨(ad.add (q * 4)).block, (ad.add (q * 4)).off + 3, none⟩ = some (.slice Au' t'.ops.length cu')) ∧ w'.cell? ⟨n1, 2, none⟩ = some (.int .i64 x.key) ∧ w'.cell? ⟨n1, 3, none⟩ = some (.int .i64 x.value))
              (first | (exact ⟨⟨k0, k1, k2, k3⟩, x2, x3⟩) | (exact ⟨HK.out.on hbw HB6.out, HX5.out.2.2.1, HX5.out.2.2.2⟩))
              (first | (go_at_call 30; (with_reducible refine (rWrites_at t' _ t'.ops.length x.key x.value _ HU4.out (Nat.le_refl _) HOQ).mono ?_); rw [List.take_length, ← HT2.out]; rintro e w5 ⟨rfl, hb5⟩; have HB5 := Lib.hid (below_all HB4.out hb5); have HB6 := Lib.hid (below_all ((Below.refl _ wr).drew) hb5); have HX5 := Lib.hid (HX4.out.below HS4.out hb5); have HS5 : Hid (n1 < w5.heap.size) := (Nat.lt_of_lt_of_le HS4.out hb5.size); clear hb5))
            all_goals
              go_wp2_with fail
              go_roundw
              case rel =>
                refine ⟨q + 1, n + T2, by omega, by go_num, ?_, ?_, HX5.out, HS5, HB5.out⟩
                · exact congrArg (Value.int .i64) ((IntWalk.i64_in _ (by omega)).trans (by omega))
                · rw [Hid, HFLQ.out, HT2.out]
                  exact (congrArg (· + So.times x.key x.value t'.ops) hn.out).trans (Nat.add_assoc _ _ _)
              case measure => simp [intOf]; omega
          · obtain rfl : q = m := by omega
            have HTOT : Hid (n = So.times x.key x.value ((l.take q).flatMap (·.ops) ++ t.ops.take k)) := by rw [Hid, hn.out, So.times_append, HT1.out]; omega
            rcases HRS.out with ⟨hz, hbad⟩ | ⟨hz, hbad⟩
            · rw [← HTOT.out] at hz
              have p0 : decide ((0 : Int) < (n : Int)) = false := decide_eq_false (by omega)
              have p1 : decide (0 < n) = false := decide_eq_false (by omega)
              have HN : Hid (So.phase l 1 q = So.unlikeR ((l.take q).flatMap (·.ops) ++ t.ops.take (k + 1)) (t.ops.drop (k + 1))) := by rw [Hid, hun.out, HST.out, if_neg (by rw [hbad]; decide)]
              clear hz hbad
              go_wp2_with fail
              go_roundw
              case rel => exact ⟨k + 1, by omega, by go_num, HN, HB.out⟩
              case measure => simp [intOf]; omega
            · rw [← HTOT.out] at hz
              have p0 : decide ((0 : Int) < (n : Int)) = true := decide_eq_true (by omega)
              have p1 : decide (0 < n) = true := decide_eq_true (by omega)
              have HR : Hid (So.phase l 1 q = 8) := by rw [Hid, hun.out, HST.out, if_pos (by rw [hbad]; decide), hbad]
              clear hz hbad
              go_wp2_with fail
              go_ret
              exact ⟨ret_int HR.out.symm, HB.out⟩
    · have HR : Hid (So.phase l 1 m = 0) := by rw [Hid, hun.out, So.unlike_end _ _ _ (by omega)]
      go_wp2_with fail
      go_ret
      exact ⟨ret_int HR.out.symm, HB.out⟩
end Go.Proofs.Ytodahdnooidmaaa
