/-
  What the reference's from of layer 7 answers: whose a value is (So.fromR); what was in memory stays as it was.
  Conditions: at most 32 transactions, a row of ops has at most 2^32 elements; the key is 0 to 15, and what was committed may be looked at.
-/
import Derived.Test.YtodahdnooidmaaaSoRefC
import Derived.Test.YtodahdnooidmaaaSoRefT
set_option maxRecDepth 4000
namespace Go.Proofs.Ytodahdnooidmaaa
open Go.RowKit

theorem from_at (l : List Gr.Tx) (y : Int × Int) (h0 : y.2 ≠ 0) (m : Nat) (hm : m < l.length) (hno : ∀ a (ha : a < l.length), a < m → So.wrote y.1 y.2 l[a].ops = false) (hw : So.wrote y.1 y.2 l[m].ops = true) :
    So.fromR l y = if l[m].done = false then (0, 13) else if In.lastOf 2 y.1 l[m].ops ≠ some y.2 then (0, 14) else ((((l.take m).filter (·.done)).length : Int), 0) := by
  rw [So.fromR, if_neg h0, So.from_number y.1 y.2 l m (by omega) hno, So.from_hit _ _ _ _ _ hm hw]
theorem from_none (l : List Gr.Tx) (y : Int × Int) (h0 : y.2 ≠ 0) (hno : ∀ a (ha : a < l.length), a < l.length → So.wrote y.1 y.2 l[a].ops = false) : So.fromR l y = (0, 12) := by
  rw [So.fromR, if_neg h0, So.from_number y.1 y.2 l l.length (Nat.le_refl _) hno, So.from_end _ _ _ _ _ (Nat.le_refl _)]
theorem key_parts (z y : Int × Int) : ((z.1 == y.1) = false ∧ Hid (¬ (z.1 = y.1 ∧ z.2 ≠ y.2))) ∨ (z.1 == y.1) = true ∧ (((z.2 != y.2) = false ∧ Hid (¬ (z.1 = y.1 ∧ z.2 ≠ y.2))) ∨ (z.2 != y.2) = true ∧ Hid (z.1 = y.1 ∧ z.2 ≠ y.2)) := by
  unfold Hid
  by_cases h1 : z.1 = y.1
  · refine .inr ⟨beq_iff_eq.2 h1, ?_⟩
    by_cases h2 : z.2 = y.2
    · exact .inl ⟨by rw [h2]; simp, fun q => q.2 h2⟩
    · exact .inr ⟨by rw [bne_iff_ne]; exact h2, h1, h2⟩
  · exact .inl ⟨beq_eq_false_iff_ne.2 h1, fun q => h1 q.1⟩
set_option maxHeartbeats 2000000 in
theorem rFrom_at (l : List Gr.Tx) (v : Value) (y : Int × Int) (w : World) (hv : Txs w v l) (hl : l.length ≤ 32) (ho : ∀ t ∈ l, t.ops.length ≤ 4294967296) (hc : So.Clean l 2) (j : Nat) (hj : j < 16) (hy : y.1 = (j : Int)) : Calls Try.prog 33 #[v, .int .i64 y.1, .int .i64 y.2] w (RetTwo w (So.fromR l y)) := by
  obtain ⟨A, c, rfl, hform⟩ := hv.spelled
  have HF := Lib.hid hform
  have HO := Lib.hid ho
  have HV := Lib.hid hv
  have HY := Lib.hid hy
  have HC := Lib.hid ((So.clean_look l).1 hc)
  clear hform hv ho hc hy
  go_enter Try.func33, Try.ntmps33
  by_cases h0 : y.2 = 0
  · have q0 : (y.2 == 0) = true := by rw [h0]; rfl
    have HR : Hid (So.fromR l y = (-1, 0)) := by rw [Hid, So.fromR, if_pos h0]
    clear h0
    go_wp2_with fail
    go_ret2
    exact RetTwo.mk HR.out (Below.refl _ _)
  have q0 : (y.2 == 0) = false := by rw [beq_eq_false_iff_ne]; exact h0
  have H0 := Lib.hid h0
  clear h0
  go_wp2_with fail
  go_loopw [8] (fun i wr => ∃ k : Nat, k ≤ l.length ∧ i = .int .i64 k ∧ Hid (∀ a (ha : a < l.length), a < k → So.wrote y.1 y.2 l[a].ops = false) ∧ Below w.heap.size w wr) (fun i _ => l.length - (intOf i).toNat)
  case atStart => exact ⟨0, Nat.zero_le _, rfl, (fun a _ h => absurd h (by omega)), Below.refl _ _⟩
  case round =>
    obtain ⟨k, hk, rfl, hno, hb⟩ := hrel
    have HB := Lib.hid hb
    clear hb
    by_cases hlt : k < l.length
    · obtain ⟨ad, u, rfl, hblk, hT, hU⟩ := HF.out k hlt
      have HFR := Lib.hid (from_at l y H0.out k hlt hno.out)
      have HNX : Hid (So.wrote y.1 y.2 (l[k]'hlt).ops = false → ∀ a (ha : a < l.length), a < k + 1 → So.wrote y.1 y.2 l[a].ops = false) := fun h a ha hak => by
        by_cases e : a = k
        · subst e; exact h
        · exact hno.out a ha (by omega)
      have HCK := Lib.hid (HC.out _ (List.getElem_mem hlt))
      have hol := HO.out _ (List.getElem_mem hlt)
      obtain ⟨t, ht⟩ : ∃ t, t = l[k]'hlt := ⟨_, rfl⟩
      rw [← ht] at hT hU HFR HNX HCK hol
      obtain ⟨Au, cu, rfl, _⟩ := hU.spelled
      have HT := Lib.hid hT
      have HU := Lib.hid hU
      obtain ⟨k0, k1, k2, k3⟩ := hT.below hblk HB.out
      have hk0 : (0 : Int) ≤ (k : Int) := by omega
      have hk1 : (k : Int) < (l.length : Int) := by omega
      clear hT hU ht
      go_wp2_with fail
      go_still_tail 12, (by kernel_rfl)
      change wpList _ _ _ _ _ wr.drew
      have HU2 := Lib.hid ((HU.out.below HB.out).below ((Below.refl _ wr).drew))
      have HB2 := Lib.hid (below_all HB.out ((Below.refl _ wr).drew))
      clear k0 k1 k2 k3 HB
      generalize wr.drew = W2 at *
      have htm := So.times_le y.1 y.2 t.ops
      cases hw : So.wrote y.1 y.2 t.ops with
      | false =>
        have HZ := Lib.hid ((So.times_zero _ _ _).2 hw)
        have HN := Lib.hid (HNX.out hw)
        clear hw
        go_wp2_with (go_at_call 30; refine (rWrites_at t _ t.ops.length y.1 y.2 _ HU2.out (Nat.le_refl _) hol).mono ?_; rw [List.take_length, HZ.out]; rintro e w3 ⟨rfl, hb3⟩; have HB3 := Lib.hid (below_all HB2.out hb3); clear hb3)
        go_roundw
        case rel => exact ⟨k + 1, by omega, by go_num, HN, HB3.out⟩
        case measure => simp [intOf]; omega
      | true =>
        have HF2 := Lib.hid (HFR.out hw)
        have HMI := Lib.hid (So.middle_iff t.ops j hj y.2 (by rw [← HY.out]; exact hw))
        have hnz : 0 < So.times y.1 y.2 t.ops := Nat.pos_of_ne_zero fun e => by
          rw [(So.times_zero _ _ _).1 e] at hw
          cases hw
        obtain ⟨T, hT⟩ : ∃ T, T = So.times y.1 y.2 t.ops := ⟨_, rfl⟩
        rw [← hT] at hnz htm
        have HTT := Lib.hid hT
        have qz : ((T : Int) == 0) = false := by rw [beq_eq_false_iff_ne]; omega
        have qz2 : (T == 0) = false := by rw [beq_eq_false_iff_ne]; omega
        clear hw hT HNX
        by_cases hd : t.done = false
        · have HD := Lib.hid hd
          have HR : Hid (So.fromR l y = (0, 13)) := by rw [Hid, HF2.out, if_pos hd]
          clear hd
          go_wp2_with (go_at_call 30; refine (rWrites_at t _ t.ops.length y.1 y.2 _ HU2.out (Nat.le_refl _) hol).mono ?_; rw [List.take_length, ← HTT.out]; rintro e w3 ⟨rfl, hb3⟩; have HB3 := Lib.hid (below_all HB2.out hb3); obtain ⟨k0, k1, k2, k3⟩ := HT.out.below hblk HB3.out; rw [HD.out] at k1; clear hb3)
          go_ret2
          exact RetTwo.mk HR.out HB3.out
        · have HD : Hid (t.done = true) := by rw [Hid]; simpa using hd
          have HG2 : Hid (So.fromR l y = if In.lastOf 2 y.1 t.ops ≠ some y.2 then (0, 14) else ((((l.take k).filter (·.done)).length : Int), 0)) := by rw [Hid, HF2.out, if_neg hd]
          have HGD := Lib.hid (good_of_zero t.ops (HCK.out HD.out))
          clear hd
          go_wp2_with (go_at_call 30; refine (rWrites_at t _ t.ops.length y.1 y.2 _ HU2.out (Nat.le_refl _) hol).mono ?_; rw [List.take_length, ← HTT.out]; rintro e w3 ⟨rfl, hb3⟩; have HB3 := Lib.hid (below_all HB2.out hb3); have HU3 := Lib.hid (HU2.out.below hb3); obtain ⟨k0, k1, k2, k3⟩ := HT.out.below hblk HB3.out; rw [HD.out] at k1; clear hb3)
          refine (rLook_at t.ops _ _ HU3.out hol).mono ?_
          rintro e w4 ⟨fx, fy, rfl, hx4, hy4, hb4⟩
          rw [HGD.out] at hx4 hy4 ⊢
          dsimp only at hx4 hy4 ⊢
          obtain ⟨Ax, cx, rfl, _⟩ := hx4.spelled
          obtain ⟨Ay, cy, rfl, hys⟩ := hy4.spelled
          have HYS := Lib.hid hys
          have hwl := In.writes_len t.ops 16
          have HB4 := Lib.hid (below_all HB3.out hb4)
          have HX4 := Lib.hid (twoV_new w4 (.slice Ax (In.readsTo t.ops 16).length cx) (.slice Ay (In.writesTo t.ops 16).length cy) 65)
          have HW4 := Lib.hid (alloc_below w4 (.cells #[.slice Ax (In.readsTo t.ops 16).length cx, .slice Ay (In.writesTo t.ops 16).length cy] 65))
          clear hx4 hy4 hb4 hys k0 k1 k2 k3 HB3 HU3 HU2 HB2
          go_wp2_with fail
          obtain ⟨n2, hn2⟩ : ∃ n2, n2 = w4.heap.size := ⟨_, rfl⟩
          rw [← hn2] at HX4 ⊢
          generalize w4.alloc (.cells #[.slice Ax (In.readsTo t.ops 16).length cx, .slice Ay (In.writesTo t.ops 16).length cy] 65) = W5 at *
          clear hn2
          generalize In.writesTo t.ops 16 = ws at *
          go_loopw [12] (fun i wx => ∃ q : Nat, q ≤ ws.length ∧ i = .int .i64 q ∧ Hid (∀ a (ha : a < ws.length), a < q → ¬ (ws[a].1 = y.1 ∧ ws[a].2 ≠ y.2)) ∧ W5 = wx) (fun i _ => ws.length - (intOf i).toNat)
          case atStart => exact ⟨0, Nat.zero_le _, rfl, (fun a _ h => absurd h (by omega)), rfl⟩
          case round =>
            obtain ⟨q, hq, rfl, hmiss, rfl⟩ := hrel
            obtain ⟨x0, x1⟩ := HX4.out
            by_cases hqt : q < ws.length
            · obtain ⟨ad5, rfl, hblk5, hI⟩ := HYS.out q hqt
              obtain ⟨c0, c1⟩ := hI.below hblk5 HW4.out
              have HHIT : Hid ((ws[q]'hqt).1 = y.1 ∧ (ws[q]'hqt).2 ≠ y.2 → So.fromR l y = (0, 14)) := fun h => by
                rw [HG2.out, if_pos]
                rw [HY.out]
                exact HMI.out.1 ⟨ws[q]'hqt, List.getElem_mem _, by rw [← HY.out]; exact h.1, h.2⟩
              have HSTEP : Hid (¬ ((ws[q]'hqt).1 = y.1 ∧ (ws[q]'hqt).2 ≠ y.2) → ∀ a (ha : a < ws.length), a < q + 1 → ¬ (ws[a].1 = y.1 ∧ ws[a].2 ≠ y.2)) := fun h a ha haq => by
                by_cases e : a = q
                · subst e; exact h
                · exact hmiss.out a ha (by omega)
              have key := key_parts (ws[q]'hqt) y
              generalize ws[q]'hqt = z at *
              clear hI
              rcases key with ⟨p1, hz⟩ | ⟨p1, ⟨p2, hz⟩ | ⟨p2, hz⟩⟩
              · have HN := Lib.hid (HSTEP.out hz.out)
                go_wp2_with fail
                go_roundw
                case rel => exact ⟨q + 1, by omega, by go_num, HN, trivial⟩
                case measure => simp [intOf]; omega
              · have HN := Lib.hid (HSTEP.out hz.out)
                go_wp2_with fail
                go_roundw
                case rel => exact ⟨q + 1, by omega, by go_num, HN, trivial⟩
                case measure => simp [intOf]; omega
              · have HR := Lib.hid (HHIT.out hz.out)
                go_wp2_with fail
                go_ret2
                exact RetTwo.mk HR.out (below_all HB4.out HW4.out)
            · have HR : Hid (So.fromR l y = ((((l.take k).filter (·.done)).length : Int), 0)) := by
                rw [Hid, HG2.out, if_neg]
                intro hne
                rw [HY.out] at hne
                obtain ⟨z, hzm, hz1, hz2⟩ := HMI.out.2 hne
                obtain ⟨a, ha, rfl⟩ := List.getElem_of_mem hzm
                exact hmiss.out a ha (by omega) ⟨by rw [HY.out]; exact hz1, hz2⟩
              have HVV := Lib.hid (HV.out.below (below_all HB4.out HW4.out))
              go_wp2_with fail
              refine (rNumber_at l _ k _ HVV.out (by omega) (by omega)).mono ?_
              rintro e w6 ⟨rfl, rfl⟩
              go_wp2_with fail
              go_ret2
              exact RetTwo.mk HR.out (below_all HB4.out HW4.out)
    · have HR := Lib.hid (from_none l y H0.out (fun a ha _ => hno.out a ha (by omega)))
      go_wp2_with fail
      go_ret2
      exact RetTwo.mk HR.out HB.out
end Go.Proofs.Ytodahdnooidmaaa
