/-
  GroupBack answers true for every row of events: what was grouped, as events, is grouped as it was, but for where each begins.
  Conditions: each event's session is a number of its kind.
-/
import Derived.Test.YtkeaibngofbkhaaGrTells
namespace Go.Proofs.Ytkeaibngofbkhaa
open Go.RowKit

namespace Gr
theorem run_right (i : Nat) (st : List (Tx × Bool)) (l : List Ev.Event) (h : run i st l = none) : ∀ e ∈ l, Ev.right e = true := by
  induction l generalizing i st with
  | nil => intro e he; cases he
  | cons x l ih =>
    rw [run] at h
    split at h
    · cases h
    · rename_i hf
      intro e he
      rcases List.mem_cons.1 he with rfl | he
      · exact (fault_zero st e (by simpa using hf)).1
      · exact ih _ _ h e he
theorem group_ok' (l : List Ev.Event) (h : run 0 [] l = none) : groupR l = (txs l, 0, 0) := group_ok l h
end Gr
theorem wf_right {l : List Ev.Event} (h : Gr.run 0 [] l = none) : ∀ x ∈ l, evWf x := wf_small fun x hx => by
  have := (Ev.right_iff x).1 (Gr.run_right 0 [] l h x hx)
  exact ⟨this.2.2.1, this.2.2.2.1⟩

set_option maxHeartbeats 1000000 in
set_option maxRecDepth 4000 in
theorem lawGroupBack (l : List Ev.Event) (v : Value) (w : World) (hv : Evs w v l) (hwf : ∀ x ∈ l, evWf x) : Calls Try.prog 4 #[v] w (RetBool w true) := by
  have V0 := Lib.hid hv
  have HW := Lib.hid hwf
  obtain ⟨A, c, rfl, _⟩ := hv.form
  clear hv hwf
  go_enter Try.func4, Try.ntmps4
  go_wp2_with fail
  refine (grAwake_at w).mono ?_
  rintro e w1 ⟨rfl, hb1⟩
  have V1 := Lib.hid (V0.out.below hb1)
  have B1 := Lib.hid hb1
  clear hb1 V0
  by_cases h6 : 600 < l.length
  · have hd : decide ((600 : Int) < (l.length : Int)) = true := by simp; omega
    go_wp2_with fail
    go_ret
    exact ⟨rfl, B1.out⟩
  have hd : decide ((600 : Int) < (l.length : Int)) = false := by simp; omega
  have HL : Hid (l.length ≤ 4294967296) := by rw [Hid]; omega
  have hl6 : l.length ≤ 600 := by omega
  go_wp2_with fail
  refine (group_at l _ w1 V1.out HL.out HW.out).mono ?_
  rintro e w2 ⟨v2, rfl, hs2, hb2⟩
  have B2 := Lib.hid (below_all B1.out hb2)
  have HSM := Lib.hid (Gr.group_small l)
  cases hrun : Gr.run 0 [] l with
  | some pq =>
    obtain ⟨k, q⟩ := pq
    obtain ⟨_, hk2, hq, _, _⟩ := Gr.run_some 0 [] l k q hrun
    rw [Gr.group_bad l k q hrun] at hs2 ⊢
    obtain ⟨A2, c2, rfl⟩ := hs2.none_ rfl
    dsimp only
    have hqb : (q != 0) = true := by rw [bne_iff_ne]; exact hq
    have hk3 : decide ((0 : Int) ≤ (k : Int)) = true := by simp
    have HK4 : Hid (decide (k < l.length) = true) := by rw [Hid, decide_eq_true_eq]; omega
    clear hs2 hb2 hq hk2 hrun
    go_wp2_with fail
    go_ret
    exact ⟨ret_bool HK4.out, B2.out⟩
  | none =>
    obtain ⟨hback, hcore⟩ := Gr.back l hrun
    have HG2 := Lib.hid (Gr.group_small (Gr.eventsR (Gr.txs l)))
    rw [Gr.group_ok' l hrun] at hs2 HSM ⊢
    rw [Gr.group_ok' _ hback] at HG2
    have HLE : Hid ((Gr.eventsR (Gr.txs l)).length ≤ 4294967296) := by
      have h1 := Gr.eventsR_bound l.length (Gr.txs l) HSM.out.2
      have h2 : (Gr.txs l).length * (l.length + 2) ≤ 32 * 602 := Nat.mul_le_mul HSM.out.1 (by omega)
      rw [Hid]; omega
    have HWE := Lib.hid (wf_right hback)
    have HGE := Lib.hid (Gr.group_ok' _ hback)
    have S2 := Lib.hid hs2
    obtain ⟨A2, c2, rfl, _⟩ := hs2.spelled
    clear hs2 hb2 hrun hback
    dsimp only at *
    generalize hev : Gr.eventsR (Gr.txs l) = ev at *
    have HEV := Lib.hid hev
    clear hev
    have hlen : (Gr.txs ev).length = (Gr.txs l).length := by simpa using congrArg List.length hcore
    have HCO : Hid (∀ (k : Nat) (h1 : k < (Gr.txs l).length) (h2 : k < (Gr.txs ev).length), Gr.core (Gr.txs l)[k] = Gr.core (Gr.txs ev)[k]) := fun k h1 h2 => by
      have := congrArg (·[k]?) hcore
      simp only [List.getElem?_map, List.getElem?_eq_getElem h1, List.getElem?_eq_getElem h2, Option.map_some, Option.some.injEq] at this
      exact this.symm
    have HOL : Hid (∀ x ∈ Gr.txs l, x.ops.length ≤ 4294967296) := fun x hx => Nat.le_trans (HSM.out.2 x hx) HL.out
    have h32 : (Gr.txs l).length ≤ 32 := HSM.out.1
    have HLX : Hid ((Gr.txs l).length ≤ 4294967296) := by rw [Hid]; omega
    have HLY : Hid ((Gr.txs ev).length ≤ 4294967296) := by rw [Hid]; omega
    clear hcore HSM HG2
    generalize Gr.txs l = a at *
    have HLN := Lib.hid hlen
    clear hlen
    go_wp2_with fail
    refine (events_at a _ w2 S2.out (by rw [HEV.out]; exact HLE.out)).mono ?_
    rintro e w3 ⟨v3, rfl, hs3, hb3⟩
    rw [HEV.out] at hs3
    have S3 := Lib.hid (S2.out.below hb3)
    have E3 := Lib.hid hs3
    have B3 := Lib.hid (below_all B2.out hb3)
    clear hb3 hs3 S2 B2
    go_wp2_with fail
    refine (group_at ev v3 w3 E3.out HLE.out HWE.out).mono ?_
    rintro e w4 ⟨v4, rfl, hs4, hb4⟩
    rw [HGE.out] at hs4 ⊢
    generalize Gr.txs ev = b at *
    have S4 := Lib.hid (S3.out.below hb4)
    have T4 := Lib.hid hs4
    have B4 := Lib.hid (below_all B3.out hb4)
    obtain ⟨A4, c4, rfl, _⟩ := hs4.spelled
    have hnn : (((a.length : Nat) : Int) != ((b.length : Nat) : Int)) = false := by rw [HLN.out]; simp
    clear hb4 hs4 S3 E3 B3
    dsimp only at *
    go_wp2_with fail
    refine (plain_at a _ w4 S4.out HLX.out).mono ?_
    rintro e w5 ⟨v5, rfl, hs5, hb5⟩
    have T5 := Lib.hid (T4.out.below hb5)
    have P5 := Lib.hid hs5
    have B5 := Lib.hid (below_all B4.out hb5)
    clear hb5 hs5 S4 T4 B4
    go_wp2_with fail
    refine (plain_at b _ w5 T5.out HLY.out).mono ?_
    rintro e w6 ⟨v6, rfl, hs6, hb6⟩
    have P6 := Lib.hid (P5.out.below hb6)
    have Q6 := Lib.hid hs6
    have B6 := Lib.hid (below_all B5.out hb6)
    clear hb6 hs6 T5 P5 B5
    obtain ⟨X, cx, rfl, hf⟩ := P6.out.spelled
    obtain ⟨Y, cy, rfl, hg⟩ := Q6.out.spelled
    have HF := Lib.hid hf
    have HG := Lib.hid hg
    clear hf hg
    go_wp2_with fail
    go_loopw [12] (fun i wr => ∃ k : Nat, k ≤ a.length ∧ i = .int .i64 k ∧ Below w6.heap.size w6 wr) (fun i _ => a.length - (intOf i).toNat)
    case atStart => exact ⟨0, Nat.zero_le _, rfl, Below.refl _ _⟩
    case round =>
      obtain ⟨k, hk, rfl, hB⟩ := hrel
      have HB := Lib.hid hB
      clear hB
      by_cases hlt : k < a.length
      · have hlt2 : k < b.length := by rw [HLN.out]; exact hlt
        obtain ⟨ad, y, rfl, hblk, hE, hy⟩ := HF.out k hlt
        obtain ⟨ad', z, rfl, hblk', hE', hz⟩ := HG.out k hlt2
        have HC := Lib.hid (HCO.out k hlt hlt2)
        have HOK := Lib.hid (HOL.out _ (List.getElem_mem hlt))
        generalize a[k]'hlt = t at *
        generalize b[k]'hlt2 = t' at *
        have HY := Lib.hid ((hy.below HB.out).below (Below.refl _ wr).drew)
        have HZ := Lib.hid ((hz.below HB.out).below (Below.refl _ wr).drew)
        have HE := Lib.hid (hE.below hblk HB.out)
        have HE' := Lib.hid (hE'.below hblk' HB.out)
        obtain ⟨Ay, cy', rfl, _⟩ := hy.form
        obtain ⟨Az, cz', rfl, _⟩ := hz.form
        have hc0 := HE.out.c0
        have hc1 := HE.out.c1
        have hc2 := HE.out.c2
        have hc3 := HE.out.c3
        have hd0 := HE'.out.c0
        have hd1 := HE'.out.c1
        have hd2 := HE'.out.c2
        have hd3 := HE'.out.c3
        clear hE hE' hy hz
        go_wp2_with fail
        go_region_law (go_simp; go_at_call 15; refine (rOne_at t t' _ _ _ HY.out HZ.out HOK.out HC.out).mono ?_; rintro e w7 ⟨rfl, hb7⟩; have HB7 := Lib.hid (below_all HB.out (below_all (Below.refl _ wr).drew hb7)); clear hb7)
        all_goals
          clear hc0 hc1 hc2 hc3 hd0 hd1 hd2 hd3 HE HE'
          go_wp2_with fail
          go_roundw
          case rel => exact ⟨k + 1, by omega, by go_num, HB7.out⟩
          case measure => simp [intOf]; omega
      · go_wp2_with fail
        go_ret
        exact ⟨rfl, below_all B6.out HB.out⟩
end Go.Proofs.Ytkeaibngofbkhaa
