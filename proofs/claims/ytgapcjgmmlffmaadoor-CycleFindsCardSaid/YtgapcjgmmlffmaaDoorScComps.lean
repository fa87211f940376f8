/-
  What scc's Comps answers.
  Conditions: rows hold sets below 2^64.
-/
import Derived.Test.YtgapcjgmmlffmaaDoorScBegin
import Derived.Test.YtgapcjgmmlffmaaDoorScFrom
import Derived.Test.YtgapcjgmmlffmaaDoorScOrd
import Derived.Test.YtgapcjgmmlffmaaDoorScAns
set_option maxRecDepth 4000
namespace Go.Proofs.YtgapcjgmmlffmaaDoor
open Go.RowKit

namespace Sc
/-- When no node is left, the components that were found are all, in any order; by their first nodes they are what is asked. -/
theorem Hunt.all {n : Nat} {ends : Nat → List Nat} {t : Nat → Nat → Bool} {s : Wk} (h : Hunt n ends t s []) (hq : Eqv t) (hm : ∀ u, u < n → s.rank u ≠ 0) {cs : List (List Nat)} (hp : cs.Perm s.comps) (hs : cs.Pairwise fun a b => a.headD 0 ≤ b.headD 0) : cs = comps t n := by
  refine comps_is hq (fun c hc => (h.done c (hp.mem_iff.1 hc)).1) (fun x hx => ?_) (hp.nodup_iff.2 h.once) hs
  rcases (h.seen x hx).1 (hm x hx) with q | ⟨c, hc, hx'⟩
  · rw [h.none_left] at q
    cases q
  · exact ⟨c, hp.mem_iff.2 hc, hx'⟩
theorem endsOf_len {n : Nat} {l : List Nat} (h : Gf.Ok n l) (u : Nat) : (endsOf l u).length ≤ 4294967296 := by
  have h0 := endsTo_len (Gf.edges l) u
  have h1 := Gf.edgesTo_len l l.length []
  rw [Gf.edgesTo_all] at h1
  have h2 : l.length = n := h.2.1
  have h3 := h.1
  rw [h2] at h1
  simp only [List.length_nil] at h1
  show (endsTo (Gf.edges l) u).length ≤ _
  omega
end Sc

theorem OwnRR.lower {w : World} {b1 b2 : Nat} {v : Value} {p : List (List Nat × Value)} (h : OwnRR w b1 v p) (hb : b2 ≤ b1) : OwnRR w b2 v p := ⟨own_lower h.row hb, fun x hx => own_lower (h.ins x hx) hb, h.each⟩
/-- Rows of rows of the call's own that a call hands back. -/
def RetOwnRR (w : World) (l : List (List Nat)) (e : Ending) (w' : World) : Prop := ∃ v p, e = .returned v ∧ OwnRR w' w.heap.size v p ∧ p.map (·.1) = l ∧ Below w.heap.size w w'

set_option maxHeartbeats 1000000 in
theorem scComps_no (n : Int) (u : Value) (a : List Nat) (w : World) (hu : Us w u a) (ha : ∀ x ∈ a, x < 18446744073709551616) (hno : Gf.okB n a = false) : Calls Tryd.prog 16 #[.agg #[.int .i64 n, u]] w (RetOwnRR w []) := by
  have HU := Lib.hid hu
  have BW := Lib.hid (alloc_below w (.cells #[.int .i64 n, u] 24))
  obtain ⟨A, c, rfl, -⟩ := hu.spelled
  have F1 := Lib.hid (fun w h1 => gfRight_at n (.slice A a.length c) a w h1 ha)
  rw [hno] at F1
  clear ha hu hno
  go_enter Tryd.func16, Tryd.ntmps16
  go_wp2_with fail
  generalize w.alloc (.cells #[.int .i64 n, .slice A a.length c] 24) = W at *
  refine (F1.out _ (HU.out.below BW.out)).mono ?_
  rintro e w1 ⟨rfl, hb1⟩
  have B1 := Lib.hid (below_all BW.out hb1)
  clear hb1
  go_wp2_with fail
  go_ret
  exact ⟨_, [], rfl, OwnRR.nil _ _, rfl, B1.out⟩

set_option maxHeartbeats 4000000 in
theorem scComps_yes (n : Nat) (u : Value) (l : List Nat) (w : World) (hu : Us w u l) (hl : Gf.Ok n l) : Calls Tryd.prog 16 #[.agg #[.int .i64 (n : Nat), u]] w (RetOwnRR w (Sc.comps (Sc.tog n l) n)) := by
  have HU := Lib.hid hu
  have T0 := Lib.hid (Two.new w 24 (.int .i64 (n : Nat)) u)
  have BW := Lib.hid (alloc_below w (.cells #[.int .i64 (n : Nat), u] 24))
  have HL := Lib.hid hl
  have HQ : Hid (Sc.Eqv (Sc.tog n l)) := Sc.tog_eqv hl
  have hn64 : n ≤ 64 := hl.1
  obtain ⟨A, c, rfl, -⟩ := hu.spelled
  have F1 := Lib.hid (fun w h1 => gfRight_at n (.slice A l.length c) l w h1 (fun x hx => hl.small hx))
  rw [(Gf.okB_nat n l).2 hl] at F1
  have FB := Lib.hid (fun w h1 => scBegin_at n (.slice A l.length c) l w h1 hl)
  have FF := Lib.hid (fun base W P s x0 h hu hx h0 => scFrom_at base n W P (Sc.endsOf l) (Sc.tog n l) s x0 h hu hn64 hx h0 (Sc.tog_gets hl) (Sc.tog_eqv hl) (fun u v hv => Sc.ends_lt hl u v hv) (Sc.endsOf_len hl))
  have HALL := Lib.hid (fun s (h : Sc.Hunt n (Sc.endsOf l) (Sc.tog n l) s []) hm cs hp hs => Sc.Hunt.all h HQ.out hm (cs := cs) hp hs)
  have HCL := Lib.hid (fun s (h : Sc.Hunt n (Sc.endsOf l) (Sc.tog n l) s []) => Sc.Hunt.comps_len h HQ.out)
  have HNE : Hid (∀ s (h : Sc.Hunt n (Sc.endsOf l) (Sc.tog n l) s []), ∀ c ∈ s.comps, 0 < c.length ∧ c.headD 0 ≤ 4294967296) := fun s h c hc => by
    obtain ⟨v, hv, rfl⟩ := (h.done c hc).1
    obtain ⟨y, r, e, hy⟩ := Sc.cls_first HQ.out hv
    rw [e]
    exact ⟨Nat.succ_pos _, by show y ≤ _; omega⟩
  have HST := Lib.hid (Sc.Hunt.start n (Sc.endsOf l) (Sc.tog n l))
  generalize Sc.comps (Sc.tog n l) n = CS at *
  generalize Sc.tog n l = t at *
  clear hu hl
  go_enter Tryd.func16, Tryd.ntmps16
  go_wp2_with fail
  generalize w.alloc (.cells #[.int .i64 (n : Nat), .slice A l.length c] 24) = W at *
  refine (F1.out _ (HU.out.below BW.out)).mono ?_
  rintro e w1 ⟨rfl, hb1⟩
  have B1 := Lib.hid (below_all BW.out hb1)
  have T1 := Lib.hid (T0.out.later hb1)
  have HU1 := Lib.hid ((HU.out.below BW.out).below hb1)
  obtain ⟨c0, c1⟩ := T1.out.cells
  clear hb1 T0 BW HU F1
  go_wp2_with fail
  refine (FB.out _ HU1.out).mono ?_
  rintro e w2 ⟨P, rfl, hwk, hb2⟩
  have HW := Lib.hid hwk
  have HB := Lib.hid (below_all B1.out hb2)
  have HBS : Hid (w.heap.size ≤ w1.heap.size) := B1.out.size
  obtain ⟨c0, c1⟩ := (T1.out.later hb2).cells
  clear hwk hb2 T1 HU1 FB B1
  generalize w1.heap.size = base at *
  go_wp2_with fail
  go_loopw [12] (fun i wr => ∃ (x : Nat) (P1 : Pl) (s1 : Sc.Wk), x ≤ n ∧ i = .int .i64 x ∧ P1.b = P.b ∧ Hid (Wlk base wr P1 n (Sc.endsOf l) s1 []) ∧ Hid (Sc.Hunt n (Sc.endsOf l) t s1 []) ∧ Hid (∀ u, u < x → s1.rank u ≠ 0) ∧ Hid (Below w.heap.size w wr)) (fun i _ => n - (intOf i).toNat)
  case atStart => exact ⟨0, P, Sc.Wk.start, Nat.zero_le _, rfl, rfl, HW.out, HST.out, fun u hu => absurd hu (Nat.not_lt_zero u), HB.out⟩
  case round =>
    clear HW HB HST c0 c1
    obtain ⟨x, P1, s1, hx, rfl, hpb, HW, HH, HM, HB⟩ := hrel
    obtain ⟨-, d1, -, -, -, -, d6⟩ := HW.out.cells
    rw [hpb] at d1 d6
    by_cases hlt : x < n
    · have k1 := HW.out.rank.cell hlt
      clear d6
      by_cases h0 : s1.rank x = 0
      · rw [h0] at k1
        have F := Lib.hid (FF.out base wr P1 s1 x HW.out HH.out hlt h0)
        rw [hpb] at F
        clear h0
        go_wp2_with fail
        refine F.out.mono ?_
        rintro e w3 ⟨rfl, P3, s3, hw3, hg3, hh3, hm3⟩
        have hb3 : P3.b = P.b := hg3.b.trans hpb
        have HW3 := Lib.hid hw3
        have HH3 := Lib.hid hh3
        have HM3 : Hid (∀ u, u < x + 1 → s3.rank u ≠ 0) := fun u hu => by
          by_cases e : u = x
          · exact hm3 u (.inr e)
          · exact hm3 u (.inl (HM.out u (by omega)))
        have HB3 : Hid (Below w.heap.size w w3) := hg3.turn.below HB.out (fun k ⟨i, q⟩ => Nat.le_trans HBS.out (HW.out.inside i k q).1) HB.out.size
        clear hw3 hg3 hh3 hm3 F
        go_wp2_with fail
        go_roundw
        case rel => exact ⟨x + 1, P3, s3, by omega, by go_num, hb3, HW3.out, HH3.out, HM3.out, HB3.out⟩
        case measure => simp [intOf]; omega
      · have hr0 : ((s1.rank x : Int) == 0) = false := by rw [beq_eq_false_iff_ne]; omega
        have hr1 : (s1.rank x == 0) = false := by rw [beq_eq_false_iff_ne]; exact h0
        have HM3 : Hid (∀ u, u < x + 1 → s1.rank u ≠ 0) := fun u hu => by
          by_cases e : u = x
          · rw [e]; exact h0
          · exact HM.out u (by omega)
        clear h0 HM
        generalize hrk : s1.rank x = rk at k1 hr0 hr1
        clear hrk
        go_wp2_with fail
        go_roundw
        case rel => exact ⟨x + 1, P1, s1, by omega, by go_num, hpb, HW.out, HH.out, HM3.out, HB.out⟩
        case measure => simp [intOf]; omega
    · obtain rfl : x = n := by omega
      have hcs := HW.out.compsAre
      have hcl : P1.pc.length = s1.comps.length := by rw [← hcs, List.length_map]
      have FO := Lib.hid (scOrder_at base P1.vc P1.pc wr HW.out.comps (by have := HCL.out s1 HH.out; omega) (fun y hy => HNE.out s1 HH.out _ (by rw [← hcs]; exact List.mem_map_of_mem hy)))
      have HCS := Lib.hid hcs
      obtain ⟨AV, cV, hv⟩ := HW.out.comps.form
      rw [hv] at d6 FO
      have HNB : Hid (∀ k, P1.vc.ownBlock = some k → k ≠ P.b) := fun k q e => absurd (HW.out.apart 6 0 k (.inl q) (by rw [e]; exact hpb.symm)) (by decide)
      rw [hv] at HNB
      have HPL : Hid (P.b < wr.heap.size) := by have := (HW.out.inside 0 _ rfl).2; rw [hpb] at this; exact this
      have HBA := Lib.hid (fun w3 (hg : wr.grownBy w3 P1.vc.ownBlock) => below_append HB.out HB.out.size (own_lower HW.out.comps.row HBS.out) hg)
      rw [hv] at HBA
      clear hcs hcl d1 hv
      go_wp2_with fail
      refine FO.out.mono ?_
      rintro e w3 ⟨rfl, hg, p', hperm, hs, ho⟩
      have e6 := (hg.cell_far ⟨P.b, 6, none⟩ HPL.out (fun e => HNB.out _ e.symm rfl)).trans d6
      have HO := Lib.hid ho
      have HB3 := Lib.hid (HBA.out w3 hg)
      have HR : Hid (p'.map (·.1) = CS) := HALL.out s1 HH.out HM.out _ (by rw [← HCS.out]; exact hperm.map _) (by rw [List.pairwise_map]; exact hs)
      clear hg hperm hs ho d6 FO
      go_wp2_with fail
      go_ret
      exact ⟨_, p', rfl, HO.out.lower HBS.out, HR.out, HB3.out⟩

/-- The components, of any graph. -/
theorem scComps_own (n : Int) (u : Value) (l : List Nat) (w : World) (hu : Us w u l) (hs : ∀ x ∈ l, x < 18446744073709551616) : Calls Tryd.prog 16 #[.agg #[.int .i64 n, u]] w (RetOwnRR w (Sc.compsA n l)) := by
  cases hok : Gf.okB n l with
  | false =>
    rw [Sc.compsA_no hok]
    exact scComps_no n u l w hu hs hok
  | true =>
    obtain ⟨k, rfl, hk⟩ := Gf.okB_iff.1 hok
    rw [Sc.compsA_yes hk]
    exact scComps_yes k u l w hu hk
theorem scComps_at (n : Int) (u : Value) (l : List Nat) (w : World) (hu : Us w u l) (hs : ∀ x ∈ l, x < 18446744073709551616) : Calls Tryd.prog 16 #[.agg #[.int .i64 n, u]] w (RetRR w (Sc.compsA n l)) :=
  (scComps_own n u l w hu hs).mono fun _ _ ⟨_, _, h1, h2, h3, h4⟩ => ⟨_, h1, by rw [← h3]; exact h2.rrs, h4⟩
end Go.Proofs.YtgapcjgmmlffmaaDoor
