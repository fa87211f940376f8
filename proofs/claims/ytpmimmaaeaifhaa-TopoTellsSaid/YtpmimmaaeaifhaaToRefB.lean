/-
  What the reference's Is of layer 16 answers.
  Conditions: rows of at most 4294967296.
-/
import Derived.Test.YtpmimmaaeaifhaaCyRefC
import Derived.Test.YtpmimmaaeaifhaaToRefA
import Derived.BigRegion
import Derived.Lib.QuietBelow
set_option maxRecDepth 4000
namespace Go.Proofs.Ytpmimmaaeaifhaa
open Go.RowKit

theorem ns_front {w : World} {A : Option Addr} {n c : Nat} {l : List Int} (h : Ns w (.slice A n c) l) (m : Nat) (hm : m ≤ l.length) : Ns w (.slice A m c) (l.take m) := by
  obtain ⟨h1, A1, c1, hv, hc, hz, hh⟩ := h
  cases hv
  have hlen : (l.take m).length = m := by rw [List.length_take]; omega
  refine ⟨by rw [flat_len nC_len], _, _, by rw [hlen], by rw [hlen]; omega, hz, fun h0 => ?_⟩
  rw [hlen] at h0
  obtain ⟨ad, e, hb, hcell⟩ := hh (by omega)
  refine ⟨ad, e, hb, fun j u hu => hcell j u ?_⟩
  have hj := (List.getElem?_eq_some_iff.1 hu).1
  rw [flat_len nC_len, hlen] at hj
  have e2 : l.flatMap nC = (l.take m).flatMap nC ++ (l.drop m).flatMap nC := by rw [← List.flatMap_append, List.take_append_drop]
  rw [e2, List.getElem?_append_left (by rw [flat_len nC_len, hlen]; omega)]
  exact hu
theorem ns_cap {w : World} {A : Option Addr} {n c : Nat} {l : List Int} (h : Ns w (.slice A n c) l) : l.length ≤ c := by
  obtain ⟨h1, A1, c1, hv, hc, hz, hh⟩ := h
  cases hv
  exact hc

/-- The reference's in, of any integers. -/
theorem rInI16_at (l : List Int) (x : Int) (v : Value) (w : World) (hv : Ns w v l) (hl : l.length ≤ 4294967296) : Calls Try.prog 20 #[v, .int .i64 x] w fun e w' => e = .returned (.bool (decide (x ∈ l))) ∧ w = w' := by
  obtain ⟨A, c, rfl, hform⟩ := hv.spelled
  have HF := Lib.hid hform
  clear hform hv
  go_enter Try.func20, Try.ntmps20
  go_wp2
  go_loopw [5] (fun i wr => ∃ k : Nat, k ≤ l.length ∧ i = .int .i64 k ∧ Hid (∀ j (hj : j < l.length), j < k → l[j] ≠ x) ∧ w = wr) (fun i _ => l.length - (intOf i).toNat)
  case atStart => exact ⟨0, Nat.zero_le _, rfl, fun j _ hj => absurd hj (by omega), rfl⟩
  case round =>
    obtain ⟨k, hk, rfl, hno, rfl⟩ := hrel
    by_cases hlt : k < l.length
    · obtain ⟨ad, rfl, hblk, hE⟩ := HF.out k hlt
      obtain ⟨z, hz⟩ : ∃ z, z = l[k]'hlt := ⟨_, rfl⟩
      rw [← hz] at hE
      have HZ := Lib.hid hz
      clear hz
      by_cases he : z = x
      · have HM : Hid (decide (x ∈ l) = true) := by rw [Hid, decide_eq_true_iff, ← he, HZ.out]; exact List.getElem_mem hlt
        subst he
        have hq : (z == z) = true := by rw [beq_iff_eq]
        go_wp2_with fail
        go_ret
        exact ⟨ret_bool HM.out.symm, rfl⟩
      · have hq : (z == x) = false := beq_eq_false_iff_ne.2 he
        have HN : Hid (∀ j (hj : j < l.length), j < k + 1 → l[j] ≠ x) := fun j hj hjk => by
          by_cases e : j = k
          · subst e; rw [← HZ.out]; exact he
          · exact hno.out j hj (by omega)
        clear he
        go_wp2_with fail
        go_roundw
        case rel => exact ⟨k + 1, by omega, by go_num, HN, trivial⟩
        case measure => simp [intOf]; omega
    · have HM : Hid (decide (x ∈ l) = false) := by
        rw [Hid, decide_eq_false_iff_not]
        intro q
        obtain ⟨j, hj, e⟩ := List.getElem_of_mem q
        exact hno.out j hj (by omega) e
      go_wp2_with fail
      go_ret
      exact ⟨ret_bool HM.out.symm, rfl⟩

namespace To
open Gf Rc
/-- An order, place by place: i is a node, not one of those ahead, no edge to itself or to one ahead. -/
def Good (k : Nat) (g : List Nat) (l : List Int) (i : Nat) (hi : i < l.length) : Prop := ∃ x : Nat, l[i] = (x : Int) ∧ x < k ∧ (x : Int) ∉ l.take i ∧ bit g x x = false ∧ ∀ j (hj : j < l.length), j < i → ∀ y : Nat, l[j] = (y : Int) → bit g x y = false
def IsO (n : Int) (g : List Nat) (l : List Int) : Prop := ∃ k : Nat, n = (k : Int) ∧ Ok k g ∧ l.length = k ∧ ∀ i (hi : i < l.length), Good k g l i hi
end To

set_option maxHeartbeats 4000000 in
theorem rIs16_at (n : Int) (u : Value) (g : List Nat) (l : List Int) (v : Value) (w : World) (hu : Us w u g) (hs : ∀ x ∈ g, x < 18446744073709551616) (hv : Ns w v l) (hl : l.length ≤ 4294967296) :
    Calls Try.prog 12 #[.agg #[.int .i64 n, u], v] w (RetIff w (To.IsO n g l)) := by
  have HU := Lib.hid hu
  have HV := Lib.hid hv
  have BW := Lib.hid (alloc_below w (.cells #[.int .i64 n, u] 27))
  have T0 := Lib.hid (Two.new w 27 (.int .i64 n) u)
  obtain ⟨A0, c0', rfl, -⟩ := hu.spelled
  have FR := Lib.hid (fun w h => rRight12_at n (.slice A0 g.length c0') g w h hs)
  obtain ⟨A1, c1', rfl, hform⟩ := hv.spelled
  have HCAP := ns_cap hv
  have HF := Lib.hid hform
  clear hu hv hform
  go_enter Try.func12, Try.ntmps12
  go_wp2_with fail
  generalize w.alloc (.cells #[.int .i64 n, .slice A0 g.length c0'] 27) = W at *
  refine (FR.out _ (HU.out.below BW.out)).mono ?_
  rintro e w1 ⟨rfl, hb1⟩
  have T1 := Lib.hid (T0.out.later hb1)
  have B1 := Lib.hid (below_all BW.out hb1)
  clear hb1 T0 BW FR
  cases hok : Gf.okB n g with
  | false =>
    go_wp2_with fail
    go_ret
    exact ret_iff_no (fun h => by obtain ⟨k, hk, hg, _⟩ := h; rw [Gf.okB_iff.2 ⟨k, hk, hg⟩] at hok; cases hok) B1.out
  | true =>
    obtain ⟨k, rfl, hg⟩ := Gf.okB_iff.1 hok
    clear hok
    obtain ⟨a0, a1⟩ := T1.out.cells
    have h64 := hg.1
    by_cases hlk : l.length = k
    · subst hlk
      have hz : ((l.length : Int) != (l.length : Int)) = false := by simp
      have hz2 : (l.length != l.length) = false := by simp
      have HG := Lib.hid hg
      have HF1 : Hid (∀ (k : Nat) (hk : k < l.length), ∃ ad : Addr, A1 = some ad ∧ ad.block < w1.heap.size ∧ w1.cell? (ad.add k) = some (.int .i64 (l[k]'hk))) := fun k hk => by
        obtain ⟨ad, e1, e2, e3⟩ := HF.out k hk
        exact ⟨ad, e1, Nat.lt_of_lt_of_le e2 B1.out.size, (B1.out.cell (by rw [add_block]; exact e2)).trans e3⟩
      have HV1 := Lib.hid (HV.out.below B1.out)
      have HU1 := Lib.hid (HU.out.below B1.out)
      have FH : Hid (∀ (w : World) (x y : Nat), x < l.length → y < l.length → Us w (.slice A0 g.length c0') g → Calls Try.prog 22 #[.agg #[.int .i64 l.length, .slice A0 g.length c0'], .int .i64 x, .int .i64 y] w (RetBool w (Gf.bit g x y))) := fun w x y hx hy hw => by
        have hxl : x < g.length := by rw [hg.2.1]; exact hx
        have := rHas12_at l.length (.slice A0 g.length c0') g x y w hw hxl (hg.small (List.getElem_mem hxl))
        rw [Bi.has_nat _ y (by omega), ← Gf.bit_at hxl] at this
        exact this
      clear hg HF HU HV
      go_wp2_with fail
      clear a0 a1 hz hz2
      go_loopw [6] (fun i wr => ∃ x : Nat, x ≤ l.length ∧ i = .int .i64 x ∧ Hid (∀ j (hj : j < l.length), j < x → To.Good l.length g l j hj) ∧ Hid (Below w1.heap.size w1 wr)) (fun i _ => l.length - (intOf i).toNat)
      case atStart => exact ⟨0, Nat.zero_le _, rfl, fun j _ h => absurd h (Nat.not_lt_zero _), Below.refl _ _⟩
      case round =>
        obtain ⟨x, hx, rfl, HN, HB⟩ := hrel
        obtain ⟨a0, a1⟩ := (T1.out.later HB.out).cells
        by_cases hlt : x < l.length
        · obtain ⟨ad, rfl, hblk, hE⟩ := HF1.out x hlt
          have HE1 := Lib.hid hE
          have e0 := (HB.out.cell (by rw [add_block]; exact hblk)).trans hE
          obtain ⟨z, hz⟩ : ∃ z, z = l[x]'hlt := ⟨_, rfl⟩
          rw [← hz] at e0
          have HZ := Lib.hid hz
          clear hE hz
          have hcap1 : x ≤ c1' := by omega
          have hcap2 : ¬ ((c1' : Int) < (x : Int)) := by omega
          have FI := Lib.hid (rInI16_at (l.take x) z (.slice (some ad) x c1') wr.drew (ns_front ((HV1.out.below HB.out).below (Below.refl _ wr).drew) x (by omega)) (by rw [List.length_take]; omega))
          go_wp2_with fail
          go_region_law (go_simp; go_at_call 20; refine FI.out.mono ?_; rintro e w2 ⟨rfl, rfl⟩)
          all_goals
            have HB2 := Lib.hid (below_all HB.out (Below.refl _ wr).drew)
            obtain ⟨q, hq⟩ : ∃ q, q = decide (z ∈ l.take x) := ⟨_, rfl⟩
            rw [← hq]
            have HQ := Lib.hid hq
            clear e0 a0 a1 FI hq
            generalize wr.drew = wk at *
            have e0 := (HB2.out.cell (by rw [add_block]; exact hblk)).trans HE1.out
            rw [← HZ.out] at e0
            obtain ⟨a0, a1⟩ := (T1.out.later HB2.out).cells
            obtain ⟨p, hp⟩ : ∃ p, p = Gf.isN (l.length : Int) z := ⟨_, rfl⟩
            have FN : Hid (Calls Try.prog 21 #[.agg #[.int .i64 l.length, .slice A0 g.length c0'], .int .i64 z] wk.drew (RetBool wk.drew p)) := by rw [hp]; exact rNode12_at l.length (.slice A0 g.length c0') z _
            have HP := Lib.hid hp
            clear hp
            have HNO : Hid (p = false ∨ q = true → ¬ To.IsO (l.length : Int) g l) := fun hpq h => by
              obtain ⟨k', hk', _, _, hgood⟩ := h
              obtain ⟨y, hy1, hy2, hy3, _⟩ := hgood x hlt
              rw [← HZ.out] at hy1
              rcases hpq with h | h
              · rw [HP.out, hy1, Gf.isN_yes (by omega)] at h; cases h
              · rw [HQ.out, decide_eq_true_iff, hy1] at h; exact hy3 h
            cases p with
            | false =>
              have FQ : Hid (∀ w, Calls Try.prog 21 #[.agg #[.int .i64 l.length, .slice A0 g.length c0'], .int .i64 z] w (RetBool w false)) := fun w => by rw [HP.out]; exact rNode12_at l.length (.slice A0 g.length c0') z w
              have k0 := cell_regrown a0
              have k1 := cell_regrown a1
              have k2 := cell_regrown e0
              have cH : ∀ d os, Calls Try.prog 21 #[.agg #[.int .i64 l.length, .slice A0 g.length c0'], .int .i64 z] (Sort.grow (redrawn wk d) os) fun e w'' => e = .returned (.bool false) ∧ ∃ p : Regrown, w'' = Sort.grow (redrawn wk p.d) p.os := fun d os => Calls.regrown_of ((FQ.out _).mono fun _ _ h => h)
              clear a0 a1 e0
              go_wp2_with fail
              refine wp_region_quiet_below (by kernel_rfl) (by kernel_rfl) ?_
              repeat (go_big_quiet_step (exact cH _ _))
              refine wpQuiet_nil ?_
              intro _ hw1
              obtain ⟨⟨dq, osq⟩, hw2⟩ := hw1
              subst hw2
              have HB3 := Lib.hid (below_all HB2.out (below_regrown wk dq osq))
              clear k0 k1 k2 cH
              generalize Sort.grow (redrawn wk dq) osq = w5 at *
              all_goals
                go_wp2_with fail
                go_ret
                exact ret_iff_no (HNO.out (by simp)) (below_all B1.out HB3.out)
            | true =>
              obtain ⟨y, rfl, hyl⟩ := Gf.isN_nat HP.out.symm
              go_wp2_with fail
              go_region_law (go_simp; go_at_call 21; refine FN.out.mono ?_; rintro e w2 ⟨rfl, hb2⟩; have HB3 := Lib.hid (below_all HB2.out (below_all (Below.refl _ wk).drew hb2)); clear hb2)
              all_goals
                cases q with
                | true =>
                  go_wp2_with fail
                  go_ret
                  exact ret_iff_no (HNO.out (by simp)) (below_all B1.out HB3.out)
                | false =>
                  go_wp2_with fail
                  clear e0 a0 a1
                  have HTK : Hid ((y : Int) ∉ l.take x) := by have h := HQ.out; rw [Hid]; intro hm; rw [decide_eq_true hm] at h; cases h
                  generalize hwk : w2 = WK at *
                  clear hwk
                  go_loopw [8] (fun i wr => ∃ m : Nat, m ≤ x ∧ i = .int .i64 m ∧ Hid (∀ j (hj : j < l.length), j < m → ∀ t : Nat, l[j] = (t : Int) → Gf.bit g y t = false) ∧ Hid (Below w1.heap.size w1 wr)) (fun i _ => x - (intOf i).toNat)
                  case atStart => exact ⟨0, Nat.zero_le _, rfl, fun j _ h => absurd h (Nat.not_lt_zero _), HB3.out⟩
                  case round =>
                    obtain ⟨m, hm, rfl, HE, HBQ⟩ := hrel
                    obtain ⟨a0, a1⟩ := (T1.out.later HBQ.out).cells
                    have e0 := (HBQ.out.cell (by rw [add_block]; exact hblk)).trans HE1.out
                    rw [← HZ.out] at e0
                    have HU2 := Lib.hid ((HU1.out.below HBQ.out).below (Below.refl _ wr).drew)
                    by_cases hltm : m < x
                    · obtain ⟨t, ht1, ht2, -, -, -⟩ := HN.out m (by omega) hltm
                      obtain ⟨ad2, had, hblk2, hE2⟩ := HF1.out m (by omega)
                      cases had
                      rw [ht1] at hE2
                      have e1 := (HBQ.out.cell (by rw [add_block]; exact hblk2)).trans hE2
                      have HT := Lib.hid ht1
                      have hml : m < l.length := by omega
                      clear hE2 ht1
                      go_wp2_with fail
                      go_region_law (go_simp; go_at_call 22; refine (FH.out _ y t hyl ht2 HU2.out).mono ?_; rintro e w2 ⟨rfl, hb2⟩; have HB4 := Lib.hid (below_all HBQ.out (below_all (Below.refl _ wr).drew hb2)); clear hb2)
                      all_goals
                        clear e0 e1 a0 a1
                        cases hb : Gf.bit g y t with
                        | true =>
                          go_wp2_with fail
                          go_ret
                          exact ret_iff_no (fun h => by
                            obtain ⟨k', hk', _, _, hgood⟩ := h
                            obtain ⟨y', hy1, _, _, _, hy5⟩ := hgood x hlt
                            obtain rfl : y' = y := by have := HZ.out; omega
                            have := hy5 m (by omega) hltm t HT.out
                            rw [hb] at this; cases this) (below_all B1.out HB4.out)
                        | false =>
                          have HE2 : Hid (∀ j (hj : j < l.length), j < m + 1 → ∀ t : Nat, l[j] = (t : Int) → Gf.bit g y t = false) := fun j hj hjm t' ht' => by
                            rcases Nat.lt_succ_iff_lt_or_eq.1 hjm with q | q
                            · exact HE.out j hj q t' ht'
                            · subst q
                              obtain rfl : t' = t := by have := HT.out; omega
                              exact hb
                          clear hb
                          go_wp2_with fail
                          go_roundw
                          case rel => exact ⟨m + 1, by omega, by go_num, HE2.out, HB4.out⟩
                          case measure => simp [intOf]; omega
                    · have hmx : m = x := by omega
                      rw [hmx] at HE
                      clear hmx
                      go_wp2_with fail
                      go_region_law (go_simp; go_at_call 22; refine (FH.out _ y y hyl hyl HU2.out).mono ?_; rintro e w2 ⟨rfl, hb2⟩; have HB4 := Lib.hid (below_all HBQ.out (below_all (Below.refl _ wr).drew hb2)); clear hb2)
                      all_goals
                        clear e0 a0 a1
                        cases hb : Gf.bit g y y with
                        | true =>
                          go_wp2_with fail
                          go_ret
                          exact ret_iff_no (fun h => by
                            obtain ⟨k', hk', _, _, hgood⟩ := h
                            obtain ⟨y', hy1, _, _, hy4, _⟩ := hgood x hlt
                            obtain rfl : y' = y := by have := HZ.out; omega
                            rw [hb] at hy4; cases hy4) (below_all B1.out HB4.out)
                        | false =>
                          have HN2 : Hid (∀ j (hj : j < l.length), j < x + 1 → To.Good l.length g l j hj) := fun j hj hjx => by
                            rcases Nat.lt_succ_iff_lt_or_eq.1 hjx with q | q
                            · exact HN.out j hj q
                            · subst q
                              exact ⟨y, HZ.out.symm, hyl, HTK.out, hb, HE.out⟩
                          clear hb
                          go_wp2_with fail
                          go_roundw
                          case rel => exact ⟨x + 1, by omega, by go_num, HN2.out, HB4.out⟩
                          case measure => simp [intOf]; omega
        · have HR : Hid (To.IsO (l.length : Int) g l) := ⟨l.length, rfl, HG.out, rfl, fun i hi => HN.out i hi (by omega)⟩
          go_wp2_with fail
          go_ret
          exact ret_iff_yes HR.out (below_all B1.out HB.out)
    · have hz : ((l.length : Int) != (k : Int)) = true := by rw [bne_iff_ne]; omega
      have hz2 : (l.length != k) = true := by rw [bne_iff_ne]; exact hlk
      go_wp2_with fail
      go_ret
      exact ret_iff_no (fun h => by obtain ⟨k', hk, _, h2, _⟩ := h; omega) B1.out
end Go.Proofs.Ytpmimmaaeaifhaa
