/-
  What cycle's Is answers, of any graph and any row of numbers.
  Conditions: rows of the graph hold sets below 2^64; rows of at most 4294967296.
-/
import Derived.Test.YtgapcjgmmlffmaaDoorCyAns
import Derived.Test.YtgapcjgmmlffmaaDoorGfAll
import Derived.Test.YtgapcjgmmlffmaaDoorBiAll
set_option maxRecDepth 4000
namespace Go.Proofs.YtgapcjgmmlffmaaDoor
open Go.RowKit

namespace Cy
open Gf Rc To
/-- The one ahead of place i; ahead of the first is the last. -/
def prev (l : List Int) (i : Nat) : Int := l.getD (if i = 0 then l.length - 1 else i - 1) 0
theorem prev_zero {l : List Int} (h : l.length - 1 < l.length) : prev l 0 = l[l.length - 1] := by rw [prev, if_pos rfl, List.getD_eq_getElem?_getD, List.getElem?_eq_getElem h]; rfl
theorem prev_next {l : List Int} {i : Nat} (h : i < l.length) : prev l (i + 1) = l[i] := by rw [prev, if_neg (Nat.succ_ne_zero i), Nat.add_sub_cancel, List.getD_eq_getElem?_getD, List.getElem?_eq_getElem h]; rfl
theorem hasR_iff {k : Nat} {g : List Nat} (hg : Ok k g) {a b : Int} : hasR (k : Int) g a b = true ↔ ∃ x y : Nat, a = (x : Int) ∧ b = (y : Int) ∧ x < k ∧ y < k ∧ bit g x y = true := by
  rw [hasR, (okB_nat k g).2 hg, Bool.true_and, Bool.and_eq_true, Bool.and_eq_true]
  constructor
  · rintro ⟨h1, h2, h3⟩
    obtain ⟨x, rfl, hx⟩ := isN_nat h1
    obtain ⟨y, rfl, hy⟩ := isN_nat h2
    exact ⟨x, y, rfl, rfl, hx, hy, h3⟩
  · rintro ⟨x, y, rfl, rfl, hx, hy, h⟩
    exact ⟨isN_yes hx, isN_yes hy, h⟩
theorem IsC.hasR {n : Int} {g : List Nat} {l : List Int} (h : IsC n g l) (i : Nat) (hi : i < l.length) : Gf.hasR n g (prev l i) l[i] = true := by
  obtain ⟨k, rfl, hg, m, rfl, hm⟩ := h
  have hi' : i < m.length := by rw [Bi.nums_len] at hi; exact hi
  rw [hasR_iff hg, Bi.nums_at m i hi']
  cases i with
  | zero =>
    have hl : m.length - 1 < m.length := by omega
    have hl2 : (Bi.nums m).length - 1 < (Bi.nums m).length := by rw [Bi.nums_len]; exact hl
    refine ⟨m[m.length - 1], m[0], ?_, rfl, hm.node _ (List.getElem_mem hl), hm.node _ (List.getElem_mem hi'), ?_⟩
    · rw [prev_zero hl2]
      have := Bi.nums_at m (m.length - 1) hl
      simp only [Bi.nums_len]
      exact this
    · have := hm.edge (m.length - 1) hl
      have e : (m.length - 1 + 1) % m.length = 0 := by rw [Nat.sub_add_cancel (by omega), Nat.mod_self]
      simp only [e] at this
      exact this
  | succ i =>
    have hi2 : i < m.length := by omega
    refine ⟨m[i], m[i + 1], ?_, rfl, hm.node _ (List.getElem_mem hi2), hm.node _ (List.getElem_mem hi'), ?_⟩
    · rw [prev_next (by rw [Bi.nums_len]; exact hi2)]
      exact Bi.nums_at m i hi2
    · have := hm.edge i hi2
      have e : (i + 1) % m.length = i + 1 := Nat.mod_eq_of_lt hi'
      simp only [e] at this
      exact this
theorem IsC.of {n : Int} {g : List Nat} {l : List Int} (h0 : l.length ≠ 0) (h1 : ∀ i (hi : i < l.length), Gf.hasR n g (prev l i) l[i] = true) (h2 : ∀ a b (ha : a < l.length) (hb : b < l.length), a < b → l[a] ≠ l[b]) : IsC n g l := by
  have hok : okB n g = true := by
    have := h1 0 (by omega)
    rw [Gf.hasR, Bool.and_eq_true] at this
    exact this.1
  obtain ⟨k, rfl, hg⟩ := okB_iff.1 hok
  obtain ⟨m, rfl, hm⟩ := nums_back (n := k) (l := l) fun j hj => by
    obtain ⟨x, y, _, e, _, hy, _⟩ := (hasR_iff hg).1 (h1 j hj)
    rw [e]
    exact isN_yes hy
  have hl : m.length ≠ 0 := by rw [Bi.nums_len] at h0; exact h0
  refine IsC.all hg hm hl h2 fun i hi => ?_
  have hmod : (i + 1) % m.length < m.length := Nat.mod_lt _ (Nat.zero_lt_of_lt hi)
  have hi' : i < (Bi.nums m).length := by rw [Bi.nums_len]; exact hi
  have hmod' : (i + 1) % m.length < (Bi.nums m).length := by rw [Bi.nums_len]; exact hmod
  obtain ⟨x, y, e1, e2, _, _, hb⟩ := (hasR_iff hg).1 (h1 _ hmod')
  rw [Bi.nums_at m _ hmod] at e2
  have hp : prev (Bi.nums m) ((i + 1) % m.length) = (m[i] : Int) := by
    rcases Nat.lt_or_ge (i + 1) m.length with q | q
    · rw [Nat.mod_eq_of_lt q, prev_next hi', Bi.nums_at m i hi]
    · have e : i + 1 = m.length := by omega
      have hl2 : (Bi.nums m).length - 1 < (Bi.nums m).length := by rw [Bi.nums_len]; omega
      rw [e, Nat.mod_self, prev_zero hl2]
      have := Bi.nums_at m i hi
      have e3 : (Bi.nums m).length - 1 = i := by rw [Bi.nums_len]; omega
      simp only [e3]
      exact this
  rw [hp] at e1
  obtain rfl : x = m[i] := by omega
  obtain rfl : y = m[(i + 1) % m.length] := by omega
  exact hb
/-- Behind i rounds of Is: what is met, and that all is right so far. -/
structure IsMid (n : Int) (g : List Nat) (l : List Int) (i met : Nat) : Prop where
  small : met < 18446744073709551616
  edge : ∀ j (hj : j < l.length), j < i → Gf.hasR n g (prev l j) l[j] = true
  once : ∀ a b (ha : a < l.length) (hb : b < l.length), a < b → b < i → l[a] ≠ l[b]
  met : ∀ z : Int, Bi.has met z = true ↔ ∃ j, ∃ hj : j < l.length, j < i ∧ l[j] = z
theorem IsMid.start (n : Int) (g : List Nat) (l : List Int) : IsMid n g l 0 0 :=
  ⟨by decide, fun _ _ h => absurd h (Nat.not_lt_zero _), fun _ _ _ _ _ h => absurd h (Nat.not_lt_zero _), fun z => ⟨fun h => (by rw [Bi.has, Nat.zero_testBit, Bool.and_false] at h; cases h), fun ⟨_, _, h, _⟩ => absurd h (Nat.not_lt_zero _)⟩⟩
theorem IsMid.twice {n : Int} {g : List Nat} {l : List Int} {i met : Nat} (m : IsMid n g l i met) (hi : i < l.length) (h : Bi.has met l[i] = true) : ¬ IsC n g l := fun hc => by
  obtain ⟨j, hj, hji, e⟩ := (m.met _).1 h
  exact hc.one j i hj hi hji e
theorem IsMid.lacks {n : Int} {g : List Nat} {l : List Int} {i : Nat} (hi : i < l.length) (h : Gf.hasR n g (prev l i) l[i] = false) : ¬ IsC n g l := fun hc => by
  rw [hc.hasR i hi] at h
  cases h
theorem IsMid.next {n : Int} {g : List Nat} {l : List Int} {i met : Nat} (m : IsMid n g l i met) (hi : i < l.length) (h1 : Bi.has met l[i] = false) (h2 : Gf.hasR n g (prev l i) l[i] = true) : IsMid n g l (i + 1) (Bi.withN met l[i]) := by
  have hok : Bi.ok l[i] = true := by
    rw [Gf.hasR, Bool.and_eq_true] at h2
    obtain ⟨k, rfl, hg⟩ := okB_iff.1 h2.1
    obtain ⟨x, y, _, e, _, hy, _⟩ := (hasR_iff hg).1 (by rw [Gf.hasR, Bool.and_eq_true]; exact h2)
    rw [e]
    exact Bi.ok_of y (Nat.lt_of_lt_of_le hy hg.1)
  refine ⟨Bi.with_zero_lt m.small _, fun j hj hji => ?_, fun a b ha hb hab hbi => ?_, fun z => ?_⟩
  · rcases Nat.lt_succ_iff_lt_or_eq.1 hji with q | q
    · exact m.edge j hj q
    · subst q; exact h2
  · rcases Nat.lt_succ_iff_lt_or_eq.1 hbi with q | q
    · exact m.once a b ha hb hab q
    · subst q
      intro e
      rw [(m.met _).2 ⟨a, ha, hab, e⟩] at h1
      cases h1
  · have key : Bi.has (Bi.withN met l[i]) z = true ↔ Bi.has met z = true ∨ l[i] = z := by
      rw [Bi.has, Bi.has, Bi.with_bit, hok, Bool.true_and, Bool.and_eq_true, Bool.or_eq_true, Bool.and_eq_true, decide_eq_true_iff]
      obtain ⟨y, e, hy⟩ := Bi.ok_nat hok
      constructor
      · rintro ⟨hz, q | q⟩
        · exact .inl ⟨hz, q⟩
        · obtain ⟨x, e2, _⟩ := Bi.ok_nat hz
          exact .inr (by rw [e, e2, Int.toNat_natCast, Int.toNat_natCast] at q; rw [e, e2, q])
      · rintro (⟨hz, q⟩ | q)
        · exact ⟨hz, .inl q⟩
        · rw [← q]; exact ⟨hok, .inr rfl⟩
    rw [key, m.met]
    constructor
    · rintro (⟨j, hj, hji, e⟩ | e)
      · exact ⟨j, hj, Nat.lt_succ_of_lt hji, e⟩
      · exact ⟨i, hi, Nat.lt_succ_self i, e⟩
    · rintro ⟨j, hj, hji, e⟩
      rcases Nat.lt_succ_iff_lt_or_eq.1 hji with q | q
      · exact .inl ⟨j, hj, q, e⟩
      · subst q; exact .inr e
theorem IsMid.all {n : Int} {g : List Nat} {l : List Int} {met : Nat} (m : IsMid n g l l.length met) (h0 : l.length ≠ 0) : IsC n g l := IsC.of h0 (fun i hi => m.edge i hi hi) fun a b ha hb hab => m.once a b ha hb hab hb
end Cy

set_option maxHeartbeats 2000000 in
theorem cyIs_at (n : Int) (u : Value) (g : List Nat) (l : List Int) (v : Value) (w : World) (hu : Us w u g) (hs : ∀ x ∈ g, x < 18446744073709551616) (hv : Ns w v l) (hl : l.length ≤ 4294967296) : Calls Tryd.prog 8 #[.agg #[.int .i64 n, u], v] w (RetIff w (Cy.IsC n g l)) := by
  have HU := Lib.hid hu
  have BW := Lib.hid (alloc_below w (.cells #[.int .i64 n, u] 24))
  have T0 := Lib.hid (Two.new w 24 (.int .i64 n) u)
  obtain ⟨A0, c0', rfl, -⟩ := hu.spelled
  have FH := Lib.hid (fun a b w h => gfHas_at n (.slice A0 g.length c0') g a b w h hs)
  have HSO := Lib.hid (fun h : Cy.IsC n g l => h.some)
  have HV := Lib.hid hv
  obtain ⟨A1, c1', rfl, hform⟩ := hv.spelled
  have HF := Lib.hid hform
  clear hu hv hform hs
  by_cases hl0 : l.length = 0
  · have hz : ((l.length : Int) == 0) = true := by rw [beq_iff_eq]; omega
    have hz2 : (l.length == 0) = true := by rw [beq_iff_eq]; exact hl0
    go_enter Tryd.func8, Tryd.ntmps8
    go_wp2_with fail
    go_ret
    exact ret_iff_no (fun h => HSO.out h hl0) BW.out
  · have hz : ((l.length : Int) == 0) = false := by rw [beq_eq_false_iff_ne]; omega
    have hz2 : (l.length == 0) = false := by rw [beq_eq_false_iff_ne]; exact hl0
    have hlast : l.length - 1 < l.length := by omega
    obtain ⟨ad, rfl, hblk, hE⟩ := HF.out (l.length - 1) hlast
    have hcast : (l.length : Int) - 1 = ((l.length - 1 : Nat) : Int) := by omega
    have e0 := (BW.out.cell (by rw [add_block]; exact hblk)).trans hE
    rw [← Cy.prev_zero hlast] at e0
    have HL0 := Lib.hid hl0
    clear hl0 hE hblk
    go_enter Tryd.func8, Tryd.ntmps8
    go_wp2_with fail
    generalize w.alloc (.cells #[.int .i64 n, .slice A0 g.length c0'] 24) = W at *
    clear hz hz2 e0 hcast hlast
    go_loopw [5, 6, 20] (fun met bf i wr => ∃ (x m : Nat), x ≤ l.length ∧ met = .int .u64 (m : Int) ∧ bf = .int .i64 (Cy.prev l x) ∧ i = .int .i64 x ∧ Hid (Cy.IsMid n g l x m) ∧ Hid (Below W.heap.size W wr)) (fun _ _ i _ => l.length - (intOf i).toNat)
    case atStart => exact ⟨0, 0, Nat.zero_le _, rfl, rfl, rfl, Cy.IsMid.start n g l, Below.refl _ _⟩
    case round =>
      obtain ⟨x, met, hx, rfl, rfl, rfl, HM, HB⟩ := hrel
      obtain ⟨a0, a1⟩ := (T0.out.later HB.out).cells
      have B2 := Lib.hid (below_all BW.out HB.out)
      by_cases hlt : x < l.length
      · obtain ⟨ad2, had, hblk, hE⟩ := HF.out x hlt
        cases had
        have e0 := (B2.out.cell (by rw [add_block]; exact hblk)).trans hE
        obtain ⟨z, hz⟩ : ∃ z, z = l[x]'hlt := ⟨_, rfl⟩
        rw [← hz] at e0
        have HZ := Lib.hid hz
        have HP : Hid (Cy.prev l (x + 1) = z) := by rw [hz]; exact Cy.prev_next hlt
        have hm := HM.out.small
        clear hE hz hblk
        obtain ⟨pv, hpv⟩ : ∃ pv, pv = Cy.prev l x := ⟨_, rfl⟩
        have HPV := Lib.hid hpv
        rw [← hpv]
        clear hpv
        go_wp2_with fail
        refine (biHas_at met z _ hm).mono ?_
        rintro e w1 ⟨rfl, rfl⟩
        cases hh : Bi.has met z with
        | true =>
          have HNO := Lib.hid (HM.out.twice hlt (by rw [← HZ.out]; exact hh))
          clear hh
          go_wp2_with fail
          go_ret
          exact ret_iff_no HNO.out B2.out
        | false =>
          go_wp2_with fail
          refine (FH.out pv z _ (HU.out.below B2.out)).mono ?_
          rintro e w2 ⟨rfl, hb2⟩
          have HB2 := Lib.hid (below_all HB.out hb2)
          clear hb2
          cases hr : Gf.hasR n g pv z with
          | false =>
            have HNO := Lib.hid (Cy.IsMid.lacks (n := n) (g := g) hlt (by rw [← HZ.out, ← HPV.out]; exact hr))
            clear hr hh
            go_wp2_with fail
            go_ret
            exact ret_iff_no HNO.out (below_all BW.out HB2.out)
          | true =>
            have HN := Lib.hid (HM.out.next hlt (by rw [← HZ.out]; exact hh) (by rw [← HZ.out, ← HPV.out]; exact hr))
            clear hr hh
            go_wp2_with fail
            refine (biWith_at met z _ hm).mono ?_
            rintro e w3 ⟨rfl, rfl⟩
            go_wp2_with fail
            go_roundw
            case rel => exact ⟨x + 1, _, by omega, rfl, by rw [HP.out], by go_num, by rw [HZ.out]; exact HN.out, HB2.out⟩
            case measure => simp [intOf]; omega
      · obtain rfl : x = l.length := by omega
        have HY := Lib.hid (HM.out.all HL0.out)
        go_wp2_with fail
        go_ret
        exact ret_iff_yes HY.out B2.out
end Go.Proofs.YtgapcjgmmlffmaaDoor
