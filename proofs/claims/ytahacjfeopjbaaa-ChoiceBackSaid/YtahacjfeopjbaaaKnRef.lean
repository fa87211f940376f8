/-
  What the reference's So, Wr, Init and Past of layer 17 answer.
  Conditions: a history that may be.
-/
import Derived.Test.YtahacjfeopjbaaaKnPlain
import Derived.Test.YtahacjfeopjbaaaGfRef
import Derived.Test.YtahacjfeopjbaaaHiRef
import Derived.BigRegion
import Derived.Deep.RegionHeld3
set_option maxRecDepth 4000
namespace Go.Proofs.Ytahacjfeopjbaaa
open Go.RowKit

namespace Kn
open Gf (bit Ok build)
open So (Txn)
/-- A graph that is filled, edge by edge. -/
theorem build_same {n : Nat} (hn : n ≤ 64) {f g : Nat → Nat → Bool} (h : ∀ x y, x < n → y < n → f x y = g x y) : build n f = build n g :=
  Gf.same (Gf.build_ok hn f) (Gf.build_ok hn g) fun x y hx hy => by rw [Gf.build_bit hn, Gf.build_bit hn, h x y hx hy]
theorem build_none {n : Nat} (hn : n ≤ 64) {f : Nat → Nat → Bool} (h : ∀ x y, x < n → y < n → f x y = false) : build n f = Gf.zeros n :=
  Gf.same (Gf.build_ok hn f) (Gf.zeros_ok hn) fun x y hx hy => by rw [Gf.build_bit hn, Gf.zeros_bit, h x y hx hy]; simp
theorem build_with {n : Nat} (hn : n ≤ 64) (f : Nat → Nat → Bool) {x y : Nat} (hx : x < n) (hy : y < n) (hl : x < (build n f).length) :
    (build n f).set x (Bi.withN (build n f)[x] (y : Int)) = build n fun a b => f a b || (decide (a = x) && decide (b = y)) := by
  have e : (build n f).set x (Bi.withN (build n f)[x] (y : Int)) = Gf.addR (build n f) x y := by
    unfold Gf.addR
    rw [List.getD_eq_getElem?_getD, List.getElem?_eq_getElem hl]
    rfl
  rw [e]
  refine Gf.same (Gf.add_ok (Gf.build_ok hn f) hx hy) (Gf.build_ok hn _) fun u v hu hv => ?_
  rw [Gf.add_bit (Gf.build_ok hn f) hx hy, Gf.build_bit hn, Gf.build_bit hn, decide_eq_true hu, decide_eq_true hv]
  simp
/-- The sessions' order, filled row by row. -/
def soTo (h : List Txn) (x y a b : Nat) : Bool := soB h a b && (decide (a < x) || (decide (a = x) && decide (b < y)))
theorem soTo_zero {h : List Txn} (hn : h.length ≤ 64) : build h.length (soTo h 0 0) = Gf.zeros h.length := build_none hn fun x y _ _ => by simp [soTo]
theorem soTo_all {h : List Txn} (hn : h.length ≤ 64) : build h.length (soTo h h.length 0) = soR h := build_same hn fun x y hx _ => by simp [soTo, hx]
theorem soTo_row {h : List Txn} (hn : h.length ≤ 64) (x : Nat) : build h.length (soTo h x 0) = build h.length (soTo h x (x + 1)) := build_same hn fun a b _ _ => by
  unfold soTo
  by_cases e : a = x
  · subst e
    by_cases q : b < a + 1
    · have : soB h a b = false := by
        unfold soB
        rw [decide_eq_false (by omega), Bool.false_and]
      rw [this, Bool.false_and, Bool.false_and]
    · simp [q]
  · simp [e]
theorem soTo_next {h : List Txn} (hn : h.length ≤ 64) (x : Nat) : build h.length (soTo h x h.length) = build h.length (soTo h (x + 1) 0) := build_same hn fun a b _ hb => by
  unfold soTo
  congr 1
  by_cases e : a = x
  · subst e
    simp [hb]
  · by_cases q : a < x
    · simp [q, Nat.lt_succ_of_lt q]
    · rw [decide_eq_false q, decide_eq_false e, decide_eq_false (by omega : ¬ a < x + 1)]
      simp
theorem soTo_yes {h : List Txn} {x y : Nat} (hs : soB h x y = true) (a b : Nat) : (soTo h x y a b || (decide (a = x) && decide (b = y))) = soTo h x (y + 1) a b := by
  unfold soTo
  by_cases e : a = x
  · subst e
    by_cases q : b = y
    · subst q
      simp [hs]
    · have h1 : decide (b < y + 1) = decide (b < y) := by
        by_cases r : b < y
        · rw [decide_eq_true r, decide_eq_true (by omega)]
        · rw [decide_eq_false r, decide_eq_false (by omega)]
      rw [h1]
      simp [q]
  · simp [e]
theorem soTo_no {h : List Txn} (hn : h.length ≤ 64) {x y : Nat} (hs : soB h x y = false) : build h.length (soTo h x y) = build h.length (soTo h x (y + 1)) := build_same hn fun a b _ _ => by
  unfold soTo
  by_cases e : a = x
  · subst e
    by_cases q : b = y
    · subst q
      rw [hs]
      rfl
    · have h1 : decide (b < y + 1) = decide (b < y) := by
        by_cases r : b < y
        · rw [decide_eq_true r, decide_eq_true (by omega)]
        · rw [decide_eq_false r, decide_eq_false (by omega)]
      rw [h1]
  · simp [e]
end Kn

theorem box_at {W W' : World} {b g : Nat} {t : TypeId} {v : Value} (h : Boxed W b t v) (hb : Below g W W') (hg : b < g) : Boxed W' b t v := (hb.block b hg).trans h
/-- The world at the first call: the history and the result lie in variables. -/
theorem kn_one (w : World) (u : Value) {W : World} (h : W = (w.alloc (.cells #[u] 24)).alloc (.cells #[.int .i64 0, .slice none 0 0] 30)) :
    Boxed W w.heap.size 24 u ∧ Two W (w.heap.size + 1) 30 (.int .i64 0) (.slice none 0 0) ∧ Below w.heap.size w W := by
  subst h
  have b1 := alloc_below w (.cells #[u] 24)
  have b2 := alloc_below (w.alloc (.cells #[u] 24)) (.cells #[.int .i64 0, .slice none 0 0] 30)
  have t1 := Two.new (w.alloc (.cells #[u] 24)) 30 (.int .i64 0) (.slice none 0 0)
  rw [World.size_alloc] at t1
  exact ⟨box_at (Boxed.new w 24 u) b2 (by rw [World.size_alloc]; exact Nat.lt_succ_self _), t1, below_all b1 b2⟩

set_option maxHeartbeats 4000000 in
theorem rSo17_at (h : List So.Txn) (u : Value) (w : World) (hv : Txns w u h) (hr : Hi.Right h) : Calls Try.prog 84 #[.agg #[u]] w (RetR w h.length (Kn.soR h)) := by
  have HV := Lib.hid hv
  have hn := Kn.len64 hr
  obtain ⟨A0, c0', rfl, -⟩ := hv.spelled
  have HZ := Lib.hid (Kn.soTo_zero hn)
  have HE := Lib.hid (Kn.soTo_all hn)
  have HR := Lib.hid (fun x => Kn.soTo_row hn x)
  have HN := Lib.hid (fun x => Kn.soTo_next hn x)
  have HY : Hid (∀ x y, x < h.length → y < h.length → Kn.soB h x y = true → ∀ hl : x < (Gf.build h.length (Kn.soTo h x y)).length, (Gf.build h.length (Kn.soTo h x y)).set x (Bi.withN (Gf.build h.length (Kn.soTo h x y))[x] (y : Int)) = Gf.build h.length (Kn.soTo h x (y + 1))) := fun x y hx hy hs hl => by
    rw [Kn.build_with hn _ hx hy hl]
    exact Kn.build_same hn fun a b _ _ => Kn.soTo_yes hs a b
  have HNO : Hid (∀ x y, Kn.soB h x y = false → Gf.build h.length (Kn.soTo h x y) = Gf.build h.length (Kn.soTo h x (y + 1))) := fun x y hs => Kn.soTo_no hn hs
  have HSB : Hid (∀ x y (hx : x < h.length) (hy : y < h.length), x < y → Kn.soB h x y = decide (h[x].session = h[y].session)) := fun x y hx hy hxy => by
    unfold Kn.soB
    rw [decide_eq_true hxy, Bool.true_and, List.getElem?_eq_getElem hx, List.getElem?_eq_getElem hy]
    simp
  have HLT : Hid (∀ x y, ∀ s ∈ Gf.build h.length (Kn.soTo h x y), s < 18446744073709551616) := fun x y s hs => (Gf.build_ok hn _).small hs
  have F1 := Lib.hid (fun w => rNew12_at h.length hn w)
  clear hv hr
  go_enter Try.func84, Try.ntmps84
  go_wp2_with fail
  obtain ⟨t0, t1, bw⟩ := kn_one w (.slice A0 h.length c0') rfl
  have T0 := Lib.hid t0
  have T1 := Lib.hid t1
  have BW := Lib.hid bw
  have a0 := t0.cell
  clear t0 t1 bw
  generalize (w.alloc (.cells #[.slice A0 h.length c0'] 24)).alloc (.cells #[.int .i64 0, .slice none 0 0] 30) = W at *
  go_wp2_with fail
  refine (F1.out _).mono ?_
  rintro e w1 ⟨v1, rfl, ho1, hb1⟩
  obtain ⟨A, c, rfl, hmk⟩ := Mk.start (n := h.length) T1.out.lt hb1 ho1
  have HM := Lib.hid hmk
  clear hmk ho1 hb1 a0
  rw [← HZ.out] at HM
  go_wp2_with fail
  generalize w1.alloc (.cells #[.int .i64 (h.length : Int), .slice A h.length c] 30) = w2 at *
  generalize w1.heap.size = o at *
  go_loopw [4, 5] (fun i s5 wr => ∃ x : Nat, x ≤ h.length ∧ i = .int .i64 x ∧ Hid (Mk W wr (w.heap.size + 1) o h.length A c (Gf.build h.length (Kn.soTo h x 0)))) (fun i _ _ => h.length - (intOf i).toNat)
  case atStart => exact ⟨0, Nat.zero_le _, rfl, HM.out⟩
  case round =>
    clear HM
    obtain ⟨x, hx, rfl, HM⟩ := hrel
    obtain ⟨e0, e1⟩ := HM.out.out.cells
    by_cases hlt : x < h.length
    · rw [HR.out x] at HM
      go_wp2_with fail
      clear e0 e1
      go_loopw [5] (fun i wq => ∃ y : Nat, x < y ∧ y ≤ h.length ∧ i = .int .i64 y ∧ Hid (Mk W wq (w.heap.size + 1) o h.length A c (Gf.build h.length (Kn.soTo h x y)))) (fun i _ => h.length - (intOf i).toNat)
      case atStart => exact ⟨x + 1, by omega, by omega, by go_num, HM.out⟩
      case round =>
        clear HM
        obtain ⟨y, hxy, hy, rfl, HM⟩ := hrel
        obtain ⟨e0, e1⟩ := HM.out.out.cells
        by_cases hlt2 : y < h.length
        · obtain ⟨A', c', e, hf⟩ := (HV.out.below (HM.out.below BW.out (by omega))).spelled
          cases e
          obtain ⟨ad, _, _, hA1, hbl, i1, -, -⟩ := hf x hlt
          obtain ⟨ad', _, _, hA2, -, i2, -, -⟩ := hf y hlt2
          subst hA1
          cases hA2
          have a0 := (box_at T0.out HM.out.low (by omega)).cell
          have x0 := i1.c0
          have y0 := i2.c0
          have hsb := HSB.out x y hlt hlt2 hxy
          have HSE : Hid ((h[x].session == h[y].session) = Kn.soB h x y) := by rw [Hid, hsb]; rfl
          have hx1 : (0 : Int) ≤ (x : Int) := Int.natCast_nonneg _
          have hy1 : (0 : Int) ≤ (y : Int) := Int.natCast_nonneg _
          have hx2 : (x : Int) < (h.length : Int) := by omega
          have hy2 : (y : Int) < (h.length : Int) := by omega
          generalize (h[x]'hlt).session = sx at *
          generalize (h[y]'hlt2).session = sy at *
          clear hf i1 i2 hsb hbl
          cases hb : Kn.soB h x y with
          | false =>
            have hss : (sx == sy) = false := HSE.out.trans hb
            have HNX := Lib.hid (HNO.out x y hb)
            clear HSE hb
            go_wp2_with fail
            go_quiet (fail)
            have HM2 := Lib.hid (HM.out.later (below_drewN (Below.refl wr.heap.size wr) nq))
            clear a0 x0 y0 e0 e1 HM
            go_wp2_with fail
            go_roundw
            case rel => exact ⟨y + 1, by omega, by omega, by go_num, by rw [Hid, ← HNX.out]; exact HM2.out⟩
            case measure => simp [intOf]; omega
          | true =>
            have hss : (sx == sy) = true := HSE.out.trans hb
            have HNX := Lib.hid (HY.out x y hlt hlt2 hb)
            clear HSE hb
            go_wp2_with fail
            go_quiet (fail)
            have HM2 := Lib.hid (HM.out.later (below_drewN (Below.refl wr.heap.size wr) nq))
            clear a0 x0 y0 e0 e1 HM hss
            generalize wr.drewN nq = w3 at *
            obtain ⟨g, hA, e2, f2, hput⟩ := HM2.out.put x hlt
            have hbl : x < (Gf.build h.length (Kn.soTo h x y)).length := by rw [Gf.build_len]; exact hlt
            have hnx := HNX.out hbl
            have F3 := Lib.hid (fun w => rWith10_at ((Gf.build h.length (Kn.soTo h x y))[x]'hbl) (y : Int) w (HLT.out x y _ (List.getElem_mem hbl)))
            have hm4 := hput (Bi.withN ((Gf.build h.length (Kn.soTo h x y))[x]'hbl) (y : Int))
            rw [hnx] at hm4
            have HM4 := Lib.hid hm4
            clear hm4 hnx hput HNX
            obtain ⟨e0, e1⟩ := HM2.out.out.cells
            subst hA
            generalize Bi.withN ((Gf.build h.length (Kn.soTo h x y))[x]'hbl) (y : Int) = s' at *
            generalize (Gf.build h.length (Kn.soTo h x y))[x]'hbl = s at *
            go_wp2_with fail
            go_region_law (go_simp; go_at_call 45; refine (F3.out _).mono ?_; rintro e w5 ⟨rfl, rfl⟩)
            all_goals
              clear e0 e1 e2 f2
              go_wp2_with fail
              go_roundw
              case rel => exact ⟨y + 1, by omega, by omega, by go_num, HM4.out.later (Below.refl _ _).drew⟩
              case measure => simp [intOf]; omega
        · have hyn : y = h.length := by omega
          subst hyn
          rw [HN.out] at HM
          go_wp2_with fail
          go_roundw
          case rel => exact ⟨x + 1, by omega, by go_num, HM.out⟩
          case measure => simp [intOf]; omega
    · have hxn : x = h.length := by omega
      subst hxn
      obtain ⟨e0, e1⟩ := HM.out.out.cells
      have TR := Lib.hid (two_at T1.out HM.out.low (by omega))
      obtain ⟨r0, r1⟩ := TR.out.cells
      have f0 := TR.out.frozen 0
      have f1 := TR.out.frozen 1
      rw [HE.out] at HM
      go_wp2_with fail
      exact end_r (p := 2) rfl TR.out HM.out.own (by omega) (HM.out.below BW.out (by omega)) (Nat.le_succ _) _ rfl
end Go.Proofs.Ytahacjfeopjbaaa
