/-
  What the reference's Find of layer 15 answers.
  Conditions: none beyond those that each theorem states.
-/
import Derived.Test.YtgapcjgmmlffmaaCyRefA
set_option maxRecDepth 4000
namespace Go.Proofs.Ytgapcjgmmlffmaa
open Go.RowKit
namespace Cy
open Gf Rc To
theorem row_at {n : Nat} {g : List Nat} {v k j : Nat} (hj : j < (row n g v k).length) : (row n g v k)[j] = far n g v k j := by simp only [row, List.getElem_map, List.getElem_range]
/-- What is found of a test over numbers, from behind, down to m: the least, or -1. -/
def Nx (p : Nat → Bool) (n m : Nat) (nx : Int) : Prop := (nx = -1 ∧ ∀ y, m ≤ y → y < n → p y = false) ∨ ∃ z : Nat, nx = z ∧ m ≤ z ∧ z < n ∧ p z = true ∧ ∀ y, m ≤ y → y < z → p y = false
theorem nx_start {p : Nat → Bool} {n : Nat} : Nx p n n (-1) := .inl ⟨rfl, fun y h1 h2 => by omega⟩
theorem nx_yes {p : Nat → Bool} {n m : Nat} (hm : m < n) (hp : p m = true) : Nx p n m m := .inr ⟨m, rfl, Nat.le_refl _, hm, hp, fun y h1 h2 => by omega⟩
theorem nx_no {p : Nat → Bool} {n m : Nat} {nx : Int} (h : Nx p n (m + 1) nx) (hp : p m = false) : Nx p n m nx := by
  have hy : ∀ y, m ≤ y → y = m ∨ m + 1 ≤ y := fun y h => by omega
  rcases h with ⟨e, h⟩ | ⟨z, e, h1, h2, h3, h4⟩
  · refine .inl ⟨e, fun y a b => ?_⟩
    rcases hy y a with rfl | q
    · exact hp
    · exact h y q b
  · refine .inr ⟨z, e, by omega, h2, h3, fun y a b => ?_⟩
    rcases hy y a with rfl | q
    · exact hp
    · exact h4 y q b
theorem nx_end {p : Nat → Bool} {n z : Nat} {nx : Int} (h : Nx p n 0 nx) (hf : (List.range n).find? p = some z) : nx = z := by
  obtain ⟨h1, h2, h3⟩ := first_of hf
  rcases h with ⟨_, h⟩ | ⟨y, e, _, a, b, c⟩
  · rw [h z (Nat.zero_le _) h1] at h2; cases h2
  · rcases Nat.lt_trichotomy y z with q | q | q
    · rw [h3 y q] at b; cases b
    · rw [e, q]
    · rw [c z (Nat.zero_le _) q] at h2; cases h2
theorem findR_at {n : Nat} {g : List Nat} {v m : Nat} (hv : v < n) (h : far n g v n v = m + 1) (hu : ∀ u, u < v → far n g u n u = 0) : findR n g = v :: back n g v m v := by
  have : (List.range n).find? (fun v => decide (far n g v n v ≠ 0)) = some v := first_is hv (decide_eq_true (by omega)) fun u q => decide_eq_false (by rw [hu u q]; simp)
  rw [findR, this]
  show v :: back n g v (far n g v n v - 1) v = _
  rw [h]
  rfl
theorem findR_no {n : Nat} {g : List Nat} (hu : ∀ u, u < n → far n g u n u = 0) : findR n g = [] := by
  have : (List.range n).find? (fun v => decide (far n g v n v ≠ 0)) = none := List.find?_eq_none.2 fun u q => by rw [hu u (List.mem_range.1 q)]; simp
  rw [findR, this]
end Cy

theorem rFind15_no (n : Int) (u : Value) (g : List Nat) (w : World) (hu : Us w u g) (hs : ∀ x ∈ g, x < 18446744073709551616) (hn : Gf.okB n g = false) : Calls Try.prog 13 #[.agg #[.int .i64 n, u]] w (RetElems w []) := by
  have HU := Lib.hid hu
  have BW := Lib.hid (alloc_below w (.cells #[.int .i64 n, u] 27))
  have T0 := Lib.hid (Two.new w 27 (.int .i64 n) u)
  obtain ⟨A0, c0', rfl, -⟩ := hu.spelled
  have FR := Lib.hid (fun w h => rRight12_at n (.slice A0 g.length c0') g w h hs)
  rw [hn] at FR
  clear hu
  go_enter Try.func13, Try.ntmps13
  go_wp2_with fail
  generalize w.alloc (.cells #[.int .i64 n, .slice A0 g.length c0'] 27) = W at *
  refine (FR.out _ (HU.out.below BW.out)).mono ?_
  rintro e w1 ⟨rfl, hb1⟩
  have B1 := Lib.hid (below_all BW.out hb1)
  clear hb1
  go_wp2_with fail
  go_ret
  exact ⟨_, rfl, World.ownsRow_nil _ _ _ _, B1.out⟩

set_option maxHeartbeats 8000000 in
theorem rFind15_at (n : Nat) (u : Value) (g : List Nat) (w : World) (hu : Us w u g) (hg : Gf.Ok n g) : Calls Try.prog 13 #[.agg #[.int .i64 n, u]] w (RetElems w (Cy.findR n g)) := by
  obtain ⟨i0, hi0, hz0, hz1, hz2⟩ := info_parts int_info
  have I0 := Lib.hid hi0
  have I1 := Lib.hid hz0
  have I2 := Lib.hid hz1
  have I3 := Lib.hid hz2
  clear hi0 hz0 hz1 hz2
  have HU := Lib.hid hu
  have BW := Lib.hid (alloc_below w (.cells #[.int .i64 n, u] 27))
  have T0 := Lib.hid (Two.new w 27 (.int .i64 n) u)
  obtain ⟨A0, c0', rfl, -⟩ := hu.spelled
  have h64 := hg.1
  have FR := Lib.hid (fun w h => rRight12_at (n : Int) (.slice A0 g.length c0') g w h (fun x hx => hg.small hx))
  rw [show Gf.okB (n : Int) g = true from Gf.okB_iff.2 ⟨n, rfl, hg⟩] at FR
  have FH : Hid (∀ (w : World) (x y : Nat), x < n → y < n → Us w (.slice A0 g.length c0') g → Calls Try.prog 20 #[.agg #[.int .i64 n, .slice A0 g.length c0'], .int .i64 x, .int .i64 y] w (RetBool w (Gf.bit g x y))) := fun w x y hx hy hw => by
    have hxl : x < g.length := by rw [hg.2.1]; exact hx
    have := rHas12_at n (.slice A0 g.length c0') g x y w hw hxl (hg.small (List.getElem_mem hxl))
    rw [Bi.has_nat _ y (by omega), ← Gf.bit_at hxl] at this
    exact this
  have FF := Lib.hid (fun w v h hv => rFar15_at n (.slice A0 g.length c0') g v w h hg hv)
  have HG := Lib.hid hg
  have HFA := Lib.hid (fun v m h1 h2 h3 => Cy.findR_at (n := n) (g := g) (v := v) (m := m) h1 h2 h3)
  have HFN := Lib.hid (Cy.findR_no (n := n) (g := g))
  clear hu hg
  generalize Cy.findR n g = res at *
  go_enter Try.func13, Try.ntmps13
  go_wp2_with fail
  generalize w.alloc (.cells #[.int .i64 n, .slice A0 g.length c0'] 27) = W at *
  refine (FR.out _ (HU.out.below BW.out)).mono ?_
  rintro e w1 ⟨rfl, hb1⟩
  have T1 := Lib.hid (T0.out.later hb1)
  have B1 := Lib.hid (below_all BW.out hb1)
  clear hb1 T0 BW
  go_wp2_with fail
  go_loopw [4] (fun i wr => ∃ v : Nat, v ≤ n ∧ i = .int .i64 v ∧ Hid (∀ u, u < v → Cy.far n g u n u = 0) ∧ Hid (Below w1.heap.size w1 wr)) (fun i _ => n - (intOf i).toNat)
  case atStart => exact ⟨0, Nat.zero_le _, rfl, fun y h => absurd h (Nat.not_lt_zero _), Below.refl _ _⟩
  case round =>
    obtain ⟨v, hvn, rfl, HN, HB⟩ := hrel
    obtain ⟨a0, a1⟩ := (T1.out.later HB.out).cells
    by_cases hlt : v < n
    · have G := Lib.hid (fun w hw => FF.out w v hw hlt)
      go_wp2_with fail
      refine (G.out _ (HU.out.below (below_all B1.out HB.out))).mono ?_
      rintro e w2 ⟨v2, rfl, ho2, hb2⟩
      rw [Cy.row_len] at ho2
      obtain ⟨A2, c2, rfl⟩ := own_form ho2
      obtain ⟨g2, rfl, -, -, -⟩ := nrow_read ho2 (Cy.row_len n g v n) v (by rw [Cy.row_len]; exact hlt)
      have HD := Lib.hid ho2
      have HB2 := Lib.hid (below_all HB.out hb2)
      have HDA : Hid (∀ w', Below w2.heap.size w2 w' → ∀ k, k < n → w'.cell? ⟨g2, k, none⟩ = some (.int .i64 (Cy.far n g v n k : Int))) := fun w' hb k hk => by
        have h := (nrow_at (own_below HD.out hb) (Cy.row_len n g v n) k (by rw [Cy.row_len]; exact hk)).1
        rw [Cy.row_at] at h
        exact h
      have e0 := HDA.out w2 (Below.refl _ _) v hlt
      clear ho2 hb2 a0 a1 HD
      obtain ⟨q, hq⟩ : ∃ q, q = Cy.far n g v n v := ⟨_, rfl⟩
      rw [← hq] at e0
      by_cases hq0 : q = 0
      · subst hq0
        have HN2 : Hid (∀ u, u < v + 1 → Cy.far n g u n u = 0) := fun u hu => by
          rcases Nat.lt_succ_iff_lt_or_eq.1 hu with h | h
          · exact HN.out u h
          · rw [h, ← hq]
        have e1 : w2.cell? ⟨g2, v, none⟩ = some (.int .i64 0) := e0
        clear e0 hq
        go_wp2_with fail
        go_roundw
        case rel => exact ⟨v + 1, by omega, by go_num, HN2, HB2.out⟩
        case measure => simp [intOf]; omega
      · obtain ⟨m, hm⟩ : ∃ m, q = m + 1 := ⟨q - 1, by omega⟩
        have hmn := Cy.far_bound HG.out (hq.symm.trans hm)
        have HR := Lib.hid (HFA.out v m hlt (hq.symm.trans hm) HN.out)
        have HQ1 := Lib.hid (hq.symm.trans hm)
        have HM := Lib.hid hm
        have hqq : ((q : Int) == 0) = false := by rw [beq_eq_false_iff_ne]; omega
        have hqq2 : (q == 0) = false := by rw [beq_eq_false_iff_ne]; exact hq0
        have hqs : q ≤ 64 := by omega
        have b3 := alloc_below w2 (.cells #[.int .i64 (v : Int)] 3)
        have HL3 : Hid ((w2.alloc (.cells #[.int .i64 (v : Int)] 3)).ownsRow w2.heap.size 3 1 (.slice (some ⟨w2.heap.size, 0, none⟩) 1 1) 1 ((Bi.nums [v]).flatMap nC)) := World.ownsRow_lit (base := w2.heap.size) (e := 3) (size := 1) w2 #[.int .i64 (v : Int)] 1 (Nat.le_refl _) (by decide) rfl
        have HB3 := Lib.hid b3
        have HBA3 := Lib.hid (below_all HB2.out b3)
        have e1 := (b3.cell (World.block_lt_of_cell? w2 _ e0)).trans e0
        obtain ⟨a0, a1⟩ := (T1.out.later HBA3.out).cells
        clear hq hm hq0 b3
        go_wp2_with fail
        clear a0 a1 e0 e1 hqq hqq2
        generalize w2.alloc (.cells #[.int .i64 (v : Int)] 3) = w3 at *
        go_loopw [6, 7, 8] (fun s xx l wr => ∃ (pre : List Nat) (x j : Nat), x < n ∧ xx = .int .i64 x ∧ l = .int .i64 j ∧ pre.length + j ≤ 64 ∧ Hid (pre ++ Cy.back n g v j x = res) ∧ Hid (Cy.far n g v n x = j + 1) ∧ Hid (wr.ownsRow w2.heap.size 3 1 s pre.length ((Bi.nums pre).flatMap nC)) ∧ Hid (Below w2.heap.size w2 wr)) (fun _ _ l _ => (intOf l).toNat)
        case atStart => exact ⟨[v], v, m, hlt, rfl, by have := HM.out; go_num, by simp; omega, HR.out.symm, HQ1.out, HL3.out, HB3.out⟩
        case round =>
          obtain ⟨pre, x, j, hxn, rfl, rfl, hlen, HPR, HFX, HO, HBL⟩ := hrel
          obtain ⟨AP, cP, hvp⟩ := own_form HO.out
          subst hvp
          have HBA := Lib.hid (below_all HB2.out HBL.out)
          obtain ⟨a0, a1⟩ := (T1.out.later HBA.out).cells
          by_cases hj0 : 0 < j
          · have HJ : Hid (∃ j', j = j' + 1) := ⟨j - 1, by omega⟩
            go_wp2_with fail
            clear a0 a1
            generalize hwk : wr = WK at *
            clear hwk
            go_loopw [9, 10] (fun nv yv wr => ∃ (m : Nat) (yy nx : Int), m ≤ n ∧ (m : Int) = yy + 1 ∧ yv = .int .i64 yy ∧ nv = .int .i64 nx ∧ Hid (Cy.Nx (fun y => Gf.bit g x y && decide (Cy.far n g v n y = j)) n m nx) ∧ Hid (Below WK.heap.size WK wr)) (fun _ yv _ => (intOf yv + 1).toNat)
            case atStart => exact ⟨n, (n : Int) - 1, -1, Nat.le_refl _, by omega, rfl, rfl, Cy.nx_start, Below.refl _ _⟩
            case round =>
              obtain ⟨m1, yy, nx, hm1, hyy, rfl, rfl, HNX, HBI⟩ := hrel
              have HBJ := Lib.hid (below_all HBA.out HBI.out)
              have HBD := Lib.hid (below_all HBL.out HBI.out)
              obtain ⟨a0, a1⟩ := (T1.out.later HBJ.out).cells
              by_cases hm0 : m1 = 0
              · obtain rfl : yy = -1 := by omega
                subst hm0
                obtain ⟨j', hj'⟩ := HJ.out
                have HJ2 := Lib.hid hj'
                obtain ⟨z, hz1, hz2, hz3⟩ := Cy.back_is HG.out (v := v) (j := j') (x := x) (by rw [HFX.out, hj'])
                obtain ⟨rfl, hzn⟩ : nx = (z : Int) ∧ z < n := ⟨Cy.nx_end HNX.out (by rw [hj']; exact hz1), (HG.out.node hz2).2⟩
                have HPR2 : Hid ((pre ++ [z]) ++ Cy.back n g v j' z = res) := by
                  rw [Hid, ← HPR.out, hj', Cy.back_some hz1, List.append_assoc]
                  rfl
                have HFZ := Lib.hid hz3
                have b5 := alloc_below wr (.cells #[.int .i64 (z : Int)] 3)
                have HO5 := Lib.hid (own_below HO.out (below_all HBI.out b5))
                have HB5 := Lib.hid (below_all HBL.out (below_all HBI.out b5))
                have HBS := Lib.hid (below_all HBL.out HBI.out).size
                have HNW := Lib.hid (new_nC wr (z : Int) 3)
                have hj1 : (j : Int) = (j' : Int) + 1 := by omega
                clear b5 hz1 hz2 hz3 hj' a0 a1
                go_wp2_with (at_builtin; refine wpList_append_own_at _ rfl _ _ 25 rfl w2.heap.size 3 i0 _ 1 8 Try.underlying25 I0.out I1.out I2.out I3.out rfl (by decide) _ pre.length _ rfl HO5.out ⟨wr.heap.size, 0, none⟩ 1 1 (nC (z : Int)) rfl rfl HNW.out (one_nC _) (by simp only [maxLen]; omega) (by omega) HB5.out.size ?_; intro v6 w6 hown6 hgrow6 hnil6 hat6; have HO6 := Lib.hid hown6; have HB6 := Lib.hid (below_append HB5.out HB5.out.size HO5.out hgrow6); clear hown6 hgrow6 hnil6 hat6)
                go_roundw
                case rel => exact ⟨pre ++ [z], z, j', hzn, rfl, by go_num, by simp; omega, HPR2.out, HFZ.out, nums_more HO6.out, HB6.out⟩
                case measure => simp [intOf]; omega
              · obtain ⟨m2, rfl⟩ := Nat.exists_eq_succ_of_ne_zero hm0
                obtain rfl : yy = (m2 : Int) := by omega
                have G := Lib.hid (fun w hw => FH.out w x m2 hxn (by omega) hw)
                go_wp2_with fail
                refine (G.out _ (HU.out.below (below_all B1.out HBJ.out))).mono ?_
                rintro e w4 ⟨rfl, hb4⟩
                have HBI4 := Lib.hid (below_all HBI.out hb4)
                have e0 := HDA.out w4 (below_all HBD.out hb4) m2 (by omega)
                clear hb4 a0 a1
                obtain ⟨z, hz⟩ : ∃ z, z = Cy.far n g v n m2 := ⟨_, rfl⟩
                rw [← hz] at e0
                have HZ := Lib.hid hz
                clear hz
                cases hb : Gf.bit g x m2 with
                | false =>
                  have HN4 := Lib.hid (Cy.nx_no HNX.out (by rw [hb]; rfl))
                  clear hb
                  go_wp2_with fail
                  go_roundw
                  case rel => exact ⟨m2, _, nx, by omega, by omega, rfl, rfl, HN4.out, HBI4.out⟩
                  case measure => simp [intOf]
                | true =>
                  by_cases hzj : z = j
                  · have hqq : ((z : Int) == (j : Int)) = true := by rw [beq_iff_eq]; omega
                    have hqq2 : (z == j) = true := by rw [beq_iff_eq]; exact hzj
                    have HN4 := Lib.hid (Cy.nx_yes (n := n) (m := m2) (p := fun y => Gf.bit g x y && decide (Cy.far n g v n y = j)) (by omega) (by simp only [hb, ← HZ.out, hzj, decide_true, Bool.and_self]))
                    clear hb hzj
                    go_wp2_with fail
                    go_roundw
                    case rel => exact ⟨m2, _, m2, by omega, by omega, rfl, rfl, HN4.out, HBI4.out⟩
                    case measure => simp [intOf]
                  · have hqq : ((z : Int) == (j : Int)) = false := by rw [beq_eq_false_iff_ne]; omega
                    have hqq2 : (z == j) = false := by rw [beq_eq_false_iff_ne]; exact hzj
                    have HN4 := Lib.hid (Cy.nx_no HNX.out (by simp only [← HZ.out, decide_eq_false hzj, Bool.and_false]))
                    clear hb hzj
                    go_wp2_with fail
                    go_roundw
                    case rel => exact ⟨m2, _, nx, by omega, by omega, rfl, rfl, HN4.out, HBI4.out⟩
                    case measure => simp [intOf]
          · obtain rfl : j = 0 := by omega
            have HP2 : Hid (pre = res) := by have := HPR.out; rw [Cy.back, List.append_nil] at this; exact this
            clear hj0
            go_wp2_with fail
            go_ret
            exact ⟨_, rfl, by rw [← HP2.out]; exact HO.out.mono (below_all B1.out HB2.out).size, below_all B1.out HBA.out⟩
    · have hxn : v = n := by omega
      subst hxn
      have HR := Lib.hid (HFN.out HN.out)
      go_wp2_with fail
      go_ret
      exact ⟨_, rfl, by rw [HR.out]; exact World.ownsRow_nil _ _ _ _, below_all B1.out HB.out⟩
end Go.Proofs.Ytgapcjgmmlffmaa
