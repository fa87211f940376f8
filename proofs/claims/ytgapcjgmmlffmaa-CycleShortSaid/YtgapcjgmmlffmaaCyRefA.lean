/-
  What the reference's far of layer 15 answers.
  Conditions: the graph is valid, v is one of its nodes.
-/
import Derived.Test.YtgapcjgmmlffmaaCyPlain
import Derived.Test.YtgapcjgmmlffmaaGfRef
import Derived.Test.YtgapcjgmmlffmaaBiAll
set_option maxRecDepth 4000
namespace Go.Proofs.Ytgapcjgmmlffmaa
open Go.RowKit
namespace Cy
open Gf Rc To
def row (n : Nat) (g : List Nat) (v k : Nat) : List Nat := (List.range n).map (far n g v k)
/-- A round's row, where x numbers are this round's. -/
def mid (n : Nat) (g : List Nat) (v k x : Nat) : List Nat := (List.range n).map fun j => if j < x then far n g v (k + 1) j else far n g v k j
theorem row_len (n : Nat) (g : List Nat) (v k : Nat) : (row n g v k).length = n := by rw [row, List.length_map, List.length_range]
theorem mid_len (n : Nat) (g : List Nat) (v k x : Nat) : (mid n g v k x).length = n := by rw [mid, List.length_map, List.length_range]
theorem mid_zero (n : Nat) (g : List Nat) (v k : Nat) : mid n g v k 0 = row n g v k := by
  rw [mid, row]
  congr 1
theorem mid_all (n : Nat) (g : List Nat) (v k : Nat) : mid n g v k n = row n g v (k + 1) := by
  rw [mid, row]
  refine List.map_congr_left fun j hj => ?_
  rw [if_pos (List.mem_range.1 hj)]
theorem mid_at {n : Nat} {g : List Nat} {v k x j : Nat} (hj : j < (mid n g v k x).length) : (mid n g v k x)[j] = if j < x then far n g v (k + 1) j else far n g v k j := by
  simp only [mid, List.getElem_map, List.getElem_range]
theorem mid_next {n : Nat} {g : List Nat} {v k x : Nat} : (mid n g v k x).set x (far n g v (k + 1) x) = mid n g v k (x + 1) := by
  refine List.ext_getElem (by rw [List.length_set, mid_len, mid_len]) fun j h1 h2 => ?_
  rw [List.getElem_set, mid_at]
  split
  · rename_i e
    subst e
    rw [mid_at, if_pos (Nat.lt_succ_self _)]
  · rename_i e
    rw [mid_at]
    by_cases q : j < x
    · rw [if_pos q, if_pos (by omega)]
    · rw [if_neg q, if_neg (by omega)]
theorem mid_same {n : Nat} {g : List Nat} {v k x : Nat} : (mid n g v k x).set x (far n g v k x) = mid n g v k x := by
  refine List.ext_getElem (by rw [List.length_set]) fun j h1 h2 => ?_
  rw [List.getElem_set]
  split
  · rename_i e
    subst e
    rw [mid_at, if_neg (Nat.lt_irrefl _)]
  · rfl
/-- What stands at x, when y nodes have been looked at. -/
def At (n : Nat) (g : List Nat) (v k x y q : Nat) : Prop := (q = far n g v (k + 1) x ∧ q ≠ 0) ∨ (q = 0 ∧ far n g v k x = 0 ∧ ∀ z, z < y → bit g x z = true → far n g v k z ≠ k)
theorem at_start {n : Nat} {g : List Nat} {v k x : Nat} : At n g v k x 0 (far n g v k x) := by
  by_cases h : far n g v k x = 0
  · exact .inr ⟨h, h, fun z hz => absurd hz (Nat.not_lt_zero _)⟩
  · exact .inl ⟨(far_stays h).symm, h⟩
theorem at_done {n : Nat} {g : List Nat} (hg : Ok n g) {v k x y q : Nat} (hk : 0 < k) (h : At n g v k x y q) (hd : q ≠ 0 ∨ y = n) : q = far n g v (k + 1) x := by
  rcases h with ⟨h, _⟩ | ⟨h1, h2, h3⟩
  · exact h
  · rcases hd with hd | rfl
    · exact absurd h1 hd
    · rw [h1, far_not hg hk h2 fun z hz => h3 z (hg.node hz).2 hz]
theorem at_yes {n : Nat} {g : List Nat} (hg : Ok n g) {v k x y : Nat} (hk : 0 < k) (h : At n g v k x y 0) (hb : bit g x y = true) (hf : far n g v k y = k) : At n g v k x (y + 1) (k + 1) := by
  rcases h with ⟨_, h⟩ | ⟨_, h2, _⟩
  · exact absurd rfl h
  · exact .inl ⟨(far_new hg hk h2 hb hf).symm, by omega⟩
theorem at_no {n : Nat} {g : List Nat} {v k x y : Nat} (h : At n g v k x y 0) (hb : bit g x y = true → far n g v k y ≠ k) : At n g v k x (y + 1) 0 := by
  rcases h with ⟨_, h⟩ | ⟨_, h2, h3⟩
  · exact absurd rfl h
  · refine .inr ⟨rfl, h2, fun z hz hzb => ?_⟩
    rcases Nat.lt_succ_iff_lt_or_eq.1 hz with q | q
    · exact h3 z q hzb
    · rw [q] at hzb ⊢
      exact hb hzb
theorem at_see {n : Nat} {g : List Nat} {v k x m y : Nat} (hk : 0 < k) (h : At n g v k x m 0) (hy : y < ((mid n g v k x).set x 0).length) : ((mid n g v k x).set x 0)[y] = k ↔ far n g v k y = k := by
  rcases h with ⟨_, h⟩ | ⟨_, h2, h3⟩
  · exact absurd rfl h
  · rw [List.getElem_set]
    split
    · rename_i e
      subst e
      rw [h2]
    · rw [mid_at]
      split
      · by_cases q : far n g v k y = 0
        · rw [q]
          have hle : far n g v (k + 1) y = 0 ∨ far n g v (k + 1) y = k + 1 := by
            cases hf : far n g v (k + 1) y with
            | zero => exact .inl rfl
            | succ j =>
              right
              obtain ⟨a1, a2, a3⟩ := far_some.1 hf
              rcases Nat.lt_or_ge j k with b | b
              · have := far_none.1 q j b
                rw [a2] at this
                cases this
              · omega
          omega
        · rw [far_stays q]
      · rfl
theorem row_snoc (n : Nat) (g : List Nat) (v x : Nat) : (List.range (x + 1)).map (far n g v 1) = (List.range x).map (far n g v 1) ++ [far n g v 1 x] := by
  rw [List.range_succ, List.map_append]
  rfl
end Cy

/-! An own row of n numbers, read and written. -/
section
variable {W : World} {base g n c : Nat} {e : TypeId} {d : List Nat} {A : Option Addr}
theorem nrow_read (h : W.ownsRow base e 1 (.slice A n c) n ((Bi.nums d).flatMap nC)) (hd : d.length = n) (k : Nat) (hk : k < d.length) : ∃ g, A = some ⟨g, 0, none⟩ ∧ base ≤ g ∧ W.cell? ⟨g, k, none⟩ = some (.int .i64 (d[k] : Int)) ∧ W.frozen? ⟨g, k, none⟩ = false := by
  rcases h.2 with ⟨_, h0⟩ | ⟨g, cap, cur, hv, hb, _⟩
  · omega
  · cases hv
    refine ⟨g, rfl, hb, ?_, h.frozenAt _⟩
    rw [h.cellAt _ (by omega)]
    have := flat_at nC_len (Bi.nums d) k (by rw [Bi.nums_len]; exact hk) 0 (by decide)
    rw [Nat.mul_one, Nat.add_zero] at this
    rw [this, Bi.nums_at d k hk]
    rfl
theorem nrow_at (h : W.ownsRow base e 1 (.slice (some ⟨g, 0, none⟩) n c) n ((Bi.nums d).flatMap nC)) (hd : d.length = n) (k : Nat) (hk : k < d.length) : W.cell? ⟨g, k, none⟩ = some (.int .i64 (d[k] : Int)) ∧ W.frozen? ⟨g, k, none⟩ = false := by
  obtain ⟨g', e, _, h1, h2⟩ := nrow_read h hd k hk
  cases e
  exact ⟨h1, h2⟩
theorem nrow_put (h : W.ownsRow base e 1 (.slice (some ⟨g, 0, none⟩) n c) n ((Bi.nums d).flatMap nC)) (k : Nat) (hk : k < d.length) (x : Nat) : (W.setCell ⟨g, k, none⟩ (.int .i64 (x : Int))).ownsRow base e 1 (.slice (some ⟨g, 0, none⟩) n c) n ((Bi.nums (d.set k x)).flatMap nC) := by
  have h1 := (World.ownsRow.stored h k (.int .i64 (x : Int))).1
  have h2 := flat_set nC_len (Bi.nums d) k (by rw [Bi.nums_len]; exact hk) 0 (by decide) (x : Int) (.int .i64 (x : Int)) rfl
  rw [Nat.mul_one, Nat.add_zero] at h2
  rw [h2] at h1
  rw [show Bi.nums (d.set k x) = (Bi.nums d).set k (x : Int) from List.map_set]
  exact h1
end

set_option maxHeartbeats 8000000 in
theorem rFar15_at (n : Nat) (u : Value) (g : List Nat) (v : Nat) (w : World) (hu : Us w u g) (hg : Gf.Ok n g) (hv : v < n) : Calls Try.prog 24 #[.agg #[.int .i64 n, u], .int .i64 v] w (RetElems w (Cy.row n g v n)) := by
  obtain ⟨i0, hi0, hz0, hz1, hz2⟩ := info_parts int_info
  have I0 := Lib.hid hi0
  have I1 := Lib.hid hz0
  have I2 := Lib.hid hz1
  have I3 := Lib.hid hz2
  clear hi0 hz0 hz1 hz2
  have HU := Lib.hid hu
  have T0 := Lib.hid (Two.new w 27 (.int .i64 n) u)
  have BW := Lib.hid (alloc_below w (.cells #[.int .i64 n, u] 27))
  obtain ⟨A0, c0', rfl, -⟩ := hu.spelled
  have h64 := hg.1
  have FH : Hid (∀ (w : World) (x y : Nat), x < n → y < n → Us w (.slice A0 g.length c0') g → Calls Try.prog 20 #[.agg #[.int .i64 n, .slice A0 g.length c0'], .int .i64 x, .int .i64 y] w (RetBool w (Gf.bit g x y))) := fun w x y hx hy hw => by
    have hxl : x < g.length := by rw [hg.2.1]; exact hx
    have := rHas12_at n (.slice A0 g.length c0') g x y w hw hxl (hg.small (List.getElem_mem hxl))
    rw [Bi.has_nat _ y (by omega), ← Gf.bit_at hxl] at this
    exact this
  have HG := Lib.hid hg
  have HF1 := Lib.hid (fun x => Cy.far_one n g v x)
  have HSN := Lib.hid (fun x => Cy.row_snoc n g v x)
  have HRL := Lib.hid (fun k => Cy.row_len n g v k)
  have HML := Lib.hid (fun k x => Cy.mid_len n g v k x)
  have H1 : Hid ((List.range n).map (Cy.far n g v 1) = Cy.row n g v 1) := rfl
  clear hu hg
  go_enter Try.func24, Try.ntmps24
  go_wp2_with fail
  generalize w.alloc (.cells #[.int .i64 n, .slice A0 g.length c0'] 27) = W at *
  go_loopw [5, 6] (fun s i wr => ∃ (x : Nat), x ≤ n ∧ i = .int .i64 x ∧ Hid (wr.ownsRow W.heap.size 3 1 s x ((Bi.nums ((List.range x).map (Cy.far n g v 1))).flatMap nC)) ∧ Hid (Below W.heap.size W wr)) (fun _ i _ => n - (intOf i).toNat)
  case atStart => exact ⟨0, Nat.zero_le _, rfl, World.ownsRow_nil _ _ _ _, Below.refl _ _⟩
  case round =>
    obtain ⟨x, hx, rfl, HO, HB⟩ := hrel
    obtain ⟨AV, cV, hvv⟩ := own_form HO.out
    subst hvv
    obtain ⟨a0, a1⟩ := (T0.out.later HB.out).cells
    by_cases hlt : x < n
    · have G := Lib.hid (fun w hw => FH.out w x v hlt hv hw)
      have HFX := Lib.hid (HF1.out x)
      have HSX := Lib.hid (HSN.out x)
      go_wp2_with fail
      refine (G.out _ (HU.out.below (below_all BW.out HB.out))).mono ?_
      rintro e w4 ⟨rfl, hb4⟩
      obtain ⟨p, hp⟩ : ∃ p, p = Gf.bit g x v := ⟨_, rfl⟩
      rw [← hp]
      rw [← hp] at HFX
      clear hp
      have HO4 := Lib.hid (own_below HO.out hb4)
      have HB4 := Lib.hid (below_all HB.out hb4)
      clear hb4 a0 a1
      cases p with
      | false =>
        have HSV : Hid ((List.range (x + 1)).map (Cy.far n g v 1) = (List.range x).map (Cy.far n g v 1) ++ [0]) := by rw [Hid, HSX.out, HFX.out]; rfl
        have b5 := alloc_below w4 (.cells #[.int .i64 0] 3)
        have HO5 := Lib.hid (own_below HO4.out b5)
        have HB5 := Lib.hid (below_all HB4.out b5)
        have HNW := Lib.hid (new_nC w4 0 3)
        clear b5
        go_wp2_with (at_builtin; refine wpList_append_own_at _ rfl _ _ 25 rfl W.heap.size 3 i0 _ 1 8 Try.underlying25 I0.out I1.out I2.out I3.out rfl (by decide) _ x _ rfl HO5.out ⟨w4.heap.size, 0, none⟩ 1 1 (nC 0) rfl rfl HNW.out (one_nC _) (by simp only [maxLen]; omega) (by omega) HB5.out.size ?_; intro v6 w6 hown6 hgrow6 hnil6 hat6; have HO6 := Lib.hid hown6; have HB6 := Lib.hid (below_append HB5.out HB5.out.size HO5.out hgrow6); clear hown6 hgrow6 hnil6 hat6)
        go_roundw
        case rel => exact ⟨x + 1, by omega, by go_num, by rw [Hid, HSV.out, Bi.nums_snoc, flat_snoc]; exact HO6.out, HB6.out⟩
        case measure => simp [intOf]; omega
      | true =>
        have HSV : Hid ((List.range (x + 1)).map (Cy.far n g v 1) = (List.range x).map (Cy.far n g v 1) ++ [1]) := by rw [Hid, HSX.out, HFX.out]; rfl
        have b5 := alloc_below w4 (.cells #[.int .i64 1] 3)
        have HO5 := Lib.hid (own_below HO4.out b5)
        have HB5 := Lib.hid (below_all HB4.out b5)
        have HNW := Lib.hid (new_nC w4 1 3)
        clear b5
        go_wp2_with (at_builtin; refine wpList_append_own_at _ rfl _ _ 25 rfl W.heap.size 3 i0 _ 1 8 Try.underlying25 I0.out I1.out I2.out I3.out rfl (by decide) _ x _ rfl HO5.out ⟨w4.heap.size, 0, none⟩ 1 1 (nC 1) rfl rfl HNW.out (one_nC _) (by simp only [maxLen]; omega) (by omega) HB5.out.size ?_; intro v6 w6 hown6 hgrow6 hnil6 hat6; have HO6 := Lib.hid hown6; have HB6 := Lib.hid (below_append HB5.out HB5.out.size HO5.out hgrow6); clear hown6 hgrow6 hnil6 hat6)
        go_roundw
        case rel => exact ⟨x + 1, by omega, by go_num, by rw [Hid, HSV.out, Bi.nums_snoc, flat_snoc]; exact HO6.out, HB6.out⟩
        case measure => simp [intOf]; omega
    · have hxn : x = n := by omega
      subst hxn
      rw [H1.out] at HO
      go_wp2_with fail
      clear a0 a1
      obtain ⟨g1, rfl, hgb, -, -⟩ := nrow_read HO.out (HRL.out 1) 0 (by rw [HRL.out]; omega)
      have HOW := Lib.hid HO.out
      have HB1 := Lib.hid HB.out
      clear HO HB hlt hx
      generalize hwk : wr = WK at *
      clear hwk
      go_loopw [9] (fun k wr => ∃ (kk : Nat), 1 ≤ kk ∧ kk ≤ x ∧ k = .int .i64 kk ∧ Hid (wr.ownsRow W.heap.size 3 1 (.slice (some ⟨g1, 0, none⟩) x cV) x ((Bi.nums (Cy.row x g v kk)).flatMap nC)) ∧ Hid (Below W.heap.size W wr)) (fun k _ => x - (intOf k).toNat)
      case atStart => exact ⟨1, Nat.le_refl _, by omega, rfl, HOW.out, HB1.out⟩
      case round =>
        obtain ⟨k, hk1, hkn, rfl, HO, HB⟩ := hrel
        obtain ⟨a0, a1⟩ := (T0.out.later HB.out).cells
        by_cases hlt : k < x
        · go_wp2_with fail
          clear a0 a1
          have HO2 : Hid (wr.ownsRow W.heap.size 3 1 (.slice (some ⟨g1, 0, none⟩) x cV) x ((Bi.nums (Cy.mid x g v k 0)).flatMap nC)) := by rw [Hid, Cy.mid_zero]; exact HO.out
          have HB2 := Lib.hid HB.out
          clear HO HB
          generalize hwk : wr = WL at *
          clear hwk
          go_loopw [10] (fun i wr => ∃ (j : Nat), j ≤ x ∧ i = .int .i64 j ∧ Hid (wr.ownsRow W.heap.size 3 1 (.slice (some ⟨g1, 0, none⟩) x cV) x ((Bi.nums (Cy.mid x g v k j)).flatMap nC)) ∧ Hid (Below W.heap.size W wr)) (fun i _ => x - (intOf i).toNat)
          case atStart => exact ⟨0, Nat.zero_le _, rfl, HO2.out, HB2.out⟩
          case round =>
            obtain ⟨j, hj, rfl, HO, HB⟩ := hrel
            obtain ⟨a0, a1⟩ := (T0.out.later HB.out).cells
            by_cases hltj : j < x
            · go_wp2_with fail
              clear a0 a1
              have HO3 : Hid (wr.ownsRow W.heap.size 3 1 (.slice (some ⟨g1, 0, none⟩) x cV) x ((Bi.nums ((Cy.mid x g v k j).set j (Cy.far x g v k j))).flatMap nC)) := by rw [Hid, Cy.mid_same]; exact HO.out
              have HB3 := Lib.hid HB.out
              have HA3 := Lib.hid (Cy.at_start (n := x) (g := g) (v := v) (k := k) (x := j))
              have HQ0 : Hid (Cy.far x g v k j ≤ 4294967296) := by have := Cy.far_le x g v k j; rw [Hid]; omega
              have HML2 : Hid (∀ q : Nat, ((Cy.mid x g v k j).set j q).length = x) := fun q => by rw [List.length_set]; exact HML.out k j
              have HDN : Hid (∀ y q, Cy.At x g v k j y q → (q ≠ 0 ∨ y = x) → (Cy.mid x g v k j).set j q = Cy.mid x g v k (j + 1)) := fun y q h hd => by
                rw [Cy.at_done HG.out (by omega) h hd]
                exact Cy.mid_next
              have HYS := Lib.hid (fun y h hb hf => Cy.at_yes HG.out (v := v) (k := k) (x := j) (y := y) (by omega) h hb hf)
              have HNO := Lib.hid (fun y h hb => Cy.at_no (n := x) (g := g) (v := v) (k := k) (x := j) (y := y) h hb)
              have HSE := Lib.hid (fun m y h hy => Cy.at_see (n := x) (g := g) (v := v) (k := k) (x := j) (m := m) (y := y) (by omega) h hy)
              clear HO HB
              generalize hwk : wr = WM at *
              clear hwk
              generalize Cy.far x g v k j = q0 at *
              go_loopw [11] (fun i wr => ∃ (y q : Nat), y ≤ x ∧ q ≤ 4294967296 ∧ i = .int .i64 y ∧ Hid (Cy.At x g v k j y q) ∧ Hid (wr.ownsRow W.heap.size 3 1 (.slice (some ⟨g1, 0, none⟩) x cV) x ((Bi.nums ((Cy.mid x g v k j).set j q)).flatMap nC)) ∧ Hid (Below W.heap.size W wr)) (fun i _ => x - (intOf i).toNat)
              case atStart => exact ⟨0, q0, Nat.zero_le _, HQ0.out, rfl, HA3.out, HO3.out, HB3.out⟩
              case round =>
                obtain ⟨y, q, hy, hq, rfl, HA, HO, HB⟩ := hrel
                obtain ⟨a0, a1⟩ := (T0.out.later HB.out).cells
                have hjl : j < ((Cy.mid x g v k j).set j q).length := by rw [HML2.out]; exact hltj
                obtain ⟨e0, f0⟩ := nrow_at HO.out (HML2.out q) j hjl
                rw [List.getElem_set_self] at e0
                by_cases hlty : y < x
                · by_cases hq0 : q = 0
                  · subst hq0
                    have G := Lib.hid (fun w hw => FH.out w j y hltj hlty hw)
                    have e1 : wr.cell? ⟨g1, j, none⟩ = some (.int .i64 0) := e0
                    clear e0
                    go_wp2_with fail
                    refine (G.out _ (HU.out.below (below_all BW.out HB.out))).mono ?_
                    rintro e w4 ⟨rfl, hb4⟩
                    have HO4 := Lib.hid (own_below HO.out hb4)
                    have HB4 := Lib.hid (below_all HB.out hb4)
                    clear hb4 a0 a1 e1 f0 HO HB
                    cases hb : Gf.bit g j y with
                    | false =>
                      have HA4 := Lib.hid (HNO.out y HA.out (fun h => by rw [hb] at h; cases h))
                      clear hb
                      go_wp2_with fail
                      go_roundw
                      case rel => exact ⟨y + 1, 0, by omega, by omega, by go_num, HA4.out, HO4.out, HB4.out⟩
                      case measure => simp [intOf]; omega
                    | true =>
                      have hyl : y < ((Cy.mid x g v k j).set j 0).length := by rw [HML2.out]; exact hlty
                      obtain ⟨e1, f1⟩ := nrow_at HO4.out (HML2.out 0) y hyl
                      obtain ⟨e0, f0⟩ := nrow_at HO4.out (HML2.out 0) j (by rw [HML2.out]; exact hltj)
                      have HS := Lib.hid (HSE.out y y HA.out hyl)
                      obtain ⟨z, hz⟩ : ∃ z, z = ((Cy.mid x g v k j).set j 0)[y] := ⟨_, rfl⟩
                      rw [← hz] at e1
                      have HS2 : Hid (z = k ↔ Cy.far x g v k y = k) := by rw [Hid, hz]; exact HS.out
                      have HBT := Lib.hid hb
                      clear hz HS hb
                      by_cases hzk : z = k
                      · have hqq : ((z : Int) == (k : Int)) = true := by rw [beq_iff_eq]; omega
                        have hqq2 : (z == k) = true := by rw [beq_iff_eq]; exact hzk
                        have HA4 := Lib.hid (HYS.out y HA.out HBT.out (HS2.out.1 hzk))
                        have HO5 : Hid ((w4.setCell ⟨g1, j, none⟩ (.int .i64 ((k + 1 : Nat) : Int))).ownsRow W.heap.size 3 1 (.slice (some ⟨g1, 0, none⟩) x cV) x ((Bi.nums ((Cy.mid x g v k j).set j (k + 1))).flatMap nC)) := by
                          have := nrow_put HO4.out j (by rw [HML2.out]; exact hltj) (k + 1)
                          rw [List.set_set] at this
                          exact this
                        have HB5 := Lib.hid (HB4.out.setCell (p := ⟨g1, j, none⟩) hgb (.int .i64 ((k + 1 : Nat) : Int)))
                        clear hzk
                        go_wp2_with fail
                        go_roundw
                        case rel => exact ⟨y + 1, k + 1, by omega, by omega, by go_num, HA4.out, HO5.out, HB5.out⟩
                        case measure => simp [intOf]; omega
                      · have hqq : ((z : Int) == (k : Int)) = false := by rw [beq_eq_false_iff_ne]; omega
                        have hqq2 : (z == k) = false := by rw [beq_eq_false_iff_ne]; exact hzk
                        have HA4 := Lib.hid (HNO.out y HA.out (fun _ h => hzk (HS2.out.2 h)))
                        clear hzk
                        go_wp2_with fail
                        go_roundw
                        case rel => exact ⟨y + 1, 0, by omega, by omega, by go_num, HA4.out, HO4.out, HB4.out⟩
                        case measure => simp [intOf]; omega
                  · have hqq : ((q : Int) == 0) = false := by rw [beq_eq_false_iff_ne]; omega
                    have hqq2 : (q == 0) = false := by rw [beq_eq_false_iff_ne]; exact hq0
                    have HD := Lib.hid (HDN.out y q HA.out (.inl hq0))
                    rw [HD.out] at HO
                    clear hq0
                    go_wp2_with fail
                    go_roundw
                    case rel => exact ⟨j + 1, by omega, by go_num, HO.out, HB.out⟩
                    case measure => simp [intOf]; omega
                · have hyx : y = x := by omega
                  have HD := Lib.hid (HDN.out y q HA.out (.inr hyx))
                  rw [HD.out] at HO
                  clear hyx
                  go_wp2_with fail
                  go_roundw
                  case rel => exact ⟨j + 1, by omega, by go_num, HO.out, HB.out⟩
                  case measure => simp [intOf]; omega
            · have hjx : j = x := by omega
              have HO4 : Hid (wr.ownsRow W.heap.size 3 1 (.slice (some ⟨g1, 0, none⟩) x cV) x ((Bi.nums (Cy.row x g v (k + 1))).flatMap nC)) := by rw [Hid, ← Cy.mid_all]; rw [hjx] at HO; exact HO.out
              clear hjx
              go_wp2_with fail
              go_roundw
              case rel => exact ⟨k + 1, by omega, by omega, by go_num, HO4.out, HB.out⟩
              case measure => simp [intOf]; omega
        · have hkx : k = x := by omega
          rw [hkx] at HO
          clear hkx
          go_wp2_with fail
          go_ret
          exact ⟨_, rfl, by rw [HRL.out]; exact HO.out.mono BW.out.size, below_all BW.out HB.out⟩
end Go.Proofs.Ytgapcjgmmlffmaa
