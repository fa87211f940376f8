/-
  The law SccParts: each node is in one component, and in that which Which tells; components are in the order of their least nodes, and their nodes rise.
  Conditions: rows hold sets below 2^64.
-/
import Derived.Test.YtameeegmbpiiaaaScAwake
set_option maxRecDepth 4000
namespace Go.Proofs.Ytameeegmbpiiaaa
open Go.RowKit

namespace Sc
section
variable {t : Nat → Nat → Bool} {n : Nat}
/-- How many nodes the first j components have. -/
def sumTo (cs : List (List Nat)) (j : Nat) : Nat := ((cs.take j).map List.length).sum
theorem sumTo_next {cs : List (List Nat)} {j : Nat} (h : j < cs.length) : sumTo cs (j + 1) = sumTo cs j + cs[j].length := by
  unfold sumTo
  rw [List.take_succ_eq_append_getElem h, List.map_append, List.sum_append]
  simp
theorem sum_set (cs : List (List Nat)) (i : Nat) (h : i < cs.length) (x : Nat) : ((cs.set i (cs[i] ++ [x])).map List.length).sum = (cs.map List.length).sum + 1 := by
  induction cs generalizing i with
  | nil => cases h
  | cons a r ih =>
    cases i with
    | zero => simp; omega
    | succ i =>
      have := ih i (by simpa using h)
      simp at this ⊢
      omega
theorem sum_comps (h : Eqv t) (n : Nat) : ((comps t n).map List.length).sum = n := by
  induction n with
  | zero => rfl
  | succ n ih =>
    cases hl : isL t n with
    | true =>
      rw [comps_yes h hl, List.map_append, List.sum_append, ih]
      rfl
    | false =>
      have hw : wh t n < (comps t n).length := by rw [comps_len]; exact wh_less h hl
      rw [comps_no h hl hw, sum_set _ _ hw, ih]
theorem sum_all (h : Eqv t) (n : Nat) : sumTo (comps t n) (comps t n).length = n := by rw [sumTo, List.take_length]; exact sum_comps h n
theorem sumTo_le (h : Eqv t) (n j : Nat) : sumTo (comps t n) j ≤ n := by
  have e := sum_comps h n
  rw [← List.take_append_drop j (comps t n), List.map_append, List.sum_append] at e
  unfold sumTo
  omega
theorem part_some (h : Eqv t) {j : Nat} (hj : j < (comps t n).length) : 0 < (comps t n)[j].length := by
  have hd := comps_head h hj
  cases e : (comps t n)[j] with
  | nil => rw [e] at hd; cases hd
  | cons a r => simp
theorem part_node (h : Eqv t) {j : Nat} (hj : j < (comps t n).length) (i : Nat) (hi : i < (comps t n)[j].length) : (comps t n)[j][i] < n ∧ wh t (comps t n)[j][i] = j := (comps_mem h hj).1 (List.getElem_mem hi)
theorem part_rise (h : Eqv t) {j : Nat} (hj : j < (comps t n).length) (i : Nat) (hi : i < (comps t n)[j].length) (hi2 : i + 1 < (comps t n)[j].length) : (comps t n)[j][i] < (comps t n)[j][i + 1] := List.pairwise_iff_getElem.1 (comps_rise h hj) i (i + 1) hi hi2 (Nat.lt_succ_self i)
theorem part_head (h : Eqv t) {j : Nat} (h1 : j < (comps t n).length) (h2 : j + 1 < (comps t n).length) (a : 0 < (comps t n)[j].length) (b : 0 < (comps t n)[j + 1].length) : (comps t n)[j][0] < (comps t n)[j + 1][0] := by
  have e1 := comps_head h h1
  have e2 := comps_head h h2
  rw [List.head?_eq_getElem?, List.getElem?_eq_getElem a] at e1
  rw [List.head?_eq_getElem?, List.getElem?_eq_getElem b] at e2
  injection e1 with e1
  injection e2 with e2
  rw [e1, e2]
  exact List.pairwise_iff_getElem.1 (leads_rise n) j (j + 1) _ _ (Nat.lt_succ_self j)
theorem which_is {z j : Nat} (hw : wh t z = j) (h : z < (which t n).length) : (which t n)[z] = j := by rw [which_at, hw]
end
end Sc
set_option maxHeartbeats 8000000 in
theorem lawSccParts (n : Int) (u : Value) (l : List Nat) (w : World) (hu : Us w u l) (hs : ∀ x ∈ l, x < 18446744073709551616) : Calls Try.prog 4 #[.agg #[.int .i64 n, u]] w (RetBool w true) := by
  have HU := Lib.hid hu
  have HS := Lib.hid hs
  obtain ⟨A, c, rfl, -⟩ := hu.spelled
  have T_g := Lib.hid (Two.new w 24 (.int .i64 n) (.slice A l.length c))
  have BW := Lib.hid (alloc_below w (.cells #[.int .i64 n, .slice A l.length c] 24))
  clear hu hs
  go_enter Try.func4, Try.ntmps4
  go_wp2_with fail
  generalize w.alloc (.cells #[.int .i64 n, .slice A l.length c] 24) = W0 at *
  go_wp2_with fail
  refine (scAwake_at _).mono ?_
  rintro e W1 ⟨rfl, hb⟩
  have S1 := Lib.hid hb
  clear hb
  obtain ⟨g0, g1⟩ := (T_g.out.later S1.out).cells
  by_cases h70 : 70 < l.length
  ·
    go_wp2_with fail
    go_ret
    exact ⟨rfl, (below_all BW.out S1.out)⟩
  obtain ⟨p, hp⟩ : ∃ p, p = Gf.okB n l := ⟨_, rfl⟩
  have HP := Lib.hid hp
  go_wp2_with fail
  refine (gfRight_at n (.slice A l.length c) l _ (HU.out.below (below_all BW.out S1.out)) HS.out).mono ?_
  rintro e W2 ⟨rfl, hb⟩
  have S2 := Lib.hid hb
  clear hb
  clear g0 g1
  rw [← HP.out]
  clear hp
  cases p with
  | false =>
    go_wp2_with fail
    go_ret
    exact ⟨rfl, (below_all BW.out (below_all S1.out S2.out))⟩
  | true =>
    obtain ⟨k, hnk, hok⟩ := Gf.okB_iff.1 HP.out.symm
    subst hnk
    have h64 := hok.1
    have HOK := Lib.hid hok
    clear hok HP
    have FC := Lib.hid (fun w h => scComps_at (k : Int) (.slice A l.length c) l w h HS.out)
    rw [Sc.compsA_yes HOK.out] at FC
    have FW := Lib.hid (fun w h => scWhich_at (k : Int) (.slice A l.length c) l w h HS.out)
    rw [Sc.whichA_yes HOK.out] at FW
    have HEV := Lib.hid (Sc.tog_eqv HOK.out)
    have HWL := Lib.hid (Sc.which_len (t := Sc.tog k l) k)
    have HCL := Lib.hid (Sc.comps_len_le (Sc.tog k l) k)
    have HCE := Lib.hid (fun j (h : j < (Sc.comps (Sc.tog k l) k).length) => Sc.comps_each_le (Sc.tog k l) k _ (List.getElem_mem h))
    have HNE := Lib.hid (fun j (h : j < (Sc.comps (Sc.tog k l) k).length) => Sc.part_some HEV.out h)
    have HEL := Lib.hid (fun j (h : j < (Sc.comps (Sc.tog k l) k).length) t ht => Sc.part_node HEV.out h t ht)
    have HRI := Lib.hid (fun j (h : j < (Sc.comps (Sc.tog k l) k).length) s ht hs => Sc.part_rise HEV.out h s ht hs)
    have HHD := Lib.hid (fun s (h1 : s < (Sc.comps (Sc.tog k l) k).length) (h2 : s + 1 < (Sc.comps (Sc.tog k l) k).length) a b => Sc.part_head HEV.out h1 h2 a b)
    have HWI : Hid (∀ z (h : z < (Sc.which (Sc.tog k l) k).length), ∀ {j : Nat}, Sc.wh (Sc.tog k l) z = j → (Sc.which (Sc.tog k l) k)[z] = j) := fun z h _ hw => Sc.which_is hw h
    have HS0 : Hid (Sc.sumTo (Sc.comps (Sc.tog k l) k) 0 = 0) := rfl
    have HSN := Lib.hid (fun j (h : j < (Sc.comps (Sc.tog k l) k).length) => Sc.sumTo_next h)
    have HSA := Lib.hid (Sc.sum_all HEV.out k)
    have HSL := Lib.hid (fun j => Sc.sumTo_le HEV.out k j)
    clear HEV
    generalize Sc.comps (Sc.tog k l) k = cs at *
    generalize Sc.which (Sc.tog k l) k = ws at *
    obtain ⟨g0, g1⟩ := (T_g.out.later (below_all S1.out S2.out)).cells
    go_wp2_with fail
    refine (FC.out _ (HU.out.below (below_all BW.out (below_all S1.out S2.out)))).mono ?_
    rintro e W3 ⟨v1, rfl, hr1, hb⟩
    have S3 := Lib.hid hb
    clear hb
    clear g0 g1
    obtain ⟨A_l, c_l, rfl, hl1⟩ := hr1.spelled
    have HL := Lib.hid hl1
    clear hr1 hl1
    have hkk : ((k : Int) != (k : Int)) = false := by simp
    have hke : ((k : Int) == (k : Int)) = true := by simp
    have hcl := HCL.out
    obtain ⟨g0, g1⟩ := (T_g.out.later (below_all (below_all S1.out S2.out) S3.out)).cells
    go_wp2_with fail
    refine (FW.out _ (HU.out.below (below_all BW.out (below_all (below_all S1.out S2.out) S3.out)))).mono ?_
    rintro e W4 ⟨v2, rfl, ho2, hb⟩
    have S4 := Lib.hid hb
    clear hb
    clear g0 g1
    obtain ⟨A_w, c_w, rfl, hn_w⟩ := ints_is (k := k) ho2 HWL.out
    have N_w := Lib.hid hn_w
    clear ho2 hn_w
    obtain ⟨g0, g1⟩ := (T_g.out.later (below_all (below_all (below_all S1.out S2.out) S3.out) S4.out)).cells
    go_wp2_with fail
    clear g0 g1
    go_loopw [6, 7] (fun m i wr => ∃ j mm : Nat, j ≤ cs.length ∧ i = .int .i64 j ∧ m = .int .i64 mm ∧ Hid (mm = Sc.sumTo cs j) ∧ Hid (Below W4.heap.size W4 wr)) (fun _ i _ => cs.length - (intOf i).toNat)
    case atStart => exact ⟨0, 0, Nat.zero_le _, rfl, rfl, HS0.out.symm, Below.refl _ _⟩
    case round =>
      obtain ⟨j, mm, hj, rfl, rfl, HMM, HB⟩ := hrel
      have S5 := HB
      by_cases hlt : j < cs.length
      ·
        obtain ⟨ad, B, d, e1, hb1, hc1, hn1⟩ := HL.out j hlt
        subst e1
        have hc2 := (Below.cell (below_all S4.out S5.out) (p := ad.add j) (by rw [add_block]; exact hb1)).trans hc1
        have HNR := Lib.hid hn1
        have HC1 := Lib.hid hc1
        have HB1 := Lib.hid hb1
        clear hc1 hn1 hb1
        have hne := HNE.out j hlt
        have hle := HCE.out j hlt
        have HEJ := Lib.hid (HEL.out j hlt)
        have HRJ := Lib.hid (HRI.out j hlt)
        have HSJ := Lib.hid (HSN.out j hlt)
        have hsl := HSL.out j
        have HHJ : Hid (∀ p, j = p + 1 → ∀ (hp : p < cs.length) (a : 0 < (cs[p]'hp).length) (b : 0 < (cs[j]'hlt).length), (cs[p]'hp)[0] < (cs[j]'hlt)[0]) := fun p e hp a b => by subst e; exact HHD.out p hp hlt a b
        obtain ⟨row, hrow⟩ : ∃ r, r = cs[j]'hlt := ⟨_, rfl⟩
        rw [← hrow] at hc2 HNR HC1 hne hle HSJ
        have HRW := Lib.hid hrow
        have hz : ((row.length : Int) == 0) = false := by rw [beq_eq_false_iff_ne]; omega
        clear hrow
        rw [← HRW.out] at HEJ HRJ HHJ
        have hq := HMM.out
        have HBO := HB
        go_wp2_with fail
        clear hc2
        go_loopw [6, 8] (fun m i wq => ∃ t mt : Nat, t ≤ row.length ∧ i = .int .i64 t ∧ m = .int .i64 mt ∧ Hid (mt = mm + t) ∧ Hid (Below W4.heap.size W4 wq)) (fun _ i _ => row.length - (intOf i).toNat)
        case atStart => exact ⟨0, mm, Nat.zero_le _, rfl, rfl, rfl, HB.out⟩
        case round =>
          clear HB S5
          obtain ⟨t, mt, ht, rfl, rfl, HMT, HB⟩ := hrel
          have S5 := HB
          have hc2 := (Below.cell (below_all S4.out S5.out) (p := ad.add j) (by rw [add_block]; exact HB1.out)).trans HC1.out
          have hmt := HMT.out
          by_cases htl : t < row.length
          ·
            have n1 := HNR.out.below (below_all S4.out S5.out)
            obtain ⟨ad2, e2, hb2, hx2⟩ := ints_at n1 t htl
            subst e2
            obtain ⟨hzk, hzw⟩ := HEJ.out t htl
            have n2 := N_w.out.below S5.out
            obtain ⟨ad3, e3, hb3, hx3⟩ := ints_at n2 (row[t]'htl) (by rw [HWL.out]; exact hzk)
            subst e3
            have hx4 : wr.cell? (ad3.add (row[t]'htl)) = some (.int .i64 (j : Int)) := by rw [hx3, HWI.out _ _ hzw]
            have hjj : ((j : Int) != (j : Int)) = false := by simp
            have HX : Hid (∀ s (hs : s < row.length), t = s + 1 → (row[s]'hs) < (row[t]'htl)) := fun s hs e => by subst e; exact HRJ.out s hs htl
            have hprev : t = 0 ∨ ∃ i, t = i + 1 := by
              cases t with
              | zero => exact .inl rfl
              | succ i => exact .inr ⟨i, rfl⟩
            generalize row[t]'htl = z at *
            clear hx3 hb2 hb3 n2
            have hz0 : ¬ ((z : Int) < 0) := by omega
            have hz1 : ¬ ((k : Int) ≤ (z : Int)) := by omega
            obtain ⟨g0, g1⟩ := (T_g.out.later (below_all (below_all (below_all (below_all S1.out S2.out) S3.out) S4.out) S5.out)).cells
            rcases hprev with ht0 | ⟨i, hti⟩
            ·
              have q1 : decide ((0 : Int) < (t : Int)) = false := by simp; omega
              have q2 : decide (0 < t) = false := by simp; omega
              clear ht0
              go_wp2_with fail
              go_roundw
              case rel => exact ⟨t + 1, mt + 1, by omega, by go_num, by go_num, (by show mt + 1 = mm + (t + 1); omega), HB.out⟩
              case measure => simp [intOf]; omega
            ·
              have hi : i < row.length := by omega
              obtain ⟨ad2', e2', _, hy2⟩ := ints_at n1 i hi
              cases e2'
              have hls := HX.out i hi hti
              have q1 : decide ((0 : Int) < (t : Int)) = true := by simp; omega
              have q2 : decide (0 < t) = true := by simp; omega
              have hs1 : IntKind.i64.wrap ((t : Int) - 1) = (i : Int) := by rw [IntWalk.i64_in _ (by omega)]; omega
              have hs2 : (t : Int) - 1 = (i : Int) := by omega
              have hs3 : wrap64 ((t : Int) - 1) = (i : Int) := by rw [IntWalk.wrap64_in _ (by omega)]; omega
              have hin0 : (0 : Int) ≤ (i : Int) := by omega
              have hin1 : (i : Int) < (row.length : Int) := by omega
              generalize row[i]'hi = y at *
              have d1 : decide ((z : Int) ≤ (y : Int)) = false := by simp; omega
              have d2 : decide (z ≤ y) = false := by simp; omega
              clear hti
              go_wp2_with fail
              go_roundw
              case rel => exact ⟨t + 1, mt + 1, by omega, by go_num, by go_num, (by show mt + 1 = mm + (t + 1); omega), HB.out⟩
              case measure => simp [intOf]; omega
          ·
            obtain rfl : t = row.length := by omega
            have HMS : Hid (mt = Sc.sumTo cs (j + 1)) := by rw [Hid, HSJ.out, hmt, HMM.out]
            have hprev : j = 0 ∨ ∃ i, j = i + 1 := by
              cases j with
              | zero => exact .inl rfl
              | succ i => exact .inr ⟨i, rfl⟩
            rcases hprev with hj0 | ⟨i, hji⟩
            ·
              have q1 : decide ((0 : Int) < (j : Int)) = false := by simp; omega
              have q2 : decide (0 < j) = false := by simp; omega
              clear hj0
              go_wp2_with fail
              go_quiet (fail)
              go_wp2_with fail
              go_roundw
              case rel => exact ⟨j + 1, mt, by omega, by go_num, rfl, HMS.out, below_drewN HB.out _⟩
              case measure => simp [intOf]; omega
            ·
              have hi : i < cs.length := by omega
              obtain ⟨ad', B', d', e1', hb1', hc1', hn1'⟩ := HL.out i hi
              cases e1'
              have hnei := HNE.out i hi
              have hc3 := (Below.cell (below_all S4.out S5.out) (p := ad.add i) (by rw [add_block]; exact HB1.out)).trans hc1'
              have n1 := HNR.out.below (below_all S4.out S5.out)
              obtain ⟨ad2, e2, hb2, hx2⟩ := ints_at n1 0 hne
              subst e2
              have n2 := hn1'.below (below_all S4.out S5.out)
              obtain ⟨ad3, e3, hb3, hx3⟩ := ints_at n2 0 hnei
              subst e3
              rw [add_zero'] at hx2 hx3
              have hls := HHJ.out i hji hi hnei hne
              clear hc1' hn1' hb1' n1 n2 hb2 hb3
              generalize (cs[i]'hi)[0]'hnei = y at *
              generalize row[0]'hne = z at *
              have q1 : decide ((0 : Int) < (j : Int)) = true := by simp; omega
              have q2 : decide (0 < j) = true := by simp; omega
              have hs1 : IntKind.i64.wrap ((j : Int) - 1) = (i : Int) := by rw [IntWalk.i64_in _ (by omega)]; omega
              have hs2 : (j : Int) - 1 = (i : Int) := by omega
              have hs3 : wrap64 ((j : Int) - 1) = (i : Int) := by rw [IntWalk.wrap64_in _ (by omega)]; omega
              have hin0 : (0 : Int) ≤ (i : Int) := by omega
              have hin1 : (i : Int) < (cs.length : Int) := by omega
              have hin2 : (j : Int) < (cs.length : Int) := by omega
              have d1 : decide ((z : Int) ≤ (y : Int)) = false := by simp; omega
              have d2 : decide (z ≤ y) = false := by simp; omega
              clear hji
              go_wp2_with fail
              go_quiet (fail)
              go_wp2_with fail
              go_roundw
              case rel => exact ⟨j + 1, mt, by omega, by go_num, rfl, HMS.out, below_drewN HB.out _⟩
              case measure => simp [intOf]; omega
      ·
        obtain rfl : j = cs.length := by omega
        obtain rfl : mm = k := by rw [HMM.out]; exact HSA.out
        obtain ⟨g0, g1⟩ := (T_g.out.later (below_all (below_all (below_all (below_all S1.out S2.out) S3.out) S4.out) S5.out)).cells
        go_wp2_with fail
        go_ret
        exact ⟨rfl, (below_all BW.out (below_all (below_all (below_all (below_all S1.out S2.out) S3.out) S4.out) S5.out))⟩
end Go.Proofs.Ytameeegmbpiiaaa
