/-
  What index's Pairs answers: all two writers of each key, in order.
  Conditions: a history's rows have at most 2^32 elements each.
-/
import Derived.Test.YtehnmpbongabeaaIxWalkA
set_option maxRecDepth 4000
namespace Go.Proofs.Ytehnmpbongabeaa
open Go.RowKit

theorem choice_info : (Try.prog.info? 40).map (fun i => (i.zero, i.size, i.bytes)) = some (some (.agg #[.int .i64 0, .int .i64 0, .int .i64 0]), 3, 24) := by kernel_rfl
theorem new_chC (w : World) (x : Nat × Nat × Nat) (e : TypeId) : ∀ j u, (chC x)[j]? = some u → (w.alloc (.cells #[.int .i64 (x.1 : Int), .int .i64 (x.2.1 : Int), .int .i64 (x.2.2 : Int)] e)).cell? ((⟨w.heap.size, 0, none⟩ : Addr).add j) = some u := new_row w (chC x) e
/-- What is behind the first m of a row of integers. -/
theorem Ns.drop {w : World} {A : Option Addr} {n c : Nat} {l : List Int} (h : Ns w (.slice A n c) l) (m : Nat) (hm : m ≤ l.length) : Ns w (.slice (if c = m then A else A.map (·.add (m * 1))) (n - m) (c - m)) (l.drop m) := by
  obtain ⟨h1, A1, c1, hv, hc, hz, hh⟩ := h
  cases hv
  have hlen : (l.drop m).length = l.length - m := List.length_drop
  refine ⟨by rw [flat_len nC_len], _, _, by rw [hlen], by rw [hlen]; omega, fun hn => ?_, fun h0 => ?_⟩
  · by_cases e : c = m
    · omega
    · rw [if_neg e] at hn
      have : A = none := by cases A with
        | none => rfl
        | some a => cases hn
      have := hz this
      omega
  · rw [hlen] at h0
    obtain ⟨ad, rfl, hb, hcell⟩ := hh (by omega)
    rw [if_neg (by omega)]
    refine ⟨ad.add (m * 1), rfl, by rw [add_block]; exact hb, fun j u hu => ?_⟩
    rw [Go.Deep.add_add]
    refine hcell _ _ ?_
    have hj := (List.getElem?_eq_some_iff.1 hu).1
    rw [flat_len nC_len, hlen] at hj
    have e2 : l.flatMap nC = (l.take m).flatMap nC ++ (l.drop m).flatMap nC := by rw [← List.flatMap_append, List.take_append_drop]
    have e3 : ((l.take m).flatMap nC).length = m * 1 := by rw [flat_len nC_len, List.length_take]; omega
    rw [e2, List.getElem?_append_right (by omega), e3, Nat.add_sub_cancel_left]
    exact hu
theorem ints_drop (l : List Nat) (m : Nat) : (ints l).drop m = ints (l.drop m) := by simp [ints]
theorem ints_tail (l : List Nat) (A : Option Addr) (c k : Nat) (hk : k < l.length) : ∃ (A' : Option Addr) (m c' : Nat), m = (l.drop (k + 1)).length ∧ (∀ W : World, (Instr.sliceAt 30 (.slice A l.length c) (some (.int .i64 ((k : Int) + 1))) none none).run Try.prog W = .ok (.slice A' m c') W) ∧
    ∀ W : World, Ns W (.slice A l.length c) (ints l) → Ns W (.slice A' m c') (ints (l.drop (k + 1))) := by
  refine ⟨if c = k + 1 then A else A.map (·.add ((k + 1) * 1)), l.length - (k + 1), c - (k + 1), (List.length_drop).symm, fun W => ?_, fun W h => ?_⟩
  · have hel : Try.prog.elem 30 = 3 := by kernel_rfl
    have hsz : (sizeOf 3).run Try.prog W = .ok 1 W := by kernel_rfl
    have hun : Try.prog.underlying 30 = some (.slice (Try.prog.elem 30)) := by rw [hel]; exact Try.underlying30
    have e : ((k : Int) + 1).toNat = k + 1 := by omega
    rw [run_sliceAt_slice W _ _ _ _ _ hun, run_slice_l W _ _ _ _ hun .i64 ((k : Int) + 1) (by omega) (by omega), hel, hsz, e]
    rfl
  · rw [← ints_drop]
    exact Ns.drop h (k + 1) (by rw [ints_len]; omega)
theorem chs_snoc {W : World} {base : Nat} {e : TypeId} {v : Value} {d : List (Nat × Nat × Nat)} {x : Nat × Nat × Nat} (h : W.ownsRow base e 3 v (d.length + 1) (d.flatMap chC ++ chC x)) : W.ownsRow base e 3 v (d ++ [x]).length ((d ++ [x]).flatMap chC) := Rows'.own_snoc h

set_option maxHeartbeats 2000000 in
theorem pairs9_at (h : List So.Txn) (u : Value) (w : World) (hv : Txns w u h) (hs : Ix.Small h) : Calls Try.prog 19 #[.agg #[u]] w (RetChs w (Ix.pairsA h)) := by
  obtain ⟨i0, hi0, hz0, hz1, hz2⟩ := info_parts choice_info
  have I0 := Lib.hid hi0
  have I1 := Lib.hid hz0
  have I2 := Lib.hid hz1
  have I3 := Lib.hid hz2
  clear hi0 hz0 hz1 hz2
  have HB0 := Lib.hid (alloc_below w (.cells #[u] 24))
  have HV := Lib.hid hv
  have HS := Lib.hid hs
  obtain ⟨A, c, rfl, _⟩ := hv.spelled
  have c0 := (Boxed.new w 24 (.slice A h.length c)).cell
  clear hv hs
  have HY := Lib.hid (fun q => @Ix.pairsA_yes h q)
  have HN := Lib.hid (fun q => @Ix.pairsA_no h q)
  have HMANY := Lib.hid (fun q => (Hi.rightB_iff h).1 q)
  generalize Ix.pairsA h = pa at *
  go_enter Try.func19, Try.ntmps19
  go_wp2_with fail
  generalize w.alloc (.cells #[.slice A h.length c] 24) = w1 at *
  refine (hRight_at h _ w1 (HV.out.below HB0.out) HS.out.2).mono ?_
  rintro e w2 ⟨rfl, hb2⟩
  have HB2 := Lib.hid (below_all HB0.out hb2)
  have HC2 := Lib.hid (cell_stays hb2 c0)
  have HV2 := Lib.hid (HV.out.below HB2.out)
  clear c0
  cases hr : Hi.rightB h with
  | false =>
    have HR := Lib.hid (HN.out hr)
    clear hr hb2
    go_wp2_with fail
    go_ret
    exact ⟨_, rfl, by rw [HR.out]; exact Chs.nil _ _, HB2.out⟩
  | true =>
    have HR := Lib.hid (HY.out hr)
    have H32 := Lib.hid (HMANY.out hr).1
    clear hr hb2
    go_wp2_with fail
    go_loopw [3, 13] (fun v i wr => ∃ (k : Nat) (d : List (Nat × Nat × Nat)), k ≤ 16 ∧ i = .int .i64 k ∧ d.length ≤ 20000 ∧ Hid (d = Ix.pairsTo h k) ∧ wr.ownsRow w2.heap.size 40 3 v d.length (d.flatMap chC) ∧ Hid (Below w2.heap.size w2 wr)) (fun _ i _ => 16 - (intOf i).toNat)
    case atStart => exact ⟨0, [], Nat.zero_le _, rfl, Nat.zero_le _, rfl, World.ownsRow_nil _ _ _ _, Below.refl _ _⟩
    case round =>
      obtain ⟨k, d, hk, rfl, hdl, HD, hown, HB⟩ := hrel
      have HW := Lib.hid hown
      obtain ⟨A', cp, rfl⟩ := own_form hown
      clear hown
      by_cases hlt : k < 16
      · have d0 : decide ((k : Int) < 16) = true := decide_eq_true (by omega)
        have c3 := cell_stays HB.out HC2.out
        have hwl := Nat.le_trans (Ix.writers_len h (k : Int)) H32.out
        have HM0 := Lib.hid (Ix.midTo_zero h k (Ix.writers h (k : Int)))
        have HMA := Lib.hid (Ix.midTo_all h k)
        go_wp2_with fail
        refine (writersOf9_at h _ (k : Int) wr (HV2.out.below HB.out) HS.out).mono ?_
        rintro e w3 ⟨v3, rfl, ho3, hb3⟩
        have HW1 := Lib.hid (own_below HW.out hb3)
        have HB1 := Lib.hid (below_all HB.out hb3)
        have hsz3 : wr.heap.size ≤ w3.heap.size := hb3.size
        obtain ⟨A3, cc3, rfl⟩ := own_form ho3
        generalize wr.heap.size = B3 at ho3
        have HO3 := Lib.hid ho3
        clear ho3 hb3 HW HB c3 hsz3
        generalize Ix.writers h (k : Int) = l at *
        have HD0 : Hid (d = Ix.midTo h k l 0) := by rw [Hid, HM0.out]; exact HD.out
        have hk16 : (k : Int) < 16 := by omega
        go_wp2_with fail
        go_loopw [3, 21] (fun v i wq => ∃ (i' : Nat) (d : List (Nat × Nat × Nat)), i' ≤ l.length ∧ i = .int .i64 i' ∧ d.length ≤ 20000 ∧ Hid (d = Ix.midTo h k l i') ∧ wq.ownsRow w2.heap.size 40 3 v d.length (d.flatMap chC) ∧ Hid (wq.ownsRow B3 3 1 (.slice A3 l.length cc3) l.length ((ints l).flatMap nC)) ∧ Hid (Below w2.heap.size w2 wq)) (fun _ i _ => l.length - (intOf i).toNat)
        case atStart => exact ⟨0, d, Nat.zero_le _, rfl, hdl, HD0, HW1.out, HO3, HB1⟩
        case round =>
          clear HD0 HD HW1 HO3 HB1 hdl
          obtain ⟨i', d2, hi', rfl, hdl2, HD2, hown2, HO2, HBQ⟩ := hrel
          have HW2 := Lib.hid hown2
          obtain ⟨A5, cp5, rfl⟩ := own_form hown2
          clear hown2
          by_cases hlt2 : i' < l.length
          · obtain ⟨_, _, e3, hrow⟩ := nums_spelled (ns_own HO2.out)
            cases e3
            obtain ⟨ad, rfl, hblk, hcell⟩ := hrow i' hlt2
            clear hrow
            obtain ⟨A6, m, c6, hm, hst, hns⟩ := ints_tail l (some ad) cc3 i' hlt2
            have HNS := Lib.hid hns
            have HI0 := Lib.hid (Ix.inTo_zero h k l i' l[i'])
            have HIA := Lib.hid (Ix.inTo_all h k l i' hlt2)
            have HIN := Lib.hid (fun j hj => Ix.inTo_next h k l i' l[i'] j hj)
            have HIL := Lib.hid (fun j => Ix.inTo_len H32.out k hlt l hwl i' l[i'] j hlt2)
            have hm2 : m = l.length - (i' + 1) := by rw [hm, List.length_drop]
            generalize l[i'] = a at *
            have HD3 : Hid (d2 = Ix.inTo h k l i' a 0) := by rw [Hid, HI0.out]; exact HD2.out
            clear hns
            go_wp2_with fail
            go_loopw [3, 31] (fun v j wz => ∃ (j' : Nat) (d : List (Nat × Nat × Nat)), j' ≤ m ∧ j = .int .i64 j' ∧ d.length ≤ 20000 ∧ Hid (d = Ix.inTo h k l i' a j') ∧ wz.ownsRow w2.heap.size 40 3 v d.length (d.flatMap chC) ∧ Hid (wz.ownsRow B3 3 1 (.slice (some ad) l.length cc3) l.length ((ints l).flatMap nC)) ∧ Hid (Below w2.heap.size w2 wz)) (fun _ j _ => m - (intOf j).toNat)
            case atStart => exact ⟨0, d2, Nat.zero_le _, rfl, hdl2, HD3, HW2.out, HO2, HBQ⟩
            case round =>
              clear HD3 HD2 HW2 HO2 HBQ hdl2 hcell
              obtain ⟨j', d3, hj', rfl, hdl3, HD4, hown3, HO4, HBZ⟩ := hrel
              have HW4 := Lib.hid hown3
              obtain ⟨A7, cp7, rfl⟩ := own_form hown3
              clear hown3
              by_cases hlt3 : j' < m
              · have HNX := Lib.hid (HIN.out j' (by omega))
                obtain ⟨_, _, e6, hrow6⟩ := nums_spelled (HNS.out wr (ns_own HO4.out))
                simp only [Value.slice.injEq] at e6
                obtain ⟨rfl, -, -⟩ := e6
                obtain ⟨ad6, rfl, hblk6, hcell6⟩ := hrow6 j' (by omega)
                clear hrow6
                generalize (l.drop (i' + 1))[j'] = b at *
                have hdl5 := HIL.out (j' + 1)
                have HD5 : Hid (d3 ++ [(k, a, b)] = Ix.inTo h k l i' a (j' + 1)) := by rw [Hid, HNX.out, ← HD4.out]
                rw [← HD5.out, List.length_append] at hdl5
                have HW5 := Lib.hid (HW4.out.alloc (.cells #[.int .i64 (k : Int), .int .i64 (a : Int), .int .i64 (b : Int)] 40))
                have HO5 := Lib.hid (HO4.out.alloc (.cells #[.int .i64 (k : Int), .int .i64 (a : Int), .int .i64 (b : Int)] 40))
                have HB5 := Lib.hid (HBZ.out.alloc HBZ.out.size (.cells #[.int .i64 (k : Int), .int .i64 (a : Int), .int .i64 (b : Int)] 40))
                have HN5 := Lib.hid (new_chC wr (k, a, b) 40)
                have d6 : decide ((j' : Int) < (m : Int)) = true := decide_eq_true (by omega)
                go_wp2_with (at_builtin; refine wpList_append_own_at _ rfl _ _ 35 rfl w2.heap.size 40 i0 _ 3 24 Try.underlying35 I0.out I1.out I2.out I3.out rfl (by decide) _ d3.length _ rfl HW5.out ⟨wr.heap.size, 0, none⟩ 1 1 (chC (k, a, b)) rfl rfl HN5.out (one_chC _) (by simp only [maxLen]; omega) (by omega) HB5.out.size ?_; intro v7 w7 hown7 hgrow7 hnil7 hat7; have HO7 := Lib.hid (HO5.out.kept hgrow7 (own_types HO5.out HW5.out (by decide))); have HW7 := Lib.hid hown7; have HB7 := Lib.hid (below_append HB5.out HB5.out.size HW5.out hgrow7); clear hown7 hgrow7 hnil7 hat7)
                go_roundw
                case rel => exact ⟨j' + 1, d3 ++ [(k, a, b)], by omega, by go_num, by rw [List.length_append]; exact hdl5, HD5, chs_snoc HW7.out, HO7, HB7⟩
                case measure => simp [intOf]; omega
              · have d6 : decide ((j' : Int) < (m : Int)) = false := decide_eq_false (by omega)
                have hjm : j' = m := by omega
                have HD5 : Hid (d3 = Ix.midTo h k l (i' + 1)) := by rw [Hid, HD4.out, hjm, hm2]; exact HIA.out
                go_wp2_with fail
                go_roundw
                case rel => exact ⟨i' + 1, d3, by omega, by go_num, hdl3, HD5, HW4.out, HO4, HBZ⟩
                case measure => simp [intOf]; omega
          · have hil : i' = l.length := by omega
            have HD5 : Hid (d2 = Ix.pairsTo h (k + 1)) := by rw [Hid, HD2.out, hil]; exact HMA.out
            go_wp2_with fail
            go_roundw
            case rel => exact ⟨k + 1, d2, by omega, by go_num, hdl2, HD5, HW2.out, HBQ⟩
            case measure => simp [intOf]; omega
      · have d0 : decide ((k : Int) < 16) = false := decide_eq_false (by omega)
        have hk16 : k = 16 := by omega
        have HK := Lib.hid hk16
        clear hk16
        go_wp2_with fail
        go_ret
        refine ⟨_, rfl, ?_, below_all HB2.out HB.out⟩
        have hdk : Ix.pairs h = d := by rw [HD.out, HK.out]; rfl
        rw [HR.out, hdk]
        exact Rows'.own HW.out
end Go.Proofs.Ytehnmpbongabeaa
