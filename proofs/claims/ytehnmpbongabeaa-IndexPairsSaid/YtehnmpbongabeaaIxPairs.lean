/-
  The walk of IndexPairs: it answers true, and what was in memory stays as it was.
  Conditions: the argument reads as a history.
-/
import Derived.Test.YtehnmpbongabeaaIxKeys
set_option maxRecDepth 4000
namespace Go.Proofs.Ytehnmpbongabeaa
open Go.RowKit

namespace Ix
open So (Txn)
theorem half_le (m : Nat) (h : m ≤ 32) : m * (m - 1) / 2 ≤ 496 := by
  have : m * (m - 1) ≤ 32 * 31 := Nat.mul_le_mul h (by omega)
  omega
theorem manyTo_le {h : List Txn} (hl : h.length ≤ 32) (k : Nat) : manyTo h k ≤ k * 496 := by
  induction k with
  | zero => simp [manyTo]
  | succ k ih =>
    rw [manyTo_succ]
    have := half_le _ (Nat.le_trans (writers_len h (k : Int)) hl)
    omega
theorem prod_int (m : Nat) : (m : Int) * ((m : Int) - 1) = ((m * (m - 1) : Nat) : Int) := by
  cases m with
  | zero => rfl
  | succ n =>
    rw [Nat.add_sub_cancel]
    push_cast
    congr 1
    omega
theorem half_int (mm m : Nat) (h : m ≤ 32) (hm : mm ≤ 10000) : wrap64 ((mm : Int) + wrap64 ((wrap64 ((m : Int) * ((m : Int) - 1))).tdiv 2)) = ((mm + m * (m - 1) / 2 : Nat) : Int) := by
  have h1 : m * (m - 1) ≤ 32 * 31 := Nat.mul_le_mul h (by omega)
  have h2 := half_le m h
  rw [prod_int, IntWalk.wrap64_in ((m * (m - 1) : Nat) : Int) (by omega)]
  rw [show (((m * (m - 1) : Nat) : Int)).tdiv 2 = ((m * (m - 1) / 2 : Nat) : Int) from rfl, IntWalk.wrap64_in ((m * (m - 1) / 2 : Nat) : Int) (by omega), IntWalk.wrap64_in _ (by omega)]
  push_cast
  rfl
theorem pair_of {h : List Txn} {i : Nat} (hi : i < (pairs h).length) : ∃ (ha : (pairs h)[i].2.1 < h.length) (hb : (pairs h)[i].2.2 < h.length), (pairs h)[i].2.1 < (pairs h)[i].2.2 ∧ ((pairs h)[i].1 : Int) ∈ h[(pairs h)[i].2.1].writes ∧ ((pairs h)[i].1 : Int) ∈ h[(pairs h)[i].2.2].writes := by
  obtain ⟨_, h2, h3, h4⟩ := mem_pairs (List.getElem_mem hi)
  obtain ⟨ha, ma⟩ := mem_writers.1 h3
  obtain ⟨hb, mb⟩ := mem_writers.1 h4
  exact ⟨ha, hb, h2, ma, mb⟩
theorem pairs_next {h : List Txn} {i j : Nat} (hj : j < (pairs h).length) (hij : i < j) : lt3 (pairs h)[i] (pairs h)[j] := List.pairwise_iff_getElem.1 (pairs_rise h) i j (by omega) hj hij
end Ix

/-- A variable that holds a choice. -/
structure ChVar (w : World) (b : Nat) (x : Nat × Nat × Nat) : Prop where
  c0 : w.cell? ⟨b, 0, none⟩ = some (.int .i64 (x.1 : Int))
  c1 : w.cell? ⟨b, 1, none⟩ = some (.int .i64 (x.2.1 : Int))
  c2 : w.cell? ⟨b, 2, none⟩ = some (.int .i64 (x.2.2 : Int))
theorem ChVar.new (w : World) (x : Nat × Nat × Nat) (ty : TypeId) : ChVar (w.alloc (.cells #[.int .i64 (x.1 : Int), .int .i64 (x.2.1 : Int), .int .i64 (x.2.2 : Int)] ty)) w.heap.size x :=
  ⟨new_cell w _ _ 0 _ rfl, new_cell w _ _ 1 _ rfl, new_cell w _ _ 2 _ rfl⟩
theorem its_form {w : World} {v : Value} {l : List (Int × Int)} (h : Its w v l) : ∃ A n c, v = .slice A n c := by
  obtain ⟨A, c, e, _⟩ := h.spelled
  exact ⟨A, _, c, e⟩
set_option maxHeartbeats 4000000 in
theorem lawIndexPairs (h : List So.Txn) (u : Value) (w : World) (hv : Txns w u h) : Calls Try.prog 4 #[.agg #[u]] w (RetBool w true) := by
  have B0 := Lib.hid (alloc_below w (.cells #[u] 24))
  have V0 := Lib.hid (hv.below B0.out)
  have N0 := Lib.hid (Boxed.new w 24 u)
  obtain ⟨A, c, rfl, -⟩ := hv.spelled
  clear hv
  go_enter Try.func4, Try.ntmps4
  go_wp2_with fail
  generalize w.alloc (.cells #[.slice A h.length c] 24) = w1 at *
  refine (ixAwake_at w1).mono ?_
  rintro e w2 ⟨rfl, hb2⟩
  have B2 := Lib.hid hb2
  have n2 := (Boxed.later N0.out hb2).cell
  clear hb2
  go_wp2_with fail
  refine (few8_at h _ w2 (V0.out.below B2.out)).mono ?_
  rintro e w3 ⟨rfl, hb3⟩
  have B3 := Lib.hid (below_all B2.out hb3)
  have n3 := (Boxed.later N0.out B3.out).cell
  clear hb3 n2
  cases hf : Hi.fewB h with
  | false =>
    clear hf
    go_wp2_with fail
    go_ret
    exact ⟨rfl, below_all B0.out B3.out⟩
  | true =>
  have HS : Hid (Ix.Small h) := (Hi.few_small hf).2
  clear hf
  have HPA := Lib.hid (fun W (hw : Txns W (.slice A h.length c) h) => pairs9_at h _ W hw HS.out)
  have HYES := Lib.hid (fun q => @Ix.pairsA_yes h q)
  have HNO := Lib.hid (fun q => @Ix.pairsA_no h q)
  generalize Ix.pairsA h = P at *
  go_wp2_with fail
  refine (HPA.out w3 (V0.out.below B3.out)).mono ?_
  rintro e w4 ⟨v4, rfl, hv4, hb4⟩
  have B4 := Lib.hid (below_all B3.out hb4)
  have n4 := (Boxed.later N0.out B4.out).cell
  have HP4 := Lib.hid hv4
  obtain ⟨A4, c4, rfl, -⟩ := hv4.spelled
  clear hv4 hb4 n3
  go_wp2_with fail
  refine (hRight_at h _ w4 (V0.out.below B4.out) HS.out.2).mono ?_
  rintro e w5 ⟨rfl, hb5⟩
  have B5 := Lib.hid (below_all B4.out hb5)
  have HP5 := Lib.hid (HP4.out.below hb5)
  clear hb5 n4 HP4
  cases hr : Hi.rightB h with
  | false =>
    have hp : P.length = 0 := by rw [HNO.out hr]; rfl
    clear hr
    go_wp2_with fail
    go_ret
    exact ⟨rfl, below_all B0.out B5.out⟩
  | true =>
  have HG : Hid (Hi.Right h) := (Hi.rightB_iff h).1 hr
  obtain rfl : P = Ix.pairs h := HYES.out hr
  have HWY := Lib.hid (fun key => @Ix.writersA_yes h hr key)
  have V5 := Lib.hid (V0.out.below B5.out)
  have N5 := Lib.hid (Boxed.later N0.out B5.out)
  clear hr HYES HNO HPA V0 N0 B2 B3 B4
  have hpl : (Ix.pairs h).length ≤ 20000 := by
    rw [Ix.pairs_len]
    have := Ix.manyTo_le HG.out.1 16
    omega
  go_wp2_with fail
  go_loopw [6, 7] (fun s6 s7 wr => ∃ k : Nat, k ≤ 16 ∧ s7 = .int .i64 k ∧ s6 = .int .i64 (Ix.manyTo h k : Int) ∧ Hid (Below w5.heap.size w5 wr)) (fun _ s7 _ => 16 - (intOf s7).toNat)
  case atStart => exact ⟨0, Nat.zero_le _, rfl, rfl, Below.refl _ _⟩
  case round =>
    obtain ⟨k, hk, rfl, rfl, HB⟩ := hrel
    by_cases hlt : k < 16
    · have d0 : decide ((k : Int) < 16) = true := decide_eq_true (by omega)
      have n6 := (Boxed.later N5.out HB.out).cell
      have HWR := Lib.hid (fun W (hw : Txns W (.slice A h.length c) h) => writers9_at h _ (k : Int) W hw HS.out)
      rw [HWY.out (k : Int)] at HWR
      have hm : (Ix.writers h (k : Int)).length ≤ 32 := Nat.le_trans (Ix.writers_len h _) HG.out.1
      have HMS := Lib.hid (Ix.manyTo_succ h k)
      have hml := Ix.manyTo_le HG.out.1 k
      generalize Ix.manyTo h k = mm at *
      generalize Ix.writers h (k : Int) = lw at *
      go_wp2_with fail
      refine (HWR.out wr (V5.out.below HB.out)).mono ?_
      rintro e w6 ⟨v6, rfl, hv6, hb6⟩
      have HB6 := Lib.hid (below_all HB.out hb6)
      obtain ⟨A6, c6, rfl, -⟩ := nums_spelled hv6
      clear hv6 hb6 HB n6 HWR
      generalize lw.length = m at *
      have HHALF := Lib.hid (Ix.half_int mm m hm (by omega))
      go_wp2_with fail
      go_roundw
      case rel =>
        refine ⟨k + 1, by omega, by go_num, ?_, HB6⟩
        rw [HHALF.out, HMS.out]
      case measure => simp [intOf]; omega
    · have d0 : decide ((k : Int) < 16) = false := decide_eq_false (by omega)
      have hmany : Ix.manyTo h k = (Ix.pairs h).length := by
        rw [Ix.pairs_len]
        congr 1
        omega
      rw [hmany]
      clear hmany
      go_wp2_with fail
      go_loopw [9] (fun s9 wx => ∃ i : Nat, i ≤ (Ix.pairs h).length ∧ s9 = .int .i64 i ∧ Hid (Below w5.heap.size w5 wx)) (fun s9 _ => (Ix.pairs h).length - (intOf s9).toNat)
      case atStart => exact ⟨0, Nat.zero_le _, rfl, HB⟩
      case round =>
        clear HB
        obtain ⟨i, hi, rfl, HX⟩ := hrel
        have n7 := (Boxed.later N5.out HX.out).cell
        by_cases hil : i < (Ix.pairs h).length
        · obtain ⟨_, _, e7, hrow⟩ := (HP5.out.below HX.out).spelled
          simp only [Value.slice.injEq] at e7
          obtain ⟨rfl, -, rfl⟩ := e7
          have HROW := Lib.hid hrow
          have HNEXT := Lib.hid (fun j hj => @Ix.pairs_next h j i hil hj)
          obtain ⟨ad, rfl, hblk, hE⟩ := hrow i hil
          obtain ⟨_, _, e8, hform⟩ := (V5.out.below HX.out).spelled
          simp only [Value.slice.injEq] at e8
          obtain ⟨rfl, -, rfl⟩ := e8
          obtain ⟨ha, hb, hab, ma, mb⟩ := Ix.pair_of hil
          obtain ⟨ada, xa, ya, rfl, hblka, hEa, hxa, hya⟩ := hform _ ha
          obtain ⟨_, xb, yb, e10, hblkb, hEb, hxb, hyb⟩ := hform _ hb
          cases e10
          have hla := (HS.out.2 _ (List.getElem_mem ha)).1
          have hlb := (HS.out.2 _ (List.getElem_mem hb)).1
          clear hrow hform
          generalize hx : (Ix.pairs h)[i] = x at *
          obtain ⟨k0, a, b⟩ := x
          dsimp only at hE ha hb hab ma mb hEa hxa hya hEb hxb hyb hla hlb HNEXT
          generalize h[a] = ta at *
          generalize h[b] = tb at *
          obtain ⟨Aa, ca, rfl, -⟩ := hxa.spelled
          obtain ⟨Ya, na, da, rfl⟩ := its_form hya
          obtain ⟨Ab, cb, rfl, -⟩ := hxb.spelled
          obtain ⟨Yb, nb, db, rfl⟩ := its_form hyb
          obtain ⟨c0, c1, c2⟩ := hE
          obtain ⟨a0, a1, a2⟩ := hEa
          obtain ⟨b0, b1, b2⟩ := hEb
          have hai : (a : Int) < (h.length : Int) := by omega
          have hbi : (b : Int) < (h.length : Int) := by omega
          have p1 : decide ((a : Int) < 0) = false := decide_eq_false (by omega)
          have p2 : decide ((b : Int) ≤ (a : Int)) = false := decide_eq_false (by omega)
          have p3 : decide (b ≤ a) = false := decide_eq_false (by omega)
          have p4 : decide ((h.length : Int) ≤ (b : Int)) = false := decide_eq_false (by omega)
          have p5 : decide (h.length ≤ b) = false := decide_eq_false (by omega)
          have hcv := ChVar.new wr (k0, a, b) 40
          have hb1 := alloc_below wr (.cells #[.int .i64 (k0 : Int), .int .i64 (a : Int), .int .i64 (b : Int)] 40)
          have HXA := Lib.hid (hxa.below hb1)
          have HXB := Lib.hid (hxb.below hb1)
          have HX1 := Lib.hid (below_all HX.out hb1)
          have HKK : Hid (∀ p v, wr.cell? p = some v → (wr.alloc (.cells #[.int .i64 (k0 : Int), .int .i64 (a : Int), .int .i64 (b : Int)] 40)).cell? p = some v) := fun p v hc => cell_stays hb1 hc
          have HCA : Hid (∀ W', Below (wr.alloc (.cells #[.int .i64 (k0 : Int), .int .i64 (a : Int), .int .i64 (b : Int)] 40)).heap.size (wr.alloc (.cells #[.int .i64 (k0 : Int), .int .i64 (a : Int), .int .i64 (b : Int)] 40)) W' → W'.cell? ⟨w.heap.size, 0, none⟩ = some (.slice (some ada) h.length c) ∧ W'.cell? ⟨wr.heap.size, 0, none⟩ = some (.int .i64 (k0 : Int)) ∧ W'.cell? ⟨wr.heap.size, 1, none⟩ = some (.int .i64 (a : Int)) ∧ W'.cell? ⟨wr.heap.size, 2, none⟩ = some (.int .i64 (b : Int)) ∧
              W'.cell? (ada.add (a * 3)) = some (.int .i64 ta.session) ∧ W'.cell? ⟨(ada.add (a * 3)).block, (ada.add (a * 3)).off + 1, none⟩ = some (.slice Aa ta.writes.length ca) ∧ W'.cell? ⟨(ada.add (a * 3)).block, (ada.add (a * 3)).off + 2, none⟩ = some (.slice Ya na da) ∧
              W'.cell? (ada.add (b * 3)) = some (.int .i64 tb.session) ∧ W'.cell? ⟨(ada.add (b * 3)).block, (ada.add (b * 3)).off + 1, none⟩ = some (.slice Ab tb.writes.length cb) ∧ W'.cell? ⟨(ada.add (b * 3)).block, (ada.add (b * 3)).off + 2, none⟩ = some (.slice Yb nb db)) := fun W' hb' =>
            have k := fun {p : Addr} {v : Value} (hc : wr.cell? p = some v) => cell_stays (below_new hb') hc
            ⟨k n7, cell_stays hb' hcv.c0, cell_stays hb' hcv.c1, cell_stays hb' hcv.c2, k a0, k a1, k a2, k b0, k b1, k b2⟩
          obtain ⟨n8, x0, x1, x2, a0', a1', a2', b0', b1', b2'⟩ := HCA.out _ (Below.refl _ _)
          clear a0 a1 a2 b0 b1 b2 hxa hxb hya hyb hcv hb1 hblka hblkb
          go_wp2_with fail
          generalize wr.heap.size = N at *
          generalize wr.alloc (.cells #[.int .i64 (k0 : Int), .int .i64 (a : Int), .int .i64 (b : Int)] 40) = W1 at *
          have D1 := Lib.hid (Below.refl W1.heap.size W1).drew
          go_region_held3 (fun w' => w'.cell? ⟨w.heap.size, 0, none⟩ = some (.slice (some ada) h.length c) ∧ w'.cell? ⟨N, 0, none⟩ = some (.int .i64 (k0 : Int)) ∧ w'.cell? ⟨N, 1, none⟩ = some (.int .i64 (a : Int)) ∧ w'.cell? (ada.add (a * 3)) = some (.int .i64 ta.session) ∧ w'.cell? ⟨(ada.add (a * 3)).block, (ada.add (a * 3)).off + 1, none⟩ = some (.slice Aa ta.writes.length ca) ∧ w'.cell? ⟨(ada.add (a * 3)).block, (ada.add (a * 3)).off + 2, none⟩ = some (.slice Ya na da))
            (first | (exact ⟨n8, x0, x1, a0', a1', a2'⟩) | (obtain ⟨m0, m1, m2, _, m4, m5, m6, _⟩ := HCA.out _ D1.out; exact ⟨m0, m1, m2, m4, m5, m6⟩) | (obtain ⟨m0, m1, m2, _, m4, m5, m6, _⟩ := HCA.out _ H8.out; exact ⟨m0, m1, m2, m4, m5, m6⟩))
            (first | (go_at_call 22; (with_reducible refine (rWrites8_at ta _ _ (k0 : Int) _ (HXA.out.below D1.out) ⟨_, _, _, rfl⟩ hla).mono ?_); rintro e w8 ⟨rfl, hb8⟩; rw [decide_eq_true ma]; have H8 := Lib.hid (below_all D1.out hb8); clear hb8))
          all_goals
            clear n8 x0 x1 x2 a0' a1' a2' b0' b1' b2'
            obtain ⟨n8, x0, x1, x2, a0', a1', a2', b0', b1', b2'⟩ := HCA.out _ H8.out
            have D9 := Lib.hid (below_all H8.out (Below.refl w8.heap.size w8).drew)
            go_wp2_with fail
            go_region_held3 (fun w' => w'.cell? ⟨w.heap.size, 0, none⟩ = some (.slice (some ada) h.length c) ∧ w'.cell? ⟨N, 0, none⟩ = some (.int .i64 (k0 : Int)) ∧ w'.cell? ⟨N, 2, none⟩ = some (.int .i64 (b : Int)) ∧ w'.cell? (ada.add (b * 3)) = some (.int .i64 tb.session) ∧ w'.cell? ⟨(ada.add (b * 3)).block, (ada.add (b * 3)).off + 1, none⟩ = some (.slice Ab tb.writes.length cb) ∧ w'.cell? ⟨(ada.add (b * 3)).block, (ada.add (b * 3)).off + 2, none⟩ = some (.slice Yb nb db))
              (first | (exact ⟨n8, x0, x2, b0', b1', b2'⟩) | (obtain ⟨m0, m1, _, m3, _, _, _, m7, m8, m9⟩ := HCA.out _ D9.out; exact ⟨m0, m1, m3, m7, m8, m9⟩) | (obtain ⟨m0, m1, _, m3, _, _, _, m7, m8, m9⟩ := HCA.out _ H10.out; exact ⟨m0, m1, m3, m7, m8, m9⟩))
              (first | (go_at_call 22; (with_reducible refine (rWrites8_at tb _ _ (k0 : Int) _ (HXB.out.below D9.out) ⟨_, _, _, rfl⟩ hlb).mono ?_); rintro e w10 ⟨rfl, hb10⟩; rw [decide_eq_true mb]; have H10 := Lib.hid (below_all D9.out hb10); clear hb10))
            all_goals
              clear n8 x0 x1 x2 a0' a1' a2' b0' b1' b2'
              obtain ⟨n8, x0, x1, x2, -, -, -, -, -, -⟩ := HCA.out _ H10.out
              have HX10 := Lib.hid (below_all HX1.out H10.out)
              by_cases hi0 : i = 0
              · have q3 : decide ((0 : Int) < (i : Int)) = false := by simp; omega
                have q4 : decide (0 < i) = false := by simp; omega
                clear hi0
                go_wp2_with fail
                go_roundw
                case rel => exact ⟨i + 1, by omega, by go_num, HX10⟩
                case measure => simp [intOf]; omega
              · obtain ⟨j1, hj1⟩ : ∃ j1, i = j1 + 1 := ⟨i - 1, by omega⟩
                have hj2 : j1 < (Ix.pairs h).length := by omega
                have hlt3 := HNEXT.out j1 (by omega)
                obtain ⟨_, e9, _, hE9⟩ := HROW.out j1 hj2
                cases e9
                generalize (Ix.pairs h)[j1] = y at *
                obtain ⟨k9, a9, b9⟩ := y
                obtain ⟨c90, c91, c92⟩ := hE9
                have q3 : decide ((0 : Int) < (i : Int)) = true := by simp; omega
                have q4 : decide (0 < i) = true := by simp; omega
                have hs1 : IntKind.i64.wrap ((i : Int) - 1) = (j1 : Int) := by rw [IntWalk.i64_in _ (by omega)]; omega
                have hs2 : (i : Int) - 1 = (j1 : Int) := by omega
                have hs3 : wrap64 ((i : Int) - 1) = (j1 : Int) := by rw [IntWalk.wrap64_in _ (by omega)]; omega
                clear hj1 hi0
                have z0 := cell_stays H10.out (HKK.out _ _ c90)
                have z1 := cell_stays H10.out (HKK.out _ _ c91)
                have z2 := cell_stays H10.out (HKK.out _ _ c92)
                have HX11 := Lib.hid (below_all HX10.out (alloc_below w10 (.cells #[.int .i64 (k9 : Int), .int .i64 (a9 : Int), .int .i64 (b9 : Int)] 40)))
                have y0 := cell_stays (alloc_below w10 (.cells #[.int .i64 (k9 : Int), .int .i64 (a9 : Int), .int .i64 (b9 : Int)] 40)) x0
                have y1 := cell_stays (alloc_below w10 (.cells #[.int .i64 (k9 : Int), .int .i64 (a9 : Int), .int .i64 (b9 : Int)] 40)) x1
                have y2 := cell_stays (alloc_below w10 (.cells #[.int .i64 (k9 : Int), .int .i64 (a9 : Int), .int .i64 (b9 : Int)] 40)) x2
                clear c90 c91 c92 n8 x0 x1 x2
                dsimp only at z0 z1 z2
                rcases hlt3 with hk | ⟨hk, ha9 | ⟨ha9, hb9⟩⟩
                · dsimp only at hk
                  have e1 : ((k0 : Int) == (k9 : Int)) = false := beq_eq_false_iff_ne.2 (by omega)
                  have e2 : (k0 == k9) = false := beq_eq_false_iff_ne.2 (by omega)
                  have e3 : decide ((k0 : Int) < (k9 : Int)) = false := decide_eq_false (by omega)
                  have e4 : decide (k0 < k9) = false := decide_eq_false (by omega)
                  clear hk
                  go_wp2_with fail
                  go_roundw
                  case rel => exact ⟨i + 1, by omega, by go_num, HX11⟩
                  case measure => simp [intOf]; omega
                · dsimp only at hk ha9
                  subst hk
                  have e1 : ((a : Int) == (a9 : Int)) = false := beq_eq_false_iff_ne.2 (by omega)
                  have e2 : (a == a9) = false := beq_eq_false_iff_ne.2 (by omega)
                  have e3 : decide ((a : Int) < (a9 : Int)) = false := decide_eq_false (by omega)
                  have e4 : decide (a < a9) = false := decide_eq_false (by omega)
                  clear ha9
                  go_wp2_with fail
                  go_roundw
                  case rel => exact ⟨i + 1, by omega, by go_num, HX11⟩
                  case measure => simp [intOf]; omega
                · dsimp only at hk ha9 hb9
                  subst hk
                  subst ha9
                  have e3 : decide ((b : Int) ≤ (b9 : Int)) = false := decide_eq_false (by omega)
                  have e4 : decide (b ≤ b9) = false := decide_eq_false (by omega)
                  clear hb9
                  go_wp2_with fail
                  go_roundw
                  case rel => exact ⟨i + 1, by omega, by go_num, HX11⟩
                  case measure => simp [intOf]; omega
        · go_wp2_with fail
          go_ret
          exact ⟨by simp, below_all B0.out (below_all B5.out HX.out)⟩
end Go.Proofs.Ytehnmpbongabeaa
