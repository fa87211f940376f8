/-
  What reach's Close, Cyclic and From answer.
  Conditions: rows hold sets below 2^64; the library's table for the lowest bit holds what its text says.
-/
import Derived.Test.YtadgfplaabgkfaaDoorRcWalkA
set_option maxRecDepth 4000
namespace Go.Proofs.YtadgfplaabgkfaaDoor
open Go.RowKit

set_option maxHeartbeats 1000000 in
theorem rcClose_no (n : Int) (u : Value) (a : List Nat) (w : World) (hu : Us w u a) (ha : ∀ x ∈ a, x < 18446744073709551616) (hno : Gf.okB n a = false) : Calls Tryd.prog 10 #[.agg #[.int .i64 n, u]] w (RetNoG w) := by
  have HU := Lib.hid hu
  obtain ⟨A, c, rfl, -⟩ := hu.spelled
  have F1 := Lib.hid (fun w h1 => gfRight_at n (.slice A a.length c) a w h1 ha)
  rw [hno] at F1
  clear ha hu hno
  go_enter Tryd.func10, Tryd.ntmps10
  go_wp2_with fail
  obtain ⟨t0, t1, bw⟩ := gf_one w n (.slice A a.length c) rfl
  have T2 := Lib.hid t1
  have BW := Lib.hid bw
  clear t0 t1 bw
  generalize (w.alloc (.cells #[.int .i64 n, .slice A a.length c] 24)).alloc (.cells #[.int .i64 0, .slice none 0 0] 24) = W at *
  refine (F1.out _ (HU.out.below BW.out)).mono ?_
  rintro e w1 ⟨rfl, hb1⟩
  have B1 := Lib.hid (below_all BW.out hb1)
  have TR := Lib.hid (T2.out.later hb1)
  obtain ⟨r0, r1⟩ := TR.out.cells
  have f0 := TR.out.frozen 0
  have f1 := TR.out.frozen 1
  clear hb1
  go_wp2_with fail
  exact end_no (p := 2) (u := 3) rfl TR.out B1.out (by omega) _ rfl rfl

set_option maxHeartbeats 2000000 in
theorem rcClose_at (n : Nat) (u : Value) (a : List Nat) (w : World) (hT : TZ w) (hu : Us w u a) (ha : Gf.Ok n a) : Calls Tryd.prog 10 #[.agg #[.int .i64 n, u]] w (RetG w n (Rc.closeR n a)) := by
  have HU := Lib.hid hu
  have HT := Lib.hid hT
  obtain ⟨A, c, rfl, -⟩ := hu.spelled
  have F1 := Lib.hid (fun w h1 => gfRight_at n (.slice A a.length c) a w h1 (fun x hx => ha.small hx))
  rw [(Gf.okB_nat n a).2 ha] at F1
  have F2 := Lib.hid (fun x w (h : x < n) h1 h2 => rcReached_at n (.slice A a.length c) a x w h1 h2 ha h)
  have hn64 := ha.1
  have hmk := fun w => gf_make w n (Nat.le_trans ha.1 (by decide))
  obtain ⟨f, hf⟩ : ∃ f : Nat → Nat → Bool, f = Rc.war a n := ⟨_, rfl⟩
  have HFR : Hid (∀ x, Rc.fromR n a x = Gf.setTo (f x) n) := fun x => by rw [hf]; rfl
  have HE : Hid (Gf.rowsAt n f n 0 = Rc.closeR n a) := by rw [hf]; exact Gf.rowsAt_all n _ 0
  have HZ := Lib.hid (Gf.rowsAt_zero n f)
  have HN : Hid (∀ x, (Gf.rowsAt n f x 0).set x (Gf.setTo (f x) n) = Gf.rowsAt n f (x + 1) 0) := fun x => by rw [Gf.rowsAt_set, Gf.rowsAt_next]
  have HRL := Lib.hid (fun x s => Gf.rowsAt_len n f x s)
  clear hu ha hf hT
  go_enter Tryd.func10, Tryd.ntmps10
  go_wp2_with fail
  obtain ⟨t0, t1, bw⟩ := gf_one w n (.slice A a.length c) rfl
  have T0 := Lib.hid t0
  have T1 := Lib.hid t1
  have BW := Lib.hid bw
  clear t0 t1 bw
  generalize (w.alloc (.cells #[.int .i64 n, .slice A a.length c] 24)).alloc (.cells #[.int .i64 0, .slice none 0 0] 24) = W at *
  refine (F1.out _ (HU.out.below BW.out)).mono ?_
  rintro e w1 ⟨rfl, hb1⟩
  have B1 := Lib.hid (below_all BW.out hb1)
  have T10 := Lib.hid (T0.out.later hb1)
  have T11 := Lib.hid (T1.out.later hb1)
  obtain ⟨c0, c1⟩ := T10.out.cells
  clear hb1 T0 T1
  go_upto_region 4 with fail
  have HB : Hid (Lone w (w1.alloc (.cells (madeCells #[.int .u64 0] n) 34)) w1.heap.size n (.slice A a.length c) (Gf.rowsAt n f 0 0)) := by
    have b2 := alloc_below w1 (.cells (madeCells #[.int .u64 0] n) 34)
    exact ⟨T10.out.later b2, T11.out.later b2, by rw [HZ.out]; exact RowU.made w1 n, T11.out.lt, below_all B1.out b2⟩
  generalize w1.alloc (.cells (madeCells #[.int .u64 0] n) 34) = w2 at *
  generalize w1.heap.size = g at *
  clear c0 c1 T10 T11
  go_wp2_with fail
  go_loopw [15] (fun i wr => ∃ x : Nat, x ≤ n ∧ i = .int .i64 x ∧ Hid (Lone w wr g n (.slice A a.length c) (Gf.rowsAt n f x 0))) (fun i _ => n - (intOf i).toNat)
  case atStart => exact ⟨0, Nat.zero_le _, rfl, HB.out⟩
  case round =>
    clear HB
    obtain ⟨x, hx, rfl, HB⟩ := hrel
    by_cases hlt : x < n
    · obtain ⟨c0, c1⟩ := HB.out.one.cells
      have hxr : x < (Gf.rowsAt n f x 0).length := by rw [HRL.out]; exact hlt
      have F3 := Lib.hid (F2.out x wr hlt (HT.out.below HB.out.below) (HU.out.below HB.out.below))
      rw [HFR.out] at F3
      have HN2 := Lib.hid (HN.out x)
      generalize Gf.setTo (f x) n = s at *
      go_wp2_with fail
      refine F3.out.mono ?_
      rintro e w3 ⟨rfl, hb3⟩
      have HB3 := Lib.hid (HB.out.later hb3)
      have e3 := HB3.out.row.cell x hxr
      have f3 := HB3.out.row.frozen x
      have HB4 := Lib.hid (HB3.out.put x hxr s)
      rw [HN2.out] at HB4
      clear c0 c1 hb3
      go_wp2_with fail
      go_roundw
      case rel => exact ⟨x + 1, by omega, by go_num, HB4.out⟩
      case measure => simp [intOf]; omega
    · obtain rfl : x = n := by omega
      obtain ⟨c0, c1⟩ := HB.out.one.cells
      obtain ⟨r0, r1⟩ := HB.out.res.cells
      have f0 := HB.out.res.frozen 0
      have f1 := HB.out.res.frozen 1
      go_wp2_with fail
      rw [← HE.out]
      exact HB.out.done (p := 2) (q := 3) rfl (by rw [HRL.out]; simp only [maxLen]; omega) _ (HRL.out _ _).symm _ rfl rfl

/-- Whatever Close answers, in one form. -/
theorem rcClose_any (n : Int) (v : Value) (l : List Nat) (w : World) (hT : TZ w) (hv : Us w v l) (hs : ∀ x ∈ l, x < 18446744073709551616) : Calls Tryd.prog 10 #[.agg #[.int .i64 n, v]] w fun e w' =>
    ∃ (nx ex : Int) (lx : List Nat) (vx : Value), e = .returned (.tuple #[.agg #[.int .i64 nx, vx], .int .i64 ex]) ∧ Us w' vx lx ∧ Below w.heap.size w w' ∧ ((Gf.okB n l = true ∧ nx = n ∧ ex = 0 ∧ lx = Rc.closeR n.toNat l) ∨ (Gf.okB n l = false ∧ nx = 0 ∧ ex = 1 ∧ lx = [])) := by
  cases h : Gf.okB n l with
  | false =>
    refine (rcClose_no n v l w hv hs h).mono ?_
    rintro e w' ⟨rfl, hb⟩
    exact ⟨0, 1, [], _, rfl, Us.nil _ _, hb, .inr ⟨rfl, rfl, rfl, rfl⟩⟩
  | true =>
    obtain ⟨k, rfl, hok⟩ := Gf.okB_iff.1 h
    refine (rcClose_at k v l w hT hv hok).mono ?_
    rintro e w' ⟨v', rfl, ho, hb⟩
    exact ⟨k, 0, _, v', rfl, ho.us, hb, .inl ⟨rfl, rfl, rfl, by rw [Int.toNat_natCast]⟩⟩

set_option maxHeartbeats 2000000 in
theorem rcCyclic_at (n : Int) (u : Value) (l : List Nat) (w : World) (hT : TZ w) (hu : Us w u l) (hs : ∀ x ∈ l, x < 18446744073709551616) : Calls Tryd.prog 12 #[.agg #[.int .i64 n, u]] w (RetBool w (Rc.cyclicA n l)) := by
  have HU := Lib.hid hu
  have HT := Lib.hid hT
  obtain ⟨A, c, rfl, -⟩ := hu.spelled
  have T0 := Lib.hid (Two.new w 24 (.int .i64 n) (.slice A l.length c))
  have BW := Lib.hid (alloc_below w (.cells #[.int .i64 n, .slice A l.length c] 24))
  have F1 := Lib.hid (fun w h => gfRight_at n (.slice A l.length c) l w h hs)
  clear hs hu hT
  cases h : Gf.okB n l with
  | false =>
    have HR : Hid (Rc.cyclicA n l = false) := by rw [Hid, Rc.cyclicA, h]; rfl
    rw [h] at F1
    clear h
    go_enter Tryd.func12, Tryd.ntmps12
    go_wp2_with fail
    generalize w.alloc (.cells #[.int .i64 n, .slice A l.length c] 24) = W at *
    refine (F1.out _ (HU.out.below BW.out)).mono ?_
    rintro e w1 ⟨rfl, hb1⟩
    have B1 := Lib.hid (below_all BW.out hb1)
    clear hb1
    go_wp2_with fail
    go_ret
    exact ⟨ret_bool HR.out.symm, B1.out⟩
  | true =>
    obtain ⟨k, rfl, hok⟩ := Gf.okB_iff.1 h
    have HR : Hid (Rc.cyclicA (k : Int) l = Rc.cyclicR k l) := by rw [Hid, Rc.cyclicA, h, Int.toNat_natCast]; rfl
    rw [h] at F1
    have hn64 := hok.1
    have F2 := Lib.hid (fun x w (h : x < k) h1 h2 => rcReached_at k (.slice A l.length c) l x w h1 h2 hok h)
    have HY := Lib.hid (fun x hx h => @Rc.back_yes k l x hx h)
    have HN := Lib.hid (fun h => @Rc.back_no k l h)
    have HLT := Lib.hid (fun x => Rc.from_lt k l x)
    have HBT : Hid (∀ x, x < k → Bi.has (Rc.fromR k l x) (x : Int) = (Rc.fromR k l x).testBit x) := fun x hx => Bi.has_nat _ x (by omega)
    clear h hok
    go_enter Tryd.func12, Tryd.ntmps12
    go_wp2_with fail
    generalize w.alloc (.cells #[.int .i64 (k : Int), .slice A l.length c] 24) = W at *
    refine (F1.out _ (HU.out.below BW.out)).mono ?_
    rintro e w1 ⟨rfl, hb1⟩
    have B1 := Lib.hid (below_all BW.out hb1)
    have T1 := Lib.hid (T0.out.later hb1)
    clear hb1 T0 BW
    obtain ⟨a0, a1⟩ := T1.out.cells
    go_wp2_with fail
    clear a0 a1
    go_loopw [9] (fun i wr => ∃ x : Nat, x ≤ k ∧ i = .int .i64 x ∧ Hid (∀ y, y < x → (Rc.fromR k l y).testBit y = false) ∧ Hid (Below w1.heap.size w1 wr)) (fun i _ => k - (intOf i).toNat)
    case atStart => exact ⟨0, Nat.zero_le _, rfl, (fun y h => absurd h (Nat.not_lt_zero y)), Below.refl _ _⟩
    case round =>
      obtain ⟨x, hx, rfl, HQ, HB⟩ := hrel
      obtain ⟨a0, a1⟩ := (T1.out.later HB.out).cells
      have B2 := Lib.hid (below_all B1.out HB.out)
      by_cases hlt : x < k
      · have F3 := Lib.hid (F2.out x wr hlt (HT.out.below B2.out) (HU.out.below B2.out))
        have HS := Lib.hid (HLT.out x)
        have HBX := Lib.hid (HBT.out x hlt)
        have HYX := Lib.hid (HY.out x hlt)
        have HQX : Hid ((Rc.fromR k l x).testBit x = false → ∀ y, y < x + 1 → (Rc.fromR k l y).testBit y = false) := fun h y hy => by
          rcases Nat.lt_or_ge y x with q | q
          · exact HQ.out y q
          · obtain rfl : y = x := by omega
            exact h
        generalize Rc.fromR k l x = s at *
        go_wp2_with fail
        refine F3.out.mono ?_
        rintro e w3 ⟨rfl, hb3⟩
        have B3 := Lib.hid (below_all HB.out hb3)
        have B4 := Lib.hid (below_all B1.out B3.out)
        clear hb3
        go_wp2_with fail
        refine (biHas_at s (x : Int) _ HS.out).mono ?_
        rintro e w4 ⟨rfl, rfl⟩
        rw [HBX.out]
        cases hb : s.testBit x with
        | true =>
          have HRY := Lib.hid (HYX.out hb)
          go_wp2_with fail
          go_ret
          exact ⟨ret_bool (HR.out.trans HRY.out).symm, B4.out⟩
        | false =>
          have HQY := Lib.hid (HQX.out hb)
          go_wp2_with fail
          go_roundw
          case rel => exact ⟨x + 1, by omega, by go_num, HQY.out, B3.out⟩
          case measure => simp [intOf]; omega
      · obtain rfl : x = k := by omega
        have HRN := Lib.hid (HN.out HQ.out)
        go_wp2_with fail
        go_ret
        exact ⟨ret_bool (HR.out.trans HRN.out).symm, B2.out⟩

set_option maxHeartbeats 1000000 in
theorem rcFrom_at (n : Int) (u : Value) (l : List Nat) (a : Int) (w : World) (hT : TZ w) (hu : Us w u l) (hs : ∀ x ∈ l, x < 18446744073709551616) : Calls Tryd.prog 13 #[.agg #[.int .i64 n, u], .int .i64 a] w (RetMade w (.int .u64 (Rc.fromA n l a : Nat))) := by
  have HU := Lib.hid hu
  have HT := Lib.hid hT
  obtain ⟨A, c, rfl, -⟩ := hu.spelled
  have T0 := Lib.hid (Two.new w 24 (.int .i64 n) (.slice A l.length c))
  have BW := Lib.hid (alloc_below w (.cells #[.int .i64 n, .slice A l.length c] 24))
  have F1 := Lib.hid (fun w h => gfRight_at n (.slice A l.length c) l w h hs)
  clear hs hu hT
  cases h : Gf.okB n l with
  | false =>
    have hr : Rc.fromA n l a = 0 := by rw [Rc.fromA, h]; rfl
    rw [h] at F1
    rw [hr]
    clear h hr
    go_enter Tryd.func13, Tryd.ntmps13
    go_wp2_with fail
    generalize w.alloc (.cells #[.int .i64 n, .slice A l.length c] 24) = W at *
    refine (F1.out _ (HU.out.below BW.out)).mono ?_
    rintro e w1 ⟨rfl, hb1⟩
    have B1 := Lib.hid (below_all BW.out hb1)
    clear hb1
    go_wp2_with fail
    go_ret
    exact ⟨rfl, B1.out⟩
  | true =>
    rw [h] at F1
    by_cases hlo : a < 0
    · have hr : Rc.fromA n l a = 0 := by rw [Rc.fromA, h, Gf.isN, decide_eq_false (by omega)]; rfl
      rw [hr]
      clear h hr
      go_enter Tryd.func13, Tryd.ntmps13
      go_wp2_with fail
      generalize w.alloc (.cells #[.int .i64 n, .slice A l.length c] 24) = W at *
      refine (F1.out _ (HU.out.below BW.out)).mono ?_
      rintro e w1 ⟨rfl, hb1⟩
      have B1 := Lib.hid (below_all BW.out hb1)
      clear hb1
      go_wp2_with fail
      go_ret
      exact ⟨rfl, B1.out⟩
    · by_cases hhi : n ≤ a
      · have hr : Rc.fromA n l a = 0 := by rw [Rc.fromA, h, Gf.isN, decide_eq_false (p := a < n) (by omega), Bool.and_false]; rfl
        rw [hr]
        clear h hr
        go_enter Tryd.func13, Tryd.ntmps13
        go_wp2_with fail
        generalize w.alloc (.cells #[.int .i64 n, .slice A l.length c] 24) = W at *
        refine (F1.out _ (HU.out.below BW.out)).mono ?_
        rintro e w1 ⟨rfl, hb1⟩
        have B1 := Lib.hid (below_all BW.out hb1)
        obtain ⟨a0, a1⟩ := (T0.out.later hb1).cells
        clear hb1
        go_wp2_with fail
        go_ret
        exact ⟨rfl, B1.out⟩
      · obtain ⟨k, rfl, hok⟩ := Gf.okB_iff.1 h
        obtain ⟨x, rfl⟩ : ∃ x : Nat, a = (x : Int) := ⟨a.toNat, by omega⟩
        have hxk : x < k := by omega
        have hr : Rc.fromA (k : Int) l (x : Int) = Rc.fromR k l x := by rw [Rc.fromA, h, Gf.isN_yes hxk, Int.toNat_natCast, Int.toNat_natCast]; rfl
        have F2 := Lib.hid (fun w h1 h2 => rcReached_at k (.slice A l.length c) l x w h1 h2 hok hxk)
        rw [hr]
        clear h hr hok
        generalize Rc.fromR k l x = s at *
        go_enter Tryd.func13, Tryd.ntmps13
        go_wp2_with fail
        generalize w.alloc (.cells #[.int .i64 (k : Int), .slice A l.length c] 24) = W at *
        refine (F1.out _ (HU.out.below BW.out)).mono ?_
        rintro e w1 ⟨rfl, hb1⟩
        have B1 := Lib.hid (below_all BW.out hb1)
        obtain ⟨a0, a1⟩ := (T0.out.later hb1).cells
        clear hb1
        go_wp2_with fail
        refine (F2.out _ (HT.out.below B1.out) (HU.out.below B1.out)).mono ?_
        rintro e w3 ⟨rfl, hb3⟩
        have B3 := Lib.hid (below_all B1.out hb3)
        clear hb3
        go_wp2_with fail
        go_ret
        exact ⟨rfl, B3.out⟩
end Go.Proofs.YtadgfplaabgkfaaDoor
