/-
  What the reference's Compose of layer 12 answers.
  Conditions: rows hold sets below 2^64.
-/
import Derived.Test.YtcpiaddohiokkaaGfRefC
set_option maxRecDepth 4000
namespace Go.Proofs.Ytcpiaddohiokkaa
open Go.RowKit

set_option maxHeartbeats 4000000 in
theorem rCompose12_at (n : Nat) (u v : Value) (a b : List Nat) (w : World) (hu : Us w u a) (hv : Us w v b) (ha : Gf.Ok n a) (hb : Gf.Ok n b) : Calls Try.prog 23 #[.agg #[.int .i64 n, u], .agg #[.int .i64 n, v]] w (RetR w n (Gf.composeR n a b)) := by
  have HU := Lib.hid hu
  have HV := Lib.hid hv
  obtain ⟨A0, c0', rfl, -⟩ := hu.spelled
  obtain ⟨B0, d0', rfl, -⟩ := hv.spelled
  have HLA := Lib.hid ha.2.1
  have HLB := Lib.hid hb.2.1
  have HSA := Lib.hid (fun x (h : x < a.length) => ha.small (List.getElem_mem h))
  have HSB := Lib.hid (fun x (h : x < b.length) => hb.small (List.getElem_mem h))
  have hn64 := ha.1
  obtain ⟨f, hf⟩ : ∃ f : Nat → Nat → Bool, f = fun x z => (List.range n).any fun y => Gf.bit a x y && Gf.bit b y z := ⟨_, rfl⟩
  have HZ := Lib.hid (Gf.rowsAt_zero n f)
  have HE : Hid (Gf.rowsAt n f n 0 = Gf.composeR n a b) := by rw [hf]; exact Gf.rowsAt_all n _ 0
  have HN : Hid (∀ x, Gf.rowsAt n f x (Gf.midTo a b n x n) = Gf.rowsAt n f (x + 1) 0) := fun x => by
    rw [← Gf.rowsAt_next f x, Gf.midTo_all hn64, hf]
  have HST := Lib.hid (fun x s t => @Gf.rowsAt_set n f x s t)
  have HRH := Lib.hid (fun x (h : x < n) s => Gf.rowsAt_here f h s)
  have HM0 := Lib.hid (fun x => Gf.midTo_zero a b n x)
  have HMY := Lib.hid (fun x y (h : Gf.bit a x y = true) => Gf.midTo_yes (b := b) (n := n) h)
  have HMN := Lib.hid (fun x y (h : Gf.bit a x y = false) => Gf.midTo_no (b := b) (n := n) h)
  have HML := Lib.hid (fun x y => Gf.midTo_lt a b n x y)
  have HP0 := Lib.hid (fun y s => Gf.putTo_zero (Gf.bit b y) s)
  have HPY := Lib.hid (fun y z s (h : Gf.bit b y z = true) => Gf.putTo_yes h s)
  have HPN := Lib.hid (fun y z s (h : Gf.bit b y z = false) => Gf.putTo_no h s)
  have HPL := Lib.hid (fun y z s (h : s < 2 ^ 64) => Gf.putTo_lt (Gf.bit b y) z h)
  have HBA : Hid (∀ x y (hx : x < a.length), y < n → Bi.has a[x] (y : Int) = Gf.bit a x y) := fun x y hx hy => by
    rw [Bi.has_nat _ y (by omega), Gf.bit_at hx]
  have HBB : Hid (∀ y z (hy : y < b.length), z < n → Bi.has b[y] (z : Int) = Gf.bit b y z) := fun y z hy hz => by
    rw [Bi.has_nat _ z (by omega), Gf.bit_at hy]
  have F1 := Lib.hid (fun w => rNew12_at n hn64 w)
  have F2 := Lib.hid (fun w x h y hw => rHas12_at n (.slice A0 a.length c0') a x y w hw h (HSA.out x h))
  have F2' := Lib.hid (fun w x h y hw => rHas12_at n (.slice B0 b.length d0') b x y w hw h (HSB.out x h))
  clear hu hv ha hb hf
  go_enter Try.func23, Try.ntmps23
  go_wp2_with fail
  obtain ⟨t0, t1, t2, bw⟩ := gr_two w n n (.slice A0 a.length c0') (.slice B0 b.length d0') rfl
  have T0 := Lib.hid t0
  have T1 := Lib.hid t1
  have T2 := Lib.hid t2
  have BW := Lib.hid bw
  clear t0 t1 t2 bw
  generalize ((w.alloc (.cells #[.int .i64 n, .slice A0 a.length c0'] 26)).alloc (.cells #[.int .i64 n, .slice B0 b.length d0'] 26)).alloc (.cells #[.int .i64 0, .slice none 0 0] 26) = W at *
  refine (F1.out _).mono ?_
  rintro e w1 ⟨v1, rfl, ho1, hb1⟩
  obtain ⟨A, c, rfl, hmk⟩ := Mk.start (n := n) T2.out.lt hb1 ho1
  have HM := Lib.hid hmk
  clear hmk ho1 hb1
  rw [← HZ.out] at HM
  go_wp2_with fail
  generalize w1.alloc (.cells #[.int .i64 (n : Int), .slice A n c] 26) = w2 at *
  generalize w1.heap.size = o at *
  go_loopw [6] (fun i wr => ∃ x : Nat, x ≤ n ∧ i = .int .i64 x ∧ Hid (Mk W wr (w.heap.size + 1 + 1) o n A c (Gf.rowsAt n f x 0))) (fun i _ => n - (intOf i).toNat)
  case atStart => exact ⟨0, Nat.zero_le _, rfl, HM.out⟩
  case round =>
    clear HM
    obtain ⟨x, hx, rfl, HM⟩ := hrel
    obtain ⟨a0, a1⟩ := (two_at T0.out HM.out.low (by omega)).cells
    by_cases hlt : x < n
    · rw [← HM0.out x] at HM
      have hxa : x < a.length := by have := HLA.out; omega
      go_wp2_with fail
      clear a0 a1
      go_loopw [7] (fun i wq => ∃ y : Nat, y ≤ n ∧ i = .int .i64 y ∧ Hid (Mk W wq (w.heap.size + 1 + 1) o n A c (Gf.rowsAt n f x (Gf.midTo a b n x y)))) (fun i _ => n - (intOf i).toNat)
      case atStart => exact ⟨0, Nat.zero_le _, rfl, HM.out⟩
      case round =>
        clear HM
        obtain ⟨y, hy, rfl, HM⟩ := hrel
        obtain ⟨a0, a1⟩ := (two_at T0.out HM.out.low (by omega)).cells
        by_cases hlt2 : y < n
        · have hyb : y < b.length := by have := HLB.out; omega
          have hbf := HBA.out x y hxa hlt2
          have hml := HML.out x y
          have HY := Lib.hid (HMY.out x y)
          have HNo := Lib.hid (HMN.out x y)
          go_wp2_with fail
          refine (F2.out _ x hxa (y : Int) (HU.out.below (HM.out.below BW.out (by omega)))).mono ?_
          rintro e w3 ⟨rfl, hb3⟩
          rw [hbf]
          have HM2 := Lib.hid (HM.out.later hb3)
          clear hb3 HM a0 a1 hbf
          cases hb : Gf.bit a x y with
          | false =>
            have HSS := Lib.hid (HNo.out hb)
            obtain ⟨a0, a1⟩ := (two_at T0.out HM2.out.low (by omega)).cells
            clear hb
            go_wp2_with fail
            go_roundw
            case rel => exact ⟨y + 1, by omega, by go_num, by rw [Hid, HSS.out]; exact HM2.out⟩
            case measure => simp [intOf]; omega
          | true =>
            have HSS := Lib.hid (HY.out hb)
            obtain ⟨a0, a1⟩ := (two_at T0.out HM2.out.low (by omega)).cells
            clear hb HY HNo
            generalize Gf.midTo a b n x y = m at *
            rw [← HP0.out y m] at HM2
            go_wp2_with fail
            clear a0 a1
            go_loopw [9] (fun i wq => ∃ z : Nat, z ≤ n ∧ i = .int .i64 z ∧ Hid (Mk W wq (w.heap.size + 1 + 1) o n A c (Gf.rowsAt n f x (Gf.putTo (Gf.bit b y) z m)))) (fun i _ => n - (intOf i).toNat)
            case atStart => exact ⟨0, Nat.zero_le _, rfl, HM2.out⟩
            case round =>
              clear HM2
              obtain ⟨z, hz, rfl, HM⟩ := hrel
              obtain ⟨a0, a1⟩ := (two_at T0.out HM.out.low (by omega)).cells
              by_cases hlt3 : z < n
              · obtain ⟨b0, b1⟩ := (two_at T1.out HM.out.low (by omega)).cells
                have hbf := HBB.out y z hyb hlt3
                have hsl := HPL.out y z m hml
                have HY := Lib.hid (HPY.out y z m)
                have HNo := Lib.hid (HPN.out y z m)
                go_wp2_with fail
                refine (F2'.out _ y hyb (z : Int) (HV.out.below (HM.out.below BW.out (by omega)))).mono ?_
                rintro e w4 ⟨rfl, hb4⟩
                rw [hbf]
                have HM3 := Lib.hid (HM.out.later hb4)
                clear hb4 HM a0 a1 b0 b1 hbf
                obtain ⟨a0, a1⟩ := (two_at T0.out HM3.out.low (by omega)).cells
                cases hb : Gf.bit b y z with
                | false =>
                  have HSS := Lib.hid (HNo.out hb)
                  clear hb
                  go_wp2_with fail
                  go_roundw
                  case rel => exact ⟨z + 1, by omega, by go_num, by rw [Hid, HSS.out]; exact HM3.out⟩
                  case measure => simp [intOf]; omega
                | true =>
                  have HSS := Lib.hid (HY.out hb)
                  clear hb HY HNo
                  have F3 := Lib.hid (fun w => rWith10_at (Gf.putTo (Gf.bit b y) z m) (z : Int) w hsl)
                  rw [← HSS.out] at F3
                  obtain ⟨g, hA, e2, f2, hput⟩ := HM3.out.put x hlt
                  rw [HRH.out x hlt] at e2
                  have HM4 := Lib.hid (hput (Gf.putTo (Gf.bit b y) (z + 1) m))
                  rw [HST.out] at HM4
                  obtain ⟨e0, e1⟩ := HM3.out.out.cells
                  subst hA
                  obtain ⟨s', hs'⟩ : ∃ s', s' = Gf.putTo (Gf.bit b y) (z + 1) m := ⟨_, rfl⟩
                  rw [← hs'] at F3 HM4
                  have HS' := Lib.hid hs'
                  clear hs' HSS hput
                  generalize Gf.putTo (Gf.bit b y) z m = s at *
                  go_wp2_with fail
                  go_region_law (go_simp; go_at_call 34; refine (F3.out _).mono ?_; rintro e w5 ⟨rfl, rfl⟩)
                  all_goals
                    clear e0 e1 e2 f2 a0 a1
                    go_wp2_with fail
                    go_roundw
                    case rel => exact ⟨z + 1, by omega, by go_num, by rw [Hid, ← HS'.out]; exact HM4.out.later (Below.refl _ _).drew⟩
                    case measure => simp [intOf]; omega
              · have hzn : z = n := by omega
                subst hzn
                rw [← HSS.out] at HM
                go_wp2_with fail
                go_roundw
                case rel => exact ⟨y + 1, by omega, by go_num, HM.out⟩
                case measure => simp [intOf]; omega
        · have hyn : y = n := by omega
          subst hyn
          rw [HN.out] at HM
          go_wp2_with fail
          go_roundw
          case rel => exact ⟨x + 1, by omega, by go_num, HM.out⟩
          case measure => simp [intOf]; omega
    · have hxn : x = n := by omega
      subst hxn
      obtain ⟨e0, e1⟩ := HM.out.out.cells
      have TR := Lib.hid (two_at T2.out HM.out.low (by omega))
      obtain ⟨r0, r1⟩ := TR.out.cells
      have f0 := TR.out.frozen 0
      have f1 := TR.out.frozen 1
      rw [HE.out] at HM
      go_wp2_with fail
      exact end_r (p := 4) rfl TR.out HM.out.own (by omega) (HM.out.below BW.out (by omega)) (by omega) _ rfl
end Go.Proofs.Ytcpiaddohiokkaa
