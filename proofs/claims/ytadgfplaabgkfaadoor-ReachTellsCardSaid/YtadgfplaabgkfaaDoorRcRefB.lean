/-
  What the reference's functions of layer 13 answer: More, Cyclic.
  Conditions: rows hold sets below 2^64.
-/
import Derived.Test.YtadgfplaabgkfaaDoorRcRef
set_option maxRecDepth 4000
namespace Go.Proofs.YtadgfplaabgkfaaDoor
open Go.RowKit

set_option maxHeartbeats 8000000 in
theorem rMore13_at (n : Nat) (u : Value) (l : List Nat) (a b : Nat) (w : World) (hu : Us w u l) (hl : Gf.Ok n l) (ha : a < n) (hb : b < n) : Calls Tryd.prog 18 #[.agg #[.int .i64 n, u], .int .i64 a, .int .i64 b] w (RetR w n (Rc.moreR n l a b)) := by
  have HU := Lib.hid hu
  obtain ⟨A0, c0', rfl, -⟩ := hu.spelled
  have HLA := Lib.hid hl.2.1
  have HSA := Lib.hid (fun x (h : x < l.length) => hl.small (List.getElem_mem h))
  have hn64 := hl.1
  obtain ⟨f, hf⟩ : ∃ f : Nat → Nat → Bool, f = Rc.moreF l a b := ⟨_, rfl⟩
  have HZ := Lib.hid (Gf.rowsAt_zero n f)
  have HE : Hid (Gf.rowsAt n f n 0 = Rc.moreR n l a b) := by rw [hf]; exact Gf.rowsAt_all n _ 0
  have HN : Hid (∀ x, Gf.rowsAt n f x (Gf.setTo (f x) n) = Gf.rowsAt n f (x + 1) 0) := fun x => Gf.rowsAt_next f x
  have HST := Lib.hid (fun x s t => @Gf.rowsAt_set n f x s t)
  have HRH := Lib.hid (fun x (h : x < n) s => Gf.rowsAt_here f h s)
  have HS0 := Lib.hid (fun x => Gf.setTo_zero (f x))
  have HSN := Lib.hid (fun x y => Gf.setTo_next (f x) y)
  have HSL := Lib.hid (fun x y => Gf.setTo_lt64 (f x) y)
  have HFW : Hid (∀ x y, f x y = (Gf.bit l x y || ((decide (x = a) || Gf.bit l x a) && (decide (y = b) || Gf.bit l b y)))) := fun x y => by rw [hf]; rfl
  have HBF : Hid (∀ x y (hx : x < l.length), y < n → Bi.has l[x] (y : Int) = Gf.bit l x y) := fun x y hx hy => by
    rw [Bi.has_nat _ y (by omega), Gf.bit_at hx]
  have F1 := Lib.hid (fun w => rNew12_at n hn64 w)
  have F2 := Lib.hid (fun w x h y hw => rHas12_at n (.slice A0 l.length c0') l x y w hw h (HSA.out x h))
  clear hu hl hf
  go_enter Tryd.func18, Tryd.ntmps18
  go_wp2_with fail
  obtain ⟨t0, t1, bw⟩ := gr_one w n (.slice A0 l.length c0') rfl
  have T0 := Lib.hid t0
  have T1 := Lib.hid t1
  have BW := Lib.hid bw
  clear t0 t1 bw
  generalize (w.alloc (.cells #[.int .i64 n, .slice A0 l.length c0'] 26)).alloc (.cells #[.int .i64 0, .slice none 0 0] 26) = W at *
  refine (F1.out _).mono ?_
  rintro e w1 ⟨v1, rfl, ho1, hb1⟩
  obtain ⟨A, c, rfl, hmk⟩ := Mk.start (n := n) T1.out.lt hb1 ho1
  have HM := Lib.hid hmk
  clear hmk ho1 hb1
  rw [← HZ.out] at HM
  go_wp2_with fail
  generalize w1.alloc (.cells #[.int .i64 (n : Int), .slice A n c] 26) = w2 at *
  generalize w1.heap.size = o at *
  go_loopw [8] (fun i wr => ∃ x : Nat, x ≤ n ∧ i = .int .i64 x ∧ Hid (Mk W wr (w.heap.size + 1) o n A c (Gf.rowsAt n f x 0))) (fun i _ => n - (intOf i).toNat)
  case atStart => exact ⟨0, Nat.zero_le _, rfl, HM.out⟩
  case round =>
    clear HM
    obtain ⟨x, hx, rfl, HM⟩ := hrel
    obtain ⟨a0, a1⟩ := (two_at T0.out HM.out.low (by omega)).cells
    by_cases hlt : x < n
    · rw [← HS0.out x] at HM
      have hxl : x < l.length := by have := HLA.out; omega
      have hbl : b < l.length := by have := HLA.out; omega
      go_wp2_with fail
      clear a0 a1
      go_loopw [9] (fun i wq => ∃ y : Nat, y ≤ n ∧ i = .int .i64 y ∧ Hid (Mk W wq (w.heap.size + 1) o n A c (Gf.rowsAt n f x (Gf.setTo (f x) y)))) (fun i _ => n - (intOf i).toNat)
      case atStart => exact ⟨0, Nat.zero_le _, rfl, HM.out⟩
      case round =>
        clear HM
        obtain ⟨y, hy, rfl, HM⟩ := hrel
        obtain ⟨a0, a1⟩ := (two_at T0.out HM.out.low (by omega)).cells
        by_cases hlt2 : y < n
        · have hsn := HSN.out x y
          have hsl := HSL.out x y
          have HP := Lib.hid (HBF.out x y hxl hlt2)
          have HQ := Lib.hid (HBF.out x a hxl ha)
          have HR := Lib.hid (HBF.out b y hbl hlt2)
          have HFV := Lib.hid (HFW.out x y)
          generalize Gf.bit l x y = p at *
          generalize Gf.bit l x a = q at *
          generalize Gf.bit l b y = r at *
          have G1 := Lib.hid (fun w hw => F2.out w x hxl (y : Int) hw)
          have G2 := Lib.hid (fun w hw => F2.out w x hxl (a : Int) hw)
          have G3 := Lib.hid (fun w hw => F2.out w b hbl (y : Int) hw)
          rw [HP.out] at G1
          rw [HQ.out] at G2
          rw [HR.out] at G3
          clear HP HQ HR
          go_wp2_with fail
          refine (G1.out _ (HU.out.below (HM.out.below BW.out (by omega)))).mono ?_
          rintro e w3 ⟨rfl, hb3⟩
          have HM1 := Lib.hid (HM.out.later hb3)
          clear hb3 HM a0 a1
          obtain ⟨a0, a1⟩ := (two_at T0.out HM1.out.low (by omega)).cells
          by_cases hxa : x = a
          · have hxa1 : ((x : Int) == (a : Int)) = true := by rw [beq_iff_eq]; omega
            have hxa2 : (x == a) = true := by rw [beq_iff_eq]; omega
            have hxd : decide (x = a) = true := decide_eq_true hxa
            rw [hxd, Bool.true_or] at HFV
            clear hxa hxd
            by_cases hyb : y = b
            · have hyb1 : ((y : Int) == (b : Int)) = true := by rw [beq_iff_eq]; omega
              have hyb2 : (y == b) = true := by rw [beq_iff_eq]; omega
              have hyd : decide (y = b) = true := decide_eq_true hyb
              rw [hyd, Bool.true_or] at HFV
              clear hyb hyd
              have HM3 := HM1
              clear HM1
              cases p with
              | true =>
                have hfv : f x y = true := by rw [HFV.out]; rfl
                rw [hfv] at hsn
                have hsn' : Gf.setTo (f x) (y + 1) = Bi.withN (Gf.setTo (f x) y) (y : Int) := hsn
                have HSS := Lib.hid hsn'
                clear hsn hsn' hfv
                have F3 := Lib.hid (fun w => rWith10_at (Gf.setTo (f x) y) (y : Int) w hsl)
                rw [← HSS.out] at F3
                obtain ⟨g, hA, e2, f2, hput⟩ := HM3.out.put x hlt
                rw [HRH.out x hlt] at e2
                have HM4 := Lib.hid (hput (Gf.setTo (f x) (y + 1)))
                rw [HST.out] at HM4
                obtain ⟨e0, e1⟩ := HM3.out.out.cells
                subst hA
                obtain ⟨s', hs'⟩ : ∃ s', s' = Gf.setTo (f x) (y + 1) := ⟨_, rfl⟩
                rw [← hs'] at F3 HM4
                have HS' := Lib.hid hs'
                clear hs' HSS hput
                generalize Gf.setTo (f x) y = s at *
                go_wp2_with fail
                go_region_law (go_simp; go_at_call 33; refine (F3.out _).mono ?_; rintro e w5 ⟨rfl, rfl⟩)
                all_goals
                  clear e0 e1 e2 f2 a0 a1
                  go_wp2_with fail
                  go_roundw
                  case rel => exact ⟨y + 1, by omega, by go_num, by rw [Hid, ← HS'.out]; exact HM4.out.later (Below.refl _ _).drew⟩
                  case measure => simp [intOf]; omega
              | false =>
                have hfv : f x y = true := by rw [HFV.out]; rfl
                rw [hfv] at hsn
                have hsn' : Gf.setTo (f x) (y + 1) = Bi.withN (Gf.setTo (f x) y) (y : Int) := hsn
                have HSS := Lib.hid hsn'
                clear hsn hsn' hfv
                have F3 := Lib.hid (fun w => rWith10_at (Gf.setTo (f x) y) (y : Int) w hsl)
                rw [← HSS.out] at F3
                obtain ⟨g, hA, e2, f2, hput⟩ := HM3.out.put x hlt
                rw [HRH.out x hlt] at e2
                have HM4 := Lib.hid (hput (Gf.setTo (f x) (y + 1)))
                rw [HST.out] at HM4
                obtain ⟨e0, e1⟩ := HM3.out.out.cells
                subst hA
                obtain ⟨s', hs'⟩ : ∃ s', s' = Gf.setTo (f x) (y + 1) := ⟨_, rfl⟩
                rw [← hs'] at F3 HM4
                have HS' := Lib.hid hs'
                clear hs' HSS hput
                generalize Gf.setTo (f x) y = s at *
                go_wp2_with fail
                go_region_law (go_simp; go_at_call 33; refine (F3.out _).mono ?_; rintro e w5 ⟨rfl, rfl⟩)
                all_goals
                  clear e0 e1 e2 f2 a0 a1
                  go_wp2_with fail
                  go_roundw
                  case rel => exact ⟨y + 1, by omega, by go_num, by rw [Hid, ← HS'.out]; exact HM4.out.later (Below.refl _ _).drew⟩
                  case measure => simp [intOf]; omega
            · have hyb1 : ((y : Int) == (b : Int)) = false := by rw [beq_eq_false_iff_ne]; omega
              have hyb2 : (y == b) = false := by rw [beq_eq_false_iff_ne]; omega
              have hyd : decide (y = b) = false := decide_eq_false hyb
              rw [hyd, Bool.false_or] at HFV
              clear hyb hyd
              go_wp2_with fail
              refine (G3.out _ (HU.out.below (HM1.out.below BW.out (by omega)))).mono ?_
              rintro e w6 ⟨rfl, hbn⟩
              have HM9 := Lib.hid (HM1.out.later hbn)
              clear hbn HM1 a0 a1
              obtain ⟨a0, a1⟩ := (two_at T0.out HM9.out.low (by omega)).cells
              have HM3 := HM9
              clear HM9
              cases p with
              | true =>
                cases r with
                | true =>
                  have hfv : f x y = true := by rw [HFV.out]; rfl
                  rw [hfv] at hsn
                  have hsn' : Gf.setTo (f x) (y + 1) = Bi.withN (Gf.setTo (f x) y) (y : Int) := hsn
                  have HSS := Lib.hid hsn'
                  clear hsn hsn' hfv
                  have F3 := Lib.hid (fun w => rWith10_at (Gf.setTo (f x) y) (y : Int) w hsl)
                  rw [← HSS.out] at F3
                  obtain ⟨g, hA, e2, f2, hput⟩ := HM3.out.put x hlt
                  rw [HRH.out x hlt] at e2
                  have HM4 := Lib.hid (hput (Gf.setTo (f x) (y + 1)))
                  rw [HST.out] at HM4
                  obtain ⟨e0, e1⟩ := HM3.out.out.cells
                  subst hA
                  obtain ⟨s', hs'⟩ : ∃ s', s' = Gf.setTo (f x) (y + 1) := ⟨_, rfl⟩
                  rw [← hs'] at F3 HM4
                  have HS' := Lib.hid hs'
                  clear hs' HSS hput
                  generalize Gf.setTo (f x) y = s at *
                  go_wp2_with fail
                  go_region_law (go_simp; go_at_call 33; refine (F3.out _).mono ?_; rintro e w5 ⟨rfl, rfl⟩)
                  all_goals
                    clear e0 e1 e2 f2 a0 a1
                    go_wp2_with fail
                    go_roundw
                    case rel => exact ⟨y + 1, by omega, by go_num, by rw [Hid, ← HS'.out]; exact HM4.out.later (Below.refl _ _).drew⟩
                    case measure => simp [intOf]; omega
                | false =>
                  have hfv : f x y = true := by rw [HFV.out]; rfl
                  rw [hfv] at hsn
                  have hsn' : Gf.setTo (f x) (y + 1) = Bi.withN (Gf.setTo (f x) y) (y : Int) := hsn
                  have HSS := Lib.hid hsn'
                  clear hsn hsn' hfv
                  have F3 := Lib.hid (fun w => rWith10_at (Gf.setTo (f x) y) (y : Int) w hsl)
                  rw [← HSS.out] at F3
                  obtain ⟨g, hA, e2, f2, hput⟩ := HM3.out.put x hlt
                  rw [HRH.out x hlt] at e2
                  have HM4 := Lib.hid (hput (Gf.setTo (f x) (y + 1)))
                  rw [HST.out] at HM4
                  obtain ⟨e0, e1⟩ := HM3.out.out.cells
                  subst hA
                  obtain ⟨s', hs'⟩ : ∃ s', s' = Gf.setTo (f x) (y + 1) := ⟨_, rfl⟩
                  rw [← hs'] at F3 HM4
                  have HS' := Lib.hid hs'
                  clear hs' HSS hput
                  generalize Gf.setTo (f x) y = s at *
                  go_wp2_with fail
                  go_region_law (go_simp; go_at_call 33; refine (F3.out _).mono ?_; rintro e w5 ⟨rfl, rfl⟩)
                  all_goals
                    clear e0 e1 e2 f2 a0 a1
                    go_wp2_with fail
                    go_roundw
                    case rel => exact ⟨y + 1, by omega, by go_num, by rw [Hid, ← HS'.out]; exact HM4.out.later (Below.refl _ _).drew⟩
                    case measure => simp [intOf]; omega
              | false =>
                cases r with
                | true =>
                  have hfv : f x y = true := by rw [HFV.out]; rfl
                  rw [hfv] at hsn
                  have hsn' : Gf.setTo (f x) (y + 1) = Bi.withN (Gf.setTo (f x) y) (y : Int) := hsn
                  have HSS := Lib.hid hsn'
                  clear hsn hsn' hfv
                  have F3 := Lib.hid (fun w => rWith10_at (Gf.setTo (f x) y) (y : Int) w hsl)
                  rw [← HSS.out] at F3
                  obtain ⟨g, hA, e2, f2, hput⟩ := HM3.out.put x hlt
                  rw [HRH.out x hlt] at e2
                  have HM4 := Lib.hid (hput (Gf.setTo (f x) (y + 1)))
                  rw [HST.out] at HM4
                  obtain ⟨e0, e1⟩ := HM3.out.out.cells
                  subst hA
                  obtain ⟨s', hs'⟩ : ∃ s', s' = Gf.setTo (f x) (y + 1) := ⟨_, rfl⟩
                  rw [← hs'] at F3 HM4
                  have HS' := Lib.hid hs'
                  clear hs' HSS hput
                  generalize Gf.setTo (f x) y = s at *
                  go_wp2_with fail
                  go_region_law (go_simp; go_at_call 33; refine (F3.out _).mono ?_; rintro e w5 ⟨rfl, rfl⟩)
                  all_goals
                    clear e0 e1 e2 f2 a0 a1
                    go_wp2_with fail
                    go_roundw
                    case rel => exact ⟨y + 1, by omega, by go_num, by rw [Hid, ← HS'.out]; exact HM4.out.later (Below.refl _ _).drew⟩
                    case measure => simp [intOf]; omega
                | false =>
                  have hfv : f x y = false := by rw [HFV.out]; rfl
                  rw [hfv] at hsn
                  have hsn' : Gf.setTo (f x) (y + 1) = Gf.setTo (f x) y := hsn
                  have HSS := Lib.hid hsn'
                  clear hsn hsn' hfv
                  go_wp2_with fail
                  go_roundw
                  case rel => exact ⟨y + 1, by omega, by go_num, by rw [Hid, HSS.out]; exact HM3.out⟩
                  case measure => simp [intOf]; omega
          · have hxa1 : ((x : Int) == (a : Int)) = false := by rw [beq_eq_false_iff_ne]; omega
            have hxa2 : (x == a) = false := by rw [beq_eq_false_iff_ne]; omega
            have hxd : decide (x = a) = false := decide_eq_false hxa
            rw [hxd, Bool.false_or] at HFV
            clear hxa hxd
            by_cases hyb : y = b
            · have hyb1 : ((y : Int) == (b : Int)) = true := by rw [beq_iff_eq]; omega
              have hyb2 : (y == b) = true := by rw [beq_iff_eq]; omega
              have hyd : decide (y = b) = true := decide_eq_true hyb
              rw [hyd, Bool.true_or] at HFV
              clear hyb hyd
              go_wp2_with fail
              refine (G2.out _ (HU.out.below (HM1.out.below BW.out (by omega)))).mono ?_
              rintro e w4 ⟨rfl, hbn⟩
              have HM2 := Lib.hid (HM1.out.later hbn)
              clear hbn HM1 a0 a1
              obtain ⟨a0, a1⟩ := (two_at T0.out HM2.out.low (by omega)).cells
              have HM3 := HM2
              clear HM2
              cases p with
              | true =>
                cases q with
                | true =>
                  have hfv : f x y = true := by rw [HFV.out]; rfl
                  rw [hfv] at hsn
                  have hsn' : Gf.setTo (f x) (y + 1) = Bi.withN (Gf.setTo (f x) y) (y : Int) := hsn
                  have HSS := Lib.hid hsn'
                  clear hsn hsn' hfv
                  have F3 := Lib.hid (fun w => rWith10_at (Gf.setTo (f x) y) (y : Int) w hsl)
                  rw [← HSS.out] at F3
                  obtain ⟨g, hA, e2, f2, hput⟩ := HM3.out.put x hlt
                  rw [HRH.out x hlt] at e2
                  have HM4 := Lib.hid (hput (Gf.setTo (f x) (y + 1)))
                  rw [HST.out] at HM4
                  obtain ⟨e0, e1⟩ := HM3.out.out.cells
                  subst hA
                  obtain ⟨s', hs'⟩ : ∃ s', s' = Gf.setTo (f x) (y + 1) := ⟨_, rfl⟩
                  rw [← hs'] at F3 HM4
                  have HS' := Lib.hid hs'
                  clear hs' HSS hput
                  generalize Gf.setTo (f x) y = s at *
                  go_wp2_with fail
                  go_region_law (go_simp; go_at_call 33; refine (F3.out _).mono ?_; rintro e w5 ⟨rfl, rfl⟩)
                  all_goals
                    clear e0 e1 e2 f2 a0 a1
                    go_wp2_with fail
                    go_roundw
                    case rel => exact ⟨y + 1, by omega, by go_num, by rw [Hid, ← HS'.out]; exact HM4.out.later (Below.refl _ _).drew⟩
                    case measure => simp [intOf]; omega
                | false =>
                  have hfv : f x y = true := by rw [HFV.out]; rfl
                  rw [hfv] at hsn
                  have hsn' : Gf.setTo (f x) (y + 1) = Bi.withN (Gf.setTo (f x) y) (y : Int) := hsn
                  have HSS := Lib.hid hsn'
                  clear hsn hsn' hfv
                  have F3 := Lib.hid (fun w => rWith10_at (Gf.setTo (f x) y) (y : Int) w hsl)
                  rw [← HSS.out] at F3
                  obtain ⟨g, hA, e2, f2, hput⟩ := HM3.out.put x hlt
                  rw [HRH.out x hlt] at e2
                  have HM4 := Lib.hid (hput (Gf.setTo (f x) (y + 1)))
                  rw [HST.out] at HM4
                  obtain ⟨e0, e1⟩ := HM3.out.out.cells
                  subst hA
                  obtain ⟨s', hs'⟩ : ∃ s', s' = Gf.setTo (f x) (y + 1) := ⟨_, rfl⟩
                  rw [← hs'] at F3 HM4
                  have HS' := Lib.hid hs'
                  clear hs' HSS hput
                  generalize Gf.setTo (f x) y = s at *
                  go_wp2_with fail
                  go_region_law (go_simp; go_at_call 33; refine (F3.out _).mono ?_; rintro e w5 ⟨rfl, rfl⟩)
                  all_goals
                    clear e0 e1 e2 f2 a0 a1
                    go_wp2_with fail
                    go_roundw
                    case rel => exact ⟨y + 1, by omega, by go_num, by rw [Hid, ← HS'.out]; exact HM4.out.later (Below.refl _ _).drew⟩
                    case measure => simp [intOf]; omega
              | false =>
                cases q with
                | true =>
                  have hfv : f x y = true := by rw [HFV.out]; rfl
                  rw [hfv] at hsn
                  have hsn' : Gf.setTo (f x) (y + 1) = Bi.withN (Gf.setTo (f x) y) (y : Int) := hsn
                  have HSS := Lib.hid hsn'
                  clear hsn hsn' hfv
                  have F3 := Lib.hid (fun w => rWith10_at (Gf.setTo (f x) y) (y : Int) w hsl)
                  rw [← HSS.out] at F3
                  obtain ⟨g, hA, e2, f2, hput⟩ := HM3.out.put x hlt
                  rw [HRH.out x hlt] at e2
                  have HM4 := Lib.hid (hput (Gf.setTo (f x) (y + 1)))
                  rw [HST.out] at HM4
                  obtain ⟨e0, e1⟩ := HM3.out.out.cells
                  subst hA
                  obtain ⟨s', hs'⟩ : ∃ s', s' = Gf.setTo (f x) (y + 1) := ⟨_, rfl⟩
                  rw [← hs'] at F3 HM4
                  have HS' := Lib.hid hs'
                  clear hs' HSS hput
                  generalize Gf.setTo (f x) y = s at *
                  go_wp2_with fail
                  go_region_law (go_simp; go_at_call 33; refine (F3.out _).mono ?_; rintro e w5 ⟨rfl, rfl⟩)
                  all_goals
                    clear e0 e1 e2 f2 a0 a1
                    go_wp2_with fail
                    go_roundw
                    case rel => exact ⟨y + 1, by omega, by go_num, by rw [Hid, ← HS'.out]; exact HM4.out.later (Below.refl _ _).drew⟩
                    case measure => simp [intOf]; omega
                | false =>
                  have hfv : f x y = false := by rw [HFV.out]; rfl
                  rw [hfv] at hsn
                  have hsn' : Gf.setTo (f x) (y + 1) = Gf.setTo (f x) y := hsn
                  have HSS := Lib.hid hsn'
                  clear hsn hsn' hfv
                  go_wp2_with fail
                  go_roundw
                  case rel => exact ⟨y + 1, by omega, by go_num, by rw [Hid, HSS.out]; exact HM3.out⟩
                  case measure => simp [intOf]; omega
            · have hyb1 : ((y : Int) == (b : Int)) = false := by rw [beq_eq_false_iff_ne]; omega
              have hyb2 : (y == b) = false := by rw [beq_eq_false_iff_ne]; omega
              have hyd : decide (y = b) = false := decide_eq_false hyb
              rw [hyd, Bool.false_or] at HFV
              clear hyb hyd
              go_wp2_with fail
              refine (G2.out _ (HU.out.below (HM1.out.below BW.out (by omega)))).mono ?_
              rintro e w4 ⟨rfl, hbn⟩
              have HM2 := Lib.hid (HM1.out.later hbn)
              clear hbn HM1 a0 a1
              obtain ⟨a0, a1⟩ := (two_at T0.out HM2.out.low (by omega)).cells
              go_wp2_with fail
              refine (G3.out _ (HU.out.below (HM2.out.below BW.out (by omega)))).mono ?_
              rintro e w6 ⟨rfl, hbn⟩
              have HM9 := Lib.hid (HM2.out.later hbn)
              clear hbn HM2 a0 a1
              obtain ⟨a0, a1⟩ := (two_at T0.out HM9.out.low (by omega)).cells
              have HM3 := HM9
              clear HM9
              cases p with
              | true =>
                cases q with
                | true =>
                  cases r with
                  | true =>
                    have hfv : f x y = true := by rw [HFV.out]; rfl
                    rw [hfv] at hsn
                    have hsn' : Gf.setTo (f x) (y + 1) = Bi.withN (Gf.setTo (f x) y) (y : Int) := hsn
                    have HSS := Lib.hid hsn'
                    clear hsn hsn' hfv
                    have F3 := Lib.hid (fun w => rWith10_at (Gf.setTo (f x) y) (y : Int) w hsl)
                    rw [← HSS.out] at F3
                    obtain ⟨g, hA, e2, f2, hput⟩ := HM3.out.put x hlt
                    rw [HRH.out x hlt] at e2
                    have HM4 := Lib.hid (hput (Gf.setTo (f x) (y + 1)))
                    rw [HST.out] at HM4
                    obtain ⟨e0, e1⟩ := HM3.out.out.cells
                    subst hA
                    obtain ⟨s', hs'⟩ : ∃ s', s' = Gf.setTo (f x) (y + 1) := ⟨_, rfl⟩
                    rw [← hs'] at F3 HM4
                    have HS' := Lib.hid hs'
                    clear hs' HSS hput
                    generalize Gf.setTo (f x) y = s at *
                    go_wp2_with fail
                    go_region_law (go_simp; go_at_call 33; refine (F3.out _).mono ?_; rintro e w5 ⟨rfl, rfl⟩)
                    all_goals
                      clear e0 e1 e2 f2 a0 a1
                      go_wp2_with fail
                      go_roundw
                      case rel => exact ⟨y + 1, by omega, by go_num, by rw [Hid, ← HS'.out]; exact HM4.out.later (Below.refl _ _).drew⟩
                      case measure => simp [intOf]; omega
                  | false =>
                    have hfv : f x y = true := by rw [HFV.out]; rfl
                    rw [hfv] at hsn
                    have hsn' : Gf.setTo (f x) (y + 1) = Bi.withN (Gf.setTo (f x) y) (y : Int) := hsn
                    have HSS := Lib.hid hsn'
                    clear hsn hsn' hfv
                    have F3 := Lib.hid (fun w => rWith10_at (Gf.setTo (f x) y) (y : Int) w hsl)
                    rw [← HSS.out] at F3
                    obtain ⟨g, hA, e2, f2, hput⟩ := HM3.out.put x hlt
                    rw [HRH.out x hlt] at e2
                    have HM4 := Lib.hid (hput (Gf.setTo (f x) (y + 1)))
                    rw [HST.out] at HM4
                    obtain ⟨e0, e1⟩ := HM3.out.out.cells
                    subst hA
                    obtain ⟨s', hs'⟩ : ∃ s', s' = Gf.setTo (f x) (y + 1) := ⟨_, rfl⟩
                    rw [← hs'] at F3 HM4
                    have HS' := Lib.hid hs'
                    clear hs' HSS hput
                    generalize Gf.setTo (f x) y = s at *
                    go_wp2_with fail
                    go_region_law (go_simp; go_at_call 33; refine (F3.out _).mono ?_; rintro e w5 ⟨rfl, rfl⟩)
                    all_goals
                      clear e0 e1 e2 f2 a0 a1
                      go_wp2_with fail
                      go_roundw
                      case rel => exact ⟨y + 1, by omega, by go_num, by rw [Hid, ← HS'.out]; exact HM4.out.later (Below.refl _ _).drew⟩
                      case measure => simp [intOf]; omega
                | false =>
                  cases r with
                  | true =>
                    have hfv : f x y = true := by rw [HFV.out]; rfl
                    rw [hfv] at hsn
                    have hsn' : Gf.setTo (f x) (y + 1) = Bi.withN (Gf.setTo (f x) y) (y : Int) := hsn
                    have HSS := Lib.hid hsn'
                    clear hsn hsn' hfv
                    have F3 := Lib.hid (fun w => rWith10_at (Gf.setTo (f x) y) (y : Int) w hsl)
                    rw [← HSS.out] at F3
                    obtain ⟨g, hA, e2, f2, hput⟩ := HM3.out.put x hlt
                    rw [HRH.out x hlt] at e2
                    have HM4 := Lib.hid (hput (Gf.setTo (f x) (y + 1)))
                    rw [HST.out] at HM4
                    obtain ⟨e0, e1⟩ := HM3.out.out.cells
                    subst hA
                    obtain ⟨s', hs'⟩ : ∃ s', s' = Gf.setTo (f x) (y + 1) := ⟨_, rfl⟩
                    rw [← hs'] at F3 HM4
                    have HS' := Lib.hid hs'
                    clear hs' HSS hput
                    generalize Gf.setTo (f x) y = s at *
                    go_wp2_with fail
                    go_region_law (go_simp; go_at_call 33; refine (F3.out _).mono ?_; rintro e w5 ⟨rfl, rfl⟩)
                    all_goals
                      clear e0 e1 e2 f2 a0 a1
                      go_wp2_with fail
                      go_roundw
                      case rel => exact ⟨y + 1, by omega, by go_num, by rw [Hid, ← HS'.out]; exact HM4.out.later (Below.refl _ _).drew⟩
                      case measure => simp [intOf]; omega
                  | false =>
                    have hfv : f x y = true := by rw [HFV.out]; rfl
                    rw [hfv] at hsn
                    have hsn' : Gf.setTo (f x) (y + 1) = Bi.withN (Gf.setTo (f x) y) (y : Int) := hsn
                    have HSS := Lib.hid hsn'
                    clear hsn hsn' hfv
                    have F3 := Lib.hid (fun w => rWith10_at (Gf.setTo (f x) y) (y : Int) w hsl)
                    rw [← HSS.out] at F3
                    obtain ⟨g, hA, e2, f2, hput⟩ := HM3.out.put x hlt
                    rw [HRH.out x hlt] at e2
                    have HM4 := Lib.hid (hput (Gf.setTo (f x) (y + 1)))
                    rw [HST.out] at HM4
                    obtain ⟨e0, e1⟩ := HM3.out.out.cells
                    subst hA
                    obtain ⟨s', hs'⟩ : ∃ s', s' = Gf.setTo (f x) (y + 1) := ⟨_, rfl⟩
                    rw [← hs'] at F3 HM4
                    have HS' := Lib.hid hs'
                    clear hs' HSS hput
                    generalize Gf.setTo (f x) y = s at *
                    go_wp2_with fail
                    go_region_law (go_simp; go_at_call 33; refine (F3.out _).mono ?_; rintro e w5 ⟨rfl, rfl⟩)
                    all_goals
                      clear e0 e1 e2 f2 a0 a1
                      go_wp2_with fail
                      go_roundw
                      case rel => exact ⟨y + 1, by omega, by go_num, by rw [Hid, ← HS'.out]; exact HM4.out.later (Below.refl _ _).drew⟩
                      case measure => simp [intOf]; omega
              | false =>
                cases q with
                | true =>
                  cases r with
                  | true =>
                    have hfv : f x y = true := by rw [HFV.out]; rfl
                    rw [hfv] at hsn
                    have hsn' : Gf.setTo (f x) (y + 1) = Bi.withN (Gf.setTo (f x) y) (y : Int) := hsn
                    have HSS := Lib.hid hsn'
                    clear hsn hsn' hfv
                    have F3 := Lib.hid (fun w => rWith10_at (Gf.setTo (f x) y) (y : Int) w hsl)
                    rw [← HSS.out] at F3
                    obtain ⟨g, hA, e2, f2, hput⟩ := HM3.out.put x hlt
                    rw [HRH.out x hlt] at e2
                    have HM4 := Lib.hid (hput (Gf.setTo (f x) (y + 1)))
                    rw [HST.out] at HM4
                    obtain ⟨e0, e1⟩ := HM3.out.out.cells
                    subst hA
                    obtain ⟨s', hs'⟩ : ∃ s', s' = Gf.setTo (f x) (y + 1) := ⟨_, rfl⟩
                    rw [← hs'] at F3 HM4
                    have HS' := Lib.hid hs'
                    clear hs' HSS hput
                    generalize Gf.setTo (f x) y = s at *
                    go_wp2_with fail
                    go_region_law (go_simp; go_at_call 33; refine (F3.out _).mono ?_; rintro e w5 ⟨rfl, rfl⟩)
                    all_goals
                      clear e0 e1 e2 f2 a0 a1
                      go_wp2_with fail
                      go_roundw
                      case rel => exact ⟨y + 1, by omega, by go_num, by rw [Hid, ← HS'.out]; exact HM4.out.later (Below.refl _ _).drew⟩
                      case measure => simp [intOf]; omega
                  | false =>
                    have hfv : f x y = false := by rw [HFV.out]; rfl
                    rw [hfv] at hsn
                    have hsn' : Gf.setTo (f x) (y + 1) = Gf.setTo (f x) y := hsn
                    have HSS := Lib.hid hsn'
                    clear hsn hsn' hfv
                    go_wp2_with fail
                    go_roundw
                    case rel => exact ⟨y + 1, by omega, by go_num, by rw [Hid, HSS.out]; exact HM3.out⟩
                    case measure => simp [intOf]; omega
                | false =>
                  cases r with
                  | true =>
                    have hfv : f x y = false := by rw [HFV.out]; rfl
                    rw [hfv] at hsn
                    have hsn' : Gf.setTo (f x) (y + 1) = Gf.setTo (f x) y := hsn
                    have HSS := Lib.hid hsn'
                    clear hsn hsn' hfv
                    go_wp2_with fail
                    go_roundw
                    case rel => exact ⟨y + 1, by omega, by go_num, by rw [Hid, HSS.out]; exact HM3.out⟩
                    case measure => simp [intOf]; omega
                  | false =>
                    have hfv : f x y = false := by rw [HFV.out]; rfl
                    rw [hfv] at hsn
                    have hsn' : Gf.setTo (f x) (y + 1) = Gf.setTo (f x) y := hsn
                    have HSS := Lib.hid hsn'
                    clear hsn hsn' hfv
                    go_wp2_with fail
                    go_roundw
                    case rel => exact ⟨y + 1, by omega, by go_num, by rw [Hid, HSS.out]; exact HM3.out⟩
                    case measure => simp [intOf]; omega
        · have hyn : y = n := by omega
          subst hyn
          rw [HN.out] at HM
          go_wp2_with fail
          go_roundw
          case rel => exact ⟨x + 1, by omega, by go_num, HM.out⟩
          case measure => simp [intOf]; omega
    · have hxn : x = n := by omega
      subst hxn
      obtain ⟨e0, e1⟩ := HM.out.out.cells
      have TR := Lib.hid (two_at T1.out HM.out.low (by omega))
      obtain ⟨r0, r1⟩ := TR.out.cells
      have f0 := TR.out.frozen 0
      have f1 := TR.out.frozen 1
      rw [HE.out] at HM
      go_wp2_with fail
      exact end_r (p := 6) rfl TR.out HM.out.own (by omega) (HM.out.below BW.out (by omega)) (Nat.le_succ _) _ rfl

theorem Rc.cyclic_no {n : Nat} {l : List Nat} (h : ∀ x, x < n → Gf.bit (Rc.closeR n l) x x = false) : Rc.cyclicR n l = false := by
  rw [Rc.cyclicR, ← Bool.not_eq_true, List.any_eq_true]
  rintro ⟨x, hx, hb⟩
  rw [h x (List.mem_range.1 hx)] at hb
  cases hb
theorem Rc.cyclic_yes {n : Nat} {l : List Nat} {x : Nat} (hx : x < n) (h : Gf.bit (Rc.closeR n l) x x = true) : Rc.cyclicR n l = true := by
  rw [Rc.cyclicR, List.any_eq_true]
  exact ⟨x, List.mem_range.2 hx, h⟩
set_option maxHeartbeats 2000000 in
theorem rCyclic13_at (n : Nat) (u : Value) (l : List Nat) (w : World) (hu : Us w u l) (hl : Gf.Ok n l) : Calls Tryd.prog 16 #[.agg #[.int .i64 n, u]] w (RetBool w (Rc.cyclicR n l)) := by
  have HU := Lib.hid hu
  have T0 := Lib.hid (Two.new w 26 (.int .i64 n) u)
  have BW := Lib.hid (alloc_below w (.cells #[.int .i64 n, u] 26))
  obtain ⟨A0, c0', rfl, -⟩ := hu.spelled
  have h64 := hl.1
  have F1 := Lib.hid (fun w h => rRight12_at n (.slice A0 l.length c0') l w h (fun x hx => hl.small hx))
  rw [(Gf.okB_nat n l).2 hl] at F1
  have F2 := Lib.hid (fun w h => rClose13_at n (.slice A0 l.length c0') l w h hl)
  have HOC := Lib.hid (Rc.close_ok hl)
  have HYes := Lib.hid (fun x h1 h2 => @Rc.cyclic_yes n l x h1 h2)
  have HNo := Lib.hid (fun h => @Rc.cyclic_no n l h)
  clear hu hl
  generalize Rc.cyclicR n l = res at *
  generalize Rc.closeR n l = cl at *
  go_enter Tryd.func16, Tryd.ntmps16
  go_wp2_with fail
  generalize w.alloc (.cells #[.int .i64 n, .slice A0 l.length c0'] 26) = W at *
  refine (F1.out _ (HU.out.below BW.out)).mono ?_
  rintro e w1 ⟨rfl, hb1⟩
  have T1 := Lib.hid (T0.out.later hb1)
  have B1 := Lib.hid (below_all BW.out hb1)
  clear hb1 T0 BW
  obtain ⟨a0, a1⟩ := T1.out.cells
  go_wp2_with fail
  refine (F2.out _ (HU.out.below B1.out)).mono ?_
  rintro e w2 ⟨v2, rfl, hu2, hb2⟩
  obtain ⟨A2, c2, rfl⟩ := us_form hu2
  have b3 := alloc_below w2 (.cells #[.int .i64 n, .slice A2 cl.length c2] 26)
  have T3 := Lib.hid (T1.out.later (below_all hb2 b3))
  have B3 := Lib.hid (below_all B1.out (below_all hb2 b3))
  have U3 := Lib.hid (hu2.below b3)
  have C3 := Lib.hid (Two.new w2 26 (.int .i64 n) (.slice A2 cl.length c2))
  clear hb2 b3 hu2 a0 a1 T1 B1
  obtain ⟨a0, a1⟩ := T3.out.cells
  go_wp2_with fail
  clear a0 a1
  generalize w2.alloc (.cells #[.int .i64 n, .slice A2 cl.length c2] 26) = w3 at *
  generalize w2.heap.size = oc at *
  have F3 := Lib.hid (fun w x h hw => rHas12_at n (.slice A2 cl.length c2) cl x (x : Int) w hw h (HOC.out.small (List.getElem_mem h)))
  have HLN := Lib.hid HOC.out.2.1
  have HBB : Hid (∀ x (h : x < cl.length), x < n → Bi.has cl[x] (x : Int) = Gf.bit cl x x) := fun x h hx => by
    rw [Bi.has_nat _ x (by omega), Gf.bit_at h]
  go_loopw [5] (fun i wr => ∃ x : Nat, x ≤ n ∧ i = .int .i64 x ∧ Hid (∀ y, y < x → Gf.bit cl y y = false) ∧ Hid (Below w3.heap.size w3 wr)) (fun i _ => n - (intOf i).toNat)
  case atStart => exact ⟨0, Nat.zero_le _, rfl, (fun y h => absurd h (by omega)), Below.refl _ _⟩
  case round =>
    obtain ⟨x, hx, rfl, HQ, HB⟩ := hrel
    obtain ⟨a0, a1⟩ := (T3.out.later HB.out).cells
    by_cases hlt : x < n
    · have hxl : x < cl.length := by have := HLN.out; omega
      have G := Lib.hid (fun w hw => F3.out w x hxl hw)
      rw [HBB.out x hxl hlt] at G
      obtain ⟨q0, q1⟩ := (C3.out.later HB.out).cells
      cases hb : Gf.bit cl x x with
      | true =>
        have HR := Lib.hid (HYes.out x hlt hb)
        rw [hb] at G
        clear hb
        go_wp2_with fail
        refine (G.out _ (U3.out.below HB.out)).mono ?_
        rintro e w4 ⟨rfl, hb4⟩
        have B4 := Lib.hid (below_all (below_all B3.out HB.out) hb4)
        go_wp2_with fail
        go_ret
        exact ⟨ret_bool HR.out.symm, B4.out⟩
      | false =>
        have HQ2 : Hid (∀ y, y < x + 1 → Gf.bit cl y y = false) := fun y h => by
          by_cases e : y = x
          · subst e; exact hb
          · exact HQ.out y (by omega)
        rw [hb] at G
        clear hb
        go_wp2_with fail
        refine (G.out _ (U3.out.below HB.out)).mono ?_
        rintro e w4 ⟨rfl, hb4⟩
        have B4 := Lib.hid (below_all HB.out hb4)
        go_wp2_with fail
        go_roundw
        case rel => exact ⟨x + 1, by omega, by go_num, HQ2, B4.out⟩
        case measure => simp [intOf]; omega
    · have hxn : x = n := by omega
      subst hxn
      have HR := Lib.hid (HNo.out (fun y h => HQ.out y h))
      go_wp2_with fail
      go_ret
      exact ⟨ret_bool HR.out.symm, below_all B3.out HB.out⟩
end Go.Proofs.YtadgfplaabgkfaaDoor
