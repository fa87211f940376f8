/-
  Several texts in one, each with its own first words: RcRef, RcRefB.
  Conditions: as each says.
-/
import Derived.Test.YtameeegmbpiiaaaRcAll
import Derived.Test.YtameeegmbpiiaaaGfRef
/-
  What the reference's functions of layer 13 answer: Close.
  Conditions: rows hold sets below 2^64.
-/
set_option maxRecDepth 4000
namespace Go.Proofs.Ytameeegmbpiiaaa
open Go.RowKit

/-- A graph that a call of the reference's hands back, its row anybody's. -/
def RetS (w : World) (n : Int) (l : List Nat) (e : Ending) (w' : World) : Prop := ∃ v, e = .returned (.agg #[.int .i64 n, v]) ∧ Us w' v l ∧ Below w.heap.size w w'
/-- The end of such a call. -/
theorem end_s {fn : Func} {p : Tmp} (h : fn.results = #[.cell p 26]) {w X : World} {b : Nat} {n : Int} {l : List Nat} {u0 u1 : Value} {A : Option Addr} {m c : Nat} (hT : Two X b 26 u0 u1) (hR : Us ((X.setCell ⟨b, 0, none⟩ (.int .i64 n)).setCell ⟨b, 1, none⟩ (.slice A m c)) (.slice A m c) l) (hB : Below w.heap.size w X) (hb : w.heap.size ≤ b)
    (tmps : Array Value) (hp : tmps.getD p undef = .pointer (some ⟨b, 0, none⟩)) :
    bodyPost Try.prog fn (RetS w n l) Exit.ret { tmps := tmps, defers := [] } ((X.setCell ⟨b, 0, none⟩ (.int .i64 n)).setCell ⟨b, 1, none⟩ (.slice A m c)) := by
  obtain ⟨p0, p1⟩ := (hT.put (x := .int .i64 n) (y := .slice A m c)).cells
  exact bodyPost_ret (res_r h _ b _ n _ _ _ hp p0 p1) rfl ⟨_, rfl, hR, (hB.setCell (p := ⟨b, 0, none⟩) hb _).setCell (p := ⟨b, 1, none⟩) hb _⟩
/-- A row that is read stays where another block is stored into. -/
theorem us_far {W : World} {b k : Nat} {v : Value} {l : List Nat} (h : Us W v l) (hne : ∀ A m c, v = .slice (some A) m c → 0 < l.length → A.block ≠ b) (x : Value) : Us (W.setCell ⟨b, k, none⟩ x) v l := by
  obtain ⟨h1, A, c, hv, hc, hz, hh⟩ := h
  refine ⟨h1, A, c, hv, hc, hz, fun h0 => ?_⟩
  obtain ⟨ad, e, hb, hcell⟩ := hh h0
  subst e
  have hd := hne ad _ _ hv h0
  exact ⟨ad, rfl, by simpa using hb, fun j u hu => (far_cell (by rw [add_block]; exact hd)).trans (hcell j u hu)⟩

set_option maxHeartbeats 8000000 in
theorem rClose13_at (n : Nat) (u : Value) (a : List Nat) (w : World) (hu : Us w u a) (ha : Gf.Ok n a) : Calls Try.prog 24 #[.agg #[.int .i64 n, u]] w (RetS w n (Rc.closeR n a)) := by
  obtain ⟨A0, c0', rfl, -⟩ := hu.spelled
  rw [ha.2.1] at hu ⊢
  have h64 := ha.1
  have HR0 : Hid (a = Gf.build n (Rc.war a 0)) := Gf.build_is ha fun x y _ _ => (Rc.war_zero a x y).symm
  have HLT : Hid (∀ k x, x < n → x < (Gf.build n (Rc.war a k)).length) := fun k x h => by rw [Gf.build_len]; exact h
  have HSM : Hid (∀ k x (h : x < (Gf.build n (Rc.war a k)).length), (Gf.build n (Rc.war a k))[x] < 18446744073709551616) := fun k x h => (Gf.build_ok h64 (Rc.war a k)).small (List.getElem_mem h)
  have HBF : Hid (∀ k x y (h : x < (Gf.build n (Rc.war a k)).length), x < n → y < n → Bi.has (Gf.build n (Rc.war a k))[x] (y : Int) = Rc.war a k x y) := fun k x y h hx hy => by
    rw [Bi.has_nat _ y (by omega), ← Gf.bit_at h, Gf.build_bit h64, decide_eq_true hx, decide_eq_true hy, Bool.true_and, Bool.true_and]
  have HWN := Lib.hid (fun k x y => Rc.war_next a k x y)
  have HALL : Hid (Gf.build n (Rc.war a n) = Rc.closeR n a) := rfl
  have t0 := ((Two.new w 26 (.int .i64 n) (.slice A0 n c0')).later (alloc_below _ (.cells #[.int .i64 0, .slice none 0 0] 26))).later (alloc_below _ (.cells #[.int .i64 n, .slice A0 n c0'] 26))
  have t1 := (Two.new (w.alloc (.cells #[.int .i64 n, .slice A0 n c0'] 26)) 26 (.int .i64 0) (.slice none 0 0)).later (alloc_below _ (.cells #[.int .i64 n, .slice A0 n c0'] 26))
  have t2 := Two.new ((w.alloc (.cells #[.int .i64 n, .slice A0 n c0'] 26)).alloc (.cells #[.int .i64 0, .slice none 0 0] 26)) 26 (.int .i64 n) (.slice A0 n c0')
  rw [World.size_alloc] at t1
  rw [World.size_alloc, World.size_alloc] at t2
  have bw := below_all (below_all (alloc_below w (.cells #[.int .i64 n, .slice A0 n c0'] 26)) (alloc_below _ (.cells #[.int .i64 0, .slice none 0 0] 26))) (alloc_below _ (.cells #[.int .i64 n, .slice A0 n c0'] 26))
  have U0 := hu.below bw
  have T0 := Lib.hid t0
  have T1 := Lib.hid t1
  have T2 := Lib.hid t2
  have BW := Lib.hid bw
  have UU := Lib.hid U0
  have HFAR0 : Hid (∀ ad, A0 = some ad → 0 < n → ad.block < w.heap.size) := by
    intro ad e hn
    subst e
    obtain ⟨_, A1, c1, hv, _, _, hh⟩ := hu
    cases hv
    obtain ⟨ad', e', hb, _⟩ := hh (by rw [ha.2.1]; exact hn)
    cases e'
    exact hb
  clear t0 t1 t2 bw U0 hu ha
  go_enter Try.func24, Try.ntmps24
  go_wp2_with fail
  generalize ((w.alloc (.cells #[.int .i64 n, .slice A0 n c0'] 26)).alloc (.cells #[.int .i64 0, .slice none 0 0] 26)).alloc (.cells #[.int .i64 n, .slice A0 n c0'] 26) = W at *
  go_loopw [4] (fun i wr => ∃ (k : Nat) (A : Option Addr) (c : Nat), k ≤ n ∧ i = .int .i64 k ∧ Hid (Two wr w.heap.size 26 (.int .i64 n) (.slice A0 n c0')) ∧ Hid (Two wr (w.heap.size + 1) 26 (.int .i64 0) (.slice none 0 0)) ∧ Hid (Two wr (w.heap.size + 1 + 1) 26 (.int .i64 n) (.slice A n c)) ∧ Hid (Us wr (.slice A n c) (Gf.build n (Rc.war a k))) ∧ Hid (∀ ad, A = some ad → 0 < n → ad.block < w.heap.size ∨ w.heap.size + 1 + 1 < ad.block) ∧ Hid (Below w.heap.size w wr)) (fun i _ => n - (intOf i).toNat)
  case atStart => exact ⟨0, A0, c0', Nat.zero_le _, rfl, T0.out, T1.out, T2.out, by rw [Hid, ← HR0.out]; exact UU.out, fun ad e hn => .inl (HFAR0.out ad e hn), BW.out⟩
  case round =>
    clear T0 T1 T2 BW UU HFAR0
    obtain ⟨k, Ac, cc, hk, rfl, T0, T1, TC, UC, HFAR, HB⟩ := hrel
    obtain ⟨a0, a1⟩ := T0.out.cells
    by_cases hltk : k < n
    · go_wp2_with fail
      refine (rNew12_at n h64 _).mono ?_
      rintro e w1 ⟨v1, rfl, ho1, hb1⟩
      obtain ⟨b, hb⟩ : ∃ b, b + 1 = wr.heap.size := ⟨wr.heap.size - 1, by have := T0.out.lt; omega⟩
      obtain ⟨A, c, rfl, hmk⟩ := Mk.start (n := n) (b := b) (by omega) hb1 ho1
      have HM := Lib.hid hmk
      have HBB := Lib.hid hb
      have HL := Lib.hid (T0.out.lt)
      have HL2 := Lib.hid (TC.out.lt)
      clear hmk ho1 hb1 a0 a1 hb
      obtain ⟨f, hf⟩ : ∃ f : Nat → Nat → Bool, f = Rc.war a (k + 1) := ⟨_, rfl⟩
      have HZ := Lib.hid (Gf.rowsAt_zero n f)
      have HE : Hid (Gf.rowsAt n f n 0 = Gf.build n (Rc.war a (k + 1))) := by rw [hf]; exact Gf.rowsAt_all n _ 0
      have HN : Hid (∀ x, Gf.rowsAt n f x (Gf.setTo (f x) n) = Gf.rowsAt n f (x + 1) 0) := fun x => Gf.rowsAt_next f x
      have HST := Lib.hid (fun x s t => @Gf.rowsAt_set n f x s t)
      have HRH := Lib.hid (fun x (h : x < n) s => Gf.rowsAt_here f h s)
      have HS0 := Lib.hid (fun x => Gf.setTo_zero (f x))
      have HSN := Lib.hid (fun x y => Gf.setTo_next (f x) y)
      have HSL := Lib.hid (fun x y => Gf.setTo_lt64 (f x) y)
      have HFW : Hid (∀ x y, f x y = (Rc.war a k x y || (Rc.war a k x k && Rc.war a k k y))) := fun x y => by rw [hf]; exact HWN.out k x y
      have F2 := Lib.hid (fun w x h y hw => rHas12_at n (.slice Ac n cc) (Gf.build n (Rc.war a k)) x y w hw h (HSM.out k x h))
      have HBK := Lib.hid (fun x y h => HBF.out k x y h)
      have HLK := Lib.hid (HLT.out k)
      clear hf
      rw [← HZ.out] at HM
      obtain ⟨a0, a1⟩ := (two_at T0.out HM.out.low (by have := HBB.out; have := HL.out; omega)).cells
      go_wp2_with fail
      clear a0 a1
      generalize w1.alloc (.cells #[.int .i64 (n : Int), .slice A n c] 26) = w2 at *
      generalize w1.heap.size = o at *
      generalize hwk : wr = WK at *
      clear hwk
      go_loopw [6] (fun i wq => ∃ x : Nat, x ≤ n ∧ i = .int .i64 x ∧ Hid (Mk WK wq b o n A c (Gf.rowsAt n f x 0))) (fun i _ => n - (intOf i).toNat)
      case atStart => exact ⟨0, Nat.zero_le _, rfl, HM.out⟩
      case round =>
        clear HM
        obtain ⟨x, hx, rfl, HM⟩ := hrel
        obtain ⟨a0, a1⟩ := (two_at T0.out HM.out.low (by have := HBB.out; have := HL.out; omega)).cells
        by_cases hlt : x < n
        · rw [← HS0.out x] at HM
          go_wp2_with fail
          clear a0 a1
          go_loopw [7] (fun i wq => ∃ y : Nat, y ≤ n ∧ i = .int .i64 y ∧ Hid (Mk WK wq b o n A c (Gf.rowsAt n f x (Gf.setTo (f x) y)))) (fun i _ => n - (intOf i).toNat)
          case atStart => exact ⟨0, Nat.zero_le _, rfl, HM.out⟩
          case round =>
            clear HM
            obtain ⟨y, hy, rfl, HM⟩ := hrel
            obtain ⟨a0, a1⟩ := (two_at T0.out HM.out.low (by have := HBB.out; have := HL.out; omega)).cells
            by_cases hlt2 : y < n
            · have hxl := HLK.out x hlt
              have hkl := HLK.out k hltk
              have hsn := HSN.out x y
              have hsl := HSL.out x y
              have HP := Lib.hid (HBK.out x y hxl hlt hlt2)
              have HQ := Lib.hid (HBK.out x k hxl hlt hltk)
              have HR := Lib.hid (HBK.out k y hkl hltk hlt2)
              have HFV := Lib.hid (HFW.out x y)
              generalize Rc.war a k x y = p at *
              generalize Rc.war a k x k = q at *
              generalize Rc.war a k k y = r at *
              have G1 := Lib.hid (fun w hw => F2.out w x hxl (y : Int) hw)
              have G2 := Lib.hid (fun w hw => F2.out w x hxl (k : Int) hw)
              have G3 := Lib.hid (fun w hw => F2.out w k hkl (y : Int) hw)
              rw [HP.out] at G1
              rw [HQ.out] at G2
              rw [HR.out] at G3
              clear HP HQ HR
              obtain ⟨q0, q1⟩ := (two_at TC.out HM.out.low (by have := HBB.out; have := HL2.out; omega)).cells
              go_wp2_with fail
              refine (G1.out _ (UC.out.below (HBB.out ▸ HM.out.low))).mono ?_
              rintro e w3 ⟨rfl, hb3⟩
              have HM1 := Lib.hid (HM.out.later hb3)
              clear hb3 HM a0 a1 q0 q1
              obtain ⟨q0, q1⟩ := (two_at TC.out HM1.out.low (by have := HBB.out; have := HL2.out; omega)).cells
              go_wp2_with fail
              refine (G2.out _ (UC.out.below (HBB.out ▸ HM1.out.low))).mono ?_
              rintro e w4 ⟨rfl, hb4⟩
              have HM2 := Lib.hid (HM1.out.later hb4)
              clear hb4 HM1 q0 q1
              obtain ⟨q0, q1⟩ := (two_at TC.out HM2.out.low (by have := HBB.out; have := HL2.out; omega)).cells
              go_wp2_with fail
              refine (G3.out _ (UC.out.below (HBB.out ▸ HM2.out.low))).mono ?_
              rintro e w6 ⟨rfl, hb6⟩
              have HM3 := Lib.hid (HM2.out.later hb6)
              clear hb6 HM2 q0 q1 G1 G2 G3
              obtain ⟨a0, a1⟩ := (two_at T0.out HM3.out.low (by have := HBB.out; have := HL.out; omega)).cells
              cases p with
              | true =>
                have hfv : f x y = true := by rw [HFV.out]; rfl
                cases q with
                | true =>
                  cases r with
                  | true =>
                    rw [hfv] at hsn
                    have hsn' : Gf.setTo (f x) (y + 1) = Bi.withN (Gf.setTo (f x) y) (y : Int) := hsn
                    have HSS := Lib.hid hsn'
                    clear hsn hsn' hfv
                    have F3 := Lib.hid (fun w => rWith10_at (Gf.setTo (f x) y) (y : Int) w hsl)
                    rw [← HSS.out] at F3
                    obtain ⟨g, hA, e2, f2, hput⟩ := HM3.out.put x hlt
                    rw [HRH.out x hlt] at e2
                    have HM4 := Lib.hid (hput (Gf.setTo (f x) (y + 1)))
                    rw [HST.out] at HM4
                    obtain ⟨e0, e1⟩ := HM3.out.out.cells
                    subst hA
                    obtain ⟨s', hs'⟩ : ∃ s', s' = Gf.setTo (f x) (y + 1) := ⟨_, rfl⟩
                    rw [← hs'] at F3 HM4
                    have HS' := Lib.hid hs'
                    clear hs' HSS hput
                    generalize Gf.setTo (f x) y = s at *
                    go_wp2_with fail
                    go_region_law (go_simp; go_at_call 45; refine (F3.out _).mono ?_; rintro e w5 ⟨rfl, rfl⟩)
                    all_goals
                      clear e0 e1 e2 f2 a0 a1
                      go_wp2_with fail
                      go_roundw
                      case rel => exact ⟨y + 1, by omega, by go_num, by rw [Hid, ← HS'.out]; exact HM4.out.later (Below.refl _ _).drew⟩
                      case measure => simp [intOf]; omega
                  | false =>
                    rw [hfv] at hsn
                    have hsn' : Gf.setTo (f x) (y + 1) = Bi.withN (Gf.setTo (f x) y) (y : Int) := hsn
                    have HSS := Lib.hid hsn'
                    clear hsn hsn' hfv
                    have F3 := Lib.hid (fun w => rWith10_at (Gf.setTo (f x) y) (y : Int) w hsl)
                    rw [← HSS.out] at F3
                    obtain ⟨g, hA, e2, f2, hput⟩ := HM3.out.put x hlt
                    rw [HRH.out x hlt] at e2
                    have HM4 := Lib.hid (hput (Gf.setTo (f x) (y + 1)))
                    rw [HST.out] at HM4
                    obtain ⟨e0, e1⟩ := HM3.out.out.cells
                    subst hA
                    obtain ⟨s', hs'⟩ : ∃ s', s' = Gf.setTo (f x) (y + 1) := ⟨_, rfl⟩
                    rw [← hs'] at F3 HM4
                    have HS' := Lib.hid hs'
                    clear hs' HSS hput
                    generalize Gf.setTo (f x) y = s at *
                    go_wp2_with fail
                    go_region_law (go_simp; go_at_call 45; refine (F3.out _).mono ?_; rintro e w5 ⟨rfl, rfl⟩)
                    all_goals
                      clear e0 e1 e2 f2 a0 a1
                      go_wp2_with fail
                      go_roundw
                      case rel => exact ⟨y + 1, by omega, by go_num, by rw [Hid, ← HS'.out]; exact HM4.out.later (Below.refl _ _).drew⟩
                      case measure => simp [intOf]; omega
                | false =>
                  cases r with
                  | true =>
                    rw [hfv] at hsn
                    have hsn' : Gf.setTo (f x) (y + 1) = Bi.withN (Gf.setTo (f x) y) (y : Int) := hsn
                    have HSS := Lib.hid hsn'
                    clear hsn hsn' hfv
                    have F3 := Lib.hid (fun w => rWith10_at (Gf.setTo (f x) y) (y : Int) w hsl)
                    rw [← HSS.out] at F3
                    obtain ⟨g, hA, e2, f2, hput⟩ := HM3.out.put x hlt
                    rw [HRH.out x hlt] at e2
                    have HM4 := Lib.hid (hput (Gf.setTo (f x) (y + 1)))
                    rw [HST.out] at HM4
                    obtain ⟨e0, e1⟩ := HM3.out.out.cells
                    subst hA
                    obtain ⟨s', hs'⟩ : ∃ s', s' = Gf.setTo (f x) (y + 1) := ⟨_, rfl⟩
                    rw [← hs'] at F3 HM4
                    have HS' := Lib.hid hs'
                    clear hs' HSS hput
                    generalize Gf.setTo (f x) y = s at *
                    go_wp2_with fail
                    go_region_law (go_simp; go_at_call 45; refine (F3.out _).mono ?_; rintro e w5 ⟨rfl, rfl⟩)
                    all_goals
                      clear e0 e1 e2 f2 a0 a1
                      go_wp2_with fail
                      go_roundw
                      case rel => exact ⟨y + 1, by omega, by go_num, by rw [Hid, ← HS'.out]; exact HM4.out.later (Below.refl _ _).drew⟩
                      case measure => simp [intOf]; omega
                  | false =>
                    rw [hfv] at hsn
                    have hsn' : Gf.setTo (f x) (y + 1) = Bi.withN (Gf.setTo (f x) y) (y : Int) := hsn
                    have HSS := Lib.hid hsn'
                    clear hsn hsn' hfv
                    have F3 := Lib.hid (fun w => rWith10_at (Gf.setTo (f x) y) (y : Int) w hsl)
                    rw [← HSS.out] at F3
                    obtain ⟨g, hA, e2, f2, hput⟩ := HM3.out.put x hlt
                    rw [HRH.out x hlt] at e2
                    have HM4 := Lib.hid (hput (Gf.setTo (f x) (y + 1)))
                    rw [HST.out] at HM4
                    obtain ⟨e0, e1⟩ := HM3.out.out.cells
                    subst hA
                    obtain ⟨s', hs'⟩ : ∃ s', s' = Gf.setTo (f x) (y + 1) := ⟨_, rfl⟩
                    rw [← hs'] at F3 HM4
                    have HS' := Lib.hid hs'
                    clear hs' HSS hput
                    generalize Gf.setTo (f x) y = s at *
                    go_wp2_with fail
                    go_region_law (go_simp; go_at_call 45; refine (F3.out _).mono ?_; rintro e w5 ⟨rfl, rfl⟩)
                    all_goals
                      clear e0 e1 e2 f2 a0 a1
                      go_wp2_with fail
                      go_roundw
                      case rel => exact ⟨y + 1, by omega, by go_num, by rw [Hid, ← HS'.out]; exact HM4.out.later (Below.refl _ _).drew⟩
                      case measure => simp [intOf]; omega
              | false =>
                cases q with
                | true =>
                  cases r with
                  | true =>
                    have hfv : f x y = true := by rw [HFV.out]; rfl
                    rw [hfv] at hsn
                    have hsn' : Gf.setTo (f x) (y + 1) = Bi.withN (Gf.setTo (f x) y) (y : Int) := hsn
                    have HSS := Lib.hid hsn'
                    clear hsn hsn' hfv
                    have F3 := Lib.hid (fun w => rWith10_at (Gf.setTo (f x) y) (y : Int) w hsl)
                    rw [← HSS.out] at F3
                    obtain ⟨g, hA, e2, f2, hput⟩ := HM3.out.put x hlt
                    rw [HRH.out x hlt] at e2
                    have HM4 := Lib.hid (hput (Gf.setTo (f x) (y + 1)))
                    rw [HST.out] at HM4
                    obtain ⟨e0, e1⟩ := HM3.out.out.cells
                    subst hA
                    obtain ⟨s', hs'⟩ : ∃ s', s' = Gf.setTo (f x) (y + 1) := ⟨_, rfl⟩
                    rw [← hs'] at F3 HM4
                    have HS' := Lib.hid hs'
                    clear hs' HSS hput
                    generalize Gf.setTo (f x) y = s at *
                    go_wp2_with fail
                    go_region_law (go_simp; go_at_call 45; refine (F3.out _).mono ?_; rintro e w5 ⟨rfl, rfl⟩)
                    all_goals
                      clear e0 e1 e2 f2 a0 a1
                      go_wp2_with fail
                      go_roundw
                      case rel => exact ⟨y + 1, by omega, by go_num, by rw [Hid, ← HS'.out]; exact HM4.out.later (Below.refl _ _).drew⟩
                      case measure => simp [intOf]; omega
                  | false =>
                    have hfv : f x y = false := by rw [HFV.out]; rfl
                    rw [hfv] at hsn
                    have hsn' : Gf.setTo (f x) (y + 1) = Gf.setTo (f x) y := hsn
                    have HSS := Lib.hid hsn'
                    clear hsn hsn' hfv
                    go_wp2_with fail
                    go_roundw
                    case rel => exact ⟨y + 1, by omega, by go_num, by rw [Hid, HSS.out]; exact HM3.out⟩
                    case measure => simp [intOf]; omega
                | false =>
                  have hfv : f x y = false := by rw [HFV.out]; rfl
                  cases r with
                  | true =>
                    rw [hfv] at hsn
                    have hsn' : Gf.setTo (f x) (y + 1) = Gf.setTo (f x) y := hsn
                    have HSS := Lib.hid hsn'
                    clear hsn hsn' hfv
                    go_wp2_with fail
                    go_roundw
                    case rel => exact ⟨y + 1, by omega, by go_num, by rw [Hid, HSS.out]; exact HM3.out⟩
                    case measure => simp [intOf]; omega
                  | false =>
                    rw [hfv] at hsn
                    have hsn' : Gf.setTo (f x) (y + 1) = Gf.setTo (f x) y := hsn
                    have HSS := Lib.hid hsn'
                    clear hsn hsn' hfv
                    go_wp2_with fail
                    go_roundw
                    case rel => exact ⟨y + 1, by omega, by go_num, by rw [Hid, HSS.out]; exact HM3.out⟩
                    case measure => simp [intOf]; omega
            · have hyn : y = n := by omega
              subst hyn
              rw [HN.out] at HM
              go_wp2_with fail
              go_roundw
              case rel => exact ⟨x + 1, by omega, by go_num, HM.out⟩
              case measure => simp [intOf]; omega
        · have hxn : x = n := by omega
          subst hxn
          rw [HE.out] at HM
          obtain ⟨e0, e1⟩ := HM.out.out.cells
          have TC5 := Lib.hid (two_at TC.out HM.out.low (by have := HBB.out; have := HL2.out; omega))
          have T05 := Lib.hid (two_at T0.out HM.out.low (by have := HBB.out; have := HL.out; omega))
          have T15 := Lib.hid (two_at T1.out HM.out.low (by have := HBB.out; have := HL2.out; omega))
          have B5 := Lib.hid (HB.out.trans (HM.out.low.mono (by have := HBB.out; have := HL.out; omega)))
          obtain ⟨q0, q1⟩ := TC5.out.cells
          have s0 := TC5.out.frozen 0
          have s1 := TC5.out.frozen 1
          have HO : Hid (OwnU ((wr.setCell ⟨w.heap.size + 1 + 1, 0, none⟩ (.int .i64 (x : Int))).setCell ⟨w.heap.size + 1 + 1, 1, none⟩ (.slice A x c)) (b + 1) (.slice A x c) (Gf.build x (Rc.war a (k + 1)))) := own_setCell (own_setCell HM.out.own (by have := HBB.out; have := HL2.out; omega)) (by have := HBB.out; have := HL2.out; omega)
          have HFA : Hid (∀ ad, A = some ad → 0 < x → ad.block < w.heap.size ∨ w.heap.size + 1 + 1 < ad.block) := fun ad e hn => by
            obtain ⟨g, c', e'⟩ := own_head HM.out.own (by rw [Gf.build_len]; exact hn)
            rw [Gf.build_len] at e'
            cases e'
            cases e
            have := World.ownsRow.lt HM.out.own g rfl
            have := HBB.out
            have := HL2.out
            right
            show w.heap.size + 1 + 1 < g
            omega
          have TP : Hid (Two ((wr.setCell ⟨w.heap.size + 1 + 1, 0, none⟩ (.int .i64 (x : Int))).setCell ⟨w.heap.size + 1 + 1, 1, none⟩ (.slice A x c)) (w.heap.size + 1 + 1) 26 (.int .i64 (x : Int)) (.slice A x c)) := TC5.out.put
          have TBx : Hid (Two ((wr.setCell ⟨w.heap.size + 1 + 1, 0, none⟩ (.int .i64 (x : Int))).setCell ⟨w.heap.size + 1 + 1, 1, none⟩ (.slice A x c)) w.heap.size 26 (.int .i64 (x : Int)) (.slice A0 x c0')) := two_far (two_far T05.out _ (by show w.heap.size + 1 + 1 ≠ w.heap.size; omega) _) _ (by show w.heap.size + 1 + 1 ≠ w.heap.size; omega) _
          have TY : Hid (Two ((wr.setCell ⟨w.heap.size + 1 + 1, 0, none⟩ (.int .i64 (x : Int))).setCell ⟨w.heap.size + 1 + 1, 1, none⟩ (.slice A x c)) (w.heap.size + 1) 26 (.int .i64 0) (.slice none 0 0)) := two_far (two_far T15.out _ (by show w.heap.size + 1 + 1 ≠ w.heap.size + 1; omega) _) _ (by show w.heap.size + 1 + 1 ≠ w.heap.size + 1; omega) _
          have BP : Hid (Below w.heap.size w ((wr.setCell ⟨w.heap.size + 1 + 1, 0, none⟩ (.int .i64 (x : Int))).setCell ⟨w.heap.size + 1 + 1, 1, none⟩ (.slice A x c))) := (B5.out.setCell (p := ⟨w.heap.size + 1 + 1, 0, none⟩) (by show w.heap.size ≤ w.heap.size + 1 + 1; omega) _).setCell (p := ⟨w.heap.size + 1 + 1, 1, none⟩) (by show w.heap.size ≤ w.heap.size + 1 + 1; omega) _
          go_wp2_with fail
          go_roundw
          case rel => exact ⟨k + 1, A, c, by omega, by go_num, TBx.out, TY.out, TP.out, HO.out.us, HFA.out, BP.out⟩
          case measure => simp [intOf]; omega
    · have hkn : k = n := by omega
      subst hkn
      obtain ⟨q0, q1⟩ := TC.out.cells
      obtain ⟨r0, r1⟩ := T1.out.cells
      have s0 := T1.out.frozen 0
      have s1 := T1.out.frozen 1
      rw [HALL.out] at UC
      have hlc : (Rc.closeR k a).length = k := Gf.build_len _ _
      have HUE : Hid (Us ((wr.setCell ⟨w.heap.size + 1, 0, none⟩ (.int .i64 (k : Int))).setCell ⟨w.heap.size + 1, 1, none⟩ (.slice Ac k cc)) (.slice Ac k cc) (Rc.closeR k a)) := by
        refine us_far (us_far UC.out ?_ _) ?_ _
        all_goals
          intro ad m c' hv h0
          cases hv
          rw [hlc] at h0
          have := HFAR.out ad rfl h0
          show ad.block ≠ w.heap.size + 1
          omega
      clear hlc
      go_wp2_with fail
      exact end_s (p := 2) rfl T1.out HUE.out HB.out (Nat.le_succ _) _ rfl
end Go.Proofs.Ytameeegmbpiiaaa
/-
  What the reference's functions of layer 13 answer: More, Cyclic.
  Conditions: rows hold sets below 2^64.
  (This program has not all of these functions: rMore13_at, rCyclic13_at are left out here.)
-/
set_option maxRecDepth 4000
namespace Go.Proofs.Ytameeegmbpiiaaa
open Go.RowKit

theorem Rc.cyclic_no {n : Nat} {l : List Nat} (h : ∀ x, x < n → Gf.bit (Rc.closeR n l) x x = false) : Rc.cyclicR n l = false := by
  rw [Rc.cyclicR, ← Bool.not_eq_true, List.any_eq_true]
  rintro ⟨x, hx, hb⟩
  rw [h x (List.mem_range.1 hx)] at hb
  cases hb
theorem Rc.cyclic_yes {n : Nat} {l : List Nat} {x : Nat} (hx : x < n) (h : Gf.bit (Rc.closeR n l) x x = true) : Rc.cyclicR n l = true := by
  rw [Rc.cyclicR, List.any_eq_true]
  exact ⟨x, List.mem_range.2 hx, h⟩
end Go.Proofs.Ytameeegmbpiiaaa
