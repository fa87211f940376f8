/-
  What the reference's Union and Turn of layer 12 answer; words for a call of the reference's that makes a graph and fills it.
  Conditions: rows hold sets below 2^64.
-/
import Derived.Test.YtcpiaddohiokkaaGfRefB
set_option maxRecDepth 4000
namespace Go.Proofs.Ytcpiaddohiokkaa
open Go.RowKit

/-- A graph that is made: the variable at block o holds it, its row is the call's own; what lies at or below block b is as it was. -/
structure Mk (W0 W : World) (b o n : Nat) (A : Option Addr) (c : Nat) (r : List Nat) : Prop where
  out : Two W o 26 (.int .i64 (n : Int)) (.slice A n c)
  row : W.ownsRow (b + 1) 49 1 (.slice A n c) n (r.flatMap uC)
  len : r.length = n
  far : b < o
  low : Below (b + 1) W0 W
section
variable {W0 W W' : World} {b o n c : Nat} {A : Option Addr} {r : List Nat}
theorem Mk.later (h : Mk W0 W b o n A c r) (hb : Below W.heap.size W W') : Mk W0 W' b o n A c r := by
  have := h.out.lt
  have := h.far
  exact ⟨h.out.later hb, own_below h.row hb, h.len, h.far, h.low.trans (hb.mono (by omega))⟩
theorem Mk.own (h : Mk W0 W b o n A c r) : OwnU W (b + 1) (.slice A n c) r := by
  unfold OwnU
  rw [h.len]
  exact h.row
theorem Mk.below {w : World} (h : Mk W0 W b o n A c r) (hw : Below w.heap.size w W0) (hb : w.heap.size ≤ b + 1) : Below w.heap.size w W := hw.trans (h.low.mono hb)
/-- One set is changed. -/
theorem Mk.put (h : Mk W0 W b o n A c r) (k : Nat) (hk : k < n) : ∃ g, A = some ⟨g, 0, none⟩ ∧ W.cell? ⟨g, k, none⟩ = some (.int .u64 ((r[k]'(by rw [h.len]; exact hk) : Nat) : Int)) ∧ W.frozen? ⟨g, k, none⟩ = false ∧
    ∀ x : Nat, Mk W0 (W.setCell ⟨g, k, none⟩ (.int .u64 (x : Int))) b o n A c (r.set k x) := by
  have hkr : k < r.length := by rw [h.len]; exact hk
  obtain ⟨g, c', e⟩ := own_head h.own (by omega)
  cases e
  have ho := h.own
  refine ⟨g, rfl, ho.cell k hkr, ho.frozen k, fun x => ?_⟩
  have hgo : g ≠ o := by
    intro e
    subst e
    rcases ho.2 with ⟨h', _⟩ | ⟨g', cap', cur, h', _, hg, _⟩
    · cases h'
    · cases h'
      have := h.out
      rw [Two, hg] at this
      cases this
  have hp := ho.put k hkr x
  unfold OwnU at hp
  rw [List.length_set] at hp
  exact ⟨two_far h.out _ hgo _, hp, List.length_set, h.far, h.low.setCell (p := ⟨g, k, none⟩) (ho.lt).1 _⟩
end
/-- The world at the first call: the two graphs and the result lie in variables. -/
theorem gr_two (w : World) (n m : Int) (u v : Value) {W : World} (h : W = ((w.alloc (.cells #[.int .i64 n, u] 26)).alloc (.cells #[.int .i64 m, v] 26)).alloc (.cells #[.int .i64 0, .slice none 0 0] 26)) :
    Two W w.heap.size 26 (.int .i64 n) u ∧ Two W (w.heap.size + 1) 26 (.int .i64 m) v ∧ Two W (w.heap.size + 1 + 1) 26 (.int .i64 0) (.slice none 0 0) ∧ Below w.heap.size w W := by
  subst h
  have b1 := alloc_below w (.cells #[.int .i64 n, u] 26)
  have b2 := alloc_below (w.alloc (.cells #[.int .i64 n, u] 26)) (.cells #[.int .i64 m, v] 26)
  have b3 := alloc_below ((w.alloc (.cells #[.int .i64 n, u] 26)).alloc (.cells #[.int .i64 m, v] 26)) (.cells #[.int .i64 0, .slice none 0 0] 26)
  have t1 := Two.new (w.alloc (.cells #[.int .i64 n, u] 26)) 26 (.int .i64 m) v
  have t2 := Two.new ((w.alloc (.cells #[.int .i64 n, u] 26)).alloc (.cells #[.int .i64 m, v] 26)) 26 (.int .i64 0) (.slice none 0 0)
  rw [World.size_alloc] at t1
  rw [World.size_alloc, World.size_alloc] at t2
  exact ⟨((Two.new w 26 (.int .i64 n) u).later b2).later b3, t1.later b3, t2, below_all (below_all b1 b2) b3⟩
theorem gr_one (w : World) (n : Int) (u : Value) {W : World} (h : W = (w.alloc (.cells #[.int .i64 n, u] 26)).alloc (.cells #[.int .i64 0, .slice none 0 0] 26)) :
    Two W w.heap.size 26 (.int .i64 n) u ∧ Two W (w.heap.size + 1) 26 (.int .i64 0) (.slice none 0 0) ∧ Below w.heap.size w W := by
  subst h
  have b1 := alloc_below w (.cells #[.int .i64 n, u] 26)
  have b2 := alloc_below (w.alloc (.cells #[.int .i64 n, u] 26)) (.cells #[.int .i64 0, .slice none 0 0] 26)
  have t1 := Two.new (w.alloc (.cells #[.int .i64 n, u] 26)) 26 (.int .i64 0) (.slice none 0 0)
  rw [World.size_alloc] at t1
  exact ⟨(Two.new w 26 (.int .i64 n) u).later b2, t1, below_all b1 b2⟩
/-- Behind New: what it made lies in a variable. -/
theorem Mk.start {W W1 : World} {n : Nat} {v : Value} {b : Nat} (hbs : b < W.heap.size) (hb : Below W.heap.size W W1) (ho : OwnU W1 W.heap.size v (Gf.zeros n)) : ∃ A c, v = .slice A n c ∧ Mk W (W1.alloc (.cells #[.int .i64 (n : Int), .slice A n c] 26)) b W1.heap.size n A c (Gf.zeros n) := by
  have hz : (Gf.zeros n).length = n := List.length_replicate
  obtain ⟨A, c, e⟩ := ho.form
  rw [hz] at e
  subst e
  have b1 := alloc_below W1 (.cells #[.int .i64 (n : Int), .slice A n c] 26)
  unfold OwnU at ho
  rw [hz] at ho
  have hsz := hb.size
  exact ⟨A, c, rfl, Two.new _ _ _ _, (own_below ho b1).mono (by omega), hz, by omega, (hb.mono (by omega)).trans (b1.mono (by omega))⟩

set_option maxHeartbeats 2000000 in
theorem rTurn12_at (n : Nat) (u : Value) (a : List Nat) (w : World) (hu : Us w u a) (ha : Gf.Ok n a) : Calls Try.prog 16 #[.agg #[.int .i64 n, u]] w (RetR w n (Gf.turnR n a)) := by
  have HU := Lib.hid hu
  obtain ⟨A0, c0', rfl, -⟩ := hu.spelled
  have HLA := Lib.hid ha.2.1
  have HSA := Lib.hid (fun x (h : x < a.length) => ha.small (List.getElem_mem h))
  have hn64 := ha.1
  obtain ⟨f, hf⟩ : ∃ f : Nat → Nat → Bool, f = fun x y => Gf.bit a y x := ⟨_, rfl⟩
  have HZ := Lib.hid (Gf.rowsAt_zero n f)
  have HE : Hid (Gf.rowsAt n f n 0 = Gf.turnR n a) := by rw [hf]; exact Gf.rowsAt_all n _ 0
  have HN : Hid (∀ x, Gf.rowsAt n f x (Gf.setTo (f x) n) = Gf.rowsAt n f (x + 1) 0) := fun x => Gf.rowsAt_next f x
  have HST := Lib.hid (fun x s t => @Gf.rowsAt_set n f x s t)
  have HRH := Lib.hid (fun x (h : x < n) s => Gf.rowsAt_here f h s)
  have HS0 := Lib.hid (fun x => Gf.setTo_zero (f x))
  have HSN := Lib.hid (fun x y => Gf.setTo_next (f x) y)
  have HSL := Lib.hid (fun x y => Gf.setTo_lt64 (f x) y)
  have HBF : Hid (∀ x y (hy : y < a.length), x < n → Bi.has a[y] (x : Int) = f x y) := fun x y hy hx => by
    rw [hf, Bi.has_nat _ x (by omega)]
    exact (Gf.bit_at hy x).symm
  have F1 := Lib.hid (fun w => rNew12_at n hn64 w)
  have F2 := Lib.hid (fun w y h x hw => rHas12_at n (.slice A0 a.length c0') a y x w hw h (HSA.out y h))
  clear hu ha hf
  go_enter Try.func16, Try.ntmps16
  go_wp2_with fail
  obtain ⟨t0, t1, bw⟩ := gr_one w n (.slice A0 a.length c0') rfl
  have T0 := Lib.hid t0
  have T1 := Lib.hid t1
  have BW := Lib.hid bw
  clear t0 t1 bw
  generalize (w.alloc (.cells #[.int .i64 n, .slice A0 a.length c0'] 26)).alloc (.cells #[.int .i64 0, .slice none 0 0] 26) = W at *
  refine (F1.out _).mono ?_
  rintro e w1 ⟨v1, rfl, ho1, hb1⟩
  obtain ⟨A, c, rfl, hmk⟩ := Mk.start (n := n) T1.out.lt hb1 ho1
  have HM := Lib.hid hmk
  clear hmk ho1 hb1
  rw [← HZ.out] at HM
  go_wp2_with fail
  generalize w1.alloc (.cells #[.int .i64 (n : Int), .slice A n c] 26) = w2 at *
  generalize w1.heap.size = o at *
  go_loopw [4] (fun i wr => ∃ x : Nat, x ≤ n ∧ i = .int .i64 x ∧ Hid (Mk W wr (w.heap.size + 1) o n A c (Gf.rowsAt n f x 0))) (fun i _ => n - (intOf i).toNat)
  case atStart => exact ⟨0, Nat.zero_le _, rfl, HM.out⟩
  case round =>
    clear HM
    obtain ⟨x, hx, rfl, HM⟩ := hrel
    obtain ⟨a0, a1⟩ := (two_at T0.out HM.out.low (by omega)).cells
    by_cases hlt : x < n
    · rw [← HS0.out x] at HM
      go_wp2_with fail
      clear a0 a1
      go_loopw [5] (fun i wq => ∃ y : Nat, y ≤ n ∧ i = .int .i64 y ∧ Hid (Mk W wq (w.heap.size + 1) o n A c (Gf.rowsAt n f x (Gf.setTo (f x) y)))) (fun i _ => n - (intOf i).toNat)
      case atStart => exact ⟨0, Nat.zero_le _, rfl, HM.out⟩
      case round =>
        clear HM
        obtain ⟨y, hy, rfl, HM⟩ := hrel
        obtain ⟨a0, a1⟩ := (two_at T0.out HM.out.low (by omega)).cells
        by_cases hlt2 : y < n
        · have hya : y < a.length := by have := HLA.out; omega
          have hbf := HBF.out x y hya hlt
          have hsn := HSN.out x y
          have hsl := HSL.out x y
          go_wp2_with fail
          refine (F2.out _ y hya (x : Int) (HU.out.below (HM.out.below BW.out (by omega)))).mono ?_
          rintro e w3 ⟨rfl, hb3⟩
          rw [hbf]
          have HM3 := Lib.hid (HM.out.later hb3)
          clear hb3 HM a0 a1 hbf
          obtain ⟨a0, a1⟩ := (two_at T0.out HM3.out.low (by omega)).cells
          cases hb : f x y with
          | false =>
            rw [hb] at hsn
            have hsn' : Gf.setTo (f x) (y + 1) = Gf.setTo (f x) y := hsn
            have HSS := Lib.hid hsn'
            clear hsn hsn' hb
            go_wp2_with fail
            go_roundw
            case rel => exact ⟨y + 1, by omega, by go_num, by rw [Hid, HSS.out]; exact HM3.out⟩
            case measure => simp [intOf]; omega
          | true =>
            rw [hb] at hsn
            have hsn' : Gf.setTo (f x) (y + 1) = Bi.withN (Gf.setTo (f x) y) (y : Int) := hsn
            have HSS := Lib.hid hsn'
            clear hsn hsn' hb
            have F3 := Lib.hid (fun w => rWith10_at (Gf.setTo (f x) y) (y : Int) w hsl)
            rw [← HSS.out] at F3
            obtain ⟨g, hA, e2, f2, hput⟩ := HM3.out.put x hlt
            rw [HRH.out x hlt] at e2
            have HM4 := Lib.hid (hput (Gf.setTo (f x) (y + 1)))
            rw [HST.out] at HM4
            obtain ⟨e0, e1⟩ := HM3.out.out.cells
            subst hA
            obtain ⟨s', hs'⟩ : ∃ s', s' = Gf.setTo (f x) (y + 1) := ⟨_, rfl⟩
            rw [← hs'] at F3 HM4
            have HS' := Lib.hid hs'
            clear hs' HSS hput
            generalize Gf.setTo (f x) y = s at *
            go_wp2_with fail
            go_region_law (go_simp; go_at_call 34; refine (F3.out _).mono ?_; rintro e w5 ⟨rfl, rfl⟩)
            all_goals
              clear e0 e1 e2 f2 a0 a1
              go_wp2_with fail
              go_roundw
              case rel => exact ⟨y + 1, by omega, by go_num, by rw [Hid, ← HS'.out]; exact HM4.out.later (Below.refl _ _).drew⟩
              case measure => simp [intOf]; omega
        · have hyn : y = n := by omega
          subst hyn
          rw [HN.out] at HM
          go_wp2_with fail
          go_roundw
          case rel => exact ⟨x + 1, by omega, by go_num, HM.out⟩
          case measure => simp [intOf]; omega
    · have hxn : x = n := by omega
      subst hxn
      obtain ⟨e0, e1⟩ := HM.out.out.cells
      have TR := Lib.hid (two_at T1.out HM.out.low (by omega))
      obtain ⟨r0, r1⟩ := TR.out.cells
      have f0 := TR.out.frozen 0
      have f1 := TR.out.frozen 1
      rw [HE.out] at HM
      go_wp2_with fail
      exact end_r (p := 2) rfl TR.out HM.out.own (by omega) (HM.out.below BW.out (by omega)) (Nat.le_succ _) _ rfl
end Go.Proofs.Ytcpiaddohiokkaa
