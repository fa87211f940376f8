/-
  What graph's Union answers; words for a call on two graphs that fills a row of its own.
  Conditions: rows hold sets below 2^64.
-/
import Derived.Test.YtcpiaddohiokkaaGfWalkC
set_option maxRecDepth 4000
namespace Go.Proofs.Ytcpiaddohiokkaa
open Go.RowKit

/-- A call on two graphs: their variables, the result's, and the row that is filled. -/
structure Both (w W : World) (g : Nat) (n : Nat) (u v : Value) (r : List Nat) : Prop where
  one : Two W w.heap.size 24 (.int .i64 (n : Int)) u
  other : Two W (w.heap.size + 1) 24 (.int .i64 (n : Int)) v
  res : Two W (w.heap.size + 1 + 1) 24 (.int .i64 0) (.slice none 0 0)
  row : RowU W g r
  far : w.heap.size + 1 + 1 < g
  below : Below w.heap.size w W
section
variable {w W W' : World} {g n : Nat} {u v : Value} {r : List Nat}
theorem Both.later (h : Both w W g n u v r) (hb : Below W.heap.size W W') : Both w W' g n u v r :=
  ⟨h.one.later hb, h.other.later hb, h.res.later hb, h.row.later hb, h.far, below_all h.below hb⟩
theorem Both.drew (h : Both w W g n u v r) : Both w W.drew g n u v r := h.later (Below.refl _ W).drew
theorem Both.drewN (h : Both w W g n u v r) (k : Nat) : Both w (W.drewN k) g n u v r := h.later (drewN_below W k)
theorem Both.put (h : Both w W g n u v r) (k : Nat) (hk : k < r.length) (x : Nat) : Both w (W.setCell ⟨g, k, none⟩ (.int .u64 (x : Int))) g n u v (r.set k x) :=
  ⟨two_far h.one _ (by have := h.far; show g ≠ _; omega) _, two_far h.other _ (by have := h.far; show g ≠ _; omega) _, two_far h.res _ (by have := h.far; show g ≠ _; omega) _, h.row.put k hk x, h.far, h.below.setCell (p := ⟨g, k, none⟩) (by have := h.far; show w.heap.size ≤ g; omega) _⟩
theorem Both.done {fn : Func} {p q : Tmp} (hf : fn.results = #[.cell p 24, .tmp q]) (h : Both w W g n u v r) (hl : r.length ≤ maxLen) (m : Nat) (hm : m = r.length) (tmps : Array Value) (hp : tmps.getD p undef = .pointer (some ⟨w.heap.size + 1 + 1, 0, none⟩)) (hq : tmps.getD q undef = .int .i64 0) :
    bodyPost Try.prog fn (RetG w n r) Exit.ret { tmps := tmps, defers := [] } ((W.setCell ⟨w.heap.size + 1 + 1, 0, none⟩ (.int .i64 n)).setCell ⟨w.heap.size + 1 + 1, 1, none⟩ (.slice (some ⟨g, 0, none⟩) m m)) :=
  end_g hf h.res h.row h.below (by omega) h.far hl m hm tmps hp hq
end
/-- The world at the first call: the two graphs and the result lie in variables. -/
theorem gf_two (w : World) (n m : Int) (u v : Value) {W : World} (h : W = ((w.alloc (.cells #[.int .i64 n, u] 24)).alloc (.cells #[.int .i64 m, v] 24)).alloc (.cells #[.int .i64 0, .slice none 0 0] 24)) :
    Two W w.heap.size 24 (.int .i64 n) u ∧ Two W (w.heap.size + 1) 24 (.int .i64 m) v ∧ Two W (w.heap.size + 1 + 1) 24 (.int .i64 0) (.slice none 0 0) ∧ Below w.heap.size w W := by
  subst h
  have b1 := alloc_below w (.cells #[.int .i64 n, u] 24)
  have b2 := alloc_below (w.alloc (.cells #[.int .i64 n, u] 24)) (.cells #[.int .i64 m, v] 24)
  have b3 := alloc_below ((w.alloc (.cells #[.int .i64 n, u] 24)).alloc (.cells #[.int .i64 m, v] 24)) (.cells #[.int .i64 0, .slice none 0 0] 24)
  have t1 := Two.new (w.alloc (.cells #[.int .i64 n, u] 24)) 24 (.int .i64 m) v
  have t2 := Two.new ((w.alloc (.cells #[.int .i64 n, u] 24)).alloc (.cells #[.int .i64 m, v] 24)) 24 (.int .i64 0) (.slice none 0 0)
  rw [World.size_alloc] at t1
  rw [World.size_alloc, World.size_alloc] at t2
  exact ⟨((Two.new w 24 (.int .i64 n) u).later b2).later b3, t1.later b3, t2, below_all (below_all b1 b2) b3⟩

namespace Gf
theorem join_row {n : Nat} {a b : List Nat} (ha : Ok n a) (hb : Ok n b) {x : Nat} (h1 : x < a.length) (h2 : x < b.length) : Bi.join [a[x], b[x]] = setTo (fun y => bit a x y || bit b x y) n := by
  rw [union_row ha hb (by rw [← ha.2.1]; exact h1), List.getD_eq_getElem?_getD, List.getElem?_eq_getElem h1, List.getD_eq_getElem?_getD, List.getElem?_eq_getElem h2, Bi.join_two]
  rfl
end Gf

set_option maxHeartbeats 1000000 in
theorem gfUnion_no (n m : Int) (u v : Value) (a b : List Nat) (w : World) (hu : Us w u a) (hv : Us w v b) (ha : ∀ x ∈ a, x < 18446744073709551616) (hb : ∀ x ∈ b, x < 18446744073709551616) (hno : Gf.matchR n m a b = false) : Calls Try.prog 20 #[.agg #[.int .i64 n, u], .agg #[.int .i64 m, v]] w (RetNoG w) := by
  have HU := Lib.hid hu
  have HV := Lib.hid hv
  obtain ⟨A, c, rfl, -⟩ := hu.spelled
  obtain ⟨A', c', rfl, -⟩ := hv.spelled
  have F1 := Lib.hid (fun w h1 h2 => gfMatch_at n m (.slice A a.length c) (.slice A' b.length c') a b w h1 h2 ha hb)
  rw [hno] at F1
  clear ha hb hu hv hno
  go_enter Try.func20, Try.ntmps20
  go_wp2_with fail
  obtain ⟨t0, t1, t2, bw⟩ := gf_two w n m (.slice A a.length c) (.slice A' b.length c') rfl
  have T2 := Lib.hid t2
  have BW := Lib.hid bw
  clear t0 t1 t2 bw
  generalize ((w.alloc (.cells #[.int .i64 n, .slice A a.length c] 24)).alloc (.cells #[.int .i64 m, .slice A' b.length c'] 24)).alloc (.cells #[.int .i64 0, .slice none 0 0] 24) = W at *
  refine (F1.out _ (HU.out.below BW.out) (HV.out.below BW.out)).mono ?_
  rintro e w1 ⟨rfl, hb1⟩
  have B1 := Lib.hid (below_all BW.out hb1)
  have TR := Lib.hid (T2.out.later hb1)
  obtain ⟨r0, r1⟩ := TR.out.cells
  have f0 := TR.out.frozen 0
  have f1 := TR.out.frozen 1
  clear hb1
  go_wp2_with fail
  exact end_no (p := 4) (u := 5) rfl TR.out B1.out (by omega) _ rfl rfl

set_option maxHeartbeats 1000000 in
theorem gfUnion_at (n : Nat) (u v : Value) (a b : List Nat) (w : World) (hu : Us w u a) (hv : Us w v b) (ha : Gf.Ok n a) (hb : Gf.Ok n b) : Calls Try.prog 20 #[.agg #[.int .i64 n, u], .agg #[.int .i64 n, v]] w (RetG w n (Gf.unionR n a b)) := by
  have HU := Lib.hid hu
  have HV := Lib.hid hv
  obtain ⟨A, c, rfl, hfa⟩ := hu.spelled
  obtain ⟨A', c', rfl, hfb⟩ := hv.spelled
  have HFA := Lib.hid hfa
  have HFB := Lib.hid hfb
  have F1 := Lib.hid (fun w h1 h2 => gfMatch_at n n (.slice A a.length c) (.slice A' b.length c') a b w h1 h2 (fun x hx => ha.small hx) (fun x hx => hb.small hx))
  rw [Gf.match_iff.2 ⟨n, rfl, rfl, ha, hb⟩] at F1
  have HLA := Lib.hid ha.2.1
  have HLB := Lib.hid hb.2.1
  have HSA := Lib.hid (fun x (h : x < a.length) => ha.small (List.getElem_mem h))
  have HSB := Lib.hid (fun x (h : x < b.length) => hb.small (List.getElem_mem h))
  have HJ := Lib.hid (fun x h1 h2 => @Gf.join_row n a b ha hb x h1 h2)
  have hn64 := ha.1
  have hmk := fun w => gf_make w n (Nat.le_trans ha.1 (by decide))
  have HZ := Lib.hid (Gf.rowsAt_zero n fun x y => Gf.bit a x y || Gf.bit b x y)
  have HE := Lib.hid (show Gf.rowsAt n (fun x y => Gf.bit a x y || Gf.bit b x y) n 0 = Gf.unionR n a b from Gf.rowsAt_all n _ 0)
  have HN := Lib.hid (fun x => @Gf.rowsAt_next n (fun x y => Gf.bit a x y || Gf.bit b x y) x)
  have HST := Lib.hid (fun x s t => @Gf.rowsAt_set n (fun x y => Gf.bit a x y || Gf.bit b x y) x s t)
  have HRL := Lib.hid (fun x s => Gf.rowsAt_len n (fun x y => Gf.bit a x y || Gf.bit b x y) x s)
  generalize (fun x y => Gf.bit a x y || Gf.bit b x y) = f at *
  clear hu hv hfa hfb ha hb
  go_enter Try.func20, Try.ntmps20
  go_wp2_with fail
  obtain ⟨t0, t1, t2, bw⟩ := gf_two w n n (.slice A a.length c) (.slice A' b.length c') rfl
  have T0 := Lib.hid t0
  have T1 := Lib.hid t1
  have T2 := Lib.hid t2
  have BW := Lib.hid bw
  clear t0 t1 t2 bw
  generalize ((w.alloc (.cells #[.int .i64 n, .slice A a.length c] 24)).alloc (.cells #[.int .i64 n, .slice A' b.length c'] 24)).alloc (.cells #[.int .i64 0, .slice none 0 0] 24) = W at *
  refine (F1.out _ (HU.out.below BW.out) (HV.out.below BW.out)).mono ?_
  rintro e w1 ⟨rfl, hb1⟩
  have B1 := Lib.hid (below_all BW.out hb1)
  have T10 := Lib.hid (T0.out.later hb1)
  have T11 := Lib.hid (T1.out.later hb1)
  have T12 := Lib.hid (T2.out.later hb1)
  obtain ⟨c0, c1⟩ := T10.out.cells
  clear hb1 T0 T1 T2
  go_upto_region 4 with fail
  have HB : Hid (Both w (w1.alloc (.cells (madeCells #[.int .u64 0] n) 49)) w1.heap.size n (.slice A a.length c) (.slice A' b.length c') (Gf.rowsAt n f 0 0)) := by
    have b2 := alloc_below w1 (.cells (madeCells #[.int .u64 0] n) 49)
    exact ⟨T10.out.later b2, T11.out.later b2, T12.out.later b2, by rw [HZ.out]; exact RowU.made w1 n, T12.out.lt, below_all B1.out b2⟩
  generalize w1.alloc (.cells (madeCells #[.int .u64 0] n) 49) = w2 at *
  generalize w1.heap.size = g at *
  clear c0 c1 T10 T11 T12
  go_wp2_with fail
  go_loopw [18] (fun i wr => ∃ x : Nat, x ≤ n ∧ i = .int .i64 x ∧ Hid (Both w wr g n (.slice A a.length c) (.slice A' b.length c') (Gf.rowsAt n f x 0))) (fun i _ => n - (intOf i).toNat)
  case atStart => exact ⟨0, Nat.zero_le _, rfl, HB.out⟩
  case round =>
    clear HB
    obtain ⟨x, hx, rfl, HB⟩ := hrel
    obtain ⟨c0, c1⟩ := HB.out.one.cells
    obtain ⟨d0, d1⟩ := HB.out.other.cells
    by_cases hlt : x < n
    · have hxa : x < a.length := by have := HLA.out; omega
      have hxb : x < b.length := by have := HLB.out; omega
      obtain ⟨ada, rfl, hba, ha0⟩ := HFA.out x hxa
      obtain ⟨adb, rfl, hbb, hb0⟩ := HFB.out x hxb
      have ha1 := (HB.out.below.cell (by rw [add_block]; exact hba)).trans ha0
      have hb1 := (HB.out.below.cell (by rw [add_block]; exact hbb)).trans hb0
      have sa := HSA.out x hxa
      have sb := HSB.out x hxb
      have hj := HJ.out x hxa hxb
      have hxr : x < (Gf.rowsAt n f x 0).length := by rw [HRL.out]; exact hlt
      have hold := Gf.rowsAt_here f hlt 0
      have HKA := (fun (W' : World) r (h : Both w W' g n (.slice (some ada) a.length c) (.slice (some adb) b.length c') r) => (⟨h.one.cells.2, h.other.cells.2, (h.below.cell (by rw [add_block]; exact hba)).trans ha0, (h.below.cell (by rw [add_block]; exact hbb)).trans hb0⟩ : W'.cell? ⟨w.heap.size, 1, none⟩ = some (.slice (some ada) a.length c) ∧ W'.cell? ⟨w.heap.size + 1, 1, none⟩ = some (.slice (some adb) b.length c') ∧ W'.cell? (ada.add x) = some (.int .u64 (a[x] : Int)) ∧ W'.cell? (adb.add x) = some (.int .u64 (b[x] : Int))))
      clear ha0 hb0
      generalize a[x]'hxa = p at *
      generalize b[x]'hxb = q at *
      have HJ2 := Lib.hid hj
      clear hj
      go_wp2_with fail
      have HB3 := Lib.hid ((HB.out.later (alloc_below wr (.cells #[.int .u64 (p : Int), .int .u64 (q : Int)] 49))).drew)
      have L3 := Lib.hid (show Us (wr.alloc (.cells #[.int .u64 (p : Int), .int .u64 (q : Int)] 49)).drew (.slice (some ⟨wr.heap.size, 0, none⟩) 2 2) [p, q] from (lit_rows uC_len wr 49 [p, q] (by simp [maxLen])).below (Below.refl _ _).drew)
      have e3 := HB3.out.row.cell x hxr
      have f3 := HB3.out.row.frozen x
      have HB4 := Lib.hid (HB3.out.put x hxr (Bi.join [p, q]))
      rw [HJ2.out, HST.out, HN.out] at HB4
      rw [← HJ2.out] at HB4
      have F3 := Lib.hid (fun w h => biJoin_at [p, q] (.slice (some ⟨wr.heap.size, 0, none⟩) 2 2) w h (by simp) (by
        intro y hy
        simp only [List.mem_cons, List.not_mem_nil, or_false] at hy
        rcases hy with rfl | rfl
        · exact sa
        · exact sb))
      generalize Bi.join [p, q] = t at *
      have HB0 := Lib.hid HB.out.drew
      have HK : Hid (∀ (W' : World) r, Both w W' g n (.slice (some ada) a.length c) (.slice (some adb) b.length c') r → W'.cell? ⟨w.heap.size, 1, none⟩ = some (.slice (some ada) a.length c) ∧ W'.cell? ⟨w.heap.size + 1, 1, none⟩ = some (.slice (some adb) b.length c') ∧ W'.cell? (ada.add x) = some (.int .u64 (p : Int)) ∧ W'.cell? (adb.add x) = some (.int .u64 (q : Int))) := HKA
      clear HKA
      go_region_held3 (fun w' => w'.cell? ⟨w.heap.size, 1, none⟩ = some (.slice (some ada) a.length c) ∧ w'.cell? ⟨w.heap.size + 1, 1, none⟩ = some (.slice (some adb) b.length c') ∧ w'.cell? (ada.add x) = some (.int .u64 (p : Int)) ∧ w'.cell? (adb.add x) = some (.int .u64 (q : Int)))
        (first | (exact HK.out _ _ HB0.out) | (exact HK.out _ _ HB3.out) | (exact HK.out _ _ HB4.out) | (exact ⟨c1, d1, ha1, hb1⟩))
        (first | (go_at_call 36; (with_reducible refine (F3.out _ L3.out).mono ?_); rintro e w4 ⟨rfl, rfl⟩))
      go_wp2_with fail
      go_roundw
      case rel => exact ⟨x + 1, by omega, by go_num, HB4.out⟩
      case measure => simp [intOf]; omega
    · obtain rfl : x = n := by omega
      obtain ⟨r0, r1⟩ := HB.out.res.cells
      have f0 := HB.out.res.frozen 0
      have f1 := HB.out.res.frozen 1
      go_wp2_with fail
      rw [← HE.out]
      exact HB.out.done (p := 4) (q := 5) rfl (by rw [HRL.out]; simp only [maxLen]; omega) _ (HRL.out _ _).symm _ rfl rfl
end Go.Proofs.Ytcpiaddohiokkaa
