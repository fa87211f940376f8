/-
  What the calls of a stack of choices answer: New, Len, Top, Push, Pop, All; and slices.Clone at a row of choices.
  Conditions: the stack is one that stands in memory as New made it and its calls left it; its row has at most 2^32 choices.
-/
import Derived.Test.YteccllhbacjhbaaStWalkA
import Derived.Laws.ResultCell
import Derived.Deep.AppendLies
import Derived.Deep.RegionLaw
set_option maxRecDepth 4000
namespace Go.Proofs.Yteccllhbacjhbaa
open Go.RowKit

theorem tri_info : (Try.prog.info? 50).map (fun i => (i.zero, i.size, i.bytes)) = some (some (.agg #[.int .i64 0, .int .i64 0, .int .i64 0]), 3, 24) := by kernel_rfl
theorem tri_zero (w : World) : (zeroValue 50).run Try.prog w = .ok (.agg #[.int .i64 0, .int .i64 0, .int .i64 0]) w := by kernel_rfl
theorem tri_cell (w : World) : (sizeOf 50).run Try.prog w = .ok 3 w := by kernel_rfl
theorem tri_elem : Try.prog.elem 46 = 50 := by kernel_rfl
theorem tri_desc : Try.prog.underlying 46 = some (.slice (Try.prog.elem 46)) := by rw [tri_elem]; exact Try.underlying46
theorem new_tri (w : World) (x : Int × Int × Int) (e : TypeId) : ∀ j u, (triC x)[j]? = some u → (w.alloc (.cells #[.int .i64 x.1, .int .i64 x.2.1, .int .i64 x.2.2] e)).cell? ((⟨w.heap.size, 0, none⟩ : Addr).add j) = some u := new_row w (triC x) e
/-- A row of choices of the call's own. -/
def RetTris (w : World) (l : List (Int × Int × Int)) (e : Ending) (w' : World) : Prop := ∃ v, e = .returned v ∧ w'.ownsRow w.heap.size 50 3 v l.length (l.flatMap triC) ∧ Below w.heap.size w w'
/-- A choice, as a value. -/
def triV (x : Int × Int × Int) : Value := .agg #[.int .i64 x.1, .int .i64 x.2.1, .int .i64 x.2.2]

theorem stcNew_at (most : Int) (w : World) : Calls Try.prog 19 #[.int .i64 most] w (RetNew 60 50 3 triC most w) := by
  have S0 := Lib.hid (Stk.new 60 50 3 triC w most)
  have B0 := Lib.hid (alloc_below w (.cells #[.int .i64 most, .slice none 0 0] 60))
  go_enter Try.func19, Try.ntmps19
  go_wp2_with fail
  go_ret
  exact ⟨rfl, S0.out, B0.out⟩

section
variable {B : Nat} {most : Int} {r : Option Nat} {l : List (Int × Int × Int)}
theorem stcLen_at (w : World) (h : Stk 60 50 3 triC B most r l w) : Calls Try.prog 22 #[.pointer (some ⟨B, 0, none⟩)] w fun e w' => e = .returned (.int .i64 (l.length : Nat)) ∧ w' = w := by
  obtain ⟨A, c, _, c0, c1, _, _⟩ := h.reads
  clear h
  go_enter Try.func22, Try.ntmps22
  go_wp2_with fail
  go_ret
  exact ⟨rfl, rfl⟩

/-- The result variable of Top and of Pop: a block of three integers. -/
theorem results_top (X : World) (b : Nat) (tmps : Array Value) (a0 a1 a2 : Int) (q : Bool) (hp : tmps.getD 2 undef = .pointer (some ⟨b, 0, none⟩)) (hq : tmps.getD 3 undef = .bool q)
    (h0 : X.cell? ⟨b, 0, none⟩ = some (.int .i64 a0)) (h1 : X.cell? ⟨b, 1, none⟩ = some (.int .i64 a1)) (h2 : X.cell? ⟨b, 2, none⟩ = some (.int .i64 a2)) :
    (results Try.f23 tmps).run Try.prog X = .ok (.tuple #[triV (a0, a1, a2), .bool q]) X := by
  rw [results_cell_tmp (p := 2) (u := 3) (ty := 50) rfl, hp, hq]
  simp [asAddr, go_sem, h0, h1, h2, triV]
theorem results_pop (X : World) (b : Nat) (tmps : Array Value) (a0 a1 a2 : Int) (q : Bool) (hp : tmps.getD 2 undef = .pointer (some ⟨b, 0, none⟩)) (hq : tmps.getD 3 undef = .bool q)
    (h0 : X.cell? ⟨b, 0, none⟩ = some (.int .i64 a0)) (h1 : X.cell? ⟨b, 1, none⟩ = some (.int .i64 a1)) (h2 : X.cell? ⟨b, 2, none⟩ = some (.int .i64 a2)) :
    (results Try.f24 tmps).run Try.prog X = .ok (.tuple #[triV (a0, a1, a2), .bool q]) X := by
  rw [results_cell_tmp (p := 2) (u := 3) (ty := 50) rfl, hp, hq]
  simp [asAddr, go_sem, h0, h1, h2, triV]

/-- The top of a stack that has none. -/
theorem stcTop_none (w : World) (h : Stk 60 50 3 triC B most r l w) (hl : l.length = 0) : Calls Try.prog 23 #[.pointer (some ⟨B, 0, none⟩)] w (RetMade w (.tuple #[triV (0, 0, 0), .bool false])) := by
  have B1 := Lib.hid (alloc_below w (.cells #[.int .i64 0, .int .i64 0, .int .i64 0] 50))
  have H := Lib.hid (h.alloc (.cells #[.int .i64 0, .int .i64 0, .int .i64 0] 50))
  have HL := Lib.hid hl
  clear h hl
  go_enter Try.func23, Try.ntmps23
  go_wp2_with fail
  refine (stcLen_at _ H.out).mono ?_
  rintro e w1 ⟨rfl, rfl⟩
  rw [HL.out]
  go_wp2_with fail
  exact bodyPost_ret (results_top _ w.heap.size _ 0 0 0 false rfl rfl (by simp [go_sem]) (by simp [go_sem]) (by simp [go_sem])) rfl ⟨rfl, below_all B1.out (alloc_below _ _)⟩
theorem stcTop_some (w : World) (h : Stk 60 50 3 triC B most r l w) (m : Nat) (hl : l.length = m + 1) (hm : m < 4294967296) (x y z : Int) (hx : l[m]? = some (x, y, z)) : Calls Try.prog 23 #[.pointer (some ⟨B, 0, none⟩)] w (RetMade w (.tuple #[triV (x, y, z), .bool true])) := by
  have HB := Lib.hid (alloc_below w (.cells #[.int .i64 0, .int .i64 0, .int .i64 0] 50))
  have h1 := h.alloc (.cells #[.int .i64 0, .int .i64 0, .int .i64 0] 50)
  have H := Lib.hid h1
  obtain ⟨A, c, _, _, c1, _, ho⟩ := h1.reads
  obtain ⟨A', c', e', hf⟩ := Tris.spelled (Rows'.own ho)
  cases e'
  have hlt : m < l.length := by omega
  obtain ⟨ad, rfl, -, hT⟩ := hf m hlt
  have hx' : l[m] = (x, y, z) := by rw [List.getElem?_eq_getElem hlt] at hx; exact Option.some.inj hx
  rw [hx'] at hT
  obtain ⟨d0, d1, d2⟩ := hT
  dsimp only at d0 d1 d2
  rw [hl] at c1
  have HL := Lib.hid hl
  have hw : IntKind.i64.wrap (((m + 1 : Nat) : Int) - 1) = (m : Int) := by rw [IntWalk.i64_in _ (by omega)]; omega
  have hs : ((m + 1 : Nat) : Int) - 1 = (m : Int) := by omega
  have hz : (((m + 1 : Nat) : Int) == 0) = false := by rw [beq_eq_false_iff_ne]; omega
  have hi : (m : Int) < ((m + 1 : Nat) : Int) := by omega
  clear h h1 hl ho hf hx hx' hlt
  go_enter Try.func23, Try.ntmps23
  go_wp2_with fail
  refine (stcLen_at _ H.out).mono ?_
  rintro e w1 ⟨rfl, rfl⟩
  rw [HL.out]
  clear H HL
  generalize m + 1 = m1 at *
  go_wp2_with fail
  exact bodyPost_ret (results_top _ w.heap.size _ x y z true rfl rfl (by simp [go_sem]) (by simp [go_sem]) (by simp [go_sem])) rfl ⟨rfl, alloc_below _ _⟩
/-- A push where there is room. -/
theorem stcPush_yes (x y z : Int) (w : World) (h : Stk 60 50 3 triC B most r l w) (hl : l.length ≤ 4294967296) (hm : (l.length : Int) < most) : Calls Try.prog 20 #[.pointer (some ⟨B, 0, none⟩), triV (x, y, z)] w (RetStk 60 50 3 triC B most r w (.bool true) (l ++ [(x, y, z)])) := by
  obtain ⟨i0, hi0, hz0, hz1, hz2⟩ := info_parts tri_info
  have I0 := Lib.hid hi0
  have I1 := Lib.hid hz0
  have I2 := Lib.hid hz1
  have I3 := Lib.hid hz2
  clear hi0 hz0 hz1 hz2
  have HB0 := Lib.hid (alloc_below w (.cells #[.int .i64 x, .int .i64 y, .int .i64 z] 50))
  have h1 := h.alloc (.cells #[.int .i64 x, .int .i64 y, .int .i64 z] 50)
  have H := Lib.hid h1
  obtain ⟨A, c, hr, c0, c1, _, ho⟩ := h1.reads
  have HR := Lib.hid hr
  have HO := Lib.hid ho
  have b0 : (w.alloc (.cells #[.int .i64 x, .int .i64 y, .int .i64 z] 50)).cell? ⟨w.heap.size, 0, none⟩ = some (.int .i64 x) := by simp [go_sem]
  have b1 : (w.alloc (.cells #[.int .i64 x, .int .i64 y, .int .i64 z] 50)).cell? ⟨w.heap.size, 1, none⟩ = some (.int .i64 y) := by simp [go_sem]
  have b2 : (w.alloc (.cells #[.int .i64 x, .int .i64 y, .int .i64 z] 50)).cell? ⟨w.heap.size, 2, none⟩ = some (.int .i64 z) := by simp [go_sem]
  have hd : decide (most ≤ (l.length : Int)) = false := decide_eq_false (by omega)
  have hle : B + 1 ≤ w.heap.size := h.lt
  have HS : Hid (B < (w.alloc (.cells #[.int .i64 x, .int .i64 y, .int .i64 z] 50)).heap.size) := h1.lt
  clear h h1 hr ho hm hle
  unfold triV
  go_enter Try.func20, Try.ntmps20
  go_wp2_with fail
  generalize w.alloc (.cells #[.int .i64 x, .int .i64 y, .int .i64 z] 50) = w1 at *
  go_quiet (first | (go_at_call 22; exact Calls.quiet_of_same (stcLen_at _ (H.out.drewN _))))
  have HQ := Lib.hid (H.out.drewN nq)
  have HOQ := Lib.hid (own_drewN HO.out nq)
  have e0 : (w1.drewN nq).cell? ⟨B, 1, none⟩ = some (.slice A l.length c) := c1
  have e1 : (w1.drewN nq).cell? ⟨w.heap.size, 0, none⟩ = some (.int .i64 x) := b0
  have e2 : (w1.drewN nq).cell? ⟨w.heap.size, 1, none⟩ = some (.int .i64 y) := b1
  have e3 : (w1.drewN nq).cell? ⟨w.heap.size, 2, none⟩ = some (.int .i64 z) := b2
  have HSQ : Hid (B < (w1.drewN nq).heap.size) := HS.out
  have HB1 := Lib.hid (below_drewN HB0.out nq)
  clear c0 c1 b0 b1 b2 H HO HS HB0
  go_wp2_with fail
  generalize w1.drewN nq = w2 at *
  have d0 := st_stays (alloc_below w2 (.cells #[.int .i64 x, .int .i64 y, .int .i64 z] 50)) e0
  have HN := Lib.hid (new_tri w2 (x, y, z) 50)
  have HL := Lib.hid (HQ.out.lies (x := (x, y, z)) (o := .cells #[.int .i64 x, .int .i64 y, .int .i64 z] 50))
  have HOO := Lib.hid (own_drewN (HOQ.out.alloc (.cells #[.int .i64 x, .int .i64 y, .int .i64 z] 50)) 1)
  go_region_law (refine step_append_lies _ rfl (.tmp 20) (.tmp 22) 46 rfl (B + 1) 50 i0 _ 3 24 Try.underlying46 I0.out I1.out I2.out I3.out rfl (by decide) (.slice A l.length c) l.length (l.flatMap triC) (by simp [Act.eval]) HOO.out ⟨w2.heap.size, 0, none⟩ 1 1 (triC (x, y, z)) (by simp [Act.eval]) rfl HN.out (one_triC _) (by decide) (by simp only [maxLen]; omega) (by omega) (by have := HSQ.out; simp; omega) (w2.heap.size + 1) (by simp) ?_; intro g2 cap2 w3 hown2 hgrow2 hat2 hlt2; rw [HR.out] at hgrow2 hat2; obtain ⟨⟨v1, hv1⟩, hf1, HG⟩ := HL.out g2 cap2 w3 hown2 hgrow2 hat2; have HG := Lib.hid HG; clear hown2 hgrow2 hat2 hlt2)
  all_goals
    go_wp2_with fail
    go_ret
    obtain ⟨r', hs, hmv, ht⟩ := HG.out
    exact ⟨rfl, r', hs, hmv.mono HB1.out.size, (Touch.of_below HB1.out).trans (.inl rfl) ht⟩
/-- A push where there is none. -/
theorem stcPush_no (x y z : Int) (w : World) (h : Stk 60 50 3 triC B most r l w) (hm : most ≤ (l.length : Int)) : Calls Try.prog 20 #[.pointer (some ⟨B, 0, none⟩), triV (x, y, z)] w (RetStay 60 50 3 triC B most r w (.bool false) l) := by
  have HB0 := Lib.hid (alloc_below w (.cells #[.int .i64 x, .int .i64 y, .int .i64 z] 50))
  have h1 := h.alloc (.cells #[.int .i64 x, .int .i64 y, .int .i64 z] 50)
  have H := Lib.hid h1
  obtain ⟨A, c, _, c0, c1, _, _⟩ := h1.reads
  have hd : decide (most ≤ (l.length : Int)) = true := decide_eq_true hm
  clear h h1 hm
  unfold triV
  go_enter Try.func20, Try.ntmps20
  go_wp2_with fail
  generalize w.alloc (.cells #[.int .i64 x, .int .i64 y, .int .i64 z] 50) = w1 at *
  go_quiet (first | (go_at_call 22; exact Calls.quiet_of_same (stcLen_at _ (H.out.drewN _))))
  have HQ := Lib.hid (H.out.drewN nq)
  have HB1 := Lib.hid (below_drewN HB0.out nq)
  go_wp2_with fail
  go_ret
  exact ⟨rfl, HQ.out, Touch.of_below HB1.out⟩
/-- Of a stack that has none nothing is taken. -/
theorem stcPop_none (w : World) (h : Stk 60 50 3 triC B most r l w) (hl : l.length = 0) : Calls Try.prog 24 #[.pointer (some ⟨B, 0, none⟩)] w (RetMade w (.tuple #[triV (0, 0, 0), .bool false])) := by
  have HB0 := Lib.hid (alloc_below w (.cells #[.int .i64 0, .int .i64 0, .int .i64 0] 50))
  have H := Lib.hid (h.alloc (.cells #[.int .i64 0, .int .i64 0, .int .i64 0] 50))
  have T0 := Lib.hid (Three.new w 50 (.int .i64 0) (.int .i64 0) (.int .i64 0))
  have HL := Lib.hid hl
  clear h hl
  go_enter Try.func24, Try.ntmps24
  go_wp2_with fail
  generalize w.alloc (.cells #[.int .i64 0, .int .i64 0, .int .i64 0] 50) = w0 at *
  refine (stcTop_none _ H.out HL.out).mono ?_
  rintro e w1 ⟨rfl, hb⟩
  have HB1 := Lib.hid (below_all HB0.out hb)
  have T1 := Lib.hid (T0.out.later hb)
  clear hb
  unfold triV
  go_upto_region 6 with fail
  have HB2 := Lib.hid (below_all HB1.out (alloc_below w1 (.cells #[.int .i64 0, .int .i64 0, .int .i64 0] 50)))
  have T2 := Lib.hid (T1.out.later (alloc_below w1 (.cells #[.int .i64 0, .int .i64 0, .int .i64 0] 50)))
  obtain ⟨x0, x1, x2⟩ := (Three.new w1 50 (.int .i64 0) (.int .i64 0) (.int .i64 0)).cells
  obtain ⟨z0, z1, z2⟩ := T2.out.cells
  have g0 := T2.out.frozen 0
  have g1 := T2.out.frozen 1
  have g2 := T2.out.frozen 2
  generalize w1.alloc (.cells #[.int .i64 0, .int .i64 0, .int .i64 0] 50) = w2 at *
  generalize w1.heap.size = b2 at *
  go_wp2_with fail
  obtain ⟨p0, p1, p2⟩ := (T2.out.put (x := .int .i64 0) (y := .int .i64 0) (z := .int .i64 0)).cells
  exact bodyPost_ret (results_pop _ w.heap.size _ 0 0 0 false rfl rfl p0 p1 p2) rfl ⟨rfl, ((HB2.out.setCell (p := ⟨w.heap.size, 0, none⟩) (Nat.le_refl _) _).setCell (p := ⟨w.heap.size, 1, none⟩) (Nat.le_refl _) _).setCell (p := ⟨w.heap.size, 2, none⟩) (Nat.le_refl _) _⟩
set_option maxHeartbeats 1000000 in
/-- The last one is taken. -/
theorem stcPop_some (w : World) (h : Stk 60 50 3 triC B most r l w) (m : Nat) (hl : l.length = m + 1) (hm : m < 4294967296) (x y z : Int) (hx : l[m]? = some (x, y, z)) : Calls Try.prog 24 #[.pointer (some ⟨B, 0, none⟩)] w (RetStay 60 50 3 triC B most r w (.tuple #[triV (x, y, z), .bool true]) (l.take m)) := by
  have hBw := h.lt
  have hrw := h.row_lt
  have HBW := Lib.hid (show w.heap.size ≠ B by omega)
  have HRW := Lib.hid (show some w.heap.size ≠ r from fun q => by have := (hrw _ q.symm).2; omega)
  have HBL := Lib.hid hBw
  have HRL := Lib.hid (fun k q => (hrw k q).2)
  have HB0 := Lib.hid (alloc_below w (.cells #[.int .i64 0, .int .i64 0, .int .i64 0] 50))
  have H := Lib.hid (h.alloc (.cells #[.int .i64 0, .int .i64 0, .int .i64 0] 50))
  have T0 := Lib.hid (Three.new w 50 (.int .i64 0) (.int .i64 0) (.int .i64 0))
  have HX := Lib.hid (fun w h => stcTop_some (most := most) (r := r) (B := B) w h m hl hm x y z hx)
  have HL := Lib.hid hl
  have HM := Lib.hid hm
  clear h hl hx hm hBw hrw
  go_enter Try.func24, Try.ntmps24
  go_wp2_with fail
  generalize w.alloc (.cells #[.int .i64 0, .int .i64 0, .int .i64 0] 50) = w0 at *
  refine (HX.out _ H.out).mono ?_
  rintro e w1 ⟨rfl, hb⟩
  have HB1 := Lib.hid (below_all HB0.out hb)
  have T1 := Lib.hid (T0.out.later hb)
  have H1 := Lib.hid (H.out.later hb)
  clear hb HX H T0 HB0
  unfold triV
  go_wp2_with fail
  have X2 := Lib.hid (Three.new w1 50 (.int .i64 x) (.int .i64 y) (.int .i64 z))
  have HB2 := Lib.hid (below_all HB1.out (alloc_below w1 (.cells #[.int .i64 x, .int .i64 y, .int .i64 z] 50)))
  have T2 := Lib.hid (T1.out.later (alloc_below w1 (.cells #[.int .i64 x, .int .i64 y, .int .i64 z] 50)))
  have H2 := Lib.hid (H1.out.alloc (.cells #[.int .i64 x, .int .i64 y, .int .i64 z] 50))
  have HXB := Lib.hid (show w1.heap.size ≠ B by have := H1.out.lt; omega)
  have HXR := Lib.hid (show some w1.heap.size ≠ r from fun q => by have := (H1.out.row_lt _ q.symm).2; omega)
  clear H1 T1 HB1
  generalize w1.alloc (.cells #[.int .i64 x, .int .i64 y, .int .i64 z] 50) = w2 at *
  generalize w1.heap.size = b2 at *
  refine (stcLen_at _ H2.out).mono ?_
  rintro e w3 ⟨rfl, rfl⟩
  rw [HL.out]
  obtain ⟨A, c, A', c', W1, c1, s1, s2, hcl, c2, f2, hS, hT⟩ := H2.out.cut (T := 46) HL.out triC_len (P := Try.prog) tri_desc tri_elem tri_cell tri_zero rfl (one_triC (0, 0, 0))
  have HS := Lib.hid hS
  have HT := Lib.hid hT
  have hmb := HM.out
  have hw : IntKind.i64.wrap (((m + 1 : Nat) : Int) - 1) = (m : Int) := by rw [IntWalk.i64_in _ (by omega)]; omega
  have hs : ((m + 1 : Nat) : Int) - 1 = (m : Int) := by omega
  clear hS hT HL HM H2
  generalize m + 1 = m1 at *
  go_upto_region 6 with fail
  have X4 := Lib.hid (HT.out.keeps X2.out HXB.out HXR.out)
  have T4 := Lib.hid (HT.out.keeps T2.out HBW.out HRW.out)
  generalize W1.setCell ⟨B, 1, none⟩ (.slice A m c) = W at *
  obtain ⟨x0, x1, x2⟩ := Three.cells X4.out
  obtain ⟨z0, z1, z2⟩ := Three.cells T4.out
  have g0 := Three.frozen T4.out 0
  have g1 := Three.frozen T4.out 1
  have g2 := Three.frozen T4.out 2
  clear s1 s2 hcl c1 c2 f2 hw hs
  go_wp2_with fail
  obtain ⟨p0, p1, p2⟩ := (Three.put T4.out (x := .int .i64 x) (y := .int .i64 y) (z := .int .i64 z)).cells
  have HT0 := (Touch.of_below (B := B) (r := r) HB2.out).trans (.inl rfl) HT.out
  exact bodyPost_ret (results_pop _ w.heap.size _ x y z true rfl rfl p0 p1 p2) rfl ⟨rfl, ((HS.out.put HBW.out HRW.out 0 _).put HBW.out HRW.out 1 _).put HBW.out HRW.out 2 _, ((HT0.put (Nat.le_refl _) 0 _).put (Nat.le_refl _) 1 _).put (Nat.le_refl _) 2 _⟩

/-- A row held against nil. -/
theorem stc_isNil (A : Option Addr) (n c : Nat) (W : World) : (binOp .eql 46 (.slice A n c) (.slice none 0 0)).run Try.prog W = .ok (.bool A.isNone) W := Lib.run_eql_slice_nil W _ _ A n c 0 0 Try.underlying46
theorem stcClone_at (l : List (Int × Int × Int)) (ad : Addr) (c : Nat) (w : World) (hv : Tris w (.slice (some ad) l.length c) l) (hl : l.length ≤ 4294967296) : Calls Try.prog 27 #[.slice (some ad) l.length c] w (RetTris w l) := by
  obtain ⟨i0, hi0, hz0, hz1, hz2⟩ := info_parts tri_info
  have I0 := Lib.hid hi0
  have I1 := Lib.hid hz0
  have I2 := Lib.hid hz1
  have I3 := Lib.hid hz2
  clear hi0 hz0 hz1 hz2
  have q0 := fun W => stc_isNil (some ad) l.length c W
  have O1 := Lib.hid (World.ownsRow_made (base := w.heap.size) (e := 50) (size := 3) w #[] 0 (Nat.le_refl _) (Nat.zero_le _) rfl)
  have B1 := Lib.hid (alloc_below w (.cells #[] 50))
  have V1 := Lib.hid (hv.below (alloc_below w (.cells #[] 50)))
  have HONE : Hid (∀ u ∈ l.flatMap triC, u.oneCell' = true) := fun u hu => by
    obtain ⟨y, _, hy⟩ := List.mem_flatMap.1 hu
    exact one_triC y u hy
  clear hv
  go_enter Try.func27, Try.ntmps27
  go_wp2_with (at_builtin; refine wpList_append_sl _ rfl (.tmp 5) (.tmp 6) 46 rfl w.heap.size 50 i0 _ 3 24 Try.underlying46 I0.out I1.out I2.out I3.out rfl (by decide) (.slice (some ⟨w.heap.size, 0, none⟩) 0 0) 0 [] rfl O1.out (.slice (some ad) l.length c) l.length (l.flatMap triC) rfl V1.out HONE.out (by simp only [maxLen]; omega) (by omega) B1.out.size ?_; intro v' w1 hown' hgrow _; have HW := Lib.hid hown'; have HB := Lib.hid (below_append B1.out B1.out.size O1.out hgrow); clear hown' hgrow)
  go_ret
  exact ⟨_, rfl, by have := HW.out; rwa [Nat.zero_add, List.nil_append] at this, HB.out⟩
theorem stcAll_at (w : World) (h : Stk 60 50 3 triC B most r l w) (hl : l.length ≤ 4294967296) : Calls Try.prog 21 #[.pointer (some ⟨B, 0, none⟩)] w (RetTris w l) := by
  have HN := Lib.hid (stcLen_at w h)
  obtain ⟨A, c, _, _, c1, _, ho⟩ := h.reads
  clear h
  by_cases h0 : l.length = 0
  · obtain rfl : l = [] := List.eq_nil_of_length_eq_zero h0
    dsimp only [List.length_nil] at *
    clear c1 ho h0 hl
    go_enter Try.func21, Try.ntmps21
    go_wp2_with fail
    refine (HN.out).mono ?_
    rintro e w1 ⟨rfl, rfl⟩
    go_wp2_with fail
    go_ret
    exact ⟨_, rfl, World.ownsRow_nil _ _ _ _, Below.refl _ _⟩
  · obtain ⟨A', c', e', hf⟩ := Tris.spelled (Rows'.own ho)
    cases e'
    obtain ⟨ad, rfl, -, -⟩ := hf 0 (by omega)
    have hz : ((l.length : Int) == 0) = false := by rw [beq_eq_false_iff_ne]; omega
    have HC := Lib.hid (stcClone_at l ad c w (Rows'.own ho) hl)
    clear hf ho hl
    generalize hm : l.length = m at *
    clear hm
    go_enter Try.func21, Try.ntmps21
    go_wp2_with fail
    refine (HN.out).mono ?_
    rintro e w1 ⟨rfl, rfl⟩
    go_wp2_with fail
    refine (HC.out).mono ?_
    rintro e w1 ⟨v1, rfl, ho1, hb1⟩
    have O1 := Lib.hid ho1
    have B1 := Lib.hid hb1
    obtain ⟨A1, n1, c1, rfl⟩ := own_any ho1
    clear ho1 hb1
    go_wp2_with fail
    go_ret
    exact ⟨_, rfl, O1.out, B1.out⟩
end
end Go.Proofs.Yteccllhbacjhbaa
