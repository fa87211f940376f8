/-
  What the calls of a stack of positions answer: New, Len, Top, Push, Pop.
  Conditions: the stack is one that stands in memory as New made it and its calls left it; its row has at most 2^32 positions.
-/
import Derived.Test.YtgapcjgmmlffmaaDoorStAll
import Derived.Test.YtgapcjgmmlffmaaDoorInAll
import Derived.Laws.ResultCell
import Derived.Deep.AppendLies
import Derived.Deep.RegionLaw
set_option maxRecDepth 4000
namespace Go.Proofs.YtgapcjgmmlffmaaDoor
open Go.RowKit

theorem pos_info : (Tryd.prog.info? 67).map (fun i => (i.zero, i.size, i.bytes)) = some (some (.agg #[.int .i64 0, .int .i64 0]), 2, 16) := by kernel_rfl
theorem pos_zero (w : World) : (zeroValue 67).run Tryd.prog w = .ok (.agg #[.int .i64 0, .int .i64 0]) w := by kernel_rfl
theorem pos_cell (w : World) : (sizeOf 67).run Tryd.prog w = .ok 2 w := by kernel_rfl
theorem pos_elem : Tryd.prog.elem 89 = 67 := by kernel_rfl
theorem pos_desc : Tryd.prog.underlying 89 = some (.slice (Tryd.prog.elem 89)) := by rw [pos_elem]; exact Tryd.underlying89
theorem new_pos (w : World) (x : Int × Int) (e : TypeId) : ∀ j u, (itC x)[j]? = some u → (w.alloc (.cells #[.int .i64 x.1, .int .i64 x.2] e)).cell? ((⟨w.heap.size, 0, none⟩ : Addr).add j) = some u := new_row w (itC x) e
/-- A position, as a value. -/
def posV (x : Int × Int) : Value := .agg #[.int .i64 x.1, .int .i64 x.2]

theorem stpNew_at (most : Int) (w : World) : Calls Tryd.prog 36 #[.int .i64 most] w (RetNew 91 67 2 itC most w) := by
  have S0 := Lib.hid (Stk.new 91 67 2 itC w most)
  have B0 := Lib.hid (alloc_below w (.cells #[.int .i64 most, .slice none 0 0] 91))
  go_enter Tryd.func36, Tryd.ntmps36
  go_wp2_with fail
  go_ret
  exact ⟨rfl, S0.out, B0.out⟩

section
variable {B : Nat} {most : Int} {r : Option Nat} {l : List (Int × Int)}
theorem stpLen_at (w : World) (h : Stk 91 67 2 itC B most r l w) : Calls Tryd.prog 58 #[.pointer (some ⟨B, 0, none⟩)] w fun e w' => e = .returned (.int .i64 (l.length : Nat)) ∧ w' = w := by
  obtain ⟨A, c, _, c0, c1, _, _⟩ := h.reads
  clear h
  go_enter Tryd.func58, Tryd.ntmps58
  go_wp2_with fail
  go_ret
  exact ⟨rfl, rfl⟩

/-- The result variable of Top and of Pop: a block of two integers. -/
theorem resultp_top (X : World) (b : Nat) (tmps : Array Value) (a0 a1 : Int) (q : Bool) (hp : tmps.getD 2 undef = .pointer (some ⟨b, 0, none⟩)) (hq : tmps.getD 3 undef = .bool q)
    (h0 : X.cell? ⟨b, 0, none⟩ = some (.int .i64 a0)) (h1 : X.cell? ⟨b, 1, none⟩ = some (.int .i64 a1)) :
    (results Tryd.f57 tmps).run Tryd.prog X = .ok (.tuple #[posV (a0, a1), .bool q]) X := by
  rw [results_cell_tmp (p := 2) (u := 3) (ty := 67) rfl, hp, hq]
  simp [asAddr, go_sem, h0, h1, posV]
theorem resultp_pop (X : World) (b : Nat) (tmps : Array Value) (a0 a1 : Int) (q : Bool) (hp : tmps.getD 2 undef = .pointer (some ⟨b, 0, none⟩)) (hq : tmps.getD 3 undef = .bool q)
    (h0 : X.cell? ⟨b, 0, none⟩ = some (.int .i64 a0)) (h1 : X.cell? ⟨b, 1, none⟩ = some (.int .i64 a1)) :
    (results Tryd.f40 tmps).run Tryd.prog X = .ok (.tuple #[posV (a0, a1), .bool q]) X := by
  rw [results_cell_tmp (p := 2) (u := 3) (ty := 67) rfl, hp, hq]
  simp [asAddr, go_sem, h0, h1, posV]

/-- The top of a stack that has none. -/
theorem stpTop_none (w : World) (h : Stk 91 67 2 itC B most r l w) (hl : l.length = 0) : Calls Tryd.prog 57 #[.pointer (some ⟨B, 0, none⟩)] w (RetMade w (.tuple #[posV (0, 0), .bool false])) := by
  have B1 := Lib.hid (alloc_below w (.cells #[.int .i64 0, .int .i64 0] 67))
  have H := Lib.hid (h.alloc (.cells #[.int .i64 0, .int .i64 0] 67))
  have HL := Lib.hid hl
  clear h hl
  go_enter Tryd.func57, Tryd.ntmps57
  go_wp2_with fail
  refine (stpLen_at _ H.out).mono ?_
  rintro e w1 ⟨rfl, rfl⟩
  rw [HL.out]
  go_wp2_with fail
  exact bodyPost_ret (resultp_top _ w.heap.size _ 0 0 false rfl rfl (by simp [go_sem]) (by simp [go_sem])) rfl ⟨rfl, below_all B1.out (alloc_below _ _)⟩
theorem stpTop_some (w : World) (h : Stk 91 67 2 itC B most r l w) (m : Nat) (hl : l.length = m + 1) (hm : m < 4294967296) (x y : Int) (hx : l[m]? = some (x, y)) : Calls Tryd.prog 57 #[.pointer (some ⟨B, 0, none⟩)] w (RetMade w (.tuple #[posV (x, y), .bool true])) := by
  have HB := Lib.hid (alloc_below w (.cells #[.int .i64 0, .int .i64 0] 67))
  have h1 := h.alloc (.cells #[.int .i64 0, .int .i64 0] 67)
  have H := Lib.hid h1
  obtain ⟨A, c, _, _, c1, _, ho⟩ := h1.reads
  obtain ⟨A', c', e', hf⟩ := Its.spelled (Rows'.own ho)
  cases e'
  have hlt : m < l.length := by omega
  obtain ⟨ad, rfl, -, hT⟩ := hf m hlt
  have hx' : l[m] = (x, y) := by rw [List.getElem?_eq_getElem hlt] at hx; exact Option.some.inj hx
  rw [hx'] at hT
  obtain ⟨d0, d1⟩ := hT
  dsimp only at d0 d1
  rw [hl] at c1
  have HL := Lib.hid hl
  have hw : IntKind.i64.wrap (((m + 1 : Nat) : Int) - 1) = (m : Int) := by rw [IntWalk.i64_in _ (by omega)]; omega
  have hs : ((m + 1 : Nat) : Int) - 1 = (m : Int) := by omega
  have hz : (((m + 1 : Nat) : Int) == 0) = false := by rw [beq_eq_false_iff_ne]; omega
  have hi : (m : Int) < ((m + 1 : Nat) : Int) := by omega
  clear h h1 hl ho hf hx hx' hlt
  go_enter Tryd.func57, Tryd.ntmps57
  go_wp2_with fail
  refine (stpLen_at _ H.out).mono ?_
  rintro e w1 ⟨rfl, rfl⟩
  rw [HL.out]
  clear H HL
  generalize m + 1 = m1 at *
  go_wp2_with fail
  exact bodyPost_ret (resultp_top _ w.heap.size _ x y true rfl rfl (by simp [go_sem]) (by simp [go_sem])) rfl ⟨rfl, alloc_below _ _⟩
/-- A push where there is room. -/
theorem stpPush_yes (x y : Int) (w : World) (h : Stk 91 67 2 itC B most r l w) (hl : l.length ≤ 4294967296) (hm : (l.length : Int) < most) : Calls Tryd.prog 41 #[.pointer (some ⟨B, 0, none⟩), posV (x, y)] w (RetStk 91 67 2 itC B most r w (.bool true) (l ++ [(x, y)])) := by
  obtain ⟨i0, hi0, hz0, hz1, hz2⟩ := info_parts pos_info
  have I0 := Lib.hid hi0
  have I1 := Lib.hid hz0
  have I2 := Lib.hid hz1
  have I3 := Lib.hid hz2
  clear hi0 hz0 hz1 hz2
  have HB0 := Lib.hid (alloc_below w (.cells #[.int .i64 x, .int .i64 y] 67))
  have h1 := h.alloc (.cells #[.int .i64 x, .int .i64 y] 67)
  have H := Lib.hid h1
  obtain ⟨A, c, hr, c0, c1, _, ho⟩ := h1.reads
  have HR := Lib.hid hr
  have HO := Lib.hid ho
  have b0 : (w.alloc (.cells #[.int .i64 x, .int .i64 y] 67)).cell? ⟨w.heap.size, 0, none⟩ = some (.int .i64 x) := by simp [go_sem]
  have b1 : (w.alloc (.cells #[.int .i64 x, .int .i64 y] 67)).cell? ⟨w.heap.size, 1, none⟩ = some (.int .i64 y) := by simp [go_sem]
  have hd : decide (most ≤ (l.length : Int)) = false := decide_eq_false (by omega)
  have hle : B + 1 ≤ w.heap.size := h.lt
  have HS : Hid (B < (w.alloc (.cells #[.int .i64 x, .int .i64 y] 67)).heap.size) := h1.lt
  clear h h1 hr ho hm hle
  unfold posV
  go_enter Tryd.func41, Tryd.ntmps41
  go_wp2_with fail
  generalize w.alloc (.cells #[.int .i64 x, .int .i64 y] 67) = w1 at *
  go_quiet (first | (go_at_call 58; exact Calls.quiet_of_same (stpLen_at _ (H.out.drewN _))))
  have HQ := Lib.hid (H.out.drewN nq)
  have HOQ := Lib.hid (own_drewN HO.out nq)
  have e0 : (w1.drewN nq).cell? ⟨B, 1, none⟩ = some (.slice A l.length c) := c1
  have e1 : (w1.drewN nq).cell? ⟨w.heap.size, 0, none⟩ = some (.int .i64 x) := b0
  have e2 : (w1.drewN nq).cell? ⟨w.heap.size, 1, none⟩ = some (.int .i64 y) := b1
  have HSQ : Hid (B < (w1.drewN nq).heap.size) := HS.out
  have HB1 := Lib.hid (below_drewN HB0.out nq)
  clear c0 c1 b0 b1 H HO HS HB0
  go_wp2_with fail
  generalize w1.drewN nq = w2 at *
  have d0 := st_stays (alloc_below w2 (.cells #[.int .i64 x, .int .i64 y] 67)) e0
  have HN := Lib.hid (new_pos w2 (x, y) 67)
  have HL := Lib.hid (HQ.out.lies (x := (x, y)) (o := .cells #[.int .i64 x, .int .i64 y] 67))
  have HOO := Lib.hid (own_drewN (HOQ.out.alloc (.cells #[.int .i64 x, .int .i64 y] 67)) 1)
  go_region_law (refine step_append_lies _ rfl (.tmp 20) (.tmp 22) 89 rfl (B + 1) 67 i0 _ 2 16 Tryd.underlying89 I0.out I1.out I2.out I3.out rfl (by decide) (.slice A l.length c) l.length (l.flatMap itC) (by simp [Act.eval]) HOO.out ⟨w2.heap.size, 0, none⟩ 1 1 (itC (x, y)) (by simp [Act.eval]) rfl HN.out (one_its _) (by decide) (by simp only [maxLen]; omega) (by omega) (by have := HSQ.out; simp; omega) (w2.heap.size + 1) (by simp) ?_; intro g2 cap2 w3 hown2 hgrow2 hat2 hlt2; rw [HR.out] at hgrow2 hat2; obtain ⟨⟨v1, hv1⟩, hf1, HG⟩ := HL.out g2 cap2 w3 hown2 hgrow2 hat2; have HG := Lib.hid HG; clear hown2 hgrow2 hat2 hlt2)
  all_goals
    go_wp2_with fail
    go_ret
    obtain ⟨r', hs, hmv, ht⟩ := HG.out
    exact ⟨rfl, r', hs, hmv.mono HB1.out.size, (Touch.of_below HB1.out).trans (.inl rfl) ht⟩
/-- A push where there is none. -/
theorem stpPush_no (x y : Int) (w : World) (h : Stk 91 67 2 itC B most r l w) (hm : most ≤ (l.length : Int)) : Calls Tryd.prog 41 #[.pointer (some ⟨B, 0, none⟩), posV (x, y)] w (RetStay 91 67 2 itC B most r w (.bool false) l) := by
  have HB0 := Lib.hid (alloc_below w (.cells #[.int .i64 x, .int .i64 y] 67))
  have h1 := h.alloc (.cells #[.int .i64 x, .int .i64 y] 67)
  have H := Lib.hid h1
  obtain ⟨A, c, _, c0, c1, _, _⟩ := h1.reads
  have hd : decide (most ≤ (l.length : Int)) = true := decide_eq_true hm
  clear h h1 hm
  unfold posV
  go_enter Tryd.func41, Tryd.ntmps41
  go_wp2_with fail
  generalize w.alloc (.cells #[.int .i64 x, .int .i64 y] 67) = w1 at *
  go_quiet (first | (go_at_call 58; exact Calls.quiet_of_same (stpLen_at _ (H.out.drewN _))))
  have HQ := Lib.hid (H.out.drewN nq)
  have HB1 := Lib.hid (below_drewN HB0.out nq)
  go_wp2_with fail
  go_ret
  exact ⟨rfl, HQ.out, Touch.of_below HB1.out⟩
/-- Of a stack that has none nothing is taken. -/
theorem stpPop_none (w : World) (h : Stk 91 67 2 itC B most r l w) (hl : l.length = 0) : Calls Tryd.prog 40 #[.pointer (some ⟨B, 0, none⟩)] w (RetMade w (.tuple #[posV (0, 0), .bool false])) := by
  have HB0 := Lib.hid (alloc_below w (.cells #[.int .i64 0, .int .i64 0] 67))
  have H := Lib.hid (h.alloc (.cells #[.int .i64 0, .int .i64 0] 67))
  have T0 := Lib.hid (Two.new w 67 (.int .i64 0) (.int .i64 0))
  have HL := Lib.hid hl
  clear h hl
  go_enter Tryd.func40, Tryd.ntmps40
  go_wp2_with fail
  generalize w.alloc (.cells #[.int .i64 0, .int .i64 0] 67) = w0 at *
  refine (stpTop_none _ H.out HL.out).mono ?_
  rintro e w1 ⟨rfl, hb⟩
  have HB1 := Lib.hid (below_all HB0.out hb)
  have T1 := Lib.hid (T0.out.later hb)
  clear hb
  unfold posV
  go_upto_region 6 with fail
  have HB2 := Lib.hid (below_all HB1.out (alloc_below w1 (.cells #[.int .i64 0, .int .i64 0] 67)))
  have T2 := Lib.hid (T1.out.later (alloc_below w1 (.cells #[.int .i64 0, .int .i64 0] 67)))
  obtain ⟨x0, x1⟩ := (Two.new w1 67 (.int .i64 0) (.int .i64 0)).cells
  obtain ⟨z0, z1⟩ := T2.out.cells
  have g0 := T2.out.frozen 0
  have g1 := T2.out.frozen 1
  generalize w1.alloc (.cells #[.int .i64 0, .int .i64 0] 67) = w2 at *
  generalize w1.heap.size = b2 at *
  go_wp2_with fail
  obtain ⟨p0, p1⟩ := (T2.out.put (x := .int .i64 0) (y := .int .i64 0)).cells
  exact bodyPost_ret (resultp_pop _ w.heap.size _ 0 0 false rfl rfl p0 p1) rfl ⟨rfl, (HB2.out.setCell (p := ⟨w.heap.size, 0, none⟩) (Nat.le_refl _) _).setCell (p := ⟨w.heap.size, 1, none⟩) (Nat.le_refl _) _⟩
set_option maxHeartbeats 1000000 in
/-- The last one is taken. -/
theorem stpPop_some (w : World) (h : Stk 91 67 2 itC B most r l w) (m : Nat) (hl : l.length = m + 1) (hm : m < 4294967296) (x y : Int) (hx : l[m]? = some (x, y)) : Calls Tryd.prog 40 #[.pointer (some ⟨B, 0, none⟩)] w (RetStay 91 67 2 itC B most r w (.tuple #[posV (x, y), .bool true]) (l.take m)) := by
  have hBw := h.lt
  have hrw := h.row_lt
  have HBW := Lib.hid (show w.heap.size ≠ B by omega)
  have HRW := Lib.hid (show some w.heap.size ≠ r from fun q => by have := (hrw _ q.symm).2; omega)
  have HBL := Lib.hid hBw
  have HRL := Lib.hid (fun k q => (hrw k q).2)
  have HB0 := Lib.hid (alloc_below w (.cells #[.int .i64 0, .int .i64 0] 67))
  have H := Lib.hid (h.alloc (.cells #[.int .i64 0, .int .i64 0] 67))
  have T0 := Lib.hid (Two.new w 67 (.int .i64 0) (.int .i64 0))
  have HX := Lib.hid (fun w h => stpTop_some (most := most) (r := r) (B := B) w h m hl hm x y hx)
  have HL := Lib.hid hl
  have HM := Lib.hid hm
  clear h hl hx hm hBw hrw
  go_enter Tryd.func40, Tryd.ntmps40
  go_wp2_with fail
  generalize w.alloc (.cells #[.int .i64 0, .int .i64 0] 67) = w0 at *
  refine (HX.out _ H.out).mono ?_
  rintro e w1 ⟨rfl, hb⟩
  have HB1 := Lib.hid (below_all HB0.out hb)
  have T1 := Lib.hid (T0.out.later hb)
  have H1 := Lib.hid (H.out.later hb)
  clear hb HX H T0 HB0
  unfold posV
  go_wp2_with fail
  have X2 := Lib.hid (Two.new w1 67 (.int .i64 x) (.int .i64 y))
  have HB2 := Lib.hid (below_all HB1.out (alloc_below w1 (.cells #[.int .i64 x, .int .i64 y] 67)))
  have T2 := Lib.hid (T1.out.later (alloc_below w1 (.cells #[.int .i64 x, .int .i64 y] 67)))
  have H2 := Lib.hid (H1.out.alloc (.cells #[.int .i64 x, .int .i64 y] 67))
  have HXB := Lib.hid (show w1.heap.size ≠ B by have := H1.out.lt; omega)
  have HXR := Lib.hid (show some w1.heap.size ≠ r from fun q => by have := (H1.out.row_lt _ q.symm).2; omega)
  clear H1 T1 HB1
  generalize w1.alloc (.cells #[.int .i64 x, .int .i64 y] 67) = w2 at *
  generalize w1.heap.size = b2 at *
  refine (stpLen_at _ H2.out).mono ?_
  rintro e w3 ⟨rfl, rfl⟩
  rw [HL.out]
  obtain ⟨A, c, A', c', W1, c1, s1, s2, hcl, c2, f2, hS, hT⟩ := H2.out.cut (T := 89) HL.out itC_len (P := Tryd.prog) pos_desc pos_elem pos_cell pos_zero rfl (one_its (0, 0))
  have HS := Lib.hid hS
  have HT := Lib.hid hT
  have hmb := HM.out
  have hw : IntKind.i64.wrap (((m + 1 : Nat) : Int) - 1) = (m : Int) := by rw [IntWalk.i64_in _ (by omega)]; omega
  have hs : ((m + 1 : Nat) : Int) - 1 = (m : Int) := by omega
  clear hS hT HL HM H2
  generalize m + 1 = m1 at *
  go_upto_region 6 with fail
  have X4 := Lib.hid (HT.out.keeps X2.out HXB.out HXR.out)
  have T4 := Lib.hid (HT.out.keeps T2.out HBW.out HRW.out)
  generalize W1.setCell ⟨B, 1, none⟩ (.slice A m c) = W at *
  obtain ⟨x0, x1⟩ := Two.cells X4.out
  obtain ⟨z0, z1⟩ := Two.cells T4.out
  have g0 := Two.frozen T4.out 0
  have g1 := Two.frozen T4.out 1
  clear s1 s2 hcl c1 c2 f2 hw hs
  go_wp2_with fail
  obtain ⟨p0, p1⟩ := (Two.put T4.out (x := .int .i64 x) (y := .int .i64 y)).cells
  have HT0 := (Touch.of_below (B := B) (r := r) HB2.out).trans (.inl rfl) HT.out
  exact bodyPost_ret (resultp_pop _ w.heap.size _ x y true rfl rfl p0 p1) rfl ⟨rfl, (HS.out.put HBW.out HRW.out 0 _).put HBW.out HRW.out 1 _, (HT0.put (Nat.le_refl _) 0 _).put (Nat.le_refl _) 1 _⟩

end
end Go.Proofs.YtgapcjgmmlffmaaDoor
