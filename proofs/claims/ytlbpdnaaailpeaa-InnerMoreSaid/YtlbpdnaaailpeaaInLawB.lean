/-
  What the laws' look answers (the face of ops, as the reference has it: In.lookR), and that the laws' live example of layer 6 holds: awake answers true; what was in memory stays as it was.
  Conditions: a row has at most 2^32 elements.
-/
import Derived.Test.YtlbpdnaaailpeaaInWalkC
import Derived.Test.YtlbpdnaaailpeaaInLawA
namespace Go.Proofs.Ytlbpdnaaailpeaa
open Go.RowKit

theorem look_len (l : List Ev.Event) : (In.lookR l).1.1.length ≤ 16 ∧ (In.lookR l).1.2.length ≤ 16 := by
  rcases In.look_cases l with h | ⟨j, _, h1, h2⟩
  · rw [In.look_ok l h]
    exact ⟨In.reads_len l 16, In.writes_len l 16⟩
  · rw [In.look_bad l j h2 h1]
    exact ⟨by simp, by simp⟩
theorem look6_at (l : List Ev.Event) (v : Value) (w : World) (hv : Evs w v l) (hl : l.length ≤ 4294967296) : Calls Try.prog 12 #[v] w (RetFace w (In.lookR l)) := by
  obtain ⟨A, c, rfl, _⟩ := hv.spelled
  have HV := Lib.hid (hv.below (alloc_below w (.cells #[.slice none 0 0, .slice none 0 0] 34)))
  have HLN := Lib.hid (look_len l)
  clear hv
  go_enter Try.func12, Try.ntmps12
  go_wp2_with fail
  refine (look_at l 0 0 false _ _ HV.out hl).mono ?_
  rintro e w1 ⟨x, y, rfl, hx, hy, hb1⟩
  have HZ : Hid (w1.heap[w.heap.size]? = some (.cells #[.slice none 0 0, .slice none 0 0] 34 (0, 0))) := (hb1.block _ (by simp)).trans (heap_alloc_new _ _)
  generalize In.lookR l = r at *
  obtain ⟨⟨rs, ws⟩, n, q⟩ := r
  dsimp only at *
  obtain ⟨A1, c1, rfl, _⟩ := hx.spelled
  obtain ⟨A2, c2, rfl, _⟩ := hy.spelled
  have HX := Lib.hid (hx.below (alloc_below w1 (.cells #[.slice A1 rs.length c1, .slice A2 ws.length c2] 28)))
  have HY := Lib.hid (hy.below (alloc_below w1 (.cells #[.slice A1 rs.length c1, .slice A2 ws.length c2] 28)))
  have HB1 := Lib.hid (below_new hb1)
  have hr : rs.length ≤ 4294967296 := by have := HLN.out.1; omega
  have hw : ws.length ≤ 4294967296 := by have := HLN.out.2; omega
  have hlt := lt_of_block HZ.out
  clear hx hy hb1 HLN
  go_wp2_with fail
  refine (plain6_at rs ws _ _ _ HX.out HY.out hr hw).mono ?_
  rintro e w2 ⟨x2, y2, rfl, hx2, hy2, hb2⟩
  obtain ⟨A3, c3, rfl⟩ := hx2.form
  obtain ⟨A4, c4, rfl⟩ := hy2.form
  have HZ2 : Hid (w2.heap[w.heap.size]? = some (.cells #[.slice none 0 0, .slice none 0 0] 34 (0, 0))) := (hb2.block _ (by simp; omega)).trans ((Below.heap_alloc _ _ _ hlt).trans HZ.out)
  obtain ⟨z0, z1, z2⟩ := two_cells HZ2.out
  have y0 := z2 0
  have y1 := z2 1
  have hbase : w.heap.size + 1 ≤ w1.heap.size + 1 := by omega
  have HX2 := Lib.hid (hx2.less (base' := w.heap.size + 1) (by simp; omega))
  have HY2 := Lib.hid (hy2.less (base' := w.heap.size + 1) (by simp; omega))
  have HB2 := Lib.hid (below_all HB1.out (below_new hb2))
  clear hx2 hy2 hb2 z2 HX HY
  go_wp2_with fail
  obtain ⟨e0, e1, _⟩ := two_cells (two_set (two_set HZ2.out (.slice A3 rs.length c3)).1 (.slice A4 ws.length c4)).2
  refine bodyPost_ret (v := .tuple #[.agg #[.slice A3 rs.length c3, .slice A4 ws.length c4], .int .i64 n, .int .i64 q]) (by simp [results, Try.results12, go_sem, e0, e1]) rfl ?_
  refine ⟨_, _, rfl, ((HX2.out.set (by show w.heap.size < w.heap.size + 1; omega) _).set (by show w.heap.size < w.heap.size + 1; omega) _).its, ((HY2.out.set (by show w.heap.size < w.heap.size + 1; omega) _).set (by show w.heap.size < w.heap.size + 1; omega) _).its, ?_⟩
  exact (HB2.out.setCell (Nat.le_refl _) _).setCell (Nat.le_refl _) _

/-- The document's examples. -/
def inA : List Ev.Event := [⟨1, 0, 1, 0⟩, ⟨2, 0, 1, 5⟩, ⟨1, 0, 1, 5⟩]
def inB : List Ev.Event := [⟨2, 0, 1, 5⟩, ⟨1, 0, 1, 0⟩]
theorem in_exA : In.lookR inA = (([(1, 0)], [(1, 5)]), 0, 0) := by decide
theorem in_exB : In.lookR inB = (([], []), 1, 10) := by decide
set_option maxHeartbeats 1000000 in
theorem inAwake_at (w : World) : Calls Try.prog 7 #[] w (RetBool w true) := by
  have L1 := Lib.hid (lit_evs w 41 inA (by decide))
  go_enter Try.func7, Try.ntmps7
  go_wp2_with fail
  refine (look_at inA 0 0 false _ _ L1.out (by decide)).mono ?_
  rintro e w1 ⟨u1, v1, rfl, hu1, hv1, hb1⟩
  rw [in_exA] at hu1 hv1 ⊢
  have B1 := Lib.hid (below_new hb1)
  obtain ⟨A1, c1, rfl, hf1⟩ := hu1.spelled
  obtain ⟨A2, c2, rfl, hf2⟩ := hv1.spelled
  obtain ⟨a1, rfl, hl1, h1⟩ := hf1 0 (by decide)
  obtain ⟨a2, rfl, hl2, h2⟩ := hf2 0 (by decide)
  have H1 := Lib.hid h1
  have H2 := Lib.hid h2
  have l2 := lit_evs (w1.alloc (.cells #[.slice (some a1) 1 c1, .slice (some a2) 1 c2] 28)) 41 inB (by decide)
  rw [size_new] at l2
  have L2 := Lib.hid l2
  clear hb1 hu1 hv1 hf1 hf2 h1 h2 l2
  dsimp only [List.length_cons, List.length_nil]
  go_wp2_with fail
  refine (look_at inB 0 0 false _ _ L2.out (by decide)).mono ?_
  rintro e w2 ⟨u2, v2, rfl, hu2, hv2, hb2⟩
  rw [in_exB] at hu2 hv2 ⊢
  have hb3 := below_new hb2
  have k1 := (H1.out.below hl1 (below_new hb3))
  have k2 := (H2.out.below hl2 (below_new hb3))
  have c0 : w2.cell? ⟨w1.heap.size, 0, none⟩ = some (.slice (some a1) 1 c1) := (hb3.cell (by simp)).trans (new_cell w1 _ _ 0 _ rfl)
  have c5 : w2.cell? ⟨w1.heap.size, 1, none⟩ = some (.slice (some a2) 1 c2) := (hb3.cell (by simp)).trans (new_cell w1 _ _ 1 _ rfl)
  have x0 := k1.c0
  have x1 := k1.c1
  have y0 := k2.c0
  have y1 := k2.c1
  rw [Nat.zero_mul, add_zero'] at x0 x1 y0 y1
  obtain ⟨A3, c3, rfl, _⟩ := hu2.spelled
  obtain ⟨A4, c4, rfl, _⟩ := hv2.spelled
  have B2 := Lib.hid (below_all B1.out (below_new hb3))
  have s0 : w1.heap.size < w2.heap.size := by have := hb3.size; simp at this; omega
  have s1 : a1.block < w2.heap.size := by omega
  have s2 : a2.block < w2.heap.size := by omega
  have n0 : ¬ w1.heap.size = w2.heap.size := by omega
  have n1 : ¬ a1.block = w2.heap.size := by omega
  have n2 : ¬ a2.block = w2.heap.size := by omega
  clear hb2 hb3 k1 k2 hu2 hv2
  dsimp only [List.getElem_cons_zero] at x0 x1 y0 y1 ⊢
  go_wp2_with fail
  go_ret
  exact ⟨rfl, below_all B2.out (alloc_below _ _)⟩
end Go.Proofs.Ytlbpdnaaailpeaa
