/-
  InnerTells answers true for every transaction: what it reads of others, and leaves, or which op is wrong, and how, is the document's; the transaction stays as it was.
  Conditions: none.
-/
import Derived.Test.YtlbpdnaaailpeaaInLawB
import Derived.Test.YtlbpdnaaailpeaaInRefB
import Derived.Test.YtlbpdnaaailpeaaGrAll
namespace Go.Proofs.Ytlbpdnaaailpeaa
open Go.ChangeShapes Go.WideShapes Go.ChangeAt Go.RowKit Go.Joins

section
variable {H : Type} {enc : TypeId × Value → H} {w : World} {base : Nat} {r : Reach} {b0 : Nat}
/-- A transaction among the arguments. -/
theorem arg_tx {v : Value} {d : DataW H} {ps : List MemPlace} (hval : Value.okWide Try.prog w r b0 24 v) (h : DataW.Trod enc Try.prog w base (fun _ => true) true 24 v d ps) :
    ∃ (s f : Int) (b : Bool) (l : List Ev.Event) (u : Value), v = .agg #[.int .i64 s, .bool b, .int .i64 f, u] ∧ Evs w u l := by
  obtain ⟨v0, v1, v2, v3, y0, y1, y2, y3, n, rfl, _, _, t0, t1, t2, t3⟩ := open_agg4 Try.underlying24 (by kernel_rfl) (by kernel_rfl) hval h
  obtain ⟨z0, e0, _⟩ := DataW.trod_int Try.underlying3 t0
  obtain ⟨z1, e1, _⟩ := DataW.trod_bool Try.underlying4 t1
  obtain ⟨z2, e2, _⟩ := DataW.trod_int Try.underlying3 t2
  obtain ⟨A, m, c, e3, l, he, _⟩ := cells_evs Try.underlying22 t3
  cases e0
  cases e1
  cases e2
  cases e3
  exact ⟨z0, z2, z1, l, _, rfl, he⟩
end

theorem four_cells {w w1 : World} {b : Nat} {x0 x1 x2 x3 : Value} {t : TypeId} (h : w.heap[b]? = some (.cells #[x0, x1, x2, x3] t (0, 0))) (hb : Below w.heap.size w w1) : w1.heap[b]? = some (.cells #[x0, x1, x2, x3] t (0, 0)) ∧ w1.cell? ⟨b, 0, none⟩ = some x0 ∧ w1.cell? ⟨b, 1, none⟩ = some x1 ∧ w1.cell? ⟨b, 2, none⟩ = some x2 ∧ w1.cell? ⟨b, 3, none⟩ = some x3 := by
  have h1 := (hb.block b (lt_of_block h)).trans h
  exact ⟨h1, by simp [World.cell?, h1], by simp [World.cell?, h1], by simp [World.cell?, h1], by simp [World.cell?, h1]⟩
set_option maxHeartbeats 1000000 in
theorem lawInnerTells (s f : Int) (d : Bool) (l : List Ev.Event) (u : Value) (w : World) (hu : Evs w u l) : Calls Try.prog 3 #[.agg #[.int .i64 s, .bool d, .int .i64 f, u]] w (RetBool w true) := by
  obtain ⟨A, c, rfl, _⟩ := hu.spelled
  have HN := Lib.hid (heap_alloc_new w (.cells #[.int .i64 s, .bool d, .int .i64 f, .slice A l.length c] 24))
  have U0 := Lib.hid (hu.below (alloc_below w (.cells #[.int .i64 s, .bool d, .int .i64 f, .slice A l.length c] 24)))
  clear hu
  go_enter Try.func3, Try.ntmps3
  go_wp2_with fail
  refine (inAwake_at _).mono ?_
  rintro e w1 ⟨rfl, hb1⟩
  obtain ⟨hN1, c0, c1, c2, c3⟩ := four_cells HN.out hb1
  have HN1 := Lib.hid hN1
  have U1 := Lib.hid (U0.out.below hb1)
  have B1 := Lib.hid (below_new hb1)
  clear hb1 hN1 HN U0
  by_cases h2 : 200 < l.length
  · have hd : decide ((200 : Int) < (l.length : Int)) = true := by simp; omega
    go_wp2_with fail
    go_ret
    exact ⟨rfl, B1.out⟩
  have hd : decide ((200 : Int) < (l.length : Int)) = false := by simp; omega
  have hl : l.length ≤ 4294967296 := by omega
  go_wp2_with fail
  refine (look_at l s f d _ w1 U1.out hl).mono ?_
  rintro e w2 ⟨x, y, rfl, hx, hy, hb2⟩
  obtain ⟨A1, c1', rfl, _⟩ := hx.spelled
  obtain ⟨A2, c2', rfl, _⟩ := hy.spelled
  have hlen := look_len l
  generalize hr : In.lookR l = r at *
  have HR := Lib.hid hr
  obtain ⟨⟨rs, ws⟩, n, q⟩ := r
  dsimp only at hlen hx hy ⊢
  have hrs : rs.length ≤ 4294967296 := by omega
  have hws : ws.length ≤ 4294967296 := by omega
  obtain ⟨hN2, _, _, _, k3⟩ := four_cells HN1.out hb2
  have HN2 := Lib.hid hN2
  have hlt2 := lt_of_block hN2
  have hk3 := cell_new k3 (.cells #[.slice A1 rs.length c1', .slice A2 ws.length c2'] 28)
  have U2 := Lib.hid (U1.out.below (below_all hb2 (alloc_below w2 (.cells #[.slice A1 rs.length c1', .slice A2 ws.length c2'] 28))))
  have X2 := Lib.hid (hx.below (alloc_below w2 (.cells #[.slice A1 rs.length c1', .slice A2 ws.length c2'] 28)))
  have Y2 := Lib.hid (hy.below (alloc_below w2 (.cells #[.slice A1 rs.length c1', .slice A2 ws.length c2'] 28)))
  have F2 := Lib.hid (heap_alloc_new w2 (.cells #[.slice A1 rs.length c1', .slice A2 ws.length c2'] 28))
  have B2 := Lib.hid (below_all B1.out (below_all hb2 (alloc_below w2 (.cells #[.slice A1 rs.length c1', .slice A2 ws.length c2'] 28))))
  clear hr hx hy hb2 hN2 k3 c0 c1 c2 c3 HN1 U1 B1 hlen
  go_wp2_with fail
  refine (rLook_at l _ _ U2.out hl).mono ?_
  rintro e w3 ⟨x3, y3, rfl, hx3, hy3, hb3⟩
  rw [HR.out] at hx3 hy3 ⊢
  dsimp only at hx3 hy3 ⊢
  obtain ⟨A3, c3, rfl, _⟩ := hx3.spelled
  obtain ⟨A4, c4, rfl, _⟩ := hy3.spelled
  obtain ⟨W, hW⟩ : ∃ W, W = w3.alloc (.cells #[.slice A3 rs.length c3, .slice A4 ws.length c4] 34) := ⟨_, rfl⟩
  have HBW : Hid (Below w3.heap.size w3 W) := by rw [hW]; exact alloc_below _ _
  have F3 : Hid (W.heap[w2.heap.size]? = some (.cells #[.slice A1 rs.length c1', .slice A2 ws.length c2'] 28 (0, 0))) := ((below_all hb3 HBW.out).block _ (lt_of_block F2.out)).trans F2.out
  have G3 : Hid (W.heap[w3.heap.size]? = some (.cells #[.slice A3 rs.length c3, .slice A4 ws.length c4] 34 (0, 0))) := by rw [hW]; exact heap_alloc_new _ _
  have X3 := Lib.hid ((X2.out.below (below_all hb3 HBW.out)).below ((Below.refl _ W).drew))
  have Y3 := Lib.hid ((Y2.out.below (below_all hb3 HBW.out)).below ((Below.refl _ W).drew))
  have P3 := Lib.hid ((hx3.below HBW.out).below ((Below.refl _ W).drew))
  have Q3 := Lib.hid ((hy3.below HBW.out).below ((Below.refl _ W).drew))
  have B3 := Lib.hid (below_all B2.out (below_all hb3 HBW.out))
  obtain ⟨m0, m1, _⟩ := two_cells F3.out
  obtain ⟨p0, p1, _⟩ := two_cells G3.out
  have s0 := lt_of_block F3.out
  have s1 := lt_of_block G3.out
  clear hx3 hy3 hb3 X2 Y2 B2 U2 F2 HN2 hk3
  have hqq : (q == q) = true := by simp
  have hnn : (n == n) = true := by simp
  go_wp2_with fail
  rw [← hW]
  clear hW HBW
  go_region_held3 (fun w' => w'.cell? ⟨w2.heap.size, 0, none⟩ = some (.slice A1 rs.length c1') ∧ w'.cell? ⟨w2.heap.size, 1, none⟩ = some (.slice A2 ws.length c2') ∧ w'.cell? ⟨w3.heap.size, 0, none⟩ = some (.slice A3 rs.length c3) ∧ w'.cell? ⟨w3.heap.size, 1, none⟩ = some (.slice A4 ws.length c4))
    (first | (exact ⟨m0, m1, p0, p1⟩) | (exact ⟨(H4.out.cell s0).trans m0, (H4.out.cell s0).trans m1, (H4.out.cell s1).trans p0, (H4.out.cell s1).trans p1⟩) | (exact ⟨(H5.out.cell s0).trans m0, (H5.out.cell s0).trans m1, (H5.out.cell s1).trans p0, (H5.out.cell s1).trans p1⟩))
    (first
      | (go_at_call 11; (with_reducible refine (plain6_at rs ws _ _ _ X3.out Y3.out hrs hws).mono ?_); rintro e w4 ⟨x4, y4, rfl, hx4, hy4, hb4⟩; obtain ⟨A5, c5, rfl⟩ := hx4.form; obtain ⟨A6, c6, rfl⟩ := hy4.form; have X4 := Lib.hid hx4.its; have Y4 := Lib.hid hy4.its; have P4 := Lib.hid (P3.out.below hb4); have Q4 := Lib.hid (Q3.out.below hb4); have H4 := Lib.hid (below_all ((Below.refl _ W).drew) hb4); clear hx4 hy4 hb4)
      | (go_at_call 10; (with_reducible refine (rSame6_at rs ws _ _ _ _ _ X4.out Y4.out P4.out Q4.out hrs hws).mono ?_); rintro e w5 ⟨rfl, hb5⟩; have H5 := Lib.hid (below_all H4.out hb5); clear hb5))
  all_goals
    go_wp2_with fail
    go_ret
    exact ⟨rfl, below_all B3.out H5.out⟩
end Go.Proofs.Ytlbpdnaaailpeaa
