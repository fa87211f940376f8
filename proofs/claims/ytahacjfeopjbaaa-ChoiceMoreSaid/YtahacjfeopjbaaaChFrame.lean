/-
  Arguments of the laws of layers 18 and 19: a history, a level, choices and one more; a history, a level, choices, two numbers and a row.
  Conditions: none beyond those that each theorem states.
  (This program has not all of these functions: arg_at is left out here.)
-/
import Derived.Test.YtahacjfeopjbaaaHiAll
import Derived.Test.YtahacjfeopjbaaaStFrame
set_option maxRecDepth 4000
namespace Go.Proofs.Ytahacjfeopjbaaa
open Go.ChangeShapes Go.WideShapes Go.ChangeAt Go.RowKit Go.Joins Go.Deep

section
variable {H : Type} {enc : TypeId × Value → H} {w : World} {base : Nat} {r : Reach} {b0 : Nat}
theorem cells_hist {fuel : Nat} {cs : List Value} {x : DataW H × List MemPlace} (h : DataW.trod enc Try.prog w base (fun _ => true) true fuel 24 cs = some x) : ∃ (u : Value) (l : List So.Txn), cs = [u] ∧ Txns w u l := by
  obtain ⟨xs, n, _, _, hlen, hl, hg⟩ := DataW.trod_struct Try.underlying24 h
  have hc : cs.length = 1 := hlen.trans (by kernel_rfl)
  match cs, hc with
  | [c0], _ =>
    have ct : Try.prog.cellsOf 22 = 1 := by kernel_rfl
    have g0 : DataW.trod enc Try.prog w base (fun _ => true) true n 22 (([c0].drop 0).take (Try.prog.cellsOf 22)) = xs[0]? := hg 0 _ rfl
    simp only [ct, List.drop_zero, List.take_succ_cons, List.take_zero] at g0
    have hx : xs.length = 1 := hl
    rw [List.getElem?_eq_getElem (by omega)] at g0
    obtain ⟨u, l, e, ht⟩ := cells_txns g0
    cases e
    exact ⟨_, l, rfl, ht⟩
theorem cells_tris {fuel : Nat} {cs : List Value} {x : DataW H × List MemPlace} (h : DataW.trod enc Try.prog w base (fun _ => true) true fuel 25 cs = some x) : ∃ (v : Value) (l : List (Int × Int × Int)), cs = [v] ∧ Tris w v l := by
  have hinh : Inhabited (Int × Int × Int) := ⟨(0, 0, 0)⟩
  obtain ⟨A, m, c, e, l, h1, _, _⟩ := cells_rows triC_len (by omega) (fun _ => True) (by kernel_rfl) Try.underlying25 (fun _ _ _ h => st_tri h) h
  exact ⟨_, l, e, h1⟩
theorem cells_nums {fuel : Nat} {cs : List Value} {x : DataW H × List MemPlace} (h : DataW.trod enc Try.prog w base (fun _ => true) true fuel 46 cs = some x) : ∃ (v : Value) (l : List Int), cs = [v] ∧ Ns w v l := by
  have hinh : Inhabited Int := ⟨0⟩
  obtain ⟨A, m, c, e, l, h1, _, _⟩ := cells_rows nC_len (by omega) (fun _ => True) (by kernel_rfl) Try.underlying46 (fun _ _ _ h => cells_n h) h
  exact ⟨_, l, e, h1⟩
/-- A history, a level, choices and one more. -/
theorem arg_more {v : Value} {d : DataW H} {ps : List MemPlace} (hval : Value.okWide Try.prog w r b0 53 v) (h : DataW.Trod enc Try.prog w base (fun _ => true) true 53 v d ps) :
    ∃ (u : Value) (l : List So.Txn) (level : Int) (t : Value) (m : List (Int × Int × Int)) (k a b : Int), v = .agg #[u, .int .i64 level, t, .int .i64 k, .int .i64 a, .int .i64 b] ∧ Txns w u l ∧ Tris w t m := by
  obtain ⟨cs, rfl, hsz⟩ := okWide_struct Try.underlying53 hval
  obtain ⟨fuel, hf⟩ := h
  obtain ⟨xs, n, _, _, hlen, hl, hg⟩ := DataW.trod_struct Try.underlying53 hf
  have hc : cs.toList.length = 6 := hlen.trans (by kernel_rfl)
  obtain ⟨cl⟩ := cs
  match cl, hc with
  | [c0, c1, c2, c3, c4, c5], _ =>
    have ch : Try.prog.cellsOf 24 = 1 := by kernel_rfl
    have ci : Try.prog.cellsOf 3 = 1 := by kernel_rfl
    have cl : Try.prog.cellsOf 25 = 1 := by kernel_rfl
    have cc : Try.prog.cellsOf 38 = 3 := by kernel_rfl
    have g0 : DataW.trod enc Try.prog w base (fun _ => true) true n 24 (([c0, c1, c2, c3, c4, c5].drop 0).take (Try.prog.cellsOf 24)) = xs[0]? := hg 0 _ rfl
    have g1 : DataW.trod enc Try.prog w base (fun _ => true) true n 3 (([c0, c1, c2, c3, c4, c5].drop 1).take (Try.prog.cellsOf 3)) = xs[1]? := hg 1 _ rfl
    have g2 : DataW.trod enc Try.prog w base (fun _ => true) true n 25 (([c0, c1, c2, c3, c4, c5].drop 2).take (Try.prog.cellsOf 25)) = xs[2]? := hg 2 _ rfl
    have g3 : DataW.trod enc Try.prog w base (fun _ => true) true n 38 (([c0, c1, c2, c3, c4, c5].drop 3).take (Try.prog.cellsOf 38)) = xs[3]? := hg 3 _ rfl
    simp only [ch, ci, cl, cc, List.drop_zero, List.drop_succ_cons, List.take_succ_cons, List.take_zero] at g0 g1 g2 g3
    have hx : xs.length = 4 := hl
    rw [List.getElem?_eq_getElem (by omega)] at g0 g1 g2 g3
    obtain ⟨u, l, e0, h0⟩ := cells_hist g0
    obtain ⟨z1, e1, _⟩ := DataW.trod_int Try.underlying3 g1
    obtain ⟨t, m, e2, h2⟩ := cells_tris g2
    obtain ⟨⟨k, a, b⟩, e3, _⟩ := st_tri g3
    cases e0
    cases e1
    cases e2
    cases e3
    exact ⟨_, l, z1, _, m, k, a, b, rfl, h0, h2⟩
/-- A choice. -/
theorem arg_tri {v : Value} {d : DataW H} {ps : List MemPlace} (hval : Value.okWide Try.prog w r b0 38 v) (h : DataW.Trod enc Try.prog w base (fun _ => true) true 38 v d ps) : ∃ k a b : Int, v = .agg #[.int .i64 k, .int .i64 a, .int .i64 b] := by
  obtain ⟨cs, rfl, hsz⟩ := okWide_struct Try.underlying38 hval
  obtain ⟨fuel, hf⟩ := h
  obtain ⟨⟨k, a, b⟩, e, _⟩ := st_tri hf
  obtain ⟨cl⟩ := cs
  have e2 : cl = triC (k, a, b) := e
  subst e2
  exact ⟨k, a, b, rfl⟩
end
end Go.Proofs.Ytahacjfeopjbaaa
