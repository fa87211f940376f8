/-
  The laws' live example of layer 7 holds: awake answers true; what was in memory stays as it was.
  Conditions: none.
-/
import Derived.Test.YtodahdnooidmaaaSoWalkE
import Derived.Test.YtodahdnooidmaaaSoRefB
set_option maxRecDepth 4000
namespace Go.Proofs.Ytodahdnooidmaaa
open Go.RowKit

/-- Literals of transactions, and of transactions of a history. -/
theorem lit_txs (w : World) (e : TypeId) (p : List (Gr.Tx × Value)) (hp : p.length ≤ maxLen) (h : ∀ x ∈ p, Evs w x.2 x.1.ops) : Txs (w.alloc (.cells (p.flatMap txC).toArray e)) (.slice (some ⟨w.heap.size, 0, none⟩) p.length p.length) (p.map (·.1)) :=
  ⟨p, rfl, lit_rows txC_len w e p hp, fun x hx => (h x hx).below (alloc_below _ _)⟩
theorem lit_txns (w : World) (e : TypeId) (p : List (So.Txn × Value × Value)) (hp : p.length ≤ maxLen) (h : ∀ x ∈ p, Ns w x.2.1 x.1.writes ∧ Its w x.2.2 x.1.reads) : Txns (w.alloc (.cells (p.flatMap txnC).toArray e)) (.slice (some ⟨w.heap.size, 0, none⟩) p.length p.length) (p.map (·.1)) :=
  ⟨p, rfl, lit_rows txnC_len w e p hp, fun x hx => ⟨(h x hx).1.below (alloc_below _ _), (h x hx).2.below (alloc_below _ _)⟩⟩

/-- The document's examples. -/
def soA (v : Int) : List Gr.Tx := [⟨0, true, 0, [⟨2, 0, 1, 5⟩]⟩, ⟨1, true, 0, [⟨1, 0, 1, v⟩]⟩]
def soW : List So.Txn := [⟨0, [1], []⟩, ⟨1, [], [(1, 0)]⟩]
theorem so_exA : So.histR (soA 5) = (soW, 0, 0) := by rfl
theorem so_exB : So.histR (soA 6) = ([], 1, 12) := by rfl
theorem soA_len (v : Int) : (soA v).length ≤ 4294967296 ∧ ∀ t ∈ soA v, t.ops.length ≤ 4294967296 := by
  refine ⟨by simp [soA], fun t ht => ?_⟩
  simp only [soA, List.mem_cons, List.not_mem_nil, or_false] at ht
  rcases ht with rfl | rfl <;> simp
theorem soW_len : soW.length ≤ 4294967296 ∧ ∀ t ∈ soW, t.writes.length ≤ 4294967296 ∧ t.reads.length ≤ 4294967296 := by
  refine ⟨by simp [soW], fun t ht => ?_⟩
  simp only [soW, List.mem_cons, List.not_mem_nil, or_false] at ht
  rcases ht with rfl | rfl <;> simp
theorem soWant (W : World) (b : Nat) (hb : W.heap.size = b) : Txns (((W.alloc (.cells #[.int .i64 1] 3)).alloc (.cells #[.int .i64 1, .int .i64 0] 43)).alloc (.cells #[.int .i64 0, .slice (some ⟨b, 0, none⟩) 1 1, .slice none 0 0, .int .i64 1, .slice none 0 0, .slice (some ⟨b + 1, 0, none⟩) 1 1] 41)) (.slice (some ⟨b + 1 + 1, 0, none⟩) 2 2) soW := by
  subst hb
  have h1 : Ns (W.alloc (.cells #[.int .i64 1] 3)) (.slice (some ⟨W.heap.size, 0, none⟩) 1 1) [1] := lit_rows nC_len W 3 [1] (by simp [maxLen])
  have h2 : Its ((W.alloc (.cells #[.int .i64 1] 3)).alloc (.cells #[.int .i64 1, .int .i64 0] 43)) (.slice (some ⟨W.heap.size + 1, 0, none⟩) 1 1) [(1, 0)] := by
    have := lit_rows itC_len (W.alloc (.cells #[.int .i64 1] 3)) 43 [(1, 0)] (by simp [maxLen])
    rw [size_new] at this
    exact this
  have h3 := lit_txns ((W.alloc (.cells #[.int .i64 1] 3)).alloc (.cells #[.int .i64 1, .int .i64 0] 43)) 41 [(⟨0, [1], []⟩, .slice (some ⟨W.heap.size, 0, none⟩) 1 1, .slice none 0 0), (⟨1, [], [(1, 0)]⟩, .slice none 0 0, .slice (some ⟨W.heap.size + 1, 0, none⟩) 1 1)] (by simp [maxLen]) (fun x hx => by
    simp only [List.mem_cons, List.not_mem_nil, or_false] at hx
    rcases hx with rfl | rfl
    · exact ⟨h1.below (alloc_below _ _), Its.nil _ _⟩
    · exact ⟨Ns.nil _ _, h2⟩)
  rw [size_new, size_new] at h3
  exact h3
set_option maxHeartbeats 2000000 in
theorem soAwake_at (w : World) : Calls Try.prog 7 #[] w (RetBool w true) := by
  go_enter Try.func7, Try.ntmps7
  go_wp2_with fail
  refine (op_at 2 5 _).mono ?_
  rintro e w1 ⟨v1, rfl, hs1, hb1⟩
  obtain ⟨A1, c1, rfl, _⟩ := hs1.spelled
  have S1 := Lib.hid hs1
  have B1 := Lib.hid hb1
  clear hs1 hb1
  dsimp only [List.length_cons, List.length_nil] at S1 ⊢
  go_wp2_with fail
  refine (op_at 1 5 _).mono ?_
  rintro e w2 ⟨v2, rfl, hs2, hb2⟩
  obtain ⟨A2, c2, rfl, _⟩ := hs2.spelled
  dsimp only [List.length_cons, List.length_nil] at hs2 ⊢
  have L2 := Lib.hid (lit_txs w2 37 [(⟨0, true, 0, [⟨2, 0, 1, 5⟩]⟩, .slice A1 1 c1), (⟨1, true, 0, [⟨1, 0, 1, 5⟩]⟩, .slice A2 1 c2)] (by simp [maxLen]) (fun x hx => by
    simp only [List.mem_cons, List.not_mem_nil, or_false] at hx
    rcases hx with rfl | rfl
    · exact S1.out.below hb2
    · exact hs2))
  have B2 := Lib.hid (below_all B1.out hb2)
  clear hs2 hb2 S1 B1
  go_wp2_with fail
  refine (hist_at (soA 5) _ _ L2.out (soA_len 5).1 (soA_len 5).2).mono ?_
  rintro e w3 ⟨v3, rfl, hs3, hb3⟩
  rw [so_exA] at hs3 ⊢
  dsimp only at hs3 ⊢
  obtain ⟨A3, c3, rfl, _⟩ := hs3.spelled
  have S3 := Lib.hid hs3
  have B3 := Lib.hid (below_all B2.out (below_new hb3))
  have HN3 := Lib.hid (heap_alloc_new w3 (.cells #[.slice A3 soW.length c3] 27))
  have HW3 := Lib.hid (alloc_below w3 (.cells #[.slice A3 soW.length c3] 27))
  clear hs3 hb3 L2 B2
  go_wp2_with fail
  refine (op_at 2 5 _).mono ?_
  rintro e w4 ⟨v4, rfl, hs4, hb4⟩
  obtain ⟨A4, c4, rfl, _⟩ := hs4.spelled
  have S4 := Lib.hid hs4
  have B4 := Lib.hid (below_all HW3.out hb4)
  have N4 : Hid (w4.heap[w3.heap.size]? = some (.cells #[.slice A3 soW.length c3] 27 (0, 0))) := (hb4.block _ (by simp)).trans HN3.out
  clear hs4 hb4 HN3 HW3
  dsimp only [List.length_cons, List.length_nil] at S4 ⊢
  go_wp2_with fail
  refine (op_at 1 6 _).mono ?_
  rintro e w5 ⟨v5, rfl, hs5, hb5⟩
  obtain ⟨A5, c5, rfl, _⟩ := hs5.spelled
  dsimp only [List.length_cons, List.length_nil] at hs5 ⊢
  have L5 := Lib.hid (lit_txs w5 37 [(⟨0, true, 0, [⟨2, 0, 1, 5⟩]⟩, .slice A4 1 c4), (⟨1, true, 0, [⟨1, 0, 1, 6⟩]⟩, .slice A5 1 c5)] (by simp [maxLen]) (fun x hx => by
    simp only [List.mem_cons, List.not_mem_nil, or_false] at hx
    rcases hx with rfl | rfl
    · exact S4.out.below hb5
    · exact hs5))
  have B5 := Lib.hid (below_all B4.out hb5)
  have N5 : Hid (w5.heap[w3.heap.size]? = some (.cells #[.slice A3 soW.length c3] 27 (0, 0))) := (hb5.block _ (lt_of_block N4.out)).trans N4.out
  clear hs5 hb5 S4 B4 N4
  go_wp2_with fail
  refine (hist_at (soA 6) _ _ L5.out (soA_len 6).1 (soA_len 6).2).mono ?_
  rintro e w6 ⟨v6, rfl, hs6, hb6⟩
  rw [so_exB] at hs6 ⊢
  dsimp only at hs6 ⊢
  obtain ⟨A6, c6, rfl, _⟩ := hs6.spelled
  have B6 := Lib.hid (below_all B5.out (below_new hb6))
  have N6 : Hid (w6.heap[w3.heap.size]? = some (.cells #[.slice A3 soW.length c3] 27 (0, 0))) := ((below_new hb6).block _ (lt_of_block N5.out)).trans N5.out
  have HBX : Hid (Below w6.heap.size w6 (((((w6.alloc (.cells #[.slice A6 0 c6] 27)).alloc (.cells #[.int .i64 1] 3)).alloc (.cells #[.int .i64 1, .int .i64 0] 43)).alloc (.cells #[.int .i64 0, .slice (some ⟨w6.heap.size + 1, 0, none⟩) 1 1, .slice none 0 0, .int .i64 1, .slice none 0 0, .slice (some ⟨w6.heap.size + 1 + 1, 0, none⟩) 1 1] 41)).alloc (.cells #[.slice (some ⟨w6.heap.size + 1 + 1 + 1, 0, none⟩) 2 2] 27))) := below_all (below_all (below_all (below_all (alloc_below _ _) (alloc_below _ _)) (alloc_below _ _)) (alloc_below _ _)) (alloc_below _ _)
  have d3 : (((((w6.alloc (.cells #[.slice A6 0 c6] 27)).alloc (.cells #[.int .i64 1] 3)).alloc (.cells #[.int .i64 1, .int .i64 0] 43)).alloc (.cells #[.int .i64 0, .slice (some ⟨w6.heap.size + 1, 0, none⟩) 1 1, .slice none 0 0, .int .i64 1, .slice none 0 0, .slice (some ⟨w6.heap.size + 1 + 1, 0, none⟩) 1 1] 41)).alloc (.cells #[.slice (some ⟨w6.heap.size + 1 + 1 + 1, 0, none⟩) 2 2] 27)).cell? ⟨w3.heap.size, 0, none⟩ = some (.slice A3 soW.length c3) := (HBX.out.cell (lt_of_block N6.out)).trans (one_cell N6.out).1
  have SX := Lib.hid (((S3.out.below B6.out)).below HBX.out)
  have WX := Lib.hid ((soWant (w6.alloc (.cells #[.slice A6 0 c6] 27)) (w6.heap.size + 1) (size_new _ _)).below (alloc_below _ (.cells #[.slice (some ⟨w6.heap.size + 1 + 1 + 1, 0, none⟩) 2 2] 27)))
  have BX := Lib.hid (below_all (below_all B3.out B6.out) HBX.out)
  clear hs6 hb6 L5 B5 N5
  go_wp2_with fail
  refine (rSame7_at soW _ _ _ SX.out WX.out soW_len.1 soW_len.2).mono ?_
  rintro e w7 ⟨rfl, hb7⟩
  have B7 := Lib.hid (below_all BX.out hb7)
  clear hb7 d3
  go_wp2_with fail
  go_ret
  exact ⟨rfl, B7.out⟩
end Go.Proofs.Ytodahdnooidmaaa
