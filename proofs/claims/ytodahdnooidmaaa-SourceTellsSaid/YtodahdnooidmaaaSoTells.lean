/-
  SourceTells answers true for every row of transactions: the history of any transactions, or which one is wrong, and how, is the document's; the transactions stay as they were.
  Conditions: none.
-/
import Derived.Test.YtodahdnooidmaaaSoRefG
import Derived.Test.YtodahdnooidmaaaSoGone
set_option maxRecDepth 4000
namespace Go.Proofs.Ytodahdnooidmaaa
open Go.RowKit

set_option maxHeartbeats 2000000 in
theorem lawSourceTells (l : List Gr.Tx) (v : Value) (w : World) (hv : Txs w v l) : Calls Try.prog 3 #[v] w (RetBool w true) := by
  have V0 := Lib.hid hv
  obtain ⟨A, c, rfl, _⟩ := hv.spelled
  clear hv
  go_enter Try.func3, Try.ntmps3
  go_wp2_with fail
  refine (soAwake_at w).mono ?_
  rintro e w1 ⟨rfl, hb1⟩
  have V1 := Lib.hid (V0.out.below hb1)
  have B1 := Lib.hid hb1
  clear hb1 V0
  go_wp2_with fail
  refine (few_at l _ _ V1.out).mono ?_
  rintro e w1' ⟨rfl, rfl⟩
  cases hfew : fewB l with
  | false =>
    go_wp2_with fail
    go_ret
    exact ⟨rfl, B1.out⟩
  | true =>
  obtain ⟨h40, ho40⟩ := (fewB_iff l).1 hfew
  have HL : Hid (l.length ≤ 4294967296) := by rw [Hid]; omega
  have HO : Hid (∀ t ∈ l, t.ops.length ≤ 4294967296) := fun t ht => by have := ho40 t ht; omega
  clear hfew ho40
  have HSM := Lib.hid (So.hist_small l)
  go_wp2_with fail
  refine (hist_at l _ _ V1.out HL.out HO.out).mono ?_
  rintro e w2 ⟨v2, rfl, hs2, hb2⟩
  obtain ⟨A2, c2, rfl, _⟩ := hs2.spelled
  have hb2' := below_all hb2 (alloc_below w2 (.cells #[.slice A2 (So.histR l).1.length c2] 27))
  have S2 := Lib.hid (hs2.below (alloc_below w2 (.cells #[.slice A2 (So.histR l).1.length c2] 27)))
  have N2 := Lib.hid (heap_alloc_new w2 (.cells #[.slice A2 (So.histR l).1.length c2] 27))
  have V2 := Lib.hid (V1.out.below hb2')
  have B2 := Lib.hid (below_all B1.out hb2')
  clear hs2 hb2 hb2' V1 B1
  go_wp2_with fail
  refine (plain7_at l _ _ V2.out HL.out).mono ?_
  rintro e w3 ⟨v3, rfl, hs3, hb3⟩
  obtain ⟨A3, c3, rfl, _⟩ := hs3.spelled
  have T3 := Lib.hid hs3
  have S3 := Lib.hid (S2.out.below hb3)
  have N3 : Hid (w3.heap[w2.heap.size]? = some (.cells #[.slice A2 (So.histR l).1.length c2] 27 (0, 0))) := (hb3.block _ (lt_of_block N2.out)).trans N2.out
  have B3 := Lib.hid (below_all B2.out hb3)
  clear hs3 hb3 S2 N2 V2 B2
  go_wp2_with fail
  refine (rHist7_at l _ _ T3.out HL.out HO.out).mono ?_
  rintro e w4 ⟨v4, rfl, hs4, hb4⟩
  obtain ⟨A4, c4, rfl, _⟩ := hs4.spelled
  have hb4' := below_all hb4 (alloc_below w4 (.cells #[.slice A4 (So.histR l).1.length c4] 27))
  have S4 := Lib.hid (S3.out.below hb4')
  have T4 := Lib.hid (hs4.below (alloc_below w4 (.cells #[.slice A4 (So.histR l).1.length c4] 27)))
  have d4 := (one_cell ((hb4'.block _ (lt_of_block N3.out)).trans N3.out)).1
  have B4 := Lib.hid (below_all B3.out hb4')
  clear hs4 hb4 hb4' S3 N3 T3 B3
  generalize So.histR l = r at *
  obtain ⟨ts, n, q⟩ := r
  dsimp only at *
  have qn : (n == n) = true := by simp
  have qq : (q == q) = true := by simp
  go_wp2_with fail
  refine (rSame7_at ts _ _ _ S4.out T4.out HSM.out.1 HSM.out.2).mono ?_
  rintro e w5 ⟨rfl, hb5⟩
  have B5 := Lib.hid (below_all B4.out hb5)
  clear hb5 d4
  go_wp2_with fail
  go_ret
  exact ⟨rfl, B5.out⟩
end Go.Proofs.Ytodahdnooidmaaa
