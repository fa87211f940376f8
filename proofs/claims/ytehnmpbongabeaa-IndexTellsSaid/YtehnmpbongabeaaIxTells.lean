/-
  The walk of IndexTells: it answers true, and what was in memory stays as it was.
  Conditions: the first argument reads as a history.
-/
import Derived.Test.YtehnmpbongabeaaIxAwake
import Derived.Test.YtehnmpbongabeaaHiAll
set_option maxRecDepth 4000
namespace Go.Proofs.Ytehnmpbongabeaa
open Go.RowKit

namespace Ix
theorem writersA_len (h : List So.Txn) (key : Int) : (ints (writersA h key)).length ≤ 4294967296 := by
  rw [ints_len, writersA_is]
  have := writers_len (only h) key
  have := only_len h
  omega
theorem readersA_len {h : List So.Txn} (hs : Small h) (key f : Int) : (ints (readersA h key f)).length ≤ 4294967296 := by
  rw [ints_len, ← readersTo_all]
  exact Nat.le_trans (readersTo_len h key f h.length) hs.1
theorem keysA_len (h : List So.Txn) : (ints (keysA h)).length ≤ 4294967296 := by
  rw [ints_len, keysA_is]
  exact Nat.le_trans (keysTo_len _ _) (by decide)
theorem pairsA_len (h : List So.Txn) : (pairsA h).length ≤ 4294967296 := by
  rw [pairsA_is]
  exact Nat.le_trans (pairsTo_len (only_len h) 16) (by decide)
end Ix

theorem slice_form {w : World} {v : Value} {l : List Int} (h : Ns w v l) : ∃ A n c, v = .slice A n c := by
  obtain ⟨A, c, e, _⟩ := h.spelled
  exact ⟨A, _, c, e⟩
theorem chs_form {w : World} {v : Value} {l : List (Nat × Nat × Nat)} (h : Chs w v l) : ∃ A n c, v = .slice A n c := by
  obtain ⟨A, c, e, _⟩ := h.spelled
  exact ⟨A, _, c, e⟩
set_option maxHeartbeats 4000000 in
theorem lawIndexTells (h : List So.Txn) (u : Value) (key n : Int) (w : World) (hv : Txns w u h) : Calls Try.prog 3 #[.agg #[u], .int .i64 key, .int .i64 n] w (RetBool w true) := by
  have B0 := Lib.hid (alloc_below w (.cells #[u] 24))
  have V0 := Lib.hid (hv.below B0.out)
  have N0 := Lib.hid (Boxed.new w 24 u)
  obtain ⟨A, c, rfl, -⟩ := hv.spelled
  clear hv
  go_enter Try.func3, Try.ntmps3
  go_wp2_with fail
  generalize w.alloc (.cells #[.slice A h.length c] 24) = w1 at *
  refine (ixAwake_at w1).mono ?_
  rintro e w2 ⟨rfl, hb2⟩
  have B2 := Lib.hid hb2
  have n2 := (Boxed.later N0.out hb2).cell
  clear hb2
  go_wp2_with fail
  refine (few8_at h _ w2 (V0.out.below B2.out)).mono ?_
  rintro e w3 ⟨rfl, hb3⟩
  have B3 := Lib.hid (below_all B2.out hb3)
  have n3 := (Boxed.later N0.out B3.out).cell
  clear hb3 n2
  cases hf : Hi.fewB h with
  | false =>
    clear hf
    go_wp2_with fail
    go_ret
    exact ⟨rfl, below_all B0.out B3.out⟩
  | true =>
  have HS : Hid (Ix.Small h) := (Hi.few_small hf).2
  clear hf
  go_wp2_with fail
  have HF := Lib.hid (fun W (hw : Txns W (.slice A h.length c) h) => from9_at h _ n key W hw HS.out)
  have HRF := Lib.hid (fun W (hw : Txns W (.slice A h.length c) h) => rFrom9_at h _ n key W hw HS.out)
  have HWR := Lib.hid (fun W (hw : Txns W (.slice A h.length c) h) => writers9_at h _ key W hw HS.out)
  have HRW := Lib.hid (fun W (hw : Txns W (.slice A h.length c) h) => rWriters9_at h _ key W hw HS.out)
  have HRD := Lib.hid (fun W (hw : Txns W (.slice A h.length c) h) => readers9_at h _ key n W hw HS.out)
  have HRR := Lib.hid (fun W (hw : Txns W (.slice A h.length c) h) => rReaders9_at h _ key n W hw HS.out)
  have HKE := Lib.hid (fun W (hw : Txns W (.slice A h.length c) h) => keys9_at h _ W hw HS.out)
  have HRK := Lib.hid (fun W (hw : Txns W (.slice A h.length c) h) => rKeys9_at h _ W hw HS.out)
  have HPA := Lib.hid (fun W (hw : Txns W (.slice A h.length c) h) => pairs9_at h _ W hw HS.out)
  have HRP := Lib.hid (fun W (hw : Txns W (.slice A h.length c) h) => rPairs9_at h _ W hw HS.out)
  have LW := Lib.hid (Ix.writersA_len h key)
  have LR := Lib.hid (Ix.readersA_len HS.out key n)
  have LK := Lib.hid (Ix.keysA_len h)
  have LP := Lib.hid (Ix.pairsA_len h)
  generalize Ix.writersA h key = lw at *
  generalize Ix.readersA h key n = lr at *
  generalize Ix.keysA h = lk at *
  generalize Ix.pairsA h = lp at *
  refine (HF.out w3 (V0.out.below B3.out)).mono ?_
  rintro e w4 ⟨rfl, hb4⟩
  have B4 := Lib.hid (below_all B3.out hb4)
  have n4 := (Boxed.later N0.out B4.out).cell
  clear hb4 n3
  go_wp2_with fail
  refine (HRF.out w4 (V0.out.below B4.out)).mono ?_
  rintro e w5 ⟨rfl, hb5⟩
  have B5 := Lib.hid (below_all B4.out hb5)
  have n5 := (Boxed.later N0.out B5.out).cell
  have V5 := Lib.hid (V0.out.below B5.out)
  clear hb5 n4
  generalize Ix.numOf (Ix.fromA h n key) = fa at *
  generalize (Ix.fromA h n key).isSome = fb at *
  have qa : (fa == fa) = true := by simp
  have qb : (fb == fb) = true := by simp
  have D5 := Lib.hid (Below.refl w5.heap.size w5).drew
  clear HF HRF B2 B3 B4 V0
  go_wp2_with fail
  go_region_held3 (fun w' => w'.cell? ⟨w.heap.size, 0, none⟩ = some (.slice A h.length c))
    (first | (exact n5) | (exact cell_stays H6.out n5) | (exact cell_stays H7.out n5) | (exact cell_stays H8.out n5) | (exact cell_stays H9.out n5) | (exact cell_stays H10.out n5) | (exact cell_stays H11.out n5) | (exact cell_stays H12.out n5) | (exact cell_stays H13.out n5) | (exact cell_stays H14.out n5) | (exact cell_stays H15.out n5) | (exact cell_stays H16.out n5) | (exact cell_stays H17.out n5))
    (first
      | (go_at_call 12; (with_reducible refine (HWR.out _ (V5.out.below D5.out)).mono ?_); rintro e w6 ⟨v6, rfl, hv6, hb6⟩; have H6 := Lib.hid (below_all D5.out hb6); have R6 := Lib.hid hv6; obtain ⟨A6, n6, c6, rfl⟩ := slice_form hv6; clear hb6 hv6)
      | (go_at_call 13; (with_reducible refine (HRW.out _ (V5.out.below H6.out)).mono ?_); rintro e w7 ⟨v7, rfl, ho7, hb7⟩; have H7 := Lib.hid (below_all H6.out hb7); have R7 := Lib.hid (ns_own ho7); have Q7 := Lib.hid (R6.out.below hb7); obtain ⟨A7, n7, c7, rfl⟩ := own_any ho7; clear hb7 ho7)
      | (go_at_call 14; (with_reducible refine (HRD.out _ (V5.out.below H8.out)).mono ?_); rintro e w9 ⟨v9, rfl, hv9, hb9⟩; have H9 := Lib.hid (below_all H8.out hb9); have R9 := Lib.hid hv9; obtain ⟨A9, n9, c9, rfl⟩ := slice_form hv9; clear hb9 hv9)
      | (go_at_call 15; (with_reducible refine (HRR.out _ (V5.out.below H9.out)).mono ?_); rintro e w10 ⟨v10, rfl, ho10, hb10⟩; have H10 := Lib.hid (below_all H9.out hb10); have R10 := Lib.hid (ns_own ho10); have Q10 := Lib.hid (R9.out.below hb10); obtain ⟨A10, n10, c10, rfl⟩ := own_any ho10; clear hb10 ho10)
      | (go_at_call 16; (with_reducible refine (HKE.out _ (V5.out.below H11.out)).mono ?_); rintro e w12 ⟨v12, rfl, hv12, hb12⟩; have H12 := Lib.hid (below_all H11.out hb12); have R12 := Lib.hid hv12; obtain ⟨A12, n12, c12, rfl⟩ := slice_form hv12; clear hb12 hv12)
      | (go_at_call 17; (with_reducible refine (HRK.out _ (V5.out.below H12.out)).mono ?_); rintro e w13 ⟨v13, rfl, ho13, hb13⟩; have H13 := Lib.hid (below_all H12.out hb13); have R13 := Lib.hid (ns_own ho13); have Q13 := Lib.hid (R12.out.below hb13); obtain ⟨A13, n13, c13, rfl⟩ := own_any ho13; clear hb13 ho13)
      | (go_at_call 19; (with_reducible refine (HPA.out _ (V5.out.below H14.out)).mono ?_); rintro e w15 ⟨v15, rfl, hv15, hb15⟩; have H15 := Lib.hid (below_all H14.out hb15); have R15 := Lib.hid hv15; obtain ⟨A15, n15, c15, rfl⟩ := chs_form hv15; clear hb15 hv15)
      | (go_at_call 20; (with_reducible refine (HRP.out _ (V5.out.below H15.out)).mono ?_); rintro e w16 ⟨v16, rfl, hv16, hb16⟩; have H16 := Lib.hid (below_all H15.out hb16); have R16 := Lib.hid hv16; have Q16 := Lib.hid (R15.out.below hb16); obtain ⟨A16, n16, c16, rfl⟩ := chs_form hv16; clear hb16 hv16)
      | (go_at_call 11; (with_reducible refine (rInts_at _ _ _ _ Q7.out R7.out LW.out).mono ?_); rintro e w8 ⟨rfl, hb8⟩; have H8 := Lib.hid (below_all H7.out hb8); clear hb8)
      | (go_at_call 11; (with_reducible refine (rInts_at _ _ _ _ Q10.out R10.out LR.out).mono ?_); rintro e w11 ⟨rfl, hb11⟩; have H11 := Lib.hid (below_all H10.out hb11); clear hb11)
      | (go_at_call 11; (with_reducible refine (rInts_at _ _ _ _ Q13.out R13.out LK.out).mono ?_); rintro e w14 ⟨rfl, hb14⟩; have H14 := Lib.hid (below_all H13.out hb14); clear hb14)
      | (go_at_call 18; (with_reducible refine (rChoices9_at _ _ _ _ Q16.out R16.out LP.out).mono ?_); rintro e w17 ⟨rfl, hb17⟩; have H17 := Lib.hid (below_all H16.out hb17); clear hb17))
  all_goals
    go_wp2_with fail
    go_ret
    exact ⟨rfl, below_all B0.out (below_all B5.out H17.out)⟩
end Go.Proofs.Ytehnmpbongabeaa
