/-
  What graph's match, Has, New and Add answer.
  Conditions: rows hold sets below 2^64.
-/
import Derived.Test.YtcpiaddohiokkaaGfWalkA
import Derived.Laws.CopyOwn
set_option maxRecDepth 4000
namespace Go.Proofs.Ytcpiaddohiokkaa
open Go.RowKit

namespace Gf
/-- Whether two graphs match. -/
def matchR (n m : Int) (a b : List Nat) : Bool := okB n a && (okB m b && (n == m))
theorem match_iff {n m : Int} {a b : List Nat} : matchR n m a b = true ↔ ∃ k : Nat, n = (k : Int) ∧ m = (k : Int) ∧ Ok k a ∧ Ok k b := by
  rw [matchR, Bool.and_eq_true, Bool.and_eq_true, okB_iff, okB_iff, beq_iff_eq]
  constructor
  · rintro ⟨⟨k, rfl, h1⟩, ⟨j, rfl, h2⟩, h3⟩
    obtain rfl : k = j := by omega
    exact ⟨k, rfl, rfl, h1, h2⟩
  · rintro ⟨k, rfl, rfl, h1, h2⟩
    exact ⟨⟨k, rfl, h1⟩, ⟨k, rfl, h2⟩, rfl⟩
end Gf

set_option maxHeartbeats 1000000 in
theorem gfMatch_at (n m : Int) (u v : Value) (a b : List Nat) (w : World) (hu : Us w u a) (hv : Us w v b) (ha : ∀ x ∈ a, x < 18446744073709551616) (hb : ∀ x ∈ b, x < 18446744073709551616) : Calls Try.prog 35 #[.agg #[.int .i64 n, u], .agg #[.int .i64 m, v]] w (RetBool w (Gf.matchR n m a b)) := by
  have HA := Lib.hid ha
  have HB := Lib.hid hb
  have HU := Lib.hid hu
  have HV := Lib.hid hv
  obtain ⟨A, c, rfl, -⟩ := hu.spelled
  obtain ⟨A', c', rfl, -⟩ := hv.spelled
  have T0 := Lib.hid ((Two.new w 24 (.int .i64 n) (.slice A a.length c)).later (alloc_below _ (.cells #[.int .i64 m, .slice A' b.length c'] 24)))
  have T1 := Lib.hid (Two.new (w.alloc (.cells #[.int .i64 n, .slice A a.length c] 24)) 24 (.int .i64 m) (.slice A' b.length c'))
  rw [World.size_alloc] at T1
  have BW := Lib.hid (below_all (alloc_below w (.cells #[.int .i64 n, .slice A a.length c] 24)) (alloc_below _ (.cells #[.int .i64 m, .slice A' b.length c'] 24)))
  clear ha hb hu hv
  have HR := Lib.hid (show Gf.matchR n m a b = (Gf.okB n a && (Gf.okB m b && (n == m))) from rfl)
  have F1 := Lib.hid (fun w h => gfRight_at n (.slice A a.length c) a w h HA.out)
  have F2 := Lib.hid (fun w h => gfRight_at m (.slice A' b.length c') b w h HB.out)
  generalize Gf.matchR n m a b = r at *
  generalize Gf.okB n a = p at *
  generalize Gf.okB m b = q at *
  go_enter Try.func35, Try.ntmps35
  go_wp2_with fail
  generalize (w.alloc (.cells #[.int .i64 n, .slice A a.length c] 24)).alloc (.cells #[.int .i64 m, .slice A' b.length c'] 24) = W at *
  refine (F1.out _ (HU.out.below BW.out)).mono ?_
  rintro e w1 ⟨rfl, hb1⟩
  have B1 := Lib.hid (below_all BW.out hb1)
  have T10 := Lib.hid (T0.out.later hb1)
  have T11 := Lib.hid (T1.out.later hb1)
  clear hb1 T0 T1
  cases p with
  | false =>
    go_wp2_with fail
    go_ret
    exact ⟨ret_bool HR.out.symm, B1.out⟩
  | true =>
    have c0 := T11.out.cells.1
    have c1 := T11.out.cells.2
    go_wp2_with fail
    refine (F2.out _ (HV.out.below B1.out)).mono ?_
    rintro e w2 ⟨rfl, hb2⟩
    have B2 := Lib.hid (below_all B1.out hb2)
    have d0 := (T10.out.later hb2).cells.1
    have d2 := (T11.out.later hb2).cells.1
    clear hb2 T10 T11 c0 c1
    cases q with
    | false =>
      go_wp2_with fail
      go_ret
      exact ⟨ret_bool HR.out.symm, B2.out⟩
    | true =>
      go_wp2_with fail
      go_ret
      exact ⟨ret_bool HR.out.symm, B2.out⟩

/-- No graph, or no edge. -/
theorem Gf.has_no {n : Int} {l : List Nat} {a b : Int} (h : (Gf.okB n l && Gf.isN n a) = false) : Gf.hasR n l a b = false := by
  rw [Gf.hasR, ← Bool.and_assoc, h]
  rfl
theorem Gf.has_at {n : Nat} {l : List Nat} {a : Nat} {b : Int} (h : Gf.Ok n l) (ha : a < n) (hal : a < l.length) : Gf.hasR (n : Int) l (a : Int) b = Bi.has l[a] b := by
  rw [Gf.hasR, (Gf.okB_nat n l).2 h, Gf.isN_yes ha, Bool.true_and, Bool.true_and, Int.toNat_natCast, Gf.bit_at hal]
  cases hq : Gf.isN (n : Int) b with
  | true =>
    obtain ⟨k, rfl, hk⟩ := Gf.isN_nat hq
    rw [Bool.true_and, Int.toNat_natCast, Bi.has_nat _ k (Nat.lt_of_lt_of_le hk h.1)]
  | false =>
    rw [Bool.false_and]
    cases hb : Bi.ok b with
    | false => rw [Bi.has_no hb]
    | true =>
      obtain ⟨k, rfl, hk⟩ := Bi.ok_nat hb
      rw [Bi.has_nat _ k hk]
      have hkn : n ≤ k := by
        rcases Nat.lt_or_ge k n with h1 | h1
        · rw [Gf.isN_yes h1] at hq; cases hq
        · exact h1
      exact (Nat.testBit_lt_two_pow (Nat.lt_of_lt_of_le (h.2.2 _ (List.getElem_mem hal)) (Nat.pow_le_pow_right (by decide) hkn))).symm

set_option maxHeartbeats 1000000 in
theorem gfHas_at (n : Int) (v : Value) (l : List Nat) (a b : Int) (w : World) (hv : Us w v l) (hs : ∀ x ∈ l, x < 18446744073709551616) : Calls Try.prog 14 #[.agg #[.int .i64 n, v], .int .i64 a, .int .i64 b] w (RetBool w (Gf.hasR n l a b)) := by
  have HS := Lib.hid hs
  have HV := Lib.hid hv
  obtain ⟨A, c, rfl, hf⟩ := hv.spelled
  have HF := Lib.hid hf
  have T0 := Lib.hid (Two.new w 24 (.int .i64 n) (.slice A l.length c))
  have BW := Lib.hid (alloc_below w (.cells #[.int .i64 n, .slice A l.length c] 24))
  have F1 := Lib.hid (fun w h => gfRight_at n (.slice A l.length c) l w h HS.out)
  have F2 := Lib.hid (fun w => gfNode_at n (.slice A l.length c) a w)
  clear hs hv hf
  cases hp : Gf.okB n l with
  | false =>
    have HR : Hid (Gf.hasR n l a b = false) := Gf.has_no (by rw [hp]; rfl)
    rw [hp] at F1
    generalize Gf.hasR n l a b = r at *
    go_enter Try.func14, Try.ntmps14
    go_wp2_with fail
    generalize w.alloc (.cells #[.int .i64 n, .slice A l.length c] 24) = W at *
    refine (F1.out _ (HV.out.below BW.out)).mono ?_
    rintro e w1 ⟨rfl, hb1⟩
    have B1 := Lib.hid (below_all BW.out hb1)
    clear hb1
    go_wp2_with fail
    go_ret
    exact ⟨ret_bool HR.out.symm, B1.out⟩
  | true =>
    rw [hp] at F1
    cases hq : Gf.isN n a with
    | false =>
      have HR : Hid (Gf.hasR n l a b = false) := Gf.has_no (by rw [hq, Bool.and_false])
      rw [hq] at F2
      generalize Gf.hasR n l a b = r at *
      go_enter Try.func14, Try.ntmps14
      go_wp2_with fail
      generalize w.alloc (.cells #[.int .i64 n, .slice A l.length c] 24) = W at *
      refine (F1.out _ (HV.out.below BW.out)).mono ?_
      rintro e w1 ⟨rfl, hb1⟩
      have B1 := Lib.hid (below_all BW.out hb1)
      have c0 := (T0.out.later hb1).cells.1
      have c1 := (T0.out.later hb1).cells.2
      clear hb1
      go_wp2_with fail
      refine (F2.out _).mono ?_
      rintro e w2 ⟨rfl, hb2⟩
      have B2 := Lib.hid (below_all B1.out hb2)
      clear hb2 c0 c1
      go_wp2_with fail
      go_ret
      exact ⟨ret_bool HR.out.symm, B2.out⟩
    | true =>
      obtain ⟨N, rfl, hok⟩ := Gf.okB_iff.1 hp
      obtain ⟨k, rfl, hk⟩ := Gf.isN_nat hq
      have hlt : k < l.length := by rw [hok.2.1]; exact hk
      obtain ⟨ad, rfl, hblk, hE⟩ := HF.out k hlt
      have hx := HS.out _ (List.getElem_mem hlt)
      have HR := Lib.hid (Gf.has_at (b := b) hok hk hlt)
      have EB := Lib.hid (fun (w' : World) (h : Below w.heap.size w w') => (h.cell (by rw [add_block]; exact hblk)).trans hE)
      rw [hq] at F2
      clear hp hq hok hE
      generalize l[k]'hlt = x at *
      generalize Gf.hasR N l k b = r at *
      go_enter Try.func14, Try.ntmps14
      go_wp2_with fail
      generalize w.alloc (.cells #[.int .i64 N, .slice (some ad) l.length c] 24) = W at *
      refine (F1.out _ (HV.out.below BW.out)).mono ?_
      rintro e w1 ⟨rfl, hb1⟩
      have B1 := Lib.hid (below_all BW.out hb1)
      have T1 := Lib.hid (T0.out.later hb1)
      have c0 := T1.out.cells.1
      have c1 := T1.out.cells.2
      clear hb1
      go_wp2_with fail
      refine (F2.out _).mono ?_
      rintro e w2 ⟨rfl, hb2⟩
      have B2 := Lib.hid (below_all B1.out hb2)
      have d1 := (T1.out.later hb2).cells.2
      have hE2 := EB.out _ B2.out
      clear hb2 c0 c1
      go_wp2_with fail
      refine (biHas_at x b _ hx).mono ?_
      rintro e w3 ⟨rfl, rfl⟩
      go_wp2_with fail
      go_ret
      exact ⟨ret_bool HR.out.symm, B2.out⟩
end Go.Proofs.Ytcpiaddohiokkaa
