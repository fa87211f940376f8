/-
  The laws' live example of layer 9 holds: awake answers true; what was in memory stays as it was.
  Conditions: none.
-/
import Derived.Test.YtehnmpbongabeaaIxRefB
import Derived.Test.YtehnmpbongabeaaSoRef
set_option maxRecDepth 4000
namespace Go.Proofs.Ytehnmpbongabeaa
open Go.RowKit

/-- Three writers of key 4, and a reader. -/
def ixW : List So.Txn := [⟨0, [4], []⟩, ⟨0, [], [(4, 2)]⟩, ⟨0, [4], []⟩, ⟨0, [4], []⟩]
theorem ixW_right : Hi.Right ixW := by
  have r1 : So.Rises [(4 : Int)] := ⟨by simp, by simp⟩
  have r0 : So.Rises [] := ⟨by simp, by simp⟩
  refine ⟨by decide, fun k hk => ?_⟩
  obtain rfl | rfl | rfl | rfl : k = 0 ∨ k = 1 ∨ k = 2 ∨ k = 3 := by
    have : k < 4 := hk
    omega
  · exact ⟨by simp [ixW], r1, r0, by simp [ixW]⟩
  · refine ⟨by simp [ixW], r0, r1, fun y hy => .inr ⟨2, by decide, ?_⟩⟩
    rw [List.mem_singleton.1 (show y ∈ [((4 : Int), (2 : Int))] from hy)]
    exact ⟨rfl, by decide, by simp [ixW]⟩
  · exact ⟨by simp [ixW], r1, r0, by simp [ixW]⟩
  · exact ⟨by simp [ixW], r1, r0, by simp [ixW]⟩
theorem ixW_b : Hi.rightB ixW = true := Hi.rightB_yes ixW_right
theorem ixW_small : Ix.Small ixW := by
  refine ⟨by simp [ixW], fun t ht => ?_⟩
  simp only [ixW, List.mem_cons, List.not_mem_nil, or_false] at ht
  rcases ht with rfl | rfl | rfl | rfl <;> simp
theorem ixW_writers : ints (Ix.writersA ixW 4) = [0, 2, 3] := by rw [Ix.writersA_yes ixW_b]; decide
theorem ixW_readers : ints (Ix.readersA ixW 4 2) = [1] := by rw [Ix.readersA_yes ixW_b]; decide
theorem ixW_keys : ints (Ix.keysA ixW) = [4] := by rw [Ix.keysA_yes ixW_b]; decide
theorem ixW_from : Ix.fromA ixW 1 4 = some 2 := by rw [Ix.fromA_yes ixW_b]; decide
theorem ixW_pairs : Ix.pairsA ixW = [(4, 0, 2), (4, 0, 3), (4, 2, 3)] := by rw [Ix.pairsA_yes ixW_b]; decide

theorem lit_txns9 (w : World) (e : TypeId) (p : List (So.Txn × Value × Value)) (hp : p.length ≤ maxLen) (h : ∀ x ∈ p, Ns w x.2.1 x.1.writes ∧ Its w x.2.2 x.1.reads) : Txns (w.alloc (.cells (p.flatMap txnC).toArray e)) (.slice (some ⟨w.heap.size, 0, none⟩) p.length p.length) (p.map (·.1)) :=
  ⟨p, rfl, lit_rows txnC_len w e p hp, fun x hx => ⟨(h x hx).1.below (alloc_below _ _), (h x hx).2.below (alloc_below _ _)⟩⟩
/-- It lies in memory. -/
theorem ixWant (W : World) (b : Nat) (hb : W.heap.size = b) : Txns (((((W.alloc (.cells #[.int .i64 4] 3)).alloc (.cells #[.int .i64 4, .int .i64 2] 46)).alloc (.cells #[.int .i64 4] 3)).alloc (.cells #[.int .i64 4] 3)).alloc (.cells #[.int .i64 0, .slice (some ⟨b, 0, none⟩) 1 1, .slice none 0 0, .int .i64 0, .slice none 0 0, .slice (some ⟨b + 1, 0, none⟩) 1 1, .int .i64 0, .slice (some ⟨b + 1 + 1, 0, none⟩) 1 1, .slice none 0 0, .int .i64 0, .slice (some ⟨b + 1 + 1 + 1, 0, none⟩) 1 1, .slice none 0 0] 44)) (.slice (some ⟨b + 1 + 1 + 1 + 1, 0, none⟩) 4 4) ixW := by
  subst hb
  have four : ∀ X : World, Ns (X.alloc (.cells #[.int .i64 4] 3)) (.slice (some ⟨X.heap.size, 0, none⟩) 1 1) [4] := fun X => lit_rows nC_len X 3 [4] (by simp [maxLen])
  have h0 := four W
  have h1 : Its ((W.alloc (.cells #[.int .i64 4] 3)).alloc (.cells #[.int .i64 4, .int .i64 2] 46)) (.slice (some ⟨W.heap.size + 1, 0, none⟩) 1 1) [(4, 2)] := by
    have := lit_rows itC_len (W.alloc (.cells #[.int .i64 4] 3)) 46 [(4, 2)] (by simp [maxLen])
    rw [size_new] at this
    exact this
  have h2 := four ((W.alloc (.cells #[.int .i64 4] 3)).alloc (.cells #[.int .i64 4, .int .i64 2] 46))
  rw [size_new, size_new] at h2
  have h3 := four (((W.alloc (.cells #[.int .i64 4] 3)).alloc (.cells #[.int .i64 4, .int .i64 2] 46)).alloc (.cells #[.int .i64 4] 3))
  rw [size_new, size_new, size_new] at h3
  have h4 := lit_txns9 ((((W.alloc (.cells #[.int .i64 4] 3)).alloc (.cells #[.int .i64 4, .int .i64 2] 46)).alloc (.cells #[.int .i64 4] 3)).alloc (.cells #[.int .i64 4] 3)) 44
    [(⟨0, [4], []⟩, .slice (some ⟨W.heap.size, 0, none⟩) 1 1, .slice none 0 0), (⟨0, [], [(4, 2)]⟩, .slice none 0 0, .slice (some ⟨W.heap.size + 1, 0, none⟩) 1 1), (⟨0, [4], []⟩, .slice (some ⟨W.heap.size + 1 + 1, 0, none⟩) 1 1, .slice none 0 0), (⟨0, [4], []⟩, .slice (some ⟨W.heap.size + 1 + 1 + 1, 0, none⟩) 1 1, .slice none 0 0)] (by simp [maxLen]) (fun x hx => by
    simp only [List.mem_cons, List.not_mem_nil, or_false] at hx
    rcases hx with rfl | rfl | rfl | rfl
    · exact ⟨((h0.below (alloc_below _ _)).below (alloc_below _ _)).below (alloc_below _ _), Its.nil _ _⟩
    · exact ⟨Ns.nil _ _, (h1.below (alloc_below _ _)).below (alloc_below _ _)⟩
    · exact ⟨h2.below (alloc_below _ _), Its.nil _ _⟩
    · exact ⟨h3, Its.nil _ _⟩)
  rw [size_new, size_new, size_new, size_new] at h4
  exact h4
theorem lit_ints (W : World) (l : List Int) (hl : l.length ≤ maxLen) : Ns (W.alloc (.cells (l.flatMap nC).toArray 3)) (.slice (some ⟨W.heap.size, 0, none⟩) l.length l.length) l := lit_rows nC_len W 3 l hl

set_option maxHeartbeats 2000000 in
theorem ixAwake_at (w : World) : Calls Try.prog 7 #[] w (RetBool w true) := by
  go_enter Try.func7, Try.ntmps7
  go_wp2_with fail
  have V0 := Lib.hid (ixWant w w.heap.size rfl)
  have B0 : Hid (Below w.heap.size w (((((w.alloc (.cells #[.int .i64 4] 3)).alloc (.cells #[.int .i64 4, .int .i64 2] 46)).alloc (.cells #[.int .i64 4] 3)).alloc (.cells #[.int .i64 4] 3)).alloc (.cells #[.int .i64 0, .slice (some ⟨w.heap.size, 0, none⟩) 1 1, .slice none 0 0, .int .i64 0, .slice none 0 0, .slice (some ⟨w.heap.size + 1, 0, none⟩) 1 1, .int .i64 0, .slice (some ⟨w.heap.size + 1 + 1, 0, none⟩) 1 1, .slice none 0 0, .int .i64 0, .slice (some ⟨w.heap.size + 1 + 1 + 1, 0, none⟩) 1 1, .slice none 0 0] 44))) := below_new (below_new (below_new (below_new (alloc_below _ _))))
  have hsz : (((((w.alloc (.cells #[.int .i64 4] 3)).alloc (.cells #[.int .i64 4, .int .i64 2] 46)).alloc (.cells #[.int .i64 4] 3)).alloc (.cells #[.int .i64 4] 3)).alloc (.cells #[.int .i64 0, .slice (some ⟨w.heap.size, 0, none⟩) 1 1, .slice none 0 0, .int .i64 0, .slice none 0 0, .slice (some ⟨w.heap.size + 1, 0, none⟩) 1 1, .int .i64 0, .slice (some ⟨w.heap.size + 1 + 1, 0, none⟩) 1 1, .slice none 0 0, .int .i64 0, .slice (some ⟨w.heap.size + 1 + 1 + 1, 0, none⟩) 1 1, .slice none 0 0] 44)).heap.size = w.heap.size + 1 + 1 + 1 + 1 + 1 := by simp
  generalize (((((w.alloc (.cells #[.int .i64 4] 3)).alloc (.cells #[.int .i64 4, .int .i64 2] 46)).alloc (.cells #[.int .i64 4] 3)).alloc (.cells #[.int .i64 4] 3)).alloc (.cells #[.int .i64 0, .slice (some ⟨w.heap.size, 0, none⟩) 1 1, .slice none 0 0, .int .i64 0, .slice none 0 0, .slice (some ⟨w.heap.size + 1, 0, none⟩) 1 1, .int .i64 0, .slice (some ⟨w.heap.size + 1 + 1, 0, none⟩) 1 1, .slice none 0 0, .int .i64 0, .slice (some ⟨w.heap.size + 1 + 1 + 1, 0, none⟩) 1 1, .slice none 0 0] 44)) = W0 at *
  have N1 := Boxed.new W0 24 (.slice (some ⟨w.heap.size + 1 + 1 + 1 + 1, 0, none⟩) 4 4)
  rw [hsz] at N1
  have HN1 := Lib.hid N1
  have V1 := Lib.hid (V0.out.below (alloc_below W0 (.cells #[.slice (some ⟨w.heap.size + 1 + 1 + 1 + 1, 0, none⟩) 4 4] 24)))
  have B1 := Lib.hid (below_all B0.out (alloc_below W0 (.cells #[.slice (some ⟨w.heap.size + 1 + 1 + 1 + 1, 0, none⟩) 4 4] 24)))
  clear V0 B0 N1 hsz
  generalize W0.alloc (.cells #[.slice (some ⟨w.heap.size + 1 + 1 + 1 + 1, 0, none⟩) 4 4] 24) = W1 at *
  refine (from9_at ixW _ 1 4 W1 V1.out ixW_small).mono ?_
  rintro e w2 ⟨rfl, hb2⟩
  rw [ixW_from]
  dsimp only [Ix.numOf, Option.getD, Option.isSome]
  have B2 := Lib.hid hb2
  have n2 := (Boxed.later HN1.out hb2).cell
  clear hb2
  go_wp2_with fail
  refine (writers9_at ixW _ 4 w2 (V1.out.below B2.out) ixW_small).mono ?_
  rintro e w3 ⟨v3, rfl, hv3, hb3⟩
  rw [ixW_writers] at hv3
  obtain ⟨A3, c3, rfl, -⟩ := hv3.spelled
  have B3 := Lib.hid (below_all B2.out hb3)
  have L3 := Lib.hid (lit_ints w3 [0, 2, 3] (by simp [maxLen]))
  have V3 := Lib.hid (hv3.below (alloc_below w3 (.cells #[.int .i64 0, .int .i64 2, .int .i64 3] 3)))
  clear hv3 hb3 n2
  dsimp only [List.length_cons, List.length_nil] at *
  go_wp2_with fail
  refine (rInts_at [0, 2, 3] _ _ _ V3.out L3.out (by simp)).mono ?_
  rintro e w4 ⟨rfl, hb4⟩
  have B4 := Lib.hid (below_all B3.out (below_new hb4))
  have n4 := (Boxed.later HN1.out B4.out).cell
  clear hb4 V3 L3
  go_wp2_with fail
  refine (readers9_at ixW _ 4 2 w4 (V1.out.below B4.out) ixW_small).mono ?_
  rintro e w5 ⟨v5, rfl, hv5, hb5⟩
  rw [ixW_readers] at hv5
  obtain ⟨A5, c5, rfl, -⟩ := hv5.spelled
  have B5 := Lib.hid (below_all B4.out hb5)
  have L5 := Lib.hid (lit_ints w5 [1] (by simp [maxLen]))
  have V5 := Lib.hid (hv5.below (alloc_below w5 (.cells #[.int .i64 1] 3)))
  clear hv5 hb5 n4
  dsimp only [List.length_cons, List.length_nil] at *
  go_wp2_with fail
  refine (rInts_at [1] _ _ _ V5.out L5.out (by simp)).mono ?_
  rintro e w6 ⟨rfl, hb6⟩
  have B6 := Lib.hid (below_all B5.out (below_new hb6))
  have n6 := (Boxed.later HN1.out B6.out).cell
  clear hb6 V5 L5
  go_wp2_with fail
  refine (keys9_at ixW _ w6 (V1.out.below B6.out) ixW_small).mono ?_
  rintro e w7 ⟨v7, rfl, hv7, hb7⟩
  rw [ixW_keys] at hv7
  obtain ⟨A7, c7, rfl, -⟩ := hv7.spelled
  have B7 := Lib.hid (below_all B6.out hb7)
  have L7 := Lib.hid (lit_ints w7 [4] (by simp [maxLen]))
  have V7 := Lib.hid (hv7.below (alloc_below w7 (.cells #[.int .i64 4] 3)))
  clear hv7 hb7 n6
  dsimp only [List.length_cons, List.length_nil] at *
  go_wp2_with fail
  refine (rInts_at [4] _ _ _ V7.out L7.out (by simp)).mono ?_
  rintro e w8 ⟨rfl, hb8⟩
  have B8 := Lib.hid (below_all B7.out (below_new hb8))
  have n8 := (Boxed.later HN1.out B8.out).cell
  clear hb8 V7 L7
  go_wp2_with fail
  refine (pairs9_at ixW _ w8 (V1.out.below B8.out) ixW_small).mono ?_
  rintro e w9 ⟨v9, rfl, hv9, hb9⟩
  rw [ixW_pairs] at hv9
  obtain ⟨A9, c9, rfl, -⟩ := hv9.spelled
  have B9 := Lib.hid (below_all B8.out hb9)
  have L9 := Lib.hid (show Chs (w9.alloc (.cells #[.int .i64 4, .int .i64 0, .int .i64 2, .int .i64 4, .int .i64 0, .int .i64 3, .int .i64 4, .int .i64 2, .int .i64 3] 40)) (.slice (some ⟨w9.heap.size, 0, none⟩) 3 3) [(4, 0, 2), (4, 0, 3), (4, 2, 3)] from lit_rows chC_len w9 40 [(4, 0, 2), (4, 0, 3), (4, 2, 3)] (by simp [maxLen]))
  have V9 := Lib.hid (hv9.below (alloc_below w9 (.cells #[.int .i64 4, .int .i64 0, .int .i64 2, .int .i64 4, .int .i64 0, .int .i64 3, .int .i64 4, .int .i64 2, .int .i64 3] 40)))
  clear hv9 hb9 n8
  dsimp only [List.length_cons, List.length_nil] at *
  go_wp2_with fail
  refine (rChoices9_at [(4, 0, 2), (4, 0, 3), (4, 2, 3)] _ _ _ V9.out L9.out (by simp)).mono ?_
  rintro e w10 ⟨rfl, hb10⟩
  have B10 := Lib.hid (below_all B1.out (below_all B9.out (below_new hb10)))
  clear hb10
  go_wp2_with fail
  go_ret
  exact ⟨rfl, B10.out⟩
end Go.Proofs.Ytehnmpbongabeaa
