/-
  The laws' live example of layer 9 holds: awake answers true; what was in memory stays as it was.
  Conditions: none.
  (This program has not all of these functions: ixAwake_at is left out here.)
-/
import Derived.Test.YtahacjfeopjbaaaIxRef
import Derived.Test.YtahacjfeopjbaaaSoRef
set_option maxRecDepth 4000
namespace Go.Proofs.Ytahacjfeopjbaaa
open Go.RowKit

/-- Three writers of key 4, and a reader. -/
def ixW : List So.Txn := [⟨0, [4], []⟩, ⟨0, [], [(4, 2)]⟩, ⟨0, [4], []⟩, ⟨0, [4], []⟩]
theorem ixW_right : Hi.Right ixW := by
  have r1 : So.Rises [(4 : Int)] := ⟨by simp, by simp⟩
  have r0 : So.Rises [] := ⟨by simp, by simp⟩
  refine ⟨by decide, fun k hk => ?_⟩
  obtain rfl | rfl | rfl | rfl : k = 0 ∨ k = 1 ∨ k = 2 ∨ k = 3 := by
    have : k < 4 := hk
    omega
  · exact ⟨by simp [ixW], r1, r0, by simp [ixW]⟩
  · refine ⟨by simp [ixW], r0, r1, fun y hy => .inr ⟨2, by decide, ?_⟩⟩
    rw [List.mem_singleton.1 (show y ∈ [((4 : Int), (2 : Int))] from hy)]
    exact ⟨rfl, by decide, by simp [ixW]⟩
  · exact ⟨by simp [ixW], r1, r0, by simp [ixW]⟩
  · exact ⟨by simp [ixW], r1, r0, by simp [ixW]⟩
theorem ixW_b : Hi.rightB ixW = true := Hi.rightB_yes ixW_right
theorem ixW_small : Ix.Small ixW := by
  refine ⟨by simp [ixW], fun t ht => ?_⟩
  simp only [ixW, List.mem_cons, List.not_mem_nil, or_false] at ht
  rcases ht with rfl | rfl | rfl | rfl <;> simp
theorem ixW_writers : ints (Ix.writersA ixW 4) = [0, 2, 3] := by rw [Ix.writersA_yes ixW_b]; decide
theorem ixW_readers : ints (Ix.readersA ixW 4 2) = [1] := by rw [Ix.readersA_yes ixW_b]; decide
theorem ixW_keys : ints (Ix.keysA ixW) = [4] := by rw [Ix.keysA_yes ixW_b]; decide
theorem ixW_from : Ix.fromA ixW 1 4 = some 2 := by rw [Ix.fromA_yes ixW_b]; decide
theorem ixW_pairs : Ix.pairsA ixW = [(4, 0, 2), (4, 0, 3), (4, 2, 3)] := by rw [Ix.pairsA_yes ixW_b]; decide

theorem lit_txns9 (w : World) (e : TypeId) (p : List (So.Txn × Value × Value)) (hp : p.length ≤ maxLen) (h : ∀ x ∈ p, Ns w x.2.1 x.1.writes ∧ Its w x.2.2 x.1.reads) : Txns (w.alloc (.cells (p.flatMap txnC).toArray e)) (.slice (some ⟨w.heap.size, 0, none⟩) p.length p.length) (p.map (·.1)) :=
  ⟨p, rfl, lit_rows txnC_len w e p hp, fun x hx => ⟨(h x hx).1.below (alloc_below _ _), (h x hx).2.below (alloc_below _ _)⟩⟩
/-- It lies in memory. -/
theorem ixWant (W : World) (b : Nat) (hb : W.heap.size = b) : Txns (((((W.alloc (.cells #[.int .i64 4] 3)).alloc (.cells #[.int .i64 4, .int .i64 2] 62)).alloc (.cells #[.int .i64 4] 3)).alloc (.cells #[.int .i64 4] 3)).alloc (.cells #[.int .i64 0, .slice (some ⟨b, 0, none⟩) 1 1, .slice none 0 0, .int .i64 0, .slice none 0 0, .slice (some ⟨b + 1, 0, none⟩) 1 1, .int .i64 0, .slice (some ⟨b + 1 + 1, 0, none⟩) 1 1, .slice none 0 0, .int .i64 0, .slice (some ⟨b + 1 + 1 + 1, 0, none⟩) 1 1, .slice none 0 0] 65)) (.slice (some ⟨b + 1 + 1 + 1 + 1, 0, none⟩) 4 4) ixW := by
  subst hb
  have four : ∀ X : World, Ns (X.alloc (.cells #[.int .i64 4] 3)) (.slice (some ⟨X.heap.size, 0, none⟩) 1 1) [4] := fun X => lit_rows nC_len X 3 [4] (by simp [maxLen])
  have h0 := four W
  have h1 : Its ((W.alloc (.cells #[.int .i64 4] 3)).alloc (.cells #[.int .i64 4, .int .i64 2] 62)) (.slice (some ⟨W.heap.size + 1, 0, none⟩) 1 1) [(4, 2)] := by
    have := lit_rows itC_len (W.alloc (.cells #[.int .i64 4] 3)) 62 [(4, 2)] (by simp [maxLen])
    rw [size_new] at this
    exact this
  have h2 := four ((W.alloc (.cells #[.int .i64 4] 3)).alloc (.cells #[.int .i64 4, .int .i64 2] 62))
  rw [size_new, size_new] at h2
  have h3 := four (((W.alloc (.cells #[.int .i64 4] 3)).alloc (.cells #[.int .i64 4, .int .i64 2] 62)).alloc (.cells #[.int .i64 4] 3))
  rw [size_new, size_new, size_new] at h3
  have h4 := lit_txns9 ((((W.alloc (.cells #[.int .i64 4] 3)).alloc (.cells #[.int .i64 4, .int .i64 2] 62)).alloc (.cells #[.int .i64 4] 3)).alloc (.cells #[.int .i64 4] 3)) 65
    [(⟨0, [4], []⟩, .slice (some ⟨W.heap.size, 0, none⟩) 1 1, .slice none 0 0), (⟨0, [], [(4, 2)]⟩, .slice none 0 0, .slice (some ⟨W.heap.size + 1, 0, none⟩) 1 1), (⟨0, [4], []⟩, .slice (some ⟨W.heap.size + 1 + 1, 0, none⟩) 1 1, .slice none 0 0), (⟨0, [4], []⟩, .slice (some ⟨W.heap.size + 1 + 1 + 1, 0, none⟩) 1 1, .slice none 0 0)] (by simp [maxLen]) (fun x hx => by
    simp only [List.mem_cons, List.not_mem_nil, or_false] at hx
    rcases hx with rfl | rfl | rfl | rfl
    · exact ⟨((h0.below (alloc_below _ _)).below (alloc_below _ _)).below (alloc_below _ _), Its.nil _ _⟩
    · exact ⟨Ns.nil _ _, (h1.below (alloc_below _ _)).below (alloc_below _ _)⟩
    · exact ⟨h2.below (alloc_below _ _), Its.nil _ _⟩
    · exact ⟨h3, Its.nil _ _⟩)
  rw [size_new, size_new, size_new, size_new] at h4
  exact h4
theorem lit_ints (W : World) (l : List Int) (hl : l.length ≤ maxLen) : Ns (W.alloc (.cells (l.flatMap nC).toArray 3)) (.slice (some ⟨W.heap.size, 0, none⟩) l.length l.length) l := lit_rows nC_len W 3 l hl

end Go.Proofs.Ytahacjfeopjbaaa
