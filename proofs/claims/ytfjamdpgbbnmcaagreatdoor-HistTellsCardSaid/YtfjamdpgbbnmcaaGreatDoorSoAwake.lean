/-
  The laws' live example of layer 7 holds: awake answers true; what was in memory stays as it was.
  Conditions: none.
  (This program has not all of these functions: soAwake_at is left out here.)
-/
import Derived.Test.YtfjamdpgbbnmcaaGreatDoorSoAll
import Derived.Test.YtfjamdpgbbnmcaaGreatDoorSoRef
set_option maxRecDepth 4000
namespace Go.Proofs.YtfjamdpgbbnmcaaGreatDoor
open Go.RowKit

/-- Literals of transactions, and of transactions of a history. -/
theorem lit_txs (w : World) (e : TypeId) (p : List (Gr.Tx × Value)) (hp : p.length ≤ maxLen) (h : ∀ x ∈ p, Evs w x.2 x.1.ops) : Txs (w.alloc (.cells (p.flatMap txC).toArray e)) (.slice (some ⟨w.heap.size, 0, none⟩) p.length p.length) (p.map (·.1)) :=
  ⟨p, rfl, lit_rows txC_len w e p hp, fun x hx => (h x hx).below (alloc_below _ _)⟩
theorem lit_txns (w : World) (e : TypeId) (p : List (So.Txn × Value × Value)) (hp : p.length ≤ maxLen) (h : ∀ x ∈ p, Ns w x.2.1 x.1.writes ∧ Its w x.2.2 x.1.reads) : Txns (w.alloc (.cells (p.flatMap txnC).toArray e)) (.slice (some ⟨w.heap.size, 0, none⟩) p.length p.length) (p.map (·.1)) :=
  ⟨p, rfl, lit_rows txnC_len w e p hp, fun x hx => ⟨(h x hx).1.below (alloc_below _ _), (h x hx).2.below (alloc_below _ _)⟩⟩

/-- The document's examples. -/
def soA (v : Int) : List Gr.Tx := [⟨0, true, 0, [⟨2, 0, 1, 5⟩]⟩, ⟨1, true, 0, [⟨1, 0, 1, v⟩]⟩]
def soW : List So.Txn := [⟨0, [1], []⟩, ⟨1, [], [(1, 0)]⟩]
theorem so_exA : So.histR (soA 5) = (soW, 0, 0) := by rfl
theorem so_exB : So.histR (soA 6) = ([], 1, 12) := by rfl
theorem soA_len (v : Int) : (soA v).length ≤ 4294967296 ∧ ∀ t ∈ soA v, t.ops.length ≤ 4294967296 := by
  refine ⟨by simp [soA], fun t ht => ?_⟩
  simp only [soA, List.mem_cons, List.not_mem_nil, or_false] at ht
  rcases ht with rfl | rfl <;> simp
theorem soW_len : soW.length ≤ 4294967296 ∧ ∀ t ∈ soW, t.writes.length ≤ 4294967296 ∧ t.reads.length ≤ 4294967296 := by
  refine ⟨by simp [soW], fun t ht => ?_⟩
  simp only [soW, List.mem_cons, List.not_mem_nil, or_false] at ht
  rcases ht with rfl | rfl <;> simp
theorem soWant (W : World) (b : Nat) (hb : W.heap.size = b) : Txns (((W.alloc (.cells #[.int .i64 1] 3)).alloc (.cells #[.int .i64 1, .int .i64 0] 40)).alloc (.cells #[.int .i64 0, .slice (some ⟨b, 0, none⟩) 1 1, .slice none 0 0, .int .i64 1, .slice none 0 0, .slice (some ⟨b + 1, 0, none⟩) 1 1] 38)) (.slice (some ⟨b + 1 + 1, 0, none⟩) 2 2) soW := by
  subst hb
  have h1 : Ns (W.alloc (.cells #[.int .i64 1] 3)) (.slice (some ⟨W.heap.size, 0, none⟩) 1 1) [1] := lit_rows nC_len W 3 [1] (by simp [maxLen])
  have h2 : Its ((W.alloc (.cells #[.int .i64 1] 3)).alloc (.cells #[.int .i64 1, .int .i64 0] 40)) (.slice (some ⟨W.heap.size + 1, 0, none⟩) 1 1) [(1, 0)] := by
    have := lit_rows itC_len (W.alloc (.cells #[.int .i64 1] 3)) 40 [(1, 0)] (by simp [maxLen])
    rw [size_new] at this
    exact this
  have h3 := lit_txns ((W.alloc (.cells #[.int .i64 1] 3)).alloc (.cells #[.int .i64 1, .int .i64 0] 40)) 38 [(⟨0, [1], []⟩, .slice (some ⟨W.heap.size, 0, none⟩) 1 1, .slice none 0 0), (⟨1, [], [(1, 0)]⟩, .slice none 0 0, .slice (some ⟨W.heap.size + 1, 0, none⟩) 1 1)] (by simp [maxLen]) (fun x hx => by
    simp only [List.mem_cons, List.not_mem_nil, or_false] at hx
    rcases hx with rfl | rfl
    · exact ⟨h1.below (alloc_below _ _), Its.nil _ _⟩
    · exact ⟨Ns.nil _ _, h2⟩)
  rw [size_new, size_new] at h3
  exact h3
end Go.Proofs.YtfjamdpgbbnmcaaGreatDoor
