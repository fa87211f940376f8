/-
  What the reference's Past of layer 17 answers.
  Conditions: a history that may be.
  (This program has not all of these functions: rPast17_at is left out here.)
-/
import Derived.Test.YtlhinlfgmfenoaaDoorKnRefC
import Derived.Test.YtlhinlfgmfenoaaDoorAnyOrd
set_option maxRecDepth 4000
namespace Go.Proofs.YtlhinlfgmfenoaaDoor
open Go.RowKit

/-- What is known of the four parts, whichever have come up. -/
structure Pst (W X : World) (n : Nat) (so wr past : List Nat) (c0 c1 c2 c3 c4 : Bool) (v0 v1 v2 v3 : Value) : Prop where
  low : Below W.heap.size W X
  so : c4 = false → c0 = true → ∃ A c, v0 = .agg #[.int .i64 (n : Int), .slice A n c] ∧ Us X (.slice A n c) so
  wr : c4 = false → c1 = true → ∃ A c, v1 = .agg #[.int .i64 (n : Int), .slice A n c] ∧ Us X (.slice A n c) wr
  un : c2 = true → ∃ A c, v2 = .agg #[.int .i64 (n : Int), .slice A n c] ∧ OwnU X W.heap.size (.slice A n c) past
  al : c3 = true → c4 = false → ∃ b, v3 = .pointer (some ⟨b, 0, none⟩) ∧ W.heap.size ≤ b ∧ Two X b 36 (.int .i64 0) (.slice none 0 0)
  st : c4 = true → (c0 = true ∧ c1 = true ∧ c2 = true ∧ c3 = true) ∧ ∃ b A c, v3 = .pointer (some ⟨b, 0, none⟩) ∧ Two X b 36 (.int .i64 (n : Int)) (.slice A n c) ∧ OwnU X W.heap.size (.slice A n c) past
theorem own_aside {X : World} {base b o : Nat} {v u : Value} {l : List Nat} (h : OwnU X base v l) (hne : v.ownBlock ≠ some b) : OwnU (X.setCell ⟨b, o, none⟩ u) base v l :=
  World.ownsRow.kept h (row := some b) ⟨rfl, rfl, rfl, by rw [World.size_setCell]; exact Nat.le_refl _, fun k _ hk => Below.heap_setCell X ⟨b, o, none⟩ u k fun e => hk (congrArg some e)⟩ (.inr hne)
theorem own_not_two {X : World} {base b : Nat} {v u0 u1 : Value} {l : List Nat} (h : OwnU X base v l) (ht : Two X b 36 u0 u1) (e : v.ownBlock = some b) : False := by
  rcases h.2 with ⟨hv, _⟩ | ⟨g, cap, cur, hv, _, hg, _⟩
  · rw [hv] at e
    cases e
  · rw [hv] at e
    cases e
    have h2 : X.heap[g]? = some (.cells #[u0, u1] 36 (0, 0)) := ht
    rw [hg] at h2
    cases h2
theorem Pst.start {W X : World} {n : Nat} {so wr past : List Nat} {v0 v1 v2 v3 : Value} (h : Below W.heap.size W X) : Pst W X n so wr past false false false false false v0 v1 v2 v3 :=
  ⟨h, (fun _ q => by cases q), (fun _ q => by cases q), (fun q => by cases q), (fun q => by cases q), (fun q => by cases q)⟩
theorem Pst.later {W X Y : World} {n : Nat} {so wr past : List Nat} {c0 c1 c2 c3 : Bool} {v0 v1 v2 v3 : Value} (h : Pst W X n so wr past c0 c1 c2 c3 false v0 v1 v2 v3) (hb : Below X.heap.size X Y) : Pst W Y n so wr past c0 c1 c2 c3 false v0 v1 v2 v3 :=
  ⟨below_all h.low hb, (fun _ q => by obtain ⟨A, c, e, hu⟩ := h.so rfl q; exact ⟨A, c, e, hu.below hb⟩), (fun _ q => by obtain ⟨A, c, e, hu⟩ := h.wr rfl q; exact ⟨A, c, e, hu.below hb⟩), (fun q => by obtain ⟨A, c, e, hu⟩ := h.un q; exact ⟨A, c, e, hu.below hb⟩), (fun q _ => by obtain ⟨b, e, h1, h2⟩ := h.al q rfl; exact ⟨b, e, h1, h2.later hb⟩), (fun q => by cases q)⟩

end Go.Proofs.YtlhinlfgmfenoaaDoor
