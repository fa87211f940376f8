/-
  Several texts in one, each with its own first words: HiRefA, HiRefB, HiRefC.
  Conditions: as each says.
-/
import Derived.Test.YtlhinlfgmfenoaaDoorHiAll
import Derived.Test.YtlhinlfgmfenoaaDoorSoRef
import Derived.Test.YtlhinlfgmfenoaaDoorGrAll
import Derived.Test.YtlhinlfgmfenoaaDoorDiAll
/-
  What the reference's Writes, one and Right of layer 8 answer: whether a transaction writes a key, whether a transaction of a history may be, and whether a history may be.
  Conditions: a row has at most 2^32 elements.
  (This program has not all of these functions: rWrites8_at, rOne8_at, rRight8_at are left out here.)
-/
set_option maxRecDepth 4000
namespace Go.Proofs.YtlhinlfgmfenoaaDoor
open Go.RowKit

namespace Hi
end Hi

theorem cell_later {W W' : World} (hb : Below W.heap.size W W') {p : Addr} {v : Value} (h : W.cell? p = some v) : W'.cell? p = some v := (hb.cell (World.block_lt_of_cell? W p h)).trans h
end Go.Proofs.YtlhinlfgmfenoaaDoor
/-
  What the reference's events, Show and Parse of layer 8 answer: a transaction's events, the text of a history, and the history of a text, or where it is wrong.
  Conditions: a row has at most 2^32 elements.
  (This program has not all of these functions: rEvents8_at is left out here.)
-/
set_option maxRecDepth 4000
namespace Go.Proofs.YtlhinlfgmfenoaaDoor
open Go.RowKit

end Go.Proofs.YtlhinlfgmfenoaaDoor
/-
  What the reference's Parse and Show of layer 8 answer: the history of a text, or where it is wrong, and the text of a history.
  Conditions: a text has at most 2^32 bytes, a row at most 2^32 elements.
  (This program has not all of these functions: rresults_parse, rend_parse, rparse_no, rParse8_at, rShow8_at are left out here.)
-/
set_option maxRecDepth 4000
namespace Go.Proofs.YtlhinlfgmfenoaaDoor
open Go.RowKit

/-- A variable that holds a slice is no part of a row that begins with an integer: it may be written. -/
theorem sl_put {w : World} {b size n m c : Nat} {t : TypeId} {A : Option Addr} {v : Value} {xs : List Value} (hb : Boxed w b t (.slice A m c)) (h : Sl w size v n xs) (hx : ∀ u, xs[0]? = some u → ∃ k i, u = .int k i) (x : Value) : Sl (w.setCell ⟨b, 0, none⟩ x) size v n xs := by
  obtain ⟨h1, A', c', e, hc, hz, hh⟩ := h
  refine ⟨h1, A', c', e, hc, hz, fun h0 => ?_⟩
  obtain ⟨ad, e2, hlt, hcell⟩ := hh h0
  cases xs with
  | nil => exact ⟨ad, e2, by simpa using hlt, fun j u hu => by simp at hu⟩
  | cons u0 r =>
    obtain ⟨k, i, rfl⟩ := hx _ rfl
    have hc0 := hcell 0 _ rfl
    rw [add_zero'] at hc0
    have hne : ad.block ≠ b := fun e => by
      have hb' : w.heap[ad.block]? = some (.cells #[.slice A m c] t (0, 0)) := by rw [e]; exact hb
      simp only [World.cell?, hb'] at hc0
      split at hc0
      · cases hc0
      · have : ad.off = 0 ∨ 0 < ad.off := by omega
        rcases this with q | q
        · simp [q] at hc0
        · rw [Array.getElem?_eq_none (show #[Value.slice A m c].size ≤ ad.off from q)] at hc0
          cases hc0
    exact ⟨ad, e2, by simpa using hlt, fun j u hu => (set_far (by rw [add_block]; exact hne)).trans (hcell j u hu)⟩
theorem txns_put {w : World} {b m c : Nat} {t : TypeId} {A : Option Addr} {v : Value} {l : List So.Txn} (hb : Boxed w b t (.slice A m c)) (h : Txns w v l) (x : Value) : Txns (w.setCell ⟨b, 0, none⟩ x) v l := by
  obtain ⟨p, h1, h2, h3⟩ := h
  refine ⟨p, h1, sl_put hb h2 (fun u hu => ?_) x, fun y hy => ⟨sl_put hb (h3 y hy).1 (fun u hu => ?_) x, sl_put hb (h3 y hy).2 (fun u hu => ?_) x⟩⟩
  · cases p with
    | nil => simp at hu
    | cons y r => simp [txnC] at hu; exact ⟨_, _, hu.symm⟩
  · cases hw : y.1.writes with
    | nil => rw [hw] at hu; simp at hu
    | cons z r => rw [hw] at hu; simp [nC] at hu; exact ⟨_, _, hu.symm⟩
  · cases hw : y.1.reads with
    | nil => rw [hw] at hu; simp at hu
    | cons z r => rw [hw] at hu; simp [itC] at hu; exact ⟨_, _, hu.symm⟩

end Go.Proofs.YtlhinlfgmfenoaaDoor
