/-
  Words for what inner.Look keeps in memory: what is known of a key (five variables that three closures share), the row of sixteen of these, and the face that is filled.
  Conditions: none beyond those that each theorem states.
-/
import Derived.Test.YtlbpdnaaailpeaaRowMem
import Derived.Test.YtlbpdnaaailpeaaInPlain
import Derived.Test.YtlbpdnaaailpeaaEvAll
import Derived.Test.YtlbpdnaaailpeaaDiAll
import Derived.Laws.Cells
namespace Go.Proofs.Ytlbpdnaaailpeaa
open Go.RowKit

/-- Of what was there only blocks from a on, below b, may have turned. -/
structure Save (a b : Nat) (w w' : World) : Prop where
  os : w'.os = w.os
  tape : w'.tape = w.tape
  output : w'.output = w.output
  size : w.heap.size ≤ w'.heap.size
  block : ∀ k, k < w.heap.size → ¬ (a ≤ k ∧ k < b) → w'.heap[k]? = w.heap[k]?
theorem Save.refl (a b : Nat) (w : World) : Save a b w w := ⟨rfl, rfl, rfl, Nat.le_refl _, fun _ _ _ => rfl⟩
theorem Save.trans {a b : Nat} {w w1 w2 : World} (h : Save a b w w1) (k : Save a b w1 w2) : Save a b w w2 :=
  ⟨k.os.trans h.os, k.tape.trans h.tape, k.output.trans h.output, Nat.le_trans h.size k.size, fun i hi hn => (k.block i (Nat.lt_of_lt_of_le hi h.size) hn).trans (h.block i hi hn)⟩
theorem Save.of_below {a b : Nat} {w w' : World} (h : Below w.heap.size w w') : Save a b w w' := ⟨h.os, h.tape, h.output, h.size, fun k hk _ => h.block k hk⟩
theorem Save.setCell {a b : Nat} {w w1 : World} (h : Save a b w w1) {p : Addr} (hp : a ≤ p.block ∧ p.block < b) (u : Value) : Save a b w (w1.setCell p u) :=
  h.trans ⟨rfl, rfl, rfl, by simp [World.setCell], fun k hk hn => Below.heap_setCell _ _ _ _ (by intro e; subst e; exact hn hp)⟩
theorem Save.below {a b B : Nat} {w w' : World} (h : Save a b w w') (hB : B ≤ a) (hs : B ≤ w.heap.size) : Below B w w' := ⟨h.os, h.tape, h.output, h.size, fun k hk => h.block k (by omega) (by omega)⟩

/-- The memory of a key: the key, the result variable of its making, whether it is read, whether it is written, the first value read, the last one written: blocks b to b + 5. -/
structure MemAt (w : World) (b : Nat) (key : Int) (r v : Option Int) : Prop where
  key : w.heap[b]? = some (.cells #[.int .i64 key] 3 (0, 0))
  isRead : w.heap[b + 2]? = some (.cells #[.bool r.isSome] 4 (0, 0))
  isWritten : w.heap[b + 3]? = some (.cells #[.bool v.isSome] 4 (0, 0))
  firstRead : w.heap[b + 4]? = some (.cells #[.int .i64 (r.getD 0)] 3 (0, 0))
  lastWritten : w.heap[b + 5]? = some (.cells #[.int .i64 (v.getD 0)] 3 (0, 0))
theorem MemAt.lt {w : World} {b : Nat} {key : Int} {r v : Option Int} (h : MemAt w b key r v) : b + 5 < w.heap.size := lt_of_block h.lastWritten
theorem MemAt.keep {w w' : World} {b : Nat} {key : Int} {r v : Option Int} (h : MemAt w b key r v) (hk : ∀ j, j < 6 → w'.heap[b + j]? = w.heap[b + j]?) : MemAt w' b key r v :=
  ⟨(hk 0 (by omega)).trans h.key, (hk 2 (by omega)).trans h.isRead, (hk 3 (by omega)).trans h.isWritten, (hk 4 (by omega)).trans h.firstRead, (hk 5 (by omega)).trans h.lastWritten⟩
theorem MemAt.below {w w' : World} {b B : Nat} {key : Int} {r v : Option Int} (h : MemAt w b key r v) (hb : Below B w w') (hB : b + 6 ≤ B) : MemAt w' b key r v := h.keep fun j hj => hb.block _ (by omega)
theorem MemAt.save {w w' : World} {b c : Nat} {key : Int} {r v : Option Int} (h : MemAt w b key r v) (hs : Save c (c + 6) w w') (hne : b + 6 ≤ c ∨ c + 6 ≤ b) : MemAt w' b key r v :=
  h.keep fun j hj => hs.block _ (by have := h.lt; omega) (by omega)
/-- It is written. -/
theorem MemAt.write {w : World} {b : Nat} {key : Int} {r v : Option Int} (h : MemAt w b key r v) (x : Int) : MemAt ((w.setCell ⟨b + 3, 0, none⟩ (.bool true)).setCell ⟨b + 5, 0, none⟩ (.int .i64 x)) b key r (some x) := by
  have far : ∀ j, j ≠ b + 3 → j ≠ b + 5 → ((w.setCell ⟨b + 3, 0, none⟩ (.bool true)).setCell ⟨b + 5, 0, none⟩ (.int .i64 x)).heap[j]? = w.heap[j]? := fun j h3 h5 => (Below.heap_setCell _ _ _ _ h5).trans (Below.heap_setCell _ _ _ _ h3)
  refine ⟨(far _ (by omega) (by omega)).trans h.key, (far _ (by omega) (by omega)).trans h.isRead, ?_, (far _ (by omega) (by omega)).trans h.firstRead, ?_⟩
  · exact (Below.heap_setCell _ _ _ _ (by show b + 3 ≠ b + 5; omega)).trans (one_setCell h.isWritten)
  · exact one_setCell ((Below.heap_setCell _ _ _ _ (by show b + 5 ≠ b + 3; omega)).trans h.lastWritten)
/-- It is read. -/
theorem MemAt.read {w : World} {b : Nat} {key : Int} {r v : Option Int} (h : MemAt w b key r v) (x : Int) : MemAt ((w.setCell ⟨b + 2, 0, none⟩ (.bool true)).setCell ⟨b + 4, 0, none⟩ (.int .i64 x)) b key (some x) v := by
  have far : ∀ j, j ≠ b + 2 → j ≠ b + 4 → ((w.setCell ⟨b + 2, 0, none⟩ (.bool true)).setCell ⟨b + 4, 0, none⟩ (.int .i64 x)).heap[j]? = w.heap[j]? := fun j h3 h5 => (Below.heap_setCell _ _ _ _ h5).trans (Below.heap_setCell _ _ _ _ h3)
  refine ⟨(far _ (by omega) (by omega)).trans h.key, ?_, (far _ (by omega) (by omega)).trans h.isWritten, ?_, (far _ (by omega) (by omega)).trans h.lastWritten⟩
  · exact (Below.heap_setCell _ _ _ _ (by show b + 2 ≠ b + 4; omega)).trans (one_setCell h.isRead)
  · exact one_setCell ((Below.heap_setCell _ _ _ _ (by show b + 4 ≠ b + 2; omega)).trans h.firstRead)

/-- The three closures of the memory at block b. -/
def readF (b : Nat) : Value := .func (.func 20) #[] #[.pointer (some ⟨b + 3, 0, none⟩), .pointer (some ⟨b + 5, 0, none⟩), .pointer (some ⟨b + 2, 0, none⟩), .pointer (some ⟨b + 4, 0, none⟩), .pointer (some ⟨b, 0, none⟩)]
def writeF (b : Nat) : Value := .func (.func 23) #[] #[.pointer (some ⟨b + 3, 0, none⟩), .pointer (some ⟨b + 5, 0, none⟩)]
def tellF (b : Nat) : Value := .func (.func 24) #[] #[.pointer (some ⟨b + 2, 0, none⟩), .pointer (some ⟨b, 0, none⟩), .pointer (some ⟨b + 4, 0, none⟩), .pointer (some ⟨b + 3, 0, none⟩), .pointer (some ⟨b + 5, 0, none⟩)]
def memC (b : Nat) : List Value := [readF b, writeF b, tellF b]
def memV (b : Nat) : Value := .agg (memC b).toArray
theorem memC_len (b : Nat) : (memC b).length = 3 := rfl
/-- The row of sixteen memories, n of them made, the first at block B. -/
def rowC (B n : Nat) : List Value := (List.range n).flatMap (fun k => memC (B + 6 * k)) ++ List.replicate (48 - 3 * n) .nilFunc
theorem rowC_len (B n : Nat) (hn : n ≤ 16) : (rowC B n).length = 48 := by
  rw [rowC, List.length_append, List.length_replicate, flat_len (n := 3) (fun k => rfl), List.length_range]
  omega
theorem rowC_zero (B : Nat) : rowC B 0 = List.replicate 48 .nilFunc := rfl
theorem rowC_succ (B n : Nat) (hn : n < 16) : (((rowC B n).set (n * 3) (readF (B + 6 * n))).set (n * 3 + 1) (writeF (B + 6 * n))).set (n * 3 + 2) (tellF (B + 6 * n)) = rowC B (n + 1) := by
  have hl : ((List.range n).flatMap (fun k => memC (B + 6 * k))).length = n * 3 := by rw [flat_len (n := 3) (fun k => rfl), List.length_range]
  have hr : List.replicate (48 - 3 * n) Value.nilFunc = .nilFunc :: .nilFunc :: .nilFunc :: List.replicate (48 - 3 * (n + 1)) .nilFunc := by
    rw [show 48 - 3 * n = 48 - 3 * (n + 1) + 1 + 1 + 1 by omega]
    rfl
  unfold rowC
  rw [hr, List.range_succ, List.flatMap_append]
  generalize (List.range n).flatMap (fun k => memC (B + 6 * k)) = L at hl ⊢
  rw [List.set_append_right _ _ (by omega), List.set_append_right _ _ (by omega), List.set_append_right _ _ (by omega), hl, Nat.sub_self, show n * 3 + 1 - n * 3 = 1 by omega, show n * 3 + 2 - n * 3 = 2 by omega, List.append_assoc]
  rfl
theorem rowC_at (B n k j : Nat) (hk : k < n) (hj : j < 3) : (rowC B n)[k * 3 + j]? = (memC (B + 6 * k))[j]? := by
  have h := flat_at (n := 3) (f := fun k => memC (B + 6 * k)) (fun k => rfl) (List.range n) k (by simpa using hk) j hj
  rw [rowC, List.getElem?_append_left, h, List.getElem_range]
  rw [flat_len (n := 3) (fun k => rfl), List.length_range]
  omega
theorem rowC_free (B n j : Nat) (hj : n * 3 ≤ j) (h48 : j < 48) (hn : n ≤ 16) : (rowC B n)[j]? = some .nilFunc := by
  have hl : ((List.range n).flatMap (fun k => memC (B + 6 * k))).length = n * 3 := by rw [flat_len (n := 3) (fun k => rfl), List.length_range]
  rw [rowC, List.getElem?_append_right (by omega), List.getElem?_replicate, if_pos (by omega)]
/-- Block b holds the row. -/
def RowAt (w : World) (b B n : Nat) : Prop := w.heap[b]? = some (.cells (rowC B n).toArray 54 (0, 0))
theorem RowAt.lt {w : World} {b B n : Nat} (h : RowAt w b B n) : b < w.heap.size := lt_of_block h
theorem RowAt.cell {w : World} {b B n : Nat} (h : RowAt w b B n) (j : Nat) : w.cell? ⟨b, j, none⟩ = (rowC B n)[j]? := by
  rw [cell_of_row _ _ _ _ _ (0, 0) h, List.getElem?_toArray]
theorem RowAt.free {w : World} {b B n : Nat} (h : RowAt w b B n) (j : Nat) : w.frozen? ⟨b, j, none⟩ = false := by
  rw [RowAt] at h
  simp [World.frozen?, h]
theorem RowAt.mem {w : World} {b B n : Nat} (h : RowAt w b B n) (k : Nat) (hk : k < n) (j : Nat) (hj : j < 3) : w.cell? ⟨b, k * 3 + j, none⟩ = (memC (B + 6 * k))[j]? := by
  rw [h.cell, rowC_at B n k j hk hj]

/-- The variable at block F is a face that is being filled: two rows of the call's own, above F. -/
structure FaceAt (tf te : TypeId) (w : World) (F : Nat) (rs ws : List (Int × Int)) (u v : Value) : Prop where
  cell : w.heap[F]? = some (.cells #[u, v] tf (0, 0))
  reads : w.ownsRow (F + 1) te 2 u rs.length (rs.flatMap itC)
  writes : w.ownsRow (F + 1) te 2 v ws.length (ws.flatMap itC)
  apart : ∀ g, u.ownBlock = some g → v.ownBlock ≠ some g
theorem two_set {w : World} {F : Nat} {u v : Value} {t : TypeId} (h : w.heap[F]? = some (.cells #[u, v] t (0, 0))) (x : Value) : (w.setCell ⟨F, 0, none⟩ x).heap[F]? = some (.cells #[x, v] t (0, 0)) ∧ (w.setCell ⟨F, 1, none⟩ x).heap[F]? = some (.cells #[u, x] t (0, 0)) := by
  simp [World.setCell, Array.getElem?_modify, h]
theorem two_cells {w : World} {F : Nat} {u v : Value} {t : TypeId} (h : w.heap[F]? = some (.cells #[u, v] t (0, 0))) : w.cell? ⟨F, 0, none⟩ = some u ∧ w.cell? ⟨F, 1, none⟩ = some v ∧ ∀ k, w.frozen? ⟨F, k, none⟩ = false := by
  refine ⟨?_, ?_, fun k => ?_⟩
  · simp [World.cell?, h]
  · simp [World.cell?, h]
  · simp [World.frozen?, h]
section
variable {tf te : TypeId} {w : World} {F : Nat} {rs ws : List (Int × Int)} {u v : Value}
theorem FaceAt.lt (h : FaceAt tf te w F rs ws u v) : F < w.heap.size := lt_of_block h.cell
theorem FaceAt.below {w' : World} (h : FaceAt tf te w F rs ws u v) (hb : Below w.heap.size w w') : FaceAt tf te w' F rs ws u v :=
  ⟨(hb.block F h.lt).trans h.cell, own_below h.reads hb, own_below h.writes hb, h.apart⟩
theorem own_above {w : World} {base size n : Nat} {e : TypeId} {v : Value} {xs : List Value} (h : w.ownsRow (base + 1) e size v n xs) : v.ownBlock ≠ some base := fun e => by
  have := (h.lt base e).1
  omega
theorem own_kept {w w' : World} {base size n : Nat} {e : TypeId} {u v : Value} {xs : List Value} (h : w.ownsRow base e size v n xs) (hg : w.grownBy w' u.ownBlock) (ha : ∀ g, u.ownBlock = some g → v.ownBlock ≠ some g) : w'.ownsRow base e size v n xs := by
  refine h.kept hg ?_
  cases hv : v.ownBlock with
  | none => exact .inl rfl
  | some g => exact .inr fun e => ha g e.symm hv
/-- One read more. -/
theorem FaceAt.addRead {w2 : World} (h : FaceAt tf te w F rs ws u v) (y : Int × Int) {g cap : Nat} (hown : w2.ownsRow (F + 1) te 2 (.slice (some ⟨g, 0, none⟩) (rs.length + 1) cap) (rs.length + 1) (rs.flatMap itC ++ itC y)) (hg : w.grownBy w2 u.ownBlock) (hat : u.ownBlock = some g ∨ g = w.heap.size) :
    FaceAt tf te (w2.setCell ⟨F, 0, none⟩ (.slice (some ⟨g, 0, none⟩) (rs.length + 1) cap)) F (rs ++ [y]) ws (.slice (some ⟨g, 0, none⟩) (rs.length + 1) cap) v ∧ Below F w (w2.setCell ⟨F, 0, none⟩ (.slice (some ⟨g, 0, none⟩) (rs.length + 1) cap)) := by
  have hc : w2.heap[F]? = some (.cells #[u, v] tf (0, 0)) := (hg.block F h.lt (fun e => own_above h.reads e.symm)).trans h.cell
  refine ⟨⟨(two_set hc _).1, Rows'.own_snoc (ownsRow_setCell_below hown (by show F < F + 1; omega) _), ownsRow_setCell_below (own_kept h.writes hg h.apart) (by show F < F + 1; omega) _, fun k hk hv => ?_⟩, ?_⟩
  · obtain rfl : g = k := by simpa [Value.ownBlock] using hk
    rcases hat with e | e
    · exact h.apart g e hv
    · have := (h.writes.lt g hv).2
      omega
  · exact (Below.grown (Below.refl F w) hg (Nat.le_of_lt h.lt) fun k e => by have := (h.reads.lt k e).1; omega).setCell (Nat.le_refl F) _
/-- One write more. -/
theorem FaceAt.addWrite {w2 : World} (h : FaceAt tf te w F rs ws u v) (y : Int × Int) {g cap : Nat} (hown : w2.ownsRow (F + 1) te 2 (.slice (some ⟨g, 0, none⟩) (ws.length + 1) cap) (ws.length + 1) (ws.flatMap itC ++ itC y)) (hg : w.grownBy w2 v.ownBlock) (hat : v.ownBlock = some g ∨ g = w.heap.size) :
    FaceAt tf te (w2.setCell ⟨F, 1, none⟩ (.slice (some ⟨g, 0, none⟩) (ws.length + 1) cap)) F rs (ws ++ [y]) u (.slice (some ⟨g, 0, none⟩) (ws.length + 1) cap) ∧ Below F w (w2.setCell ⟨F, 1, none⟩ (.slice (some ⟨g, 0, none⟩) (ws.length + 1) cap)) := by
  have hc : w2.heap[F]? = some (.cells #[u, v] tf (0, 0)) := (hg.block F h.lt (fun e => own_above h.writes e.symm)).trans h.cell
  refine ⟨⟨(two_set hc _).2, ownsRow_setCell_below (own_kept h.reads hg (fun k hk hu => h.apart k hu hk)) (by show F < F + 1; omega) _, Rows'.own_snoc (ownsRow_setCell_below hown (by show F < F + 1; omega) _), fun k hk hv => ?_⟩, ?_⟩
  · obtain rfl : g = k := by simpa [Value.ownBlock] using hv
    rcases hat with e | e
    · exact h.apart g hk e
    · have := (h.reads.lt g hk).2
      omega
  · exact (Below.grown (Below.refl F w) hg (Nat.le_of_lt h.lt) fun k e => by have := (h.writes.lt k e).1; omega).setCell (Nat.le_refl F) _
end
end Go.Proofs.Ytlbpdnaaailpeaa
