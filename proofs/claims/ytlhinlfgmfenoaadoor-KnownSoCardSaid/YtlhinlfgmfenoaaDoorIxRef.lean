/-
  Several texts in one, each with its own first words: IxRefA, IxRefB.
  Conditions: as each says.
-/
import Derived.Test.YtlhinlfgmfenoaaDoorIxAll
import Derived.Test.YtlhinlfgmfenoaaDoorHiRef
/-
  What the reference of layer 9 answers for who writes a key, and from whom a transaction reads it.
  Conditions: a history's rows have at most 2^32 elements each.
  (This program has not all of these functions: rWriters9_at, rFrom9_at are left out here.)
-/
set_option maxRecDepth 4000
namespace Go.Proofs.YtlhinlfgmfenoaaDoor
open Go.RowKit

/-! What is not valid is taken for no transactions. -/
namespace Ix
open So (Txn)
noncomputable def only (h : List Txn) : List Txn := if Hi.rightB h = true then h else []
theorem only_yes {h : List Txn} (q : Hi.rightB h = true) : only h = h := if_pos q
theorem only_no {h : List Txn} (q : Hi.rightB h = false) : only h = [] := if_neg (by rw [q]; simp)
theorem only_len (h : List Txn) : (only h).length ≤ 32 := by
  cases q : Hi.rightB h with
  | true => rw [only_yes q]; exact ((Hi.rightB_iff h).1 q).1
  | false => rw [only_no q]; simp
theorem writersA_is (h : List Txn) (key : Int) : writersA h key = writers (only h) key := by
  cases q : Hi.rightB h with
  | true => rw [only_yes q, writersA_yes q]
  | false => rw [only_no q, writersA_no q]; rfl
theorem fromA_is (h : List Txn) (t key : Int) : fromA h t key = fromI (only h) t key := by
  cases q : Hi.rightB h with
  | true => rw [only_yes q, fromA_yes q]
  | false => rw [only_no q, fromA_no q]; unfold fromI fromO; simp
theorem writers_nil (key : Int) : writers [] key = [] := rfl
theorem keysA_is (h : List Txn) : keysA h = keysTo (only h) 16 := by
  cases q : Hi.rightB h with
  | true => rw [only_yes q, keysA_yes q]; rfl
  | false =>
    rw [only_no q, keysA_no q]
    unfold keysTo
    simp [writers_nil]
theorem pairsA_is (h : List Txn) : pairsA h = pairsTo (only h) 16 := by
  cases q : Hi.rightB h with
  | true => rw [only_yes q, pairsA_yes q]; rfl
  | false =>
    rw [only_no q, pairsA_no q]
    unfold pairsTo
    simp [writers_nil, twos]
/-- Who reads a key from somebody, among the first k. -/
noncomputable def readersTo (h : List Txn) (key f : Int) (k : Nat) : List Nat := (List.range k).filter fun (t : Nat) => fromA h (t : Int) key == some f
theorem readersTo_yes {h : List Txn} {key f : Int} {k : Nat} (q : fromA h (k : Int) key = some f) : readersTo h key f (k + 1) = readersTo h key f k ++ [k] := by
  unfold readersTo
  rw [List.range_succ, List.filter_append]
  simp [q]
theorem readersTo_no {h : List Txn} {key f : Int} {k : Nat} (q : fromA h (k : Int) key ≠ some f) : readersTo h key f (k + 1) = readersTo h key f k := by
  unfold readersTo
  rw [List.range_succ, List.filter_append]
  simp [q]
theorem readersTo_all (h : List Txn) (key f : Int) : readersTo h key f h.length = readersA h key f := by
  cases q : Hi.rightB h with
  | true =>
    rw [readersA_yes q]
    unfold readersTo readers
    refine List.filter_congr fun t _ => ?_
    rw [fromA_yes q, fromI_nat]
  | false =>
    rw [readersA_no q]
    unfold readersTo
    simp [fromA_no q]
theorem readersTo_len (h : List Txn) (key f : Int) (k : Nat) : (readersTo h key f k).length ≤ k := by
  have := List.length_filter_le (fun (t : Nat) => fromA h (t : Int) key == some f) (List.range k)
  rw [List.length_range] at this
  exact this
/-- The first read of a key, step by step. -/
theorem fromO_hit {h : List Txn} {t : Nat} (ht : t < h.length) {key : Int} {i : Nat} (hi : i < h[t].reads.length) (hno : ∀ j (hj : j < h[t].reads.length), j < i → h[t].reads[j].1 ≠ key) (q : h[t].reads[i].1 = key) : fromO h t key = some h[t].reads[i].2 := by
  unfold fromO
  rw [List.getElem?_eq_getElem ht]
  show ((h[t].reads.find? fun y => y.1 == key).map (·.2)) = _
  have e : h[t].reads.find? (fun y => y.1 == key) = some h[t].reads[i] := by
    rw [List.find?_eq_some_iff_getElem]
    exact ⟨beq_iff_eq.2 q, i, hi, rfl, fun j hj => by simpa using hno j (by omega) hj⟩
  rw [e]
  rfl
theorem fromO_none {h : List Txn} {t : Nat} (ht : t < h.length) {key : Int} (hno : ∀ j (hj : j < h[t].reads.length), h[t].reads[j].1 ≠ key) : fromO h t key = none := by
  unfold fromO
  rw [List.getElem?_eq_getElem ht]
  show ((h[t].reads.find? fun y => y.1 == key).map (·.2)) = _
  have e : h[t].reads.find? (fun y => y.1 == key) = none := by
    rw [List.find?_eq_none]
    intro y hy
    obtain ⟨j, hj, rfl⟩ := List.getElem_of_mem hy
    simpa using hno j hj
  rw [e]
  rfl
end Ix

end Go.Proofs.YtlhinlfgmfenoaaDoor
/-
  What the reference of layer 9 answers for who reads a key from somebody, all keys that are written, and all pairs; and that two rows of choices that are the same are told so.
  Conditions: a history's rows have at most 2^32 elements each.
  (This program has not all of these functions: rReaders9_at, rKeys9_at, rPairs9_at, rChoices9_at are left out here.)
-/
set_option maxRecDepth 4000
namespace Go.Proofs.YtlhinlfgmfenoaaDoor
open Go.RowKit

theorem is_from (o : Option Int) (f : Int) : (o.isSome = true ∧ Ix.numOf o = f) ↔ o = some f := by
  cases o with
  | none => simp
  | some x => simp [Ix.numOf]
theorem two_cells9 {W : World} {B : Nat} {ad : Addr} {cc : Nat} {l : List Nat} (ho : W.ownsRow B 3 1 (.slice (some ad) l.length cc) l.length ((ints l).flatMap nC)) (i j : Nat) (hi : i < l.length) (hj : j < l.length) : W.cell? (ad.add i) = some (.int .i64 (l[i] : Int)) ∧ W.cell? (ad.add j) = some (.int .i64 (l[j] : Int)) := by
  obtain ⟨A, c, e, hrow⟩ := nums_spelled (ns_own ho)
  cases e
  obtain ⟨a1, e1, _, h1⟩ := hrow i hi
  obtain ⟨a2, e2, _, h2⟩ := hrow j hj
  cases e1
  cases e2
  exact ⟨h1, h2⟩
end Go.Proofs.YtlhinlfgmfenoaaDoor
