/-
  Several texts in one, each with its own first words: SoRefA, SoRefB, SoRefT, SoRefC, SoRefD, SoRefE, SoRefG.
  Conditions: as each says.
-/
import Derived.Test.YtpmimmaaeaifhaaDoorSoAll
import Derived.Test.YtpmimmaaeaifhaaDoorInRef
import Derived.Test.YtpmimmaaeaifhaaDoorGrAll
/-
  What the reference's small functions of layer 7 answer: may, writes, Number; and Ints, takes and Same of what is one; what was in memory stays as it was.
  Conditions: a row has at most 2^32 elements.
  (This program has not all of these functions: rMay_at, rWrites_at, rNumber_at, rTakes_at are left out here.)
-/
set_option maxRecDepth 4000
namespace Go.Proofs.YtpmimmaaeaifhaaDoor
open Go.RowKit

/-- A variable that holds a transaction as the reference has it. -/
theorem TxVar.at {w w' : World} {b : Nat} {t : Gr.Tx} {u : Value} (h : TxVar w b t u) (hb : Below w.heap.size w w') : TxVar w' b t u := h.below hb
set_option maxHeartbeats 1000000 in
theorem rInts_at (l : List Int) (u v : Value) (w : World) (hu : Ns w u l) (hv : Ns w v l) (hl : l.length ≤ 4294967296) : Calls Tryd.prog 12 #[u, v] w (RetBool w true) := by
  obtain ⟨A, c, rfl, hf⟩ := hu.spelled
  obtain ⟨B, c', rfl, hg⟩ := hv.spelled
  have HF := Lib.hid hf
  have HG := Lib.hid hg
  clear hf hg hu hv
  have hb : (((l.length : Nat) : Int) != ((l.length : Nat) : Int)) = false := by simp
  go_enter Tryd.func12, Tryd.ntmps12
  go_wp2
  go_loopw [5] (fun i wr => ∃ k : Nat, k ≤ l.length ∧ i = .int .i64 k ∧ Below w.heap.size w wr) (fun i _ => l.length - (intOf i).toNat)
  case atStart => exact ⟨0, Nat.zero_le _, rfl, Below.refl _ _⟩
  case round =>
    obtain ⟨k, hk, rfl, hB⟩ := hrel
    have HB := Lib.hid hB
    clear hB
    by_cases hlt : k < l.length
    · obtain ⟨ad, rfl, hblk, hE⟩ := HF.out k hlt
      obtain ⟨ad', rfl, hblk', hE'⟩ := HG.out k hlt
      have c0 : wr.cell? (ad.add k) = some (.int .i64 (l[k]'hlt)) := (HB.out.cell (by rw [add_block]; exact hblk)).trans hE
      have c1 : wr.cell? (ad'.add k) = some (.int .i64 (l[k]'hlt)) := (HB.out.cell (by rw [add_block]; exact hblk')).trans hE'
      generalize l[k]'hlt = x at *
      have hne : (x != x) = false := by simp
      clear hE hE'
      go_wp2_with fail
      go_quiet (fail)
      go_wp2_with fail
      go_roundw
      case rel => exact ⟨k + 1, by omega, by go_num, below_drewN HB.out _⟩
      case measure => simp [intOf]; omega
    · go_wp2_with fail
      go_ret
      exact ⟨rfl, HB.out⟩
end Go.Proofs.YtpmimmaaeaifhaaDoor
/-
  What the reference's Same of layer 7 answers of two histories that are one, and the laws' small functions few, op and plain of layer 7; what was in memory stays as it was.
  Conditions: a row has at most 2^32 elements.
  (This program has not all of these functions: rSame7_at, few_at, op_at, plain7_at are left out here.)
-/
set_option maxRecDepth 4000
namespace Go.Proofs.YtpmimmaaeaifhaaDoor
open Go.RowKit

/-- A variable that holds a transaction of a history. -/
structure TxnVar (w : World) (b : Nat) (t : So.Txn) (u v : Value) : Prop where
  c0 : w.cell? ⟨b, 0, none⟩ = some (.int .i64 t.session)
  c1 : w.cell? ⟨b, 1, none⟩ = some u
  c2 : w.cell? ⟨b, 2, none⟩ = some v
theorem TxnVar.new (w : World) (t : So.Txn) (u v : Value) (ty : TypeId) : TxnVar (w.alloc (.cells #[.int .i64 t.session, u, v] ty)) w.heap.size t u v :=
  ⟨new_cell w _ _ 0 _ rfl, new_cell w _ _ 1 _ rfl, new_cell w _ _ 2 _ rfl⟩
theorem TxnVar.below {w w' : World} {b : Nat} {t : So.Txn} {u v : Value} (h : TxnVar w b t u v) (hb : Below w.heap.size w w') : TxnVar w' b t u v := by
  have hlt := World.block_lt_of_cell? w _ h.c0
  exact ⟨(hb.cell (p := ⟨b, 0, none⟩) hlt).trans h.c0, (hb.cell (p := ⟨b, 1, none⟩) hlt).trans h.c1, (hb.cell (p := ⟨b, 2, none⟩) hlt).trans h.c2⟩
/-- Two variables of one cell each. -/
def Boxes (w : World) (b : Nat) (u v : Value) : Prop := w.cell? ⟨b, 0, none⟩ = some u ∧ w.cell? ⟨b + 1, 0, none⟩ = some v
theorem Boxes.below {w w' : World} {b : Nat} {u v : Value} (h : Boxes w b u v) (hb : Below w.heap.size w w') : Boxes w' b u v :=
  ⟨(hb.cell (World.block_lt_of_cell? w _ h.1)).trans h.1, (hb.cell (World.block_lt_of_cell? w _ h.2)).trans h.2⟩
end Go.Proofs.YtpmimmaaeaifhaaDoor
/-
  Words for a variable of two cells: how it lasts.
  Conditions: none beyond those that each theorem states.
-/
set_option maxRecDepth 4000
namespace Go.Proofs.YtpmimmaaeaifhaaDoor
open Go.RowKit

/-- A variable of two cells. -/
def TwoV (w : World) (b : Nat) (x y : Value) : Prop := w.cell? ⟨b, 0, none⟩ = some x ∧ w.cell? ⟨b, 1, none⟩ = some y
theorem TwoV.below {w w' : World} {b : Nat} {x y : Value} (h : TwoV w b x y) (hb : Below w.heap.size w w') : TwoV w' b x y :=
  ⟨(hb.cell (World.block_lt_of_cell? w _ h.1)).trans h.1, (hb.cell (World.block_lt_of_cell? w _ h.2)).trans h.2⟩
end Go.Proofs.YtpmimmaaeaifhaaDoor
/-
  What the reference's unlike and from of layer 7 answer: what is wrong with a transaction's writes (So.phase 1), and whose a value is (So.fromR); what was in memory stays as it was.
  Conditions: at most 32 transactions, a row of ops has at most 2^32 elements; from: keys are 0 to 15, and what was committed may be looked at.
  (This program has not all of these functions: rUnlike_at is left out here.)
-/
set_option maxRecDepth 4000
namespace Go.Proofs.YtpmimmaaeaifhaaDoor
open Go.RowKit

end Go.Proofs.YtpmimmaaeaifhaaDoor
/-
  What the reference's from of layer 7 answers: whose a value is (So.fromR); what was in memory stays as it was.
  Conditions: at most 32 transactions, a row of ops has at most 2^32 elements; the key is 0 to 15, and what was committed may be looked at.
  (This program has not all of these functions: rFrom_at is left out here.)
-/
set_option maxRecDepth 4000
namespace Go.Proofs.YtpmimmaaeaifhaaDoor
open Go.RowKit

end Go.Proofs.YtpmimmaaeaifhaaDoor
/-
  What the reference's one of layer 7 answers: a committed transaction, as a history has it (So.txnOf), or the first error of its reads; what was in memory stays as it was.
  Conditions: at most 32 transactions, a row of ops has at most 2^32 elements; the ops may be, and what was committed may be looked at.
  (This program has not all of these functions: OneMid, OneMid.later, one_start, OneMid.ready, OneMid.addWrite, OneMid.addRead, RetTxn, results_one, end_one, rOne7_at are left out here.)
-/
set_option maxRecDepth 4000
namespace Go.Proofs.YtpmimmaaeaifhaaDoor
open Go.RowKit

section
variable {W wx w3 : World} {s : Int} {ks : List Int} {ys : List (Int × Int)} {kv rv v' : Value}
end
end Go.Proofs.YtpmimmaaeaifhaaDoor
/-
  What the reference's Hist of layer 7 answers: So.histR; what was in memory stays as it was.
  Conditions: a row of ops has at most 2^32 elements.
  (This program has not all of these functions: rresults_hist, rend_hist, rhist_no, RHistMid, RHistMid.later, rhist_start, RHistMid.skip, RHistMid.free, RHistMid.more, rHist7_at are left out here.)
-/
set_option maxRecDepth 4000
namespace Go.Proofs.YtpmimmaaeaifhaaDoor
open Go.RowKit

section
variable {W wx w3 : World} {l : List Gr.Tx} {k : Nat} {V v' kv rv : Value} {p : List (So.Txn × Value × Value)}
end
end Go.Proofs.YtpmimmaaeaifhaaDoor
