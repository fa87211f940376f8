/-
  Several texts in one, each with its own first words: InLawA, InRefP, InRefA, InRefB.
  Conditions: as each says.
-/
import Derived.Test.YtahacjfeopjbaaaInAll
import Derived.Test.YtahacjfeopjbaaaEvAll
import Derived.Deep.RegionHeld3
import Derived.Deep.LoopGhost
import Derived.Deep.DeepCutAuto
/-
  What the laws' and the reference's small functions of layer 6 answer: items (a row of items as the reference has it), plain (a face so), Items and Same (of two that are the same they say true); what was in memory stays as it was.
  Conditions: a row has at most 2^32 elements.
  (This program has not all of these functions: rit_info, OwnIts, OwnIts.its, OwnIts.below, OwnIts.less, OwnIts.set, OwnIts.form, RetIts, items_at, RetPlain, plain6_at, rItems_at, rSame6_at are left out here.)
-/
set_option maxRecDepth 4000
namespace Go.Proofs.Ytahacjfeopjbaaa
open Go.RowKit

theorem ItIn.on {w w' : World} {ad : Addr} {k : Nat} {y : Int × Int} (h : ItIn w ad k y) (hlt : ad.block < w.heap.size) (hb : Below w.heap.size w w') : w'.cell? (ad.add (k * 2)) = some (.int .i64 y.1) ∧ w'.cell? ⟨(ad.add (k * 2)).block, (ad.add (k * 2)).off + 1, none⟩ = some (.int .i64 y.2) := by
  have h2 := h.below hlt hb
  exact ⟨h2.c0, h2.c1⟩
theorem set_far {w : World} {a p : Addr} {v : Value} (h : a.block ≠ p.block) : (w.setCell p v).cell? a = w.cell? a := World.cell?_of_block (Below.heap_setCell w p v a.block h)

end Go.Proofs.Ytahacjfeopjbaaa
/-
  Plain facts for the reference's walks of layer 6 (no Go in it): the place of the last op of a kind and a key ahead of a place, and of the first op of a key.
  Conditions: none beyond those that each theorem states.
-/
set_option maxRecDepth 4000
namespace Go.Proofs.Ytahacjfeopjbaaa.In
open Ev (right hasKey)

end Go.Proofs.Ytahacjfeopjbaaa.In
/-
  What the reference's ahead and wrong of layer 6 answer: In.lastAt, In.errAt; what was in memory stays as it was.
  Conditions: a row has at most 2^32 elements.
  (This program has not all of these functions: rAhead_at, rWrong_at are left out here.)
-/
set_option maxRecDepth 4000
namespace Go.Proofs.Ytahacjfeopjbaaa
open Go.RowKit

end Go.Proofs.Ytahacjfeopjbaaa
/-
  What the reference's Look of layer 6 answers: In.lookR; what was in memory stays as it was.
  Conditions: a row has at most 2^32 elements.
  (This program has not all of these functions: rresults_face, rend_face, RefAt6, RefAt6.start, RefAt6.later, rend_bad, RFaceIs, RMid, rLook_at are left out here.)
-/
set_option maxRecDepth 4000
namespace Go.Proofs.Ytahacjfeopjbaaa
open Go.RowKit

end Go.Proofs.Ytahacjfeopjbaaa
