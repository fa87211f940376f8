/-
  Several texts in one, each with its own first words: GfRefA, GfRefB, GfRefC, GfRefD, GfRefE.
  Conditions: as each says.
-/
import Derived.Test.YtpmimmaaeaifhaaDoorGfAll
import Derived.Test.YtpmimmaaeaifhaaDoorBiAll
/-
  What the reference's functions of layer 12 answer that change no graph: Has, Node, New, Right, Same; and Plain of the laws.
  Conditions: rows hold sets below 2^64.
  (This program has not all of these functions: end_r, end_rd, rHas12_at, rNode12_at, gfPlain_at, rNew12_at, rSame12_at, rRight12_at are left out here.)
-/
set_option maxRecDepth 4000
namespace Go.Proofs.YtpmimmaaeaifhaaDoor
open Go.RowKit

end Go.Proofs.YtpmimmaaeaifhaaDoor
/-
  What the reference's Set of layer 12 answers.
  Conditions: rows hold sets below 2^64.
  (This program has not all of these functions: rSet12_at is left out here.)
-/
set_option maxRecDepth 4000
namespace Go.Proofs.YtpmimmaaeaifhaaDoor
open Go.RowKit

/-- A row of the call's own with an element lies at a block's head. -/
theorem own_head {w : World} {base : Nat} {v : Value} {l : List Nat} (h : OwnU w base v l) (hl : 0 < l.length) : ∃ g c, v = .slice (some ⟨g, 0, none⟩) l.length c := by
  rcases h.2 with ⟨_, h0⟩ | ⟨g, cap, _, hv, _⟩
  · omega
  · exact ⟨g, cap, hv⟩

end Go.Proofs.YtpmimmaaeaifhaaDoor
/-
  What the reference's Union and Turn of layer 12 answer; words for a call of the reference's that makes a graph and fills it.
  Conditions: rows hold sets below 2^64.
  (This program has not all of these functions: Mk, Mk.later, Mk.own, Mk.below, Mk.put, gr_two, gr_one, Mk.start, rTurn12_at are left out here.)
-/
set_option maxRecDepth 4000
namespace Go.Proofs.YtpmimmaaeaifhaaDoor
open Go.RowKit

section
variable {W0 W W' : World} {b o n c : Nat} {A : Option Addr} {r : List Nat}
end
end Go.Proofs.YtpmimmaaeaifhaaDoor
/-
  What the reference's Union of layer 12 answers.
  Conditions: rows hold sets below 2^64.
  (This program has not all of these functions: rUnion12_at is left out here.)
-/
set_option maxRecDepth 4000
namespace Go.Proofs.YtpmimmaaeaifhaaDoor
open Go.RowKit

end Go.Proofs.YtpmimmaaeaifhaaDoor
/-
  What the reference's Compose of layer 12 answers.
  Conditions: rows hold sets below 2^64.
  (This program has not all of these functions: rCompose12_at is left out here.)
-/
set_option maxRecDepth 4000
namespace Go.Proofs.YtpmimmaaeaifhaaDoor
open Go.RowKit

end Go.Proofs.YtpmimmaaeaifhaaDoor
