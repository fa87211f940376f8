/-
  What the search's calls that meet a node, and that take a component off, leave in memory.
  Conditions: at most 64 nodes; the stacks have room.
-/
import Derived.Test.YtgapcjgmmlffmaaDoorScMem
import Derived.Test.YtgapcjgmmlffmaaDoorScStk
set_option maxRecDepth 4000
namespace Go.Proofs.YtgapcjgmmlffmaaDoor
open Go.RowKit

set_option maxHeartbeats 4000000 in
theorem scMeet_at (base n : Nat) (W : World) (P : Pl) (ends : Nat → List Nat) (s : Sc.Wk) (Q : List (Nat × Nat)) (y : Nat) (h : Wlk base W P n ends s Q) (hn : n ≤ 64) (hy : y < n) (hm : s.met < n) (hL : s.loose.length < n) (hQ : Q.length < n) :
    Calls Tryd.prog 39 #[.pointer (some ⟨P.b, 0, none⟩), .int .i64 (y : Nat)] W fun e W' => e = .returned (.tuple #[]) ∧ ∃ P', Wlk base W' P' n ends (s.meet y) (Q ++ [(y, 0)]) ∧ Went P P' W W' := by
  have HL1 : Hid ((Bi.nums s.loose).length ≤ 4294967296 ∧ ((Bi.nums s.loose).length : Int) < (n : Nat)) := by rw [Hid, Bi.nums_len]; omega
  have HQ1 : Hid ((Gf.eI Q).length ≤ 4294967296 ∧ ((Gf.eI Q).length : Int) < (n : Nat)) := by rw [Hid, Gf.eI_len]; omega
  have H := Lib.hid h
  obtain ⟨c0, c1, c2, c3, c4, c5, c6⟩ := h.cells
  have f5 := h.frozen 5
  obtain ⟨m1, hm1⟩ : ∃ m1, m1 = s.met + 1 := ⟨_, rfl⟩
  have hw : IntKind.i64.wrap ((s.met : Nat) + 1) = (m1 : Int) := by rw [IntWalk.i64_in _ (by omega)]; omega
  have hs : ((s.met : Nat) : Int) + 1 = (m1 : Int) := by omega
  have HM := Lib.hid hm1
  clear hm1
  clear h c0 c1 c2 c3 c4 c6
  go_enter Tryd.func39, Tryd.ntmps39
  go_wp2_with fail
  obtain ⟨h1, g1⟩ := H.out.setMet m1
  have H1 := Lib.hid h1
  have G1 := Lib.hid g1
  clear H h1 g1 c5 f5 hw hs
  generalize W.setCell ⟨P.b, 5, none⟩ (.int .i64 (m1 : Nat)) = W1 at *
  obtain ⟨h2, g2⟩ := H1.out.setRank y m1
  have H2 := Lib.hid h2
  have G2 := Lib.hid g2
  obtain ⟨h3, g3⟩ := h2.setLow y m1
  have H3 := Lib.hid h3
  have G3 := Lib.hid g3
  obtain ⟨-, c1, c2, -, -, c5, -⟩ := H1.out.cells
  obtain ⟨-, d1, d2, -, -, d5, -⟩ := h2.cells
  have k1 := H1.out.rank.cell hy
  have k2 := H1.out.low.cell hy
  have l2 := h2.low.cell hy
  have f1 := H1.out.rank.frozen y
  have f2 := H1.out.low.frozen y
  have f3 := h2.low.frozen y
  clear h2 g2 h3 g3
  dsimp only at c5 d5
  go_region_law fail
  all_goals
    have H4 := Lib.hid (H3.out.later (Below.refl _ _).drew)
    have G4 := Lib.hid ((((G1.out.trans G2.out).trans G3.out)).trans (Went.of_below P (Below.refl _ _).drew))
    clear H1 G1 H2 G2 H3 G3 c1 c2 c5 d1 d2 d5 k1 k2 l2 f1 f2 f3
    generalize ((W1.setCell ⟨P.rk, y, none⟩ (.int .i64 (m1 : Nat))).setCell ⟨P.lw, y, none⟩ (.int .i64 (m1 : Nat))).drew = W4 at *
    obtain ⟨-, -, -, -, c4, -, -⟩ := H4.out.cells
    go_wp2_with fail
    refine (stPush_yes (y : Int) W4 H4.out.loose HL1.out.1 HL1.out.2).mono ?_
    rintro e W5 ⟨rfl, r5, hs5, hm5, ht5⟩
    rw [← Bi.nums_snoc] at hs5
    obtain ⟨h5, g5⟩ := H4.out.setLoose hs5 hm5 ht5
    have H5 := Lib.hid h5
    have G5 := Lib.hid (G4.out.trans g5)
    obtain ⟨-, -, -, c3, -, -, -⟩ := h5.cells
    dsimp only at c3
    clear h5 g5 hs5 hm5 ht5 c4 H4 G4
    go_wp2_with fail
    refine (stpPush_yes (y : Int) 0 W5 H5.out.wait HQ1.out.1 HQ1.out.2).mono ?_
    rintro e W6 ⟨rfl, r6, hs6, hm6, ht6⟩
    have hs7 : Stk 91 67 2 itC P.B1 (n : Nat) r6 (Gf.eI (Q ++ [(y, 0)])) W6 := by rw [Gf.eI_snoc]; exact hs6
    obtain ⟨h6, g6⟩ := H5.out.setWait hs7 hm6 ht6
    have H6 := Lib.hid h6
    have G6 := Lib.hid (G5.out.trans g6)
    clear h6 g6 hs6 hs7 hm6 ht6 c3 H5 G5
    go_wp2_with fail
    obtain rfl := HM.out
    go_end0
    exact ⟨rfl, _, H6.out, G6.out⟩
end Go.Proofs.YtgapcjgmmlffmaaDoor
