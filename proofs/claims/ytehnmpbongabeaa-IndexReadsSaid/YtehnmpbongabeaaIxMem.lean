/-
  Words for rows of choices in memory (a key and two numbers), and for rows of numbers that a history's transactions have: how they last, and element by element.
  Conditions: none beyond those that each theorem states.
-/
import Derived.Test.YtehnmpbongabeaaSoAll
import Derived.Test.YtehnmpbongabeaaIxPlain
set_option maxRecDepth 4000
namespace Go.Proofs.Ytehnmpbongabeaa
open Go.RowKit

/-- A row of natural numbers, as a row of integers. -/
def ints (l : List Nat) : List Int := l.map fun (n : Nat) => (n : Int)
theorem ints_len (l : List Nat) : (ints l).length = l.length := List.length_map _
theorem ints_at (l : List Nat) (k : Nat) (hk : k < l.length) : (ints l)[k]'(by rw [ints_len]; exact hk) = (l[k] : Int) := List.getElem_map _
theorem ints_snoc (l : List Nat) (n : Nat) : ints (l ++ [n]) = ints l ++ [(n : Int)] := by simp [ints]

def chC (x : Nat × Nat × Nat) : List Value := [.int .i64 (x.1 : Int), .int .i64 (x.2.1 : Int), .int .i64 (x.2.2 : Int)]
theorem chC_len (x : Nat × Nat × Nat) : (chC x).length = 3 := rfl
theorem one_chC (x : Nat × Nat × Nat) : ∀ u ∈ chC x, u.oneCell' = true := by
  intro u hu
  simp only [chC, List.mem_cons, List.not_mem_nil, or_false] at hu
  rcases hu with rfl | rfl | rfl
  all_goals rfl
/-- The slice value v reads as the choices l. -/
def Chs (w : World) (v : Value) (l : List (Nat × Nat × Nat)) : Prop := Rows' 3 chC w v l
theorem Chs.below {w w' : World} {v : Value} {l : List (Nat × Nat × Nat)} (h : Chs w v l) (hb : Below w.heap.size w w') : Chs w' v l := Rows'.below h hb
theorem Chs.nil (w : World) (A : Option Addr) : Chs w (.slice A 0 0) [] := Rows'.nil w A
theorem Chs.none_ {w : World} {v : Value} {l : List (Nat × Nat × Nat)} (h : Chs w v l) (hl : l = []) : ∃ A c, v = .slice A 0 c := Rows'.none_ h hl
/-- Element k, as the walk spells its cells' places. -/
structure ChIn (w : World) (ad : Addr) (k : Nat) (x : Nat × Nat × Nat) : Prop where
  c0 : w.cell? (ad.add (k * 3)) = some (.int .i64 (x.1 : Int))
  c1 : w.cell? ⟨(ad.add (k * 3)).block, (ad.add (k * 3)).off + 1, none⟩ = some (.int .i64 (x.2.1 : Int))
  c2 : w.cell? ⟨(ad.add (k * 3)).block, (ad.add (k * 3)).off + 2, none⟩ = some (.int .i64 (x.2.2 : Int))
theorem ChIn.below {w w' : World} {ad : Addr} {k : Nat} {x : Nat × Nat × Nat} (h : ChIn w ad k x) (hlt : ad.block < w.heap.size) (hb : Below w.heap.size w w') : ChIn w' ad k x := by
  have e : ad.block = (ad.add (k * 3)).block := (add_block ad _).symm
  refine ⟨(hb.cell ?_).trans h.c0, (hb.cell ?_).trans h.c1, (hb.cell ?_).trans h.c2⟩
  all_goals exact e ▸ hlt
theorem Chs.spelled {w : World} {v : Value} {l : List (Nat × Nat × Nat)} (h : Chs w v l) : ∃ A c, v = .slice A l.length c ∧ ∀ (k : Nat) (hk : k < l.length), ∃ ad : Addr, A = some ad ∧ ad.block < w.heap.size ∧ ChIn w ad k l[k] := by
  obtain ⟨A, c, hv, hh⟩ := Rows'.form chC_len h
  refine ⟨A, c, hv, fun k hk => ?_⟩
  obtain ⟨ad, e, hb, hc⟩ := hh k hk
  refine ⟨ad, e, hb, hc 0 _ rfl, ?_, ?_⟩
  · rw [add_more ad _ 1 (by omega)]; exact hc 1 _ rfl
  · rw [add_more ad _ 2 (by omega)]; exact hc 2 _ rfl
/-- A cell, behind whatever leaves what was there. -/
theorem cell_stays {W W' : World} (hb : Below W.heap.size W W') {p : Addr} {v : Value} (h : W.cell? p = some v) : W'.cell? p = some v := (hb.cell (World.block_lt_of_cell? W p h)).trans h
/-- Rows that calls hand back lie in memory of their own; what was there stays. -/
def RetNums (w : World) (l : List Nat) (e : Ending) (w' : World) : Prop := ∃ v, e = .returned v ∧ Ns w' v (ints l) ∧ Below w.heap.size w w'
def RetChs (w : World) (l : List (Nat × Nat × Nat)) (e : Ending) (w' : World) : Prop := ∃ v, e = .returned v ∧ Chs w' v l ∧ Below w.heap.size w w'
end Go.Proofs.Ytehnmpbongabeaa
