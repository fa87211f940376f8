/-
  From a row's list of package-level variables to what the walks ask: the library's table for the lowest bit holds what its text says; and sets and rows of numbers or of sets among the arguments.
  Conditions: none beyond those that each theorem states.
-/
import Derived.Test.YtchllbjbicomcaaDoorRows
import Derived.Test.YtchllbjbicomcaaDoorLow
import Derived.Test.YtchllbjbicomcaaDoorBiMem
import Derived.Lib.LaidTab
import Derived.Lib.SmallJoins
set_option maxRecDepth 4000
namespace Go.Proofs.YtchllbjbicomcaaDoor
open Go.ChangeShapes Go.WideShapes Go.ChangeAt Go.RowKit Go.Joins

theorem tz_named : Tryd.prog.globalNamed "math/bits.deBruijn64tab" = some 0 := by kernel_rfl
theorem tz_type : (Tryd.prog.globals[0]?).map (·.type) = some 42 := by kernel_rfl
theorem u8_cells : Tryd.prog.cellsOf 5 = 1 := by kernel_rfl
theorem tz_cells : Tryd.prog.cellsOf 42 = 64 := by kernel_rfl
theorem tz_data : (Rows.laid_math_bits_deBruijn64tab : DataW Unit) = Lib.tabData .u8 (Lib.deBruijn64tab.map fun (n : Nat) => (n : Int)) := by kernel_rfl

theorem tz_laid {W : World} {rest : List (String × DataW Unit)} (h : laidMet Tryd.prog (("math/bits.deBruijn64tab", Rows.laid_math_bits_deBruijn64tab) :: rest) W) : TZ W := by
  rw [tz_data] at h
  have hv : Lib.TabIs Tryd.prog W "math/bits.deBruijn64tab" .u8 (Lib.deBruijn64tab.map fun (n : Nat) => (n : Int)) := Lib.tabIs_of_head tz_named tz_type Tryd.underlying42 Tryd.underlying5 u8_cells tz_cells h
  intro k hk
  refine (World.var?_cell tz_named hv k).trans ?_
  have hl : Lib.deBruijn64tab.length = 64 := by decide
  simp [List.getD, hl, hk]

section
variable {H : Type} {enc : TypeId × Value → H} {w : World} {base : Nat} {r : Reach} {b0 : Nat}
theorem u64_wf {n : Int} (h : (Lit.int .u64 n).wf = true) : ∃ m : Nat, n = (m : Int) ∧ m < 18446744073709551616 := by
  obtain ⟨h1, h2⟩ : IntKind.u64.min ≤ n ∧ n ≤ IntKind.u64.max := by simpa [Lit.wf] using h
  rw [show IntKind.u64.min = 0 from by decide] at h1
  rw [show IntKind.u64.max = 18446744073709551615 from by decide] at h2
  exact ⟨n.toNat, by omega, by omega⟩
/-- A set among the arguments. -/
theorem arg_u64 {v : Value} {d : DataW H} {ps : List MemPlace} (hval : Value.okWide Tryd.prog w r b0 23 v) (h : DataW.Trod enc Tryd.prog w base (fun _ => true) true 23 v d ps) : ∃ m : Nat, v = .int .u64 (m : Int) ∧ m < 18446744073709551616 := by
  obtain ⟨n, rfl, rfl, rfl, hw⟩ := open_int Tryd.underlying23 hval h
  obtain ⟨m, rfl, hm⟩ := u64_wf hw
  exact ⟨m, rfl, hm⟩
theorem cells_int {fuel : Nat} {cs : List Value} {x : DataW H × List MemPlace} (h : DataW.trod enc Tryd.prog w base (fun _ => true) true fuel 3 cs = some x) : ∃ y : Int, cs = nC y ∧ True := by
  obtain ⟨z, e, _⟩ := DataW.trod_int Tryd.underlying3 h
  exact ⟨z, e, trivial⟩
theorem cells_u64 {fuel : Nat} {cs : List Value} {x : DataW H × List MemPlace} (h : DataW.trod enc Tryd.prog w base (fun _ => true) true fuel 23 cs = some x) : ∃ y : Nat, cs = uC y ∧ y < 18446744073709551616 := by
  obtain ⟨z, e, _, hw⟩ := DataW.trod_int Tryd.underlying23 h
  obtain ⟨m, rfl, hm⟩ := u64_wf hw
  exact ⟨m, e, hm⟩
/-- A row of numbers among the arguments. -/
theorem arg_nums {v : Value} {d : DataW H} {ps : List MemPlace} (hval : Value.okWide Tryd.prog w r b0 22 v) (h : DataW.Trod enc Tryd.prog w base (fun _ => true) true 22 v d ps) : ∃ l : List Int, Ns w v l := by
  obtain ⟨l, h1, _, _⟩ := arg_rows nC_len (by omega) (fun _ => True) (by kernel_rfl) Tryd.underlying22 (fun _ _ _ h => cells_int h) hval h
  exact ⟨l, h1⟩
/-- A row of sets among the arguments. -/
theorem arg_sets {v : Value} {d : DataW H} {ps : List MemPlace} (hval : Value.okWide Tryd.prog w r b0 34 v) (h : DataW.Trod enc Tryd.prog w base (fun _ => true) true 34 v d ps) : ∃ l : List Nat, Us w v l ∧ ∀ x ∈ l, x < 18446744073709551616 := by
  obtain ⟨l, h1, _, h3⟩ := arg_rows uC_len (by omega) (fun y : Nat => y < 18446744073709551616) (by kernel_rfl) Tryd.underlying34 (fun _ _ _ h => cells_u64 h) hval h
  exact ⟨l, h1, h3⟩
end

/-- A world in which the variable holds the table, for the witness. -/
noncomputable def laidBits (os : Os) : World :=
  { World.holding Tryd.prog os ⟨#[], #[], []⟩ with heap := (World.holding Tryd.prog os ⟨#[], #[], []⟩).heap.modify 0 fun o => match o with
      | .cells _ t z => .cells (Lib.deBruijn64tab.map fun (n : Nat) => Value.int .u8 (n : Int)).toArray t z
      | o => o }
end Go.Proofs.YtchllbjbicomcaaDoor
