/-
  From a row's list of package-level variables to what the walks ask: the variable that lists the kinds' words holds them; and an event among the arguments.
  Conditions: none beyond those that each theorem states.
  (This program has not all of these functions: kindWords_named, kindWords_type, kw_laid, laidWorld are left out here.)
-/
import Derived.Test.YtkeaibngofbkhaaRows
import Derived.Test.YtkeaibngofbkhaaFrame
import Derived.Test.YtkeaibngofbkhaaEvWalkA
import Derived.Lib.LaidTab
import Derived.Lib.SmallJoins
namespace Go.Proofs.Ytkeaibngofbkhaa
open Go.ChangeShapes Go.WideShapes Go.ChangeAt Go.RowKit Go.Joins

/-- An array of texts at package level, first on the row's list: each of its cells. -/
theorem texts_laid {P : Program} {W : World} {name : String} {xs : List (List UInt8)} {rest : List (String × DataW Unit)} {g : Nat} {t e : TypeId} {n : Nat}
    (hg : P.globalNamed name = some g) (hty : (P.globals[g]?).map (·.type) = some t) (ht : P.underlying t = some (.array n e)) (he : P.underlying e = some .string) (hce : P.cellsOf e = 1)
    (h : laidMet P ((name, .agg (xs.map fun x => .lit (.string x))) :: rest) W) (i : Nat) (hi : i < xs.length) : W.cell? ⟨g, i, none⟩ = some (.string (Ln.bs xs[i])) := by
  obtain ⟨_, ⟨g', t', cs, fuel, p, q, hg', ht', hvar, hd, _⟩, _⟩ := h
  cases hg.symm.trans hg'
  cases hty.symm.trans ht'
  obtain ⟨ys, m, _, hx, _, hn, hat⟩ := DataW.trod_array ht hd
  have hys : ys.map (·.1) = xs.map fun x => (DataW.lit (.string x) : DataW Unit) := by
    have := congrArg Prod.fst hx
    simpa using this.symm
  have hlen : ys.length = xs.length := by simpa using congrArg List.length hys
  have hi' := hat i (by omega)
  rw [hce, Nat.mul_one, List.getElem?_eq_getElem (by omega)] at hi'
  obtain ⟨s, h1, h2, _⟩ := DataW.trod_string he hi'
  have hb : s.data.toList = xs[i] := by
    have h3 := congrArg (·[i]?) hys
    simp only [List.getElem?_map, List.getElem?_eq_getElem hi, List.getElem?_eq_getElem (show i < ys.length by omega), h2, Option.map_some, Option.some.injEq, DataW.lit.injEq, Lit.string.injEq] at h3
    exact h3
  have hc : cs[i]? = some (.string s) := by
    have h4 := congrArg (·[0]?) h1
    simpa [List.getElem?_take, List.getElem?_drop] using h4
  rw [← hb, Ln.bs_of]
  exact (World.var?_cell hg hvar i).trans hc

theorem str_cells : Try.prog.cellsOf 9 = 1 := by kernel_rfl

section
variable {H : Type} {enc : TypeId × Value → H} {w : World} {base : Nat} {r : Reach} {b0 : Nat}
/-- An event among the arguments. -/
theorem arg_ev {v : Value} {d : DataW H} {ps : List MemPlace} (hval : Value.okWide Try.prog w r b0 44 v) (h : DataW.Trod enc Try.prog w base (fun _ => true) true 44 v d ps) : ∃ e : Ev.Event, v = evV e := by
  obtain ⟨v0, v1, v2, v3, y0, y1, y2, y3, n, rfl, _, _, t0, t1, t2, t3⟩ := open_agg4 Try.underlying44 (by kernel_rfl) (by kernel_rfl) hval h
  obtain ⟨z0, e0, _⟩ := DataW.trod_int Try.underlying3 t0
  obtain ⟨z1, e1, _⟩ := DataW.trod_int Try.underlying3 t1
  obtain ⟨z2, e2, _⟩ := DataW.trod_int Try.underlying3 t2
  obtain ⟨z3, e3, _⟩ := DataW.trod_int Try.underlying3 t3
  cases e0
  cases e1
  cases e2
  cases e3
  exact ⟨⟨z0, z1, z2, z3⟩, rfl⟩
end

end Go.Proofs.Ytkeaibngofbkhaa
