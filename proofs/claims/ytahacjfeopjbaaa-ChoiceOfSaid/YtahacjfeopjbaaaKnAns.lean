/-
  What the functions of layer 17 answer, of any history; the live example's four graphs.
  Conditions: none beyond those that each theorem states.
-/
import Derived.Test.YtahacjfeopjbaaaKnPlain
set_option maxRecDepth 4000
namespace Go.Proofs.Ytahacjfeopjbaaa
namespace Kn
open Gf So

noncomputable def nA (h : List Txn) : Int := if Hi.rightB h = true then (h.length : Int) else 0
noncomputable def soA (h : List Txn) : List Nat := if Hi.rightB h = true then soR h else []
noncomputable def wrA (h : List Txn) : List Nat := if Hi.rightB h = true then wrR h else []
noncomputable def initA (h : List Txn) : List Nat := if Hi.rightB h = true then initR h else []
noncomputable def pastA (h : List Txn) : List Nat := if Hi.rightB h = true then pastR h else []
theorem all_yes {h : List Txn} (hb : Hi.rightB h = true) : nA h = h.length ∧ soA h = soR h ∧ wrA h = wrR h ∧ initA h = initR h ∧ pastA h = pastR h := by simp [nA, soA, wrA, initA, pastA, hb]
theorem all_no {h : List Txn} (hb : Hi.rightB h = false) : nA h = 0 ∧ soA h = [] ∧ wrA h = [] ∧ initA h = [] ∧ pastA h = [] := by simp [nA, soA, wrA, initA, pastA, hb]
theorem so_len (h : List Txn) : (soR h).length = h.length := Gf.build_len _ _
theorem wr_len (h : List Txn) : (wrR h).length = h.length := Gf.build_len _ _
theorem init_len (h : List Txn) : (initR h).length = h.length := Gf.build_len _ _
theorem past_len (h : List Txn) : (pastR h).length = h.length := Gf.build_len _ _

/-- The live example: 1 reads from 0, and what was there ahead of 2. -/
def knW : List Txn := [⟨0, [1], []⟩, ⟨1, [], [(1, 0), (2, -1)]⟩, ⟨0, [2], []⟩]
theorem knW_right : Hi.Right knW := by
  have r1 : So.Rises [(1 : Int)] := ⟨by simp, by simp⟩
  have r2 : So.Rises [(2 : Int)] := ⟨by simp, by simp⟩
  have r3 : So.Rises [(1 : Int), 2] := ⟨by simp, by simp⟩
  have r0 : So.Rises [] := ⟨by simp, by simp⟩
  refine ⟨by decide, fun k hk => ?_⟩
  obtain rfl | rfl | rfl : k = 0 ∨ k = 1 ∨ k = 2 := by
    have : k < 3 := hk
    omega
  · exact ⟨by simp [knW], r1, r0, by simp [knW]⟩
  · refine ⟨by simp [knW], r0, r3, fun y hy => ?_⟩
    rcases List.mem_cons.1 (show y ∈ [((1 : Int), (0 : Int)), (2, -1)] from hy) with rfl | q
    · exact .inr ⟨0, by decide, rfl, by decide, by simp [knW]⟩
    · rw [List.mem_singleton.1 q]; exact .inl rfl
  · exact ⟨by simp [knW], r2, r0, by simp [knW]⟩
theorem knW_b : Hi.rightB knW = true := Hi.rightB_yes knW_right
theorem knW_n : nA knW = 3 := (all_yes knW_b).1
theorem knW_so : soA knW = [4, 0, 0] := by rw [(all_yes knW_b).2.1]; decide
theorem knW_wr : wrA knW = [2, 0, 0] := by rw [(all_yes knW_b).2.2.1]; decide
theorem knW_init : initA knW = [0, 4, 0] := by rw [(all_yes knW_b).2.2.2.1]; decide
theorem knW_past : pastA knW = [6, 0, 0] := by rw [(all_yes knW_b).2.2.2.2]; decide
theorem kn_has1 : hasR 3 [4, 0, 0] 0 2 = true := by decide
theorem kn_has2 : hasR 3 [2, 0, 0] 0 1 = true := by decide
theorem kn_has3 : hasR 3 [0, 4, 0] 1 2 = true := by decide
theorem kn_ok3 : Ok 3 [0, 4, 0] := ⟨by decide, rfl, by decide⟩
theorem kn_ok4 : Ok 3 [6, 0, 0] := ⟨by decide, rfl, by decide⟩
theorem kn_ed3 : edges [0, 4, 0] = [(1, 2)] := by decide
theorem kn_ed4 : edges [6, 0, 0] = [(0, 1), (0, 2)] := by decide
end Kn
theorem knW_small : Ix.Small Kn.knW := by
  refine ⟨by simp [Kn.knW], fun t ht => ?_⟩
  simp only [Kn.knW, List.mem_cons, List.not_mem_nil, or_false] at ht
  rcases ht with rfl | rfl | rfl <;> simp
end Go.Proofs.Ytahacjfeopjbaaa
