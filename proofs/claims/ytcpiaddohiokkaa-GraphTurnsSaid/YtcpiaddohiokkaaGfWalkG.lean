/-
  What graph's Edges answers.
  Conditions: rows hold sets below 2^64.
-/
import Derived.Test.YtcpiaddohiokkaaGfWalkF
set_option maxRecDepth 4000
namespace Go.Proofs.Ytcpiaddohiokkaa
open Go.RowKit

namespace Gf
/-- Edges as pairs of integers. -/
def eI (l : List (Nat × Nat)) : List (Int × Int) := l.map fun e => ((e.1 : Int), (e.2 : Int))
theorem eI_len (l : List (Nat × Nat)) : (eI l).length = l.length := List.length_map _
theorem eI_at (l : List (Nat × Nat)) (k : Nat) (hk : k < (eI l).length) : (eI l)[k] = (((l[k]'(by rw [← eI_len]; exact hk)).1 : Int), ((l[k]'(by rw [← eI_len]; exact hk)).2 : Int)) := List.getElem_map _
theorem eI_snoc (l : List (Nat × Nat)) (x y : Nat) : eI (l ++ [(x, y)]) = eI l ++ [((x : Int), (y : Int))] := by simp [eI]
/-- The edges of the first x rows, and those of row x to the nodes d. -/
def edgesTo (l : List Nat) (x : Nat) (d : List Nat) : List (Nat × Nat) := ((List.range x).flatMap fun u => (Bi.list (l.getD u 0)).map fun y => (u, y)) ++ d.map fun y => (x, y)
theorem edgesTo_zero (l : List Nat) : edgesTo l 0 [] = [] := rfl
theorem edgesTo_snoc (l : List Nat) (x : Nat) (d : List Nat) (y : Nat) : edgesTo l x (d ++ [y]) = edgesTo l x d ++ [(x, y)] := by simp [edgesTo]
theorem edgesTo_next {l : List Nat} {x : Nat} (hx : x < l.length) : edgesTo l x (Bi.list l[x]) = edgesTo l (x + 1) [] := by
  unfold edgesTo
  rw [List.range_succ, List.flatMap_append, List.map_nil, List.append_nil, List.flatMap_cons, List.flatMap_nil, List.append_nil, List.getD_eq_getElem?_getD, List.getElem?_eq_getElem hx]
  rfl
theorem edgesTo_all (l : List Nat) : edgesTo l l.length [] = edges l := by
  unfold edgesTo edges
  rw [List.map_nil, List.append_nil]
theorem edgesTo_len (l : List Nat) (x : Nat) (d : List Nat) : (edgesTo l x d).length ≤ x * 64 + d.length := by
  unfold edgesTo
  rw [List.length_append, List.length_map]
  refine Nat.add_le_add_right ?_ _
  induction x with
  | zero => simp
  | succ x ih =>
    rw [List.range_succ, List.flatMap_append, List.length_append, List.flatMap_cons, List.flatMap_nil, List.append_nil, List.length_map]
    have := Bi.list_len (l.getD x 0)
    omega
end Gf
theorem ed_info : (Try.prog.info? 46).map (fun i => (i.zero, i.size, i.bytes)) = some (some (.agg #[.int .i64 0, .int .i64 0]), 2, 16) := by kernel_rfl
theorem ed_new (w : World) (y : Int × Int) (e : TypeId) : ∀ j u, (itC y)[j]? = some u → (w.alloc (.cells #[.int .i64 y.1, .int .i64 y.2] e)).cell? ((⟨w.heap.size, 0, none⟩ : Addr).add j) = some u := new_row w (itC y) e
/-- A row of edges of the call's own. -/
def OwnE (w : World) (base : Nat) (v : Value) (l : List (Nat × Nat)) : Prop := w.ownsRow base 46 2 v l.length ((Gf.eI l).flatMap itC)
theorem OwnE.its {w : World} {base : Nat} {v : Value} {l : List (Nat × Nat)} (h : OwnE w base v l) : Its w v (Gf.eI l) := Rows'.own (base := base) (e := 46) (by rw [Gf.eI_len]; exact h)
theorem OwnE.more {w : World} {base : Nat} {v : Value} {l : List (Nat × Nat)} {x y : Nat} (h : w.ownsRow base 46 2 v (l.length + 1) ((Gf.eI l).flatMap itC ++ itC ((x : Int), (y : Int)))) : OwnE w base v (l ++ [(x, y)]) := by
  unfold OwnE
  rw [Gf.eI_snoc, flat_snoc, List.length_append]
  exact h
/-- Edges that a call hands back. -/
def RetE (w : World) (l : List (Nat × Nat)) (e : Ending) (w' : World) : Prop := ∃ v, e = .returned v ∧ OwnE w' w.heap.size v l ∧ Below w.heap.size w w'

set_option maxHeartbeats 1000000 in
theorem gfEdges_no (n : Int) (u : Value) (a : List Nat) (w : World) (hu : Us w u a) (ha : ∀ x ∈ a, x < 18446744073709551616) (hno : Gf.okB n a = false) : Calls Try.prog 15 #[.agg #[.int .i64 n, u]] w fun e w' => e = .returned (.slice none 0 0) ∧ Below w.heap.size w w' := by
  have HU := Lib.hid hu
  have BW := Lib.hid (alloc_below w (.cells #[.int .i64 n, u] 24))
  obtain ⟨A, c, rfl, -⟩ := hu.spelled
  have F1 := Lib.hid (fun w h1 => gfRight_at n (.slice A a.length c) a w h1 ha)
  rw [hno] at F1
  clear ha hu hno
  go_enter Try.func15, Try.ntmps15
  go_wp2_with fail
  generalize w.alloc (.cells #[.int .i64 n, .slice A a.length c] 24) = W at *
  refine (F1.out _ (HU.out.below BW.out)).mono ?_
  rintro e w1 ⟨rfl, hb1⟩
  have B1 := Lib.hid (below_all BW.out hb1)
  clear hb1
  go_wp2_with fail
  go_ret
  exact ⟨rfl, B1.out⟩

set_option maxHeartbeats 2000000 in
theorem gfEdges_at (n : Nat) (u : Value) (a : List Nat) (w : World) (hu : Us w u a) (ha : Gf.Ok n a) : Calls Try.prog 15 #[.agg #[.int .i64 n, u]] w (RetE w (Gf.edges a)) := by
  obtain ⟨i0, hi0, hz0, hz1, hz2⟩ := info_parts ed_info
  have I0 := Lib.hid hi0
  have I1 := Lib.hid hz0
  have I2 := Lib.hid hz1
  have I3 := Lib.hid hz2
  clear hi0 hz0 hz1 hz2
  have HU := Lib.hid hu
  have BW := Lib.hid (alloc_below w (.cells #[.int .i64 n, u] 24))
  have T0 := Lib.hid (Two.new w 24 (.int .i64 n) u)
  obtain ⟨A, c, rfl, hfa⟩ := hu.spelled
  have HFA := Lib.hid hfa
  have F1 := Lib.hid (fun w h1 => gfRight_at n (.slice A a.length c) a w h1 (fun x hx => ha.small hx))
  rw [(Gf.okB_nat n a).2 ha] at F1
  have hla : a.length ≤ 64 := by rw [ha.2.1]; exact ha.1
  have HSA := Lib.hid (fun x (h : x < a.length) => ha.small (List.getElem_mem h))
  have HN : Hid (∀ x (h : x < a.length), Gf.edgesTo a x (Bi.list a[x]) = Gf.edgesTo a (x + 1) []) := fun x h => Gf.edgesTo_next h
  have HZ := Lib.hid (Gf.edgesTo_zero a)
  have HE := Lib.hid (Gf.edgesTo_all a)
  have HSN := Lib.hid (fun x d y => Gf.edgesTo_snoc a x d y)
  have HEL := Lib.hid (fun x d => Gf.edgesTo_len a x d)
  have HLL := Lib.hid (fun s => Bi.list_len s)
  clear hu hfa ha
  go_enter Try.func15, Try.ntmps15
  go_wp2_with fail
  generalize w.alloc (.cells #[.int .i64 n, .slice A a.length c] 24) = W at *
  refine (F1.out _ (HU.out.below BW.out)).mono ?_
  rintro e w1 ⟨rfl, hb1⟩
  have B1 := Lib.hid (below_all BW.out hb1)
  obtain ⟨c0, c1⟩ := (T0.out.later hb1).cells
  clear hb1 T0
  go_wp2_with fail
  clear c0 c1
  go_loopw [3, 14] (fun v i wr => ∃ (x : Nat) (d : List (Nat × Nat)), x ≤ a.length ∧ i = .int .i64 x ∧ Hid (d = Gf.edgesTo a x []) ∧ Hid (OwnE wr w.heap.size v d) ∧ Hid (Below w.heap.size w wr)) (fun _ i _ => a.length - (intOf i).toNat)
  case atStart => exact ⟨0, [], Nat.zero_le _, rfl, HZ.out.symm, World.ownsRow_nil _ _ _ _, B1.out⟩
  case round =>
    obtain ⟨x, d, hx, rfl, HD, HO, HB⟩ := hrel
    obtain ⟨AV, cV, hv⟩ := own_form HO.out
    subst hv
    by_cases hxa : x < a.length
    · obtain ⟨ada, rfl, hba, ha0⟩ := HFA.out x hxa
      have ha1 := (HB.out.cell (by rw [add_block]; exact hba)).trans ha0
      have sa := HSA.out x hxa
      have HN2 := Lib.hid (HN.out x hxa)
      generalize a[x]'hxa = p at *
      clear ha0
      go_wp2_with fail
      refine (biList_at p wr sa).mono ?_
      rintro e w3 ⟨v3, rfl, ho3, hb3⟩
      obtain ⟨AL, cL, rfl⟩ := own_form ho3
      have HB3 := Lib.hid (below_all HB.out hb3)
      have HO3 : Hid (OwnE w3 w.heap.size (.slice AV d.length cV) d) := own_below HO.out hb3
      have HL3 := Lib.hid ho3
      have HSZ := Lib.hid HB.out.size
      have hl64 := HLL.out p
      clear ho3 hb3 HB HO ha1 sa
      generalize Bi.list p = L at *
      rw [← List.take_zero (l := L)] at HD
      generalize hbs : wr.heap.size = base at *
      have HSZ2 := Lib.hid (show w.heap.size ≤ base from HSZ.out)
      go_wp2_with fail
      go_loopw [3, 22] (fun v i wq => ∃ (k : Nat) (d : List (Nat × Nat)), k ≤ L.length ∧ i = .int .i64 k ∧ Hid (d = Gf.edgesTo a x (L.take k)) ∧ Hid (OwnE wq w.heap.size v d) ∧ Hid (wq.ownsRow base 3 1 (.slice AL L.length cL) L.length ((Bi.nums L).flatMap nC)) ∧ Hid (Below w.heap.size w wq)) (fun _ i _ => L.length - (intOf i).toNat)
      case atStart => exact ⟨0, d, Nat.zero_le _, rfl, HD, HO3.out, HL3.out, HB3.out⟩
      case round =>
        clear HD HO3 HB3 HL3
        obtain ⟨k, d, hk, rfl, HD, HO, HL, HB⟩ := hrel
        obtain ⟨AV, cV, hv⟩ := own_form HO.out
        subst hv
        by_cases hkl : k < L.length
        · obtain ⟨AL', cL', hv4, hfl⟩ := (nums_own HL.out).nums
          cases hv4
          obtain ⟨adl, rfl, hbl, hl0⟩ := hfl k hkl
          have hdl : d.length ≤ 4224 := by
            have h1 := HEL.out x (L.take k)
            rw [← HD.out, List.length_take] at h1
            omega
          have HD2 : Hid (d ++ [(x, L[k]'hkl)] = Gf.edgesTo a x (L.take (k + 1))) := by
            rw [Hid, List.take_succ_eq_append_getElem hkl, HSN.out, ← HD.out]
          generalize L[k]'hkl = y at *
          have HW2 := Lib.hid (show (wr.alloc (.cells #[.int .i64 (x : Int), .int .i64 (y : Int)] 46)).ownsRow w.heap.size 46 2 (.slice AV d.length cV) d.length ((Gf.eI d).flatMap itC) from own_below HO.out (alloc_below wr (.cells #[.int .i64 (x : Int), .int .i64 (y : Int)] 46)))
          have HL2 := Lib.hid (own_below HL.out (alloc_below wr (.cells #[.int .i64 (x : Int), .int .i64 (y : Int)] 46)))
          have HB2 := Lib.hid (below_all HB.out (alloc_below wr (.cells #[.int .i64 (x : Int), .int .i64 (y : Int)] 46)))
          have HNW := Lib.hid (ed_new wr ((x : Int), (y : Int)) 46)
          clear hfl
          go_wp2_with (at_builtin; refine wpList_append_own_at _ rfl _ _ 36 rfl w.heap.size 46 i0 _ 2 16 Try.underlying36 I0.out I1.out I2.out I3.out rfl (by decide) _ d.length _ rfl HW2.out ⟨wr.heap.size, 0, none⟩ 1 1 (itC ((x : Int), (y : Int))) rfl rfl HNW.out (one_its _) (by simp only [maxLen]; omega) (by omega) HB2.out.size ?_; intro v2 w3 hown2 hgrow2 hnil2 hat2; have HO2 := Lib.hid (OwnE.more hown2); have HB3 := Lib.hid (below_append HB2.out HB2.out.size HW2.out hgrow2); have HL3 := Lib.hid (HL2.out.kept hgrow2 (own_types HL2.out HW2.out (by decide))); clear hown2 hgrow2 hnil2 hat2)
          go_roundw
          case rel => exact ⟨k + 1, d ++ [(x, y)], by omega, by go_num, HD2, HO2.out, HL3.out, HB3.out⟩
          case measure => simp [intOf]; omega
        · have hkn : k = L.length := by omega
          subst hkn
          have HD5 := HD
          rw [List.take_length, HN2.out] at HD5
          go_wp2_with fail
          go_roundw
          case rel => exact ⟨x + 1, d, by omega, by go_num, HD5, HO.out, HB.out⟩
          case measure => simp [intOf]; omega
    · have hxn : x = a.length := by omega
      subst hxn
      go_wp2_with fail
      go_ret
      exact ⟨_, rfl, by rw [← HE.out, ← HD.out]; exact HO.out, HB.out⟩
end Go.Proofs.Ytcpiaddohiokkaa
