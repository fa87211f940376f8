/-
  What reach's search from one node answers: all nodes to which ways lead.
  Conditions: a graph, one of its nodes; the library's table for the lowest bit holds what its text says.
-/
import Derived.Test.YtadgfplaabgkfaaDoorRcSteps
import Derived.Test.YtadgfplaabgkfaaDoorGfAll
import Derived.ScopeJumps
import Derived.WalkMore
set_option maxRecDepth 4000
namespace Go.Proofs.YtadgfplaabgkfaaDoor
open Go.RowKit

/-- A scope whose rounds begin at one label: what is shown of a round serves the first one too. -/
theorem scope_rounds {P : Program} {a : Act} {w : World} {Q : Exit → Act → World → Prop} {c rest : Code} (l : Nat) (J : Act → World → Prop) (μ : Act → World → Nat) (hf : findLabel c l = some (.seq .skip rest))
    (pass : ∀ a w, J a w → rest.wp P (Exit.jump l (fun a' w' => J a' w' ∧ μ a' w' < μ a w) Q) a w)
    (first : (∀ a w, J a w → rest.wp P (Exit.jump l J Q) a w) → c.wp P (Exit.jump l J Q) a w) : (Code.scope c).wp P Q a w :=
  wp_scope_jumps l J μ hf (first fun a w h => wp_mono (pass a w h) fun e a' w' h' => by
    cases e with
    | goto k => exact ⟨h'.1, h'.2.1⟩
    | normal => exact h'
    | exit id => exact h'
    | ret => exact h'
    | panic ch => exact h'
    | outgrown => exact h') fun a w h => wp_seq (wp_skip (pass a w h))
def natOf : Value → Nat | .int _ q => q.toNat | _ => 0

set_option maxHeartbeats 2000000 in
theorem rcReached_at (n : Nat) (u : Value) (l : List Nat) (a : Nat) (w : World) (hT : TZ w) (hu : Us w u l) (hl : Gf.Ok n l) (ha : a < n) : Calls Tryd.prog 27 #[.agg #[.int .i64 n, u], .int .i64 a] w (RetMade w (.int .u64 (Rc.fromR n l a))) := by
  have BW := Lib.hid (alloc_below w (.cells #[.int .i64 n, u] 24))
  have T0 := Lib.hid (Two.new w 24 (.int .i64 n) u)
  have HT := Lib.hid (hT.below BW.out)
  obtain ⟨A, c, rfl, hf⟩ := (hu.below BW.out).spelled
  have HF := Lib.hid hf
  have hal : a < l.length := by rw [hl.2.1]; exact ha
  have HM := Lib.hid (Rc.Mid.start hl hal)
  have HNX := Lib.hid (fun all left x (m : Rc.Mid l a all left) hx hb => @Rc.Mid.next n l a all left x m hl hx hb)
  have HC := Lib.hid (fun all left (m : Rc.Mid l a all left) => m.cases hl)
  have HS := Lib.hid (fun x (h : x < l.length) => hl.small (List.getElem_mem h))
  obtain ⟨r, hr⟩ : ∃ r, r = Rc.fromR n l a := ⟨_, rfl⟩
  rw [← hr] at HC ⊢
  obtain ⟨ad, rfl, hblk, h0⟩ := hf a hal
  clear hT hu hl hf hr
  go_enter Tryd.func27, Tryd.ntmps27
  go_wp2_with fail
  generalize w.alloc (.cells #[.int .i64 n, .slice (some ad) l.length c] 24) = W at *
  obtain ⟨J, hJ⟩ : ∃ J : Act → World → Prop, ∀ a' w', J a' w' ↔ ∃ (all left : Nat) (u7 u8 u9 u10 u11 u12 u13 u14 u15 u16 u17 u18 u19 u20 u21 u22 u23 u24 u25 u26 u27 u28 u29 u30 u31 u32 u33 u34 u35 u36 : Value), a' = { tmps := #[.agg #[.int .i64 n, .slice (some ad) l.length c], .int .i64 a, .pointer (some ⟨w.heap.size, 0, none⟩), undef, .int .u64 0, .int .u64 all, .int .u64 left, u7, u8, u9, u10, u11, u12, u13, u14, u15, u16, u17, u18, u19, u20, u21, u22, u23, u24, u25, u26, u27, u28, u29, u30, u31, u32, u33, u34, u35, u36], defers := [] } ∧ Hid (Rc.Mid l a all left) ∧ Hid (Below W.heap.size W w') := ⟨_, fun _ _ => Iff.rfl⟩
  have HJ := Lib.hid hJ
  clear hJ
  refine scope_rounds 0 J (fun a' _ => Rc.todo (natOf (a'.tmps.getD 5 undef)) (natOf (a'.tmps.getD 6 undef))) rfl ?_ ?_
  · clear HM h0
    intro a' w' hj
    obtain ⟨all, left, u7, u8, u9, u10, u11, u12, u13, u14, u15, u16, u17, u18, u19, u20, u21, u22, u23, u24, u25, u26, u27, u28, u29, u30, u31, u32, u33, u34, u35, u36, rfl, HM, HB⟩ := (HJ.out a' w').1 hj
    clear hj
    obtain ⟨a0, a1⟩ := (T0.out.later HB.out).cells
    have hleft := HM.out.less
    have hall := HM.out.small
    have HT1 := Lib.hid (HT.out.below HB.out)
    go_wp2_with fail
    refine (biLeast_at left w' hleft HT1.out).mono ?_
    rintro e w1 ⟨rfl, rfl⟩
    rcases HC.out all left HM.out with ⟨hlo, rfl⟩ | ⟨x, hlo, hx, hb⟩
    · rw [hlo]
      go_wp2_with fail
      simp only [Exit.jump]
      go_ret
      exact ⟨rfl, below_all BW.out HB.out⟩
    · rw [hlo]
      obtain ⟨adx, e, hbx, hx0⟩ := HF.out x hx
      cases e
      have h1 := (HB.out.cell (by rw [add_block]; exact hbx)).trans hx0
      have hrow := HS.out x hx
      obtain ⟨hm2, hlt2⟩ := HNX.out all left x HM.out hx hb
      have HM2 := Lib.hid hm2
      have HL2 := Lib.hid hlt2
      clear hm2 hlt2 hx0
      generalize l[x]'hx = row at *
      have hnew : Rc.fresh row all < 18446744073709551616 := Rc.fresh_lt hrow
      have hand : bits .andNot .u64 (row : Int) (all : Int) = ((Rc.fresh row all : Nat) : Int) := u64_andNot_nat _ _ hrow hall
      have hwo : Bi.without left (x : Int) < 18446744073709551616 := Nat.lt_of_le_of_lt (Bi.without_le _ _) hleft
      generalize Rc.fresh row all = new at *
      have F2 := Lib.hid (fun w => biWithout_at left (x : Int) w hleft)
      generalize Bi.without left (x : Int) = lo at *
      have L3 := Lib.hid (show Us (w1.alloc (.cells #[.int .u64 (all : Int), .int .u64 (new : Int)] 34)) (.slice (some ⟨w1.heap.size, 0, none⟩) 2 2) [all, new] from lit_rows uC_len w1 34 [all, new] (by simp [maxLen]))
      have F3 := Lib.hid (fun w h => biJoin_at [all, new] (.slice (some ⟨w1.heap.size, 0, none⟩) 2 2) w h (by simp) (by
        intro y hy
        simp only [List.mem_cons, List.not_mem_nil, or_false] at hy
        rcases hy with rfl | rfl
        · exact hall
        · exact hnew))
      have B3 := Lib.hid (below_all HB.out (alloc_below w1 (.cells #[.int .u64 (all : Int), .int .u64 (new : Int)] 34)))
      have F4 := Lib.hid (fun (w : World) => biJoin_at [lo, new] (.slice (some ⟨w.heap.size, 0, none⟩) 2 2) (w.alloc (.cells #[.int .u64 (lo : Int), .int .u64 (new : Int)] 34)) (show Us (w.alloc (.cells #[.int .u64 (lo : Int), .int .u64 (new : Int)] 34)) (.slice (some ⟨w.heap.size, 0, none⟩) 2 2) [lo, new] from lit_rows uC_len w 34 [lo, new] (by simp [maxLen])) (by simp) (by
        intro y hy
        simp only [List.mem_cons, List.not_mem_nil, or_false] at hy
        rcases hy with rfl | rfl
        · exact hwo
        · exact hnew))
      generalize Bi.join [all, new] = all2 at *
      generalize Bi.join [lo, new] = left2 at *
      go_wp2_with fail
      generalize w1.alloc (.cells #[.int .u64 (all : Int), .int .u64 (new : Int)] 34) = w3 at *
      refine (F3.out _ L3.out).mono ?_
      rintro e w4 ⟨rfl, rfl⟩
      go_wp2_with fail
      refine (F2.out _).mono ?_
      rintro e w5 ⟨rfl, rfl⟩
      go_wp2_with fail
      refine (F4.out _).mono ?_
      rintro e w6 ⟨rfl, rfl⟩
      go_wp2_with fail
      go_step3
      go_wp2_with fail
      refine ⟨rfl, (HJ.out _ _).2 ⟨_, _, _, _, _, _, _, _, _, _, _, _, _, _, _, _, _, _, _, _, _, _, _, _, _, _, _, _, _, _, _, _, rfl, HM2.out, below_all B3.out (alloc_below _ _)⟩, HL2.out⟩
  · intro hr0
    have HR := Lib.hid hr0
    clear hr0
    obtain ⟨a0, a1⟩ := T0.out.cells
    go_wp2_with fail
    go_step3
    rename_i hk
    exact hk _ _ (HR.out _ _ ((HJ.out _ _).2 ⟨_, _, _, _, _, _, _, _, _, _, _, _, _, _, _, _, _, _, _, _, _, _, _, _, _, _, _, _, _, _, _, _, rfl, HM.out, Below.refl _ _⟩))
end Go.Proofs.YtadgfplaabgkfaaDoor
