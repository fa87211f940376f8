/-
  What the begin of a search through a graph answers.
  Conditions: a graph.
-/
import Derived.Test.YtgapcjgmmlffmaaDoorScMade
import Derived.Test.YtgapcjgmmlffmaaDoorAnyOrd
set_option maxRecDepth 4000
namespace Go.Proofs.YtgapcjgmmlffmaaDoor
open Go.RowKit

theorem stpNew_new (most : Int) (w : World) : Calls Tryd.prog 36 #[.int .i64 most] w fun e w' => ∃ B, e = .returned (.pointer (some ⟨B, 0, none⟩)) ∧ Stk 91 67 2 itC B most none [] w' ∧ B = w.heap.size ∧ Below w.heap.size w w' :=
  (stpNew_at most w).mono fun _ _ ⟨h1, h2, h3⟩ => ⟨_, h1, h2, rfl, h3⟩
theorem stInts_new (most : Int) (w : World) : Calls Tryd.prog 37 #[.int .i64 most] w fun e w' => ∃ B, e = .returned (.pointer (some ⟨B, 0, none⟩)) ∧ Stk 106 3 1 nC B most none [] w' ∧ B = w.heap.size ∧ Below w.heap.size w w' :=
  (stInts_at most w).mono fun _ _ ⟨h1, h2, h3⟩ => ⟨_, h1, h2, rfl, h3⟩
theorem World.drew_size' (w : World) : w.drew.heap.size = w.heap.size := rfl

/-! What five fresh parts of a search are, whichever of them have been made. -/
def BegFact (n k : Nat) (W : World) (v : Value) (g : Nat) : Prop :=
  match k with
  | 0 => v = .slice (some ⟨g, 0, none⟩) n n ∧ EmptyRows W g n
  | 1 => v = .slice (some ⟨g, 0, none⟩) n n ∧ FunRow W g n fun _ => 0
  | 2 => v = .slice (some ⟨g, 0, none⟩) n n ∧ FunRow W g n fun _ => 0
  | 3 => v = .pointer (some ⟨g, 0, none⟩) ∧ Stk 91 67 2 itC g (n : Nat) none [] W
  | _ => v = .pointer (some ⟨g, 0, none⟩) ∧ Stk 106 3 1 nC g (n : Nat) none [] W
theorem BegFact.later {n k g : Nat} {W W' : World} {v : Value} (h : BegFact n k W v g) (hb : Below W.heap.size W W') : BegFact n k W' v g := by
  unfold BegFact at *
  split at h
  · exact ⟨h.1, h.2.later hb⟩
  · exact ⟨h.1, h.2.later hb⟩
  · exact ⟨h.1, h.2.later hb⟩
  · exact ⟨h.1, h.2.later hb⟩
  · exact ⟨h.1, h.2.later hb⟩
def put1 {α : Type} (f : Nat → α) (k : Nat) (x : α) (j : Nat) : α := if j = k then x else f j
structure Beg (n : Nat) (w1 W : World) (on : Nat → Bool) (val : Nat → Value) (blk : Nat → Nat) : Prop where
  low : Below w1.heap.size w1 W
  inn : ∀ k, on k = true → w1.heap.size ≤ blk k ∧ blk k < W.heap.size
  ne : ∀ j k, on j = true → on k = true → j ≠ k → blk j ≠ blk k
  fact : ∀ k, on k = true → BegFact n k W (val k) (blk k)
theorem Beg.step {n k g : Nat} {w1 W W' : World} {on : Nat → Bool} {val : Nat → Value} {blk : Nat → Nat} {v : Value} (h : Beg n w1 W on val blk) (hb : Below W.heap.size W W') (hg : g = W.heap.size) (hlt : g < W'.heap.size) (hf : BegFact n k W' v g) :
    Beg n w1 W' (put1 on k true) (put1 val k v) (put1 blk k g) := by
  subst hg
  refine ⟨below_all h.low hb, fun j hj => ?_, fun i j hi hj hij => ?_, fun j hj => ?_⟩
  · unfold put1 at hj ⊢
    split
    · exact ⟨h.low.size, hlt⟩
    · rename_i q
      rw [if_neg q] at hj
      exact ⟨(h.inn j hj).1, Nat.lt_of_lt_of_le (h.inn j hj).2 hb.size⟩
  · unfold put1 at hi hj ⊢
    split
    · rename_i q
      split
      · rename_i q2
        exact absurd (q.trans q2.symm) hij
      · rename_i q2
        rw [if_neg q2] at hj
        exact Nat.ne_of_gt (h.inn j hj).2
    · rename_i q
      rw [if_neg q] at hi
      split
      · exact Nat.ne_of_lt (h.inn i hi).2
      · rename_i q2
        rw [if_neg q2] at hj
        exact h.ne i j hi hj hij
  · unfold put1 at hj ⊢
    split
    · rename_i q
      subst q
      simp only [if_true] at hj ⊢
      exact hf
    · rename_i q
      rw [if_neg q] at hj
      exact (h.fact j hj).later hb
theorem Beg.later {n : Nat} {w1 W W' : World} {on : Nat → Bool} {val : Nat → Value} {blk : Nat → Nat} (h : Beg n w1 W on val blk) (hb : Below W.heap.size W W') : Beg n w1 W' on val blk :=
  ⟨below_all h.low hb, fun j hj => ⟨(h.inn j hj).1, Nat.lt_of_lt_of_le (h.inn j hj).2 hb.size⟩, h.ne, fun j hj => (h.fact j hj).later hb⟩
theorem Beg.draw {n : Nat} {w1 : World} {val : Nat → Value} {blk : Nat → Nat} : Beg n w1 w1.drew (fun _ => false) val blk :=
  ⟨(Below.refl w1.heap.size w1).drew, (fun _ h => by cases h), (fun _ _ h => by cases h), (fun _ h => by cases h)⟩
/-- What is known of what stands behind the five. -/
structure Beg2 (base n : Nat) (W : World) (on : Nat → Bool) (val : Nat → Value) (b21 b22 b3 : Bool) (v21 v22 v3 : Value) : Prop where
  all : b21 = true → on 0 = true ∧ on 1 = true ∧ on 2 = true ∧ on 3 = true ∧ on 4 = true
  agg : b21 = true → v21 = .agg #[val 0, val 1, val 2, val 3, val 4, .int .i64 0, .slice none 0 0]
  box : b22 = true → b21 = true ∧ ∃ P, v22 = .pointer (some ⟨P.b, 0, none⟩) ∧ Wlk base W P n (fun _ => []) Sc.Wk.start []
  put : b3 = true → b22 = true ∧ v3 = v22

theorem Beg2.stay {base n : Nat} {W W' : World} {on on' : Nat → Bool} {val val' : Nat → Value} {b21 b22 b3 : Bool} {v21 v22 v3 : Value} (h : Beg2 base n W on val b21 b22 b3 v21 v22 v3) (h0 : b21 = false) : Beg2 base n W' on' val' b21 b22 b3 v21 v22 v3 := by
  have h1 : b22 = false := by
    cases e : b22 with
    | false => rfl
    | true => exact absurd (h.box e).1 (by rw [h0]; simp)
  have h2 : b3 = false := by
    cases e : b3 with
    | false => rfl
    | true => exact absurd (h.put e).1 (by rw [h1]; simp)
  exact ⟨(fun q => absurd (h0.symm.trans q) (by simp)), (fun q => absurd (h0.symm.trans q) (by simp)), (fun q => absurd (h1.symm.trans q) (by simp)), (fun q => absurd (h2.symm.trans q) (by simp))⟩
theorem Beg2.not {base n k : Nat} {W : World} {on : Nat → Bool} {val : Nat → Value} {b21 b22 b3 : Bool} {v21 v22 v3 : Value} (h : Beg2 base n W on val b21 b22 b3 v21 v22 v3) (hk : on k = false) (hk5 : k < 5) : b21 = false := by
  cases e : b21 with
  | false => rfl
  | true =>
    obtain ⟨h0, h1, h2, h3, h4⟩ := h.all e
    have : on k = true := by
      match k, hk5 with
      | 0, _ => exact h0
      | 1, _ => exact h1
      | 2, _ => exact h2
      | 3, _ => exact h3
      | 4, _ => exact h4
    exact absurd (hk.symm.trans this) (by simp)

set_option maxHeartbeats 4000000 in
theorem scBegin_at (n : Nat) (u : Value) (l : List Nat) (w : World) (hu : Us w u l) (hl : Gf.Ok n l) :
    Calls Tryd.prog 28 #[.agg #[.int .i64 n, u]] w fun e w' => ∃ P, e = .returned (.pointer (some ⟨P.b, 0, none⟩)) ∧ Wlk w.heap.size w' P n (Sc.endsOf l) Sc.Wk.start [] ∧ Below w.heap.size w w' := by
  have BW := Lib.hid (alloc_below w (.cells #[.int .i64 n, u] 24))
  have T0 := Lib.hid (Two.new w 24 (.int .i64 n) u)
  obtain ⟨A, c, rfl, -⟩ := hu.spelled
  have HU := Lib.hid (hu.below BW.out)
  have HL := Lib.hid hl
  clear hu hl
  obtain ⟨c0, c1⟩ := T0.out.cells
  go_enter Tryd.func28, Tryd.ntmps28
  go_wp2_with fail
  have hn64 : n ≤ 64 := HL.out.1
  have hmi := fun w => sc_makeI w n hn64
  have hmr := fun w => sc_makeR w n hn64
  generalize hW1 : w.alloc (.cells #[.int .i64 (n : Nat), .slice A l.length c] 24) = w1 at *
  have HWZ : Hid (w.heap.size ≤ w1.heap.size) := BW.out.size
  clear hW1
  go_cut [3] from 6 to 22 (fun p wx => ∃ P, p = .pointer (some ⟨P.b, 0, none⟩) ∧ Wlk w.heap.size wx P n (fun _ => []) Sc.Wk.start [] ∧ Below w1.heap.size w1 wx)
  case first =>
    refine wp_region_held_drew (S := fun W' => W'.cell? ⟨w.heap.size, 0, none⟩ = some (.int .i64 (n : Nat)) ∧ Hid (Below w1.heap.size w1 W')) (by kernel_rfl) ⟨c0, (Below.refl w1.heap.size w1).drew⟩ (fun hHeld => ?_)
    refine wpAnyH_take (i := 0) (oi := ⟨some 6, .fieldAddr 24 (.tmp 1) 0, 0, "scc.go:69", #[], none⟩) (v := ?_) rfl (by kernel_rfl) (by kernel_rfl) (by kernel_rfl) (fun _ _ _ h => h) (Or.inl ⟨by rfl, ?_⟩) (by assumption) ?_
    rotate_left
    · intro w hSw; (try dsimp only at hSw); go_simp
      try (with_reducible rfl)
    try simp only [Act.put, List.setIfInBounds_toArray, List.set_cons_zero, List.set_cons_succ]
    refine wpAnyH_take (i := 1) (oi := ⟨some 7, .load 3 (.tmp 6), 3, "scc.go:69", #[⟨0, .data⟩], none⟩) (v := ?_) rfl (by kernel_rfl) (by kernel_rfl) (by kernel_rfl) (fun _ _ _ h => h) (Or.inl ⟨by rfl, ?_⟩) (by assumption) ?_
    rotate_left
    · intro w hSw; (try dsimp only at hSw); go_simp
      try (with_reducible rfl)
    try simp only [Act.put, List.setIfInBounds_toArray, List.set_cons_zero, List.set_cons_succ]
    refine wpAnyH_take (i := 3) (oi := ⟨some 9, .fieldAddr 24 (.tmp 1) 0, 0, "scc.go:69", #[], none⟩) (v := ?_) rfl (by kernel_rfl) (by kernel_rfl) (by kernel_rfl) (fun _ _ _ h => h) (Or.inl ⟨by rfl, ?_⟩) (by assumption) ?_
    rotate_left
    · intro w hSw; (try dsimp only at hSw); go_simp
      try (with_reducible rfl)
    try simp only [Act.put, List.setIfInBounds_toArray, List.set_cons_zero, List.set_cons_succ]
    refine wpAnyH_take (i := 4) (oi := ⟨some 10, .load 3 (.tmp 9), 3, "scc.go:69", #[⟨3, .data⟩], none⟩) (v := ?_) rfl (by kernel_rfl) (by kernel_rfl) (by kernel_rfl) (fun _ _ _ h => h) (Or.inl ⟨by rfl, ?_⟩) (by assumption) ?_
    rotate_left
    · intro w hSw; (try dsimp only at hSw); go_simp
      try (with_reducible rfl)
    try simp only [Act.put, List.setIfInBounds_toArray, List.set_cons_zero, List.set_cons_succ]
    refine wpAnyH_take (i := 6) (oi := ⟨some 12, .fieldAddr 24 (.tmp 1) 0, 0, "scc.go:69", #[], none⟩) (v := ?_) rfl (by kernel_rfl) (by kernel_rfl) (by kernel_rfl) (fun _ _ _ h => h) (Or.inl ⟨by rfl, ?_⟩) (by assumption) ?_
    rotate_left
    · intro w hSw; (try dsimp only at hSw); go_simp
      try (with_reducible rfl)
    try simp only [Act.put, List.setIfInBounds_toArray, List.set_cons_zero, List.set_cons_succ]
    refine wpAnyH_take (i := 7) (oi := ⟨some 13, .load 3 (.tmp 12), 3, "scc.go:69", #[⟨6, .data⟩], none⟩) (v := ?_) rfl (by kernel_rfl) (by kernel_rfl) (by kernel_rfl) (fun _ _ _ h => h) (Or.inl ⟨by rfl, ?_⟩) (by assumption) ?_
    rotate_left
    · intro w hSw; (try dsimp only at hSw); go_simp
      try (with_reducible rfl)
    try simp only [Act.put, List.setIfInBounds_toArray, List.set_cons_zero, List.set_cons_succ]
    refine wpAnyH_take (i := 9) (oi := ⟨some 15, .fieldAddr 24 (.tmp 1) 0, 0, "scc.go:69", #[], none⟩) (v := ?_) rfl (by kernel_rfl) (by kernel_rfl) (by kernel_rfl) (fun _ _ _ h => h) (Or.inl ⟨by rfl, ?_⟩) (by assumption) ?_
    rotate_left
    · intro w hSw; (try dsimp only at hSw); go_simp
      try (with_reducible rfl)
    try simp only [Act.put, List.setIfInBounds_toArray, List.set_cons_zero, List.set_cons_succ]
    refine wpAnyH_take (i := 10) (oi := ⟨some 16, .load 3 (.tmp 15), 3, "scc.go:69", #[⟨9, .data⟩], none⟩) (v := ?_) rfl (by kernel_rfl) (by kernel_rfl) (by kernel_rfl) (fun _ _ _ h => h) (Or.inl ⟨by rfl, ?_⟩) (by assumption) ?_
    rotate_left
    · intro w hSw; (try dsimp only at hSw); go_simp
      try (with_reducible rfl)
    try simp only [Act.put, List.setIfInBounds_toArray, List.set_cons_zero, List.set_cons_succ]
    refine wpAnyH_take (i := 12) (oi := ⟨some 18, .fieldAddr 24 (.tmp 1) 0, 0, "scc.go:69", #[], none⟩) (v := ?_) rfl (by kernel_rfl) (by kernel_rfl) (by kernel_rfl) (fun _ _ _ h => h) (Or.inl ⟨by rfl, ?_⟩) (by assumption) ?_
    rotate_left
    · intro w hSw; (try dsimp only at hSw); go_simp
      try (with_reducible rfl)
    try simp only [Act.put, List.setIfInBounds_toArray, List.set_cons_zero, List.set_cons_succ]
    refine wpAnyH_take (i := 13) (oi := ⟨some 19, .load 3 (.tmp 18), 3, "scc.go:69", #[⟨12, .data⟩], none⟩) (v := ?_) rfl (by kernel_rfl) (by kernel_rfl) (by kernel_rfl) (fun _ _ _ h => h) (Or.inl ⟨by rfl, ?_⟩) (by assumption) ?_
    rotate_left
    · intro w hSw; (try dsimp only at hSw); go_simp
      try (with_reducible rfl)
    try simp only [Act.put, List.setIfInBounds_toArray, List.set_cons_zero, List.set_cons_succ]
    refine anyOrder (fun listed a W => ∃ (on : Nat → Bool) (val : Nat → Value) (blk : Nat → Nat) (b21 b22 b3 : Bool) (v21 v22 v3 : Value), listed = #[true, true, on 0, true, true, on 1, true, true, on 2, true, true, on 3, true, true, on 4, b21, b22, b3] ∧ a = ⟨(.agg #[.int .i64 (n : Nat), .slice A l.length c] :: .pointer (some ⟨w.heap.size, 0, none⟩) :: .pointer none :: v3 :: undef :: undef :: .pointer (some ⟨w.heap.size, 0, none⟩) :: .int .i64 (n : Nat) :: val 0 :: .pointer (some ⟨w.heap.size, 0, none⟩) :: .int .i64 (n : Nat) :: val 1 :: .pointer (some ⟨w.heap.size, 0, none⟩) :: .int .i64 (n : Nat) :: val 2 :: .pointer (some ⟨w.heap.size, 0, none⟩) :: .int .i64 (n : Nat) :: val 3 :: .pointer (some ⟨w.heap.size, 0, none⟩) :: .int .i64 (n : Nat) :: val 4 :: v21 :: v22 :: undef :: undef :: undef :: undef :: undef :: undef :: undef :: undef :: undef :: undef :: undef :: undef :: undef :: undef :: undef :: undef :: undef :: undef :: undef :: undef :: undef :: undef :: undef :: undef :: undef :: undef :: undef :: undef :: []).toArray, []⟩ ∧ Hid (Beg n w1 W on val blk) ∧ Hid (Beg2 w.heap.size n W on val b21 b22 b3 v21 v22 v3)) (by kernel_rfl) ?size ?fuel ?start ?fin ?step
    case size => rintro listed a W ⟨on, val, blk, b21, b22, b3, v21, v22, v3, rfl, -⟩; rfl
    case fuel => exact Nat.le_of_eq (by kernel_rfl)
    case start => exact ⟨fun _ => false, fun _ => undef, fun _ => 0, false, false, false, undef, undef, undef, by kernel_rfl, rfl, Beg.draw, ⟨(fun h => by cases h), (fun h => by cases h), (fun h => by cases h), (fun h => by cases h)⟩⟩
    case fin =>
      rintro listed a W ⟨on, val, blk, b21, b22, b3, v21, v22, v3, rfl, rfl, HB, HB2⟩ hall
      have h3 : b3 = true := hall 17 (by decide)
      obtain ⟨h22, hv3⟩ := HB2.out.put h3
      obtain ⟨-, P, hv22, hwk⟩ := HB2.out.box h22
      subst hv3 hv22
      have hlow := HB.out.low
      go_wp2_with fail
      go_meet
      case rel => exact ⟨P, rfl, hwk, hlow⟩
    case step =>
      intro i o ho listed a W hj hu haf K hK
      obtain ⟨on, val, blk, b21, b22, b3, v21, v22, v3, rfl, rfl, HB, HB2⟩ := hj
      have hi : i < 18 := (Array.getElem?_eq_some_iff.1 ho).1
      have hcases : i = 2 ∨ i = 5 ∨ i = 8 ∨ i = 11 ∨ i = 14 ∨ i = 15 ∨ i = 16 ∨ i = 17 := by
        clear ho haf hK HB HB2
        match i, hi, hu with
        | 0, _, h => cases h
        | 1, _, h => cases h
        | 2, _, _ => simp
        | 3, _, h => cases h
        | 4, _, h => cases h
        | 5, _, _ => simp
        | 6, _, h => cases h
        | 7, _, h => cases h
        | 8, _, _ => simp
        | 9, _, h => cases h
        | 10, _, h => cases h
        | 11, _, _ => simp
        | 12, _, h => cases h
        | 13, _, h => cases h
        | 14, _, _ => simp
        | 15, _, _ => simp
        | 16, _, _ => simp
        | 17, _, _ => simp
        | (k + 18), h, _ => omega
      have hS : Hid (∀ W', Below w1.heap.size w1 W' → W'.cell? ⟨w.heap.size, 0, none⟩ = some (.int .i64 (n : Nat)) ∧ Hid (Below w1.heap.size w1 W')) := fun W' h => ⟨st_stays h c0, h⟩
      clear c0 c1 hHeld
      rcases hcases with rfl | rfl | rfl | rfl | rfl | rfl | rfl | rfl
      · have h0 : on 0 = false := hu
        obtain rfl : (⟨some 8, .makeSlice 41 (.tmp 7) (.tmp 7), 41, "scc.go:69", #[⟨1, .data⟩, ⟨1, .data⟩], none⟩ : Oper) = o := Option.some.inj ho
        have hb21 := HB2.out.not h0 (by decide)
        have hst := HB.out.step (k := 0) (v := .slice (some ⟨W.heap.size, 0, none⟩) n n) (alloc_below W _) rfl (by rw [World.size_alloc]; exact Nat.lt_succ_self _) ⟨rfl, EmptyRows.made rfl⟩
        have HST := Lib.hid hst
        have HS2 := Lib.hid (hS.out _ hst.low)
        have HB3 := HB2
        clear hst ho hu haf HB HB2 hS
        go_simp
        exact hK.out _ _ ⟨HS2.out, _, _, _, b21, b22, b3, v21, v22, v3, rfl, rfl, HST.out, HB3.out.stay hb21⟩
      · have h0 : on 1 = false := hu
        obtain rfl : (⟨some 11, .makeSlice 26 (.tmp 10) (.tmp 10), 26, "scc.go:69", #[⟨4, .data⟩, ⟨4, .data⟩], none⟩ : Oper) = o := Option.some.inj ho
        have hb21 := HB2.out.not h0 (by decide)
        have hst := HB.out.step (k := 1) (v := .slice (some ⟨W.heap.size, 0, none⟩) n n) (alloc_below W _) rfl (by rw [World.size_alloc]; exact Nat.lt_succ_self _) ⟨rfl, FunRow.made' rfl⟩
        have HST := Lib.hid hst
        have HS2 := Lib.hid (hS.out _ hst.low)
        have HB3 := HB2
        clear hst ho hu haf HB HB2 hS
        go_simp
        exact hK.out _ _ ⟨HS2.out, _, _, _, b21, b22, b3, v21, v22, v3, rfl, rfl, HST.out, HB3.out.stay hb21⟩
      · have h0 : on 2 = false := hu
        obtain rfl : (⟨some 14, .makeSlice 26 (.tmp 13) (.tmp 13), 26, "scc.go:69", #[⟨7, .data⟩, ⟨7, .data⟩], none⟩ : Oper) = o := Option.some.inj ho
        have hb21 := HB2.out.not h0 (by decide)
        have hst := HB.out.step (k := 2) (v := .slice (some ⟨W.heap.size, 0, none⟩) n n) (alloc_below W _) rfl (by rw [World.size_alloc]; exact Nat.lt_succ_self _) ⟨rfl, FunRow.made' rfl⟩
        have HST := Lib.hid hst
        have HS2 := Lib.hid (hS.out _ hst.low)
        have HB3 := HB2
        clear hst ho hu haf HB HB2 hS
        go_simp
        exact hK.out _ _ ⟨HS2.out, _, _, _, b21, b22, b3, v21, v22, v3, rfl, rfl, HST.out, HB3.out.stay hb21⟩
      · have h0 : on 3 = false := hu
        obtain rfl : (⟨some 17, .call ⟨.value (.func 36), #[.tmp 16], #[3]⟩, 54, "scc.go:73", #[⟨10, .data⟩], none⟩ : Oper) = o := Option.some.inj ho
        have hb21 := HB2.out.not h0 (by decide)
        clear ho hu haf
        go_simp
        go_at_call 36
        refine (stpNew_new (n : Int) W).mono ?_
        rintro e z1 ⟨bp, rfl, hsp, hzp, hbp⟩
        have hst := HB.out.step (k := 3) (v := .pointer (some ⟨bp, 0, none⟩)) hbp hzp hsp.lt ⟨rfl, hsp⟩
        have HST := Lib.hid hst
        have HS2 := Lib.hid (hS.out _ hst.low)
        have HB3 := HB2
        clear hst HB HB2 hS hsp hzp hbp
        try go_simp
        exact hK.out _ _ ⟨HS2.out, _, _, _, b21, b22, b3, v21, v22, v3, rfl, rfl, HST.out, HB3.out.stay hb21⟩
      · have h0 : on 4 = false := hu
        obtain rfl : (⟨some 20, .call ⟨.value (.func 37), #[.tmp 19], #[3]⟩, 55, "scc.go:74", #[⟨13, .data⟩, ⟨11, .chain⟩], none⟩ : Oper) = o := Option.some.inj ho
        have hb21 := HB2.out.not h0 (by decide)
        clear ho hu haf
        go_simp
        go_at_call 37
        refine (stInts_new (n : Int) W).mono ?_
        rintro e z1 ⟨bp, rfl, hsp, hzp, hbp⟩
        have hst := HB.out.step (k := 4) (v := .pointer (some ⟨bp, 0, none⟩)) hbp hzp hsp.lt ⟨rfl, hsp⟩
        have HST := Lib.hid hst
        have HS2 := Lib.hid (hS.out _ hst.low)
        have HB3 := HB2
        clear hst HB HB2 hS hsp hzp hbp
        try go_simp
        exact hK.out _ _ ⟨HS2.out, _, _, _, b21, b22, b3, v21, v22, v3, rfl, rfl, HST.out, HB3.out.stay hb21⟩
      · obtain rfl : (⟨some 21, .build 57 #[(0, .tmp 8), (1, .tmp 11), (2, .tmp 14), (3, .tmp 17), (4, .tmp 20)], 57, "scc.go:69", #[⟨2, .data⟩, ⟨5, .data⟩, ⟨8, .data⟩, ⟨11, .data⟩, ⟨14, .data⟩], none⟩ : Oper) = o := Option.some.inj ho
        have h0 : on 0 = true := haf ⟨2, .data⟩ (by simp) rfl
        have h1 : on 1 = true := haf ⟨5, .data⟩ (by simp) rfl
        have h2 : on 2 = true := haf ⟨8, .data⟩ (by simp) rfl
        have h3 : on 3 = true := haf ⟨11, .data⟩ (by simp) rfl
        have h4 : on 4 = true := haf ⟨14, .data⟩ (by simp) rfl
        have hb21 : b21 = false := hu
        have HN := Lib.hid (HB2.out.stay (on' := on) (val' := val) (W' := W) hb21)
        have HS2 := Lib.hid (hS.out _ HB.out.low)
        have HALL : Hid (on 0 = true ∧ on 1 = true ∧ on 2 = true ∧ on 3 = true ∧ on 4 = true) := ⟨h0, h1, h2, h3, h4⟩
        subst hb21
        have e0 : val 0 = .slice (some ⟨blk 0, 0, none⟩) n n := (HB.out.fact 0 h0).1
        have e1 : val 1 = .slice (some ⟨blk 1, 0, none⟩) n n := (HB.out.fact 1 h1).1
        have e2 : val 2 = .slice (some ⟨blk 2, 0, none⟩) n n := (HB.out.fact 2 h2).1
        have e3 : val 3 = .pointer (some ⟨blk 3, 0, none⟩) := (HB.out.fact 3 h3).1
        have e4 : val 4 = .pointer (some ⟨blk 4, 0, none⟩) := (HB.out.fact 4 h4).1
        have HV : Hid (val 0 = .slice (some ⟨blk 0, 0, none⟩) n n ∧ val 1 = .slice (some ⟨blk 1, 0, none⟩) n n ∧ val 2 = .slice (some ⟨blk 2, 0, none⟩) n n ∧ val 3 = .pointer (some ⟨blk 3, 0, none⟩) ∧ val 4 = .pointer (some ⟨blk 4, 0, none⟩)) := ⟨e0, e1, e2, e3, e4⟩
        clear ho hu haf HB2 hS h0 h1 h2 h3 h4
        rw [e0, e1, e2, e3, e4]
        clear e0 e1 e2 e3 e4
        go_simp
        refine hK.out _ _ ⟨HS2.out, on, val, blk, true, b22, b3, .agg #[val 0, val 1, val 2, val 3, val 4, .int .i64 0, .slice none 0 0], v22, v3, rfl, ?_, HB.out, ⟨fun _ => HALL.out, fun _ => rfl, fun h => absurd (HN.out.box h).1 (by simp), fun h => HN.out.put h⟩⟩
        obtain ⟨e0, e1, e2, e3, e4⟩ := HV.out
        rw [e0, e1, e2, e3, e4]
      · obtain rfl : (⟨some 22, .box 57 (.tmp 21), 52, "scc.go:69", #[⟨15, .data⟩], none⟩ : Oper) = o := Option.some.inj ho
        have hb21 : b21 = true := haf ⟨15, .data⟩ (by simp) rfl
        have hb22 : b22 = false := hu
        subst hb21 hb22
        obtain ⟨h0, h1, h2, h3, h4⟩ := HB2.out.all rfl
        have hv21 := HB2.out.agg rfl
        have hb3 : ∀ {q : Prop}, b3 = true → q := fun h => absurd (HB2.out.put h).1 (by simp)
        have f0 := HB.out.fact 0 h0
        have f1 := HB.out.fact 1 h1
        have f2 := HB.out.fact 2 h2
        have f3 := HB.out.fact 3 h3
        have f4 := HB.out.fact 4 h4
        have k0 := (HB.out.inn 0 h0).1
        have k1 := (HB.out.inn 1 h1).1
        have k2 := (HB.out.inn 2 h2).1
        have k3 := (HB.out.inn 3 h3).1
        have k4 := (HB.out.inn 4 h4).1
        have hz := HWZ.out
        have hwk := Wlk.begin (base := w.heap.size) f1.2 f2.2 f3.2 f4.2 f0.2 hn64 (HB.out.ne 1 2 h1 h2 (by decide)) (Nat.le_trans hz k1) (Nat.le_trans hz k2) (Nat.le_trans hz k3) (Nat.le_trans hz k4) (Nat.le_trans hz k0)
        have HWK := Lib.hid hwk
        have hlow := below_all HB.out.low (alloc_below W (.cells #[.slice (some ⟨blk 0, 0, none⟩) n n, .slice (some ⟨blk 1, 0, none⟩) n n, .slice (some ⟨blk 2, 0, none⟩) n n, .pointer (some ⟨blk 3, 0, none⟩), .pointer (some ⟨blk 4, 0, none⟩), .int .i64 0, .slice none 0 0] 57))
        have HB' := Lib.hid (HB.out.later (alloc_below W (.cells #[.slice (some ⟨blk 0, 0, none⟩) n n, .slice (some ⟨blk 1, 0, none⟩) n n, .slice (some ⟨blk 2, 0, none⟩) n n, .pointer (some ⟨blk 3, 0, none⟩), .pointer (some ⟨blk 4, 0, none⟩), .int .i64 0, .slice none 0 0] 57)))
        have HS2 := Lib.hid (hS.out _ hlow)
        have HALL : Hid (on 0 = true ∧ on 1 = true ∧ on 2 = true ∧ on 3 = true ∧ on 4 = true) := ⟨h0, h1, h2, h3, h4⟩
        have e0 : val 0 = .slice (some ⟨blk 0, 0, none⟩) n n := f0.1
        have e1 : val 1 = .slice (some ⟨blk 1, 0, none⟩) n n := f1.1
        have e2 : val 2 = .slice (some ⟨blk 2, 0, none⟩) n n := f2.1
        have e3 : val 3 = .pointer (some ⟨blk 3, 0, none⟩) := f3.1
        have e4 : val 4 = .pointer (some ⟨blk 4, 0, none⟩) := f4.1
        have HV : Hid (val 0 = .slice (some ⟨blk 0, 0, none⟩) n n ∧ val 1 = .slice (some ⟨blk 1, 0, none⟩) n n ∧ val 2 = .slice (some ⟨blk 2, 0, none⟩) n n ∧ val 3 = .pointer (some ⟨blk 3, 0, none⟩) ∧ val 4 = .pointer (some ⟨blk 4, 0, none⟩)) := ⟨e0, e1, e2, e3, e4⟩
        subst hv21
        rw [e0, e1, e2, e3, e4]
        clear ho hu haf HB HB2 hS h0 h1 h2 h3 h4 f0 f1 f2 f3 f4 k0 k1 k2 k3 k4 hz hwk hlow e0 e1 e2 e3 e4
        go_simp
        refine hK.out _ _ ⟨HS2.out, on, val, blk, true, true, b3, .agg #[val 0, val 1, val 2, val 3, val 4, .int .i64 0, .slice none 0 0], .pointer (some ⟨W.heap.size, 0, none⟩), v3, rfl, ?_, HB'.out, ⟨fun _ => HALL.out, fun _ => rfl, fun _ => ⟨rfl, _, rfl, HWK.out⟩, fun h => hb3 h⟩⟩
        obtain ⟨e0, e1, e2, e3, e4⟩ := HV.out
        rw [e0, e1, e2, e3, e4]
      · obtain rfl : (⟨some 3, .assign (.tmp 22), 52, "scc.go:69", #[⟨16, .data⟩, ⟨14, .chain⟩, ⟨0, .phase⟩, ⟨1, .phase⟩, ⟨2, .phase⟩, ⟨3, .phase⟩, ⟨4, .phase⟩, ⟨5, .phase⟩, ⟨6, .phase⟩, ⟨7, .phase⟩, ⟨8, .phase⟩, ⟨9, .phase⟩, ⟨10, .phase⟩, ⟨11, .phase⟩, ⟨12, .phase⟩, ⟨13, .phase⟩, ⟨14, .phase⟩, ⟨15, .phase⟩, ⟨16, .phase⟩], none⟩ : Oper) = o := Option.some.inj ho
        have hb22 : b22 = true := haf ⟨16, .data⟩ (by simp) rfl
        subst hb22
        have HS2 := Lib.hid (hS.out _ HB.out.low)
        clear ho hu haf hS
        go_simp
        exact hK.out _ _ ⟨HS2.out, on, val, blk, b21, true, true, v21, v22, v22, rfl, rfl, HB.out, ⟨HB2.out.all, HB2.out.agg, HB2.out.box, fun _ => ⟨rfl, rfl⟩⟩⟩
  case rest =>
    obtain ⟨P, rfl, hwk, hb⟩ := hcut
    have HW := Lib.hid hwk
    have HB := Lib.hid hb
    have d0 := st_stays hb c0
    have d1 := st_stays hb c1
    clear hwk hb c0 c1 hmi hmr
    go_wp2_with fail
    refine (gfEdges_at n (.slice A l.length c) l _ (HU.out.below HB.out) HL.out).mono ?_
    rintro e w2 ⟨ve, rfl, hoe, hb2⟩
    have HES : Hid (∀ e ∈ Gf.edges l, e.1 < n ∧ e.2 < n) := fun e h => HL.out.node ((Gf.mem_edges HL.out).1 h)
    have HEL : Hid ((Gf.edges l).length ≤ 4096) := by
      have h1 := Gf.edgesTo_len l l.length []
      rw [Gf.edgesTo_all] at h1
      have h2 : l.length = n := HL.out.2.1
      show _ ≤ _
      rw [h2] at h1
      simp only [List.length_nil] at h1
      omega
    obtain ⟨AE, cE, rfl, -⟩ := ed_spelled hoe.its
    have HE : Hid (OwnE w2 0 (.slice AE (Gf.edges l).length cE) (Gf.edges l)) := own_lower hoe (Nat.zero_le _)
    have HN : Hid (∀ k, (Value.slice AE (Gf.edges l).length cE).ownBlock = some k → ¬ P.all k) := fun k q ⟨i, r⟩ => by
      have h1 := (World.ownsRow.lt hoe k q).1
      have h2 := (HW.out.inside i k r).2
      omega
    have HW2 := Lib.hid (HW.out.later hb2)
    have HB2 := Lib.hid (below_all (below_all BW.out HB.out) hb2)
    clear hoe hb2 HW HB d0 d1
    go_wp2_with fail
    go_loopw [26] (fun i wr => ∃ (k : Nat) (P1 : Pl), k ≤ (Gf.edges l).length ∧ i = .int .i64 k ∧ P1.b = P.b ∧ Hid (Wlk w.heap.size wr P1 n (Sc.endsTo ((Gf.edges l).take k)) Sc.Wk.start []) ∧ Hid (OwnE wr 0 (.slice AE (Gf.edges l).length cE) (Gf.edges l)) ∧ Hid (∀ k, (Value.slice AE (Gf.edges l).length cE).ownBlock = some k → ¬ P1.all k) ∧ Hid (Below w.heap.size w wr)) (fun i _ => (Gf.edges l).length - (intOf i).toNat)
    case atStart => exact ⟨0, P, Nat.zero_le _, rfl, rfl, HW2.out, HE.out, HN.out, HB2.out⟩
    case round =>
      clear HW2 HE HN HB2 BW T0 HU HWZ
      obtain ⟨k, P1, hk, rfl, hpb, HW, HE, HN, HB⟩ := hrel
      by_cases hlt : k < (Gf.edges l).length
      · obtain ⟨A', c', e, hf⟩ := ed_spelled HE.out.its
        cases e
        obtain ⟨ad, rfl, hblk, q0, q1⟩ := hf k hlt
        obtain ⟨hx, hy⟩ := HES.out _ (List.getElem_mem hlt)
        have HNX : Hid (Sc.endsTo ((Gf.edges l).take (k + 1)) = fun z => if z = ((Gf.edges l)[k]'hlt).1 then Sc.endsTo ((Gf.edges l).take k) ((Gf.edges l)[k]'hlt).1 ++ [((Gf.edges l)[k]'hlt).2] else Sc.endsTo ((Gf.edges l).take k) z) := by
          funext z
          rw [List.take_succ_eq_append_getElem hlt]
          by_cases hz : z = ((Gf.edges l)[k]'hlt).1
          · rw [if_pos hz, hz]
            exact Sc.endsTo_same _ _ _
          · rw [if_neg hz]
            exact Sc.endsTo_other _ hz
        have HLE : Hid (∀ z, (Sc.endsTo ((Gf.edges l).take k) z).length ≤ 4096) := fun z => Nat.le_trans (Sc.endsTo_len _ z) (Nat.le_trans (by rw [List.length_take]; exact Nat.min_le_right _ _) HEL.out)
        have hk1 : decide (k < (Gf.edges l).length) = true := decide_eq_true hlt
        generalize ((Gf.edges l)[k]'hlt).1 = x at *
        generalize ((Gf.edges l)[k]'hlt).2 = y at *
        generalize Sc.endsTo ((Gf.edges l).take k) = E at *
        obtain ⟨t3, n3, -, h3, g3⟩ := HW.out.lay (Went.refl P1 wr) 72 (.int .i64 (x : Nat)) (.int .i64 (y : Nat))
        obtain ⟨g, c5, AK, cK, hve, hbg, hgl, o1, f1, hok, hkeep, hadd⟩ := h3.row hx
        obtain ⟨p0, -, -, -, -, -, -⟩ := h3.cells
        obtain ⟨a0, a1⟩ := t3.cells
        rw [hpb, hve] at p0
        rw [hpb] at hkeep
        have hag : P1.all g := ⟨5, .inl (by rw [hve]; rfl)⟩
        have HG1 : Hid (P.b ≠ g) := fun e => absurd (h3.apart 0 5 g (hpb.trans e).symm (.inl (by rw [hve]; rfl))) (by decide)
        have HG2 : Hid (wr.heap.size ≠ g) := fun e => n3 (by rw [e]; exact hag)
        clear hag
        have HT3 := Lib.hid t3
        have HN3 := Lib.hid n3
        have HG3 := Lib.hid g3
        have HOK := Lib.hid hok
        have HKP := Lib.hid hkeep
        have HAD := Lib.hid hadd
        have HBS := Lib.hid (Nat.le_trans hbg (Nat.le_of_lt hgl))
        have HGL := Lib.hid hgl
        clear t3 n3 h3 g3 hok hkeep hadd hve hf
        go_wp2_with fail
        have hpl : P.b < (wr.alloc (.cells #[.int .i64 (x : Nat), .int .i64 (y : Nat)] 72)).heap.size := by
          have h1 := (HW.out.inside 0 _ rfl).2
          rw [hpb] at h1
          rw [World.size_alloc]
          omega
        have hel := HT3.out.lt
        generalize wr.alloc (.cells #[.int .i64 (x : Nat), .int .i64 (y : Nat)] 72) = w3 at *
        generalize wr.heap.size = eb at *
        obtain ⟨w4, hw4⟩ : ∃ w4, w4 = w3.drew := ⟨_, rfl⟩
        have B4 : Hid (Below w3.heap.size w3 w4) := by rw [hw4]; exact (Below.refl w3.heap.size w3).drew
        have b5 := below_all B4.out (alloc_below w4 (.cells #[.int .i64 (y : Nat)] 3))
        have HV := Lib.hid b5
        have HOO := Lib.hid (own_below HOK.out b5)
        have HC : Hid (∀ w2, (w4.alloc (.cells #[.int .i64 (y : Nat)] 3)).grownBy w2 (Value.slice AK (E x).length cK).ownBlock → w2.cell? ⟨P.b, 0, none⟩ = some (.slice (some ⟨g, 0, none⟩) n c5) ∧ w2.cell? ⟨eb, 0, none⟩ = some (.int .i64 (x : Nat)) ∧ w2.cell? ⟨eb, 1, none⟩ = some (.int .i64 (y : Nat)) ∧ w2.cell? ⟨g, x, none⟩ = some (.slice AK (E x).length cK) ∧ w2.frozen? ⟨g, x, none⟩ = false) := fun w2 hg => by
          obtain ⟨h1, h2, h3, h4⟩ := HKP.out _ w2 HV.out hg
          exact ⟨h3, h4 eb 0 _ hel HN3.out a0, h4 eb 1 _ hel HN3.out a1, h1, h2⟩
        have HNE := Lib.hid (new_nC w4 (y : Int) 3)
        have HBS2 := Lib.hid (Nat.le_trans HBS.out b5.size)
        have HPL := Lib.hid (HLE.out x)
        have HSZ : Hid ((w4.alloc (.cells #[.int .i64 (y : Nat)] 3)).heap.size = w4.heap.size + 1) := by rw [Hid, World.size_alloc]
        have HW1 := HW
        have HE1 := HE
        have HN1 := HN
        obtain ⟨i0, hi0, hz0, hz1, hz2⟩ := info_parts sci_info
        have I0 := Lib.hid hi0
        have I1 := Lib.hid hz0
        have I2 := Lib.hid hz1
        have I3 := Lib.hid hz2
        have S5 : Hid ((w4.alloc (.cells #[.int .i64 (y : Nat)] 3)).cell? ⟨P.b, 0, none⟩ = some (.slice (some ⟨g, 0, none⟩) n c5) ∧ (w4.alloc (.cells #[.int .i64 (y : Nat)] 3)).cell? ⟨eb, 0, none⟩ = some (.int .i64 (x : Nat)) ∧ (w4.alloc (.cells #[.int .i64 (y : Nat)] 3)).cell? ⟨eb, 1, none⟩ = some (.int .i64 (y : Nat))) := ⟨st_stays b5 p0, st_stays b5 a0, st_stays b5 a1⟩
        have d2 : w4.cell? ⟨g, x, none⟩ = some (.slice AK (E x).length cK) := st_stays B4.out o1
        have d3 : (w4.alloc (.cells #[.int .i64 (y : Nat)] 3)).cell? ⟨g, x, none⟩ = some (.slice AK (E x).length cK) := st_stays b5 o1
        have hS0 : w4.cell? ⟨P.b, 0, none⟩ = some (.slice (some ⟨g, 0, none⟩) n c5) ∧ w4.cell? ⟨eb, 0, none⟩ = some (.int .i64 (x : Nat)) ∧ w4.cell? ⟨eb, 1, none⟩ = some (.int .i64 (y : Nat)) := ⟨st_stays B4.out p0, st_stays B4.out a0, st_stays B4.out a1⟩
        clear hi0 hz0 hz1 hz2 hpl hel b5 q0 q1 hk1 hblk hy hbg hgl HLE HBS p0 a0 a1 o1 f1
        refine wp_region_held_drew (S := fun W' => W'.cell? ⟨P.b, 0, none⟩ = some (.slice (some ⟨g, 0, none⟩) n c5) ∧ W'.cell? ⟨eb, 0, none⟩ = some (.int .i64 (x : Nat)) ∧ W'.cell? ⟨eb, 1, none⟩ = some (.int .i64 (y : Nat))) (by kernel_rfl) (by rw [← hw4]; exact hS0) (fun _ => ?_)
        rw [← hw4]
        have hHeld := hS0
        clear hS0 hw4
        refine wpAnyH_take (i := 0) (oi := ({ dst := some 30, op := Op.move (Operand.tmp 3), type := 52, pos := "scc.go:77", after := #[], guard := none } : Oper)) (v := ?_) rfl (by kernel_rfl) (by kernel_rfl) (by kernel_rfl) (fun _ _ _ h => h) (Or.inl ⟨by rfl, ?_⟩) (by assumption) ?_
        rotate_left
        · intro w hSw; (try dsimp only at hSw); go_simp
          try (with_reducible rfl)
        try simp only [Act.put, List.setIfInBounds_toArray, List.set_cons_zero, List.set_cons_succ]
        refine wpAnyH_take (i := 1) (oi := ({ dst := some 31, op := Op.nilCheck (Operand.tmp 30), type := 0, pos := "scc.go:77", after := #[{ on := 0, ground := Ground.data }], guard := none } : Oper)) (v := ?_) rfl (by kernel_rfl) (by kernel_rfl) (by kernel_rfl) (fun _ _ _ h => h) (Or.inl ⟨by rfl, ?_⟩) (by assumption) ?_
        rotate_left
        · intro w hSw; (try dsimp only at hSw); go_simp
          try (with_reducible rfl)
        try simp only [Act.put, List.setIfInBounds_toArray, List.set_cons_zero, List.set_cons_succ]
        refine wpAnyH_take (i := 2) (oi := ({ dst := some 32, op := Op.fieldAddr 57 (Operand.tmp 31) 0, type := 0, pos := "scc.go:77", after := #[{ on := 1, ground := Ground.data }], guard := none } : Oper)) (v := ?_) rfl (by kernel_rfl) (by kernel_rfl) (by kernel_rfl) (fun _ _ _ h => h) (Or.inl ⟨by rfl, ?_⟩) (by assumption) ?_
        rotate_left
        · intro w hSw; (try dsimp only at hSw); go_simp
          try (with_reducible rfl)
        try simp only [Act.put, List.setIfInBounds_toArray, List.set_cons_zero, List.set_cons_succ]
        refine wpAnyH_take (i := 3) (oi := ({ dst := some 33, op := Op.load 41 (Operand.tmp 32), type := 41, pos := "scc.go:77", after := #[{ on := 2, ground := Ground.data }], guard := none } : Oper)) (v := ?_) rfl (by kernel_rfl) (by kernel_rfl) (by kernel_rfl) (fun _ _ _ h => h) (Or.inl ⟨by rfl, ?_⟩) (by assumption) ?_
        rotate_left
        · intro w hSw; (try dsimp only at hSw); go_simp
          try (with_reducible rfl)
        try simp only [Act.put, List.setIfInBounds_toArray, List.set_cons_zero, List.set_cons_succ]
        refine wpAnyH_take (i := 4) (oi := ({ dst := some 34, op := Op.fieldAddr 72 (Operand.tmp 5) 0, type := 0, pos := "scc.go:77", after := #[], guard := none } : Oper)) (v := ?_) rfl (by kernel_rfl) (by kernel_rfl) (by kernel_rfl) (fun _ _ _ h => h) (Or.inl ⟨by rfl, ?_⟩) (by assumption) ?_
        rotate_left
        · intro w hSw; (try dsimp only at hSw); go_simp
          try (with_reducible rfl)
        try simp only [Act.put, List.setIfInBounds_toArray, List.set_cons_zero, List.set_cons_succ]
        refine wpAnyH_take (i := 5) (oi := ({ dst := some 35, op := Op.load 3 (Operand.tmp 34), type := 3, pos := "scc.go:77", after := #[{ on := 4, ground := Ground.data }], guard := none } : Oper)) (v := ?_) rfl (by kernel_rfl) (by kernel_rfl) (by kernel_rfl) (fun _ _ _ h => h) (Or.inl ⟨by rfl, ?_⟩) (by assumption) ?_
        rotate_left
        · intro w hSw; (try dsimp only at hSw); go_simp
          try (with_reducible rfl)
        try simp only [Act.put, List.setIfInBounds_toArray, List.set_cons_zero, List.set_cons_succ]
        refine wpAnyH_take (i := 6) (oi := ({ dst := some 36, op := Op.move (Operand.tmp 3), type := 52, pos := "scc.go:77", after := #[], guard := none } : Oper)) (v := ?_) rfl (by kernel_rfl) (by kernel_rfl) (by kernel_rfl) (fun _ _ _ h => h) (Or.inl ⟨by rfl, ?_⟩) (by assumption) ?_
        rotate_left
        · intro w hSw; (try dsimp only at hSw); go_simp
          try (with_reducible rfl)
        try simp only [Act.put, List.setIfInBounds_toArray, List.set_cons_zero, List.set_cons_succ]
        refine wpAnyH_take (i := 7) (oi := ({ dst := some 37, op := Op.nilCheck (Operand.tmp 36), type := 0, pos := "scc.go:77", after := #[{ on := 6, ground := Ground.data }], guard := none } : Oper)) (v := ?_) rfl (by kernel_rfl) (by kernel_rfl) (by kernel_rfl) (fun _ _ _ h => h) (Or.inl ⟨by rfl, ?_⟩) (by assumption) ?_
        rotate_left
        · intro w hSw; (try dsimp only at hSw); go_simp
          try (with_reducible rfl)
        try simp only [Act.put, List.setIfInBounds_toArray, List.set_cons_zero, List.set_cons_succ]
        refine wpAnyH_take (i := 8) (oi := ({ dst := some 38, op := Op.fieldAddr 57 (Operand.tmp 37) 0, type := 0, pos := "scc.go:77", after := #[{ on := 7, ground := Ground.data }], guard := none } : Oper)) (v := ?_) rfl (by kernel_rfl) (by kernel_rfl) (by kernel_rfl) (fun _ _ _ h => h) (Or.inl ⟨by rfl, ?_⟩) (by assumption) ?_
        rotate_left
        · intro w hSw; (try dsimp only at hSw); go_simp
          try (with_reducible rfl)
        try simp only [Act.put, List.setIfInBounds_toArray, List.set_cons_zero, List.set_cons_succ]
        refine wpAnyH_take (i := 9) (oi := ({ dst := some 39, op := Op.load 41 (Operand.tmp 38), type := 41, pos := "scc.go:77", after := #[{ on := 8, ground := Ground.data }], guard := none } : Oper)) (v := ?_) rfl (by kernel_rfl) (by kernel_rfl) (by kernel_rfl) (fun _ _ _ h => h) (Or.inl ⟨by rfl, ?_⟩) (by assumption) ?_
        rotate_left
        · intro w hSw; (try dsimp only at hSw); go_simp
          try (with_reducible rfl)
        try simp only [Act.put, List.setIfInBounds_toArray, List.set_cons_zero, List.set_cons_succ]
        refine wpAnyH_take (i := 10) (oi := ({ dst := some 40, op := Op.fieldAddr 72 (Operand.tmp 5) 0, type := 0, pos := "scc.go:77", after := #[], guard := none } : Oper)) (v := ?_) rfl (by kernel_rfl) (by kernel_rfl) (by kernel_rfl) (fun _ _ _ h => h) (Or.inl ⟨by rfl, ?_⟩) (by assumption) ?_
        rotate_left
        · intro w hSw; (try dsimp only at hSw); go_simp
          try (with_reducible rfl)
        try simp only [Act.put, List.setIfInBounds_toArray, List.set_cons_zero, List.set_cons_succ]
        refine wpAnyH_take (i := 11) (oi := ({ dst := some 41, op := Op.load 3 (Operand.tmp 40), type := 3, pos := "scc.go:77", after := #[{ on := 10, ground := Ground.data }], guard := none } : Oper)) (v := ?_) rfl (by kernel_rfl) (by kernel_rfl) (by kernel_rfl) (fun _ _ _ h => h) (Or.inl ⟨by rfl, ?_⟩) (by assumption) ?_
        rotate_left
        · intro w hSw; (try dsimp only at hSw); go_simp
          try (with_reducible rfl)
        try simp only [Act.put, List.setIfInBounds_toArray, List.set_cons_zero, List.set_cons_succ]
        refine wpAnyH_take (i := 12) (oi := ({ dst := some 42, op := Op.indexAddr 41 (Operand.tmp 39) (Operand.tmp 41), type := 0, pos := "scc.go:77", after := #[{ on := 9, ground := Ground.data }, { on := 11, ground := Ground.data }], guard := none } : Oper)) (v := ?_) rfl (by kernel_rfl) (by kernel_rfl) (by kernel_rfl) (fun _ _ _ h => h) (Or.inl ⟨by rfl, ?_⟩) (by assumption) ?_
        rotate_left
        · intro w hSw; (try dsimp only at hSw); go_simp
          try (with_reducible rfl)
        try simp only [Act.put, List.setIfInBounds_toArray, List.set_cons_zero, List.set_cons_succ]
        refine wpAnyH_take (i := 14) (oi := ({ dst := some 44, op := Op.fieldAddr 72 (Operand.tmp 5) 1, type := 0, pos := "scc.go:77", after := #[], guard := none } : Oper)) (v := ?_) rfl (by kernel_rfl) (by kernel_rfl) (by kernel_rfl) (fun _ _ _ h => h) (Or.inl ⟨by rfl, ?_⟩) (by assumption) ?_
        rotate_left
        · intro w hSw; (try dsimp only at hSw); go_simp
          try (with_reducible rfl)
        try simp only [Act.put, List.setIfInBounds_toArray, List.set_cons_zero, List.set_cons_succ]
        refine wpAnyH_take (i := 15) (oi := ({ dst := some 45, op := Op.load 3 (Operand.tmp 44), type := 3, pos := "scc.go:77", after := #[{ on := 14, ground := Ground.data }], guard := none } : Oper)) (v := ?_) rfl (by kernel_rfl) (by kernel_rfl) (by kernel_rfl) (fun _ _ _ h => h) (Or.inl ⟨by rfl, ?_⟩) (by assumption) ?_
        rotate_left
        · intro w hSw; (try dsimp only at hSw); go_simp
          try (with_reducible rfl)
        try simp only [Act.put, List.setIfInBounds_toArray, List.set_cons_zero, List.set_cons_succ]
        refine wpAnyH_ready (rs := [13, 16]) (by kernel_rfl) (by simp) ?_
        refine AllReadyH.cons (o := ({ dst := some 43, op := Op.load 26 (Operand.tmp 42), type := 26, pos := "scc.go:77", after := #[{ on := 12, ground := Ground.data }], guard := none } : Oper)) rfl (fun K hK => ?_) ?_
        · go_simp
          refine hK.out _ _ hHeld (fun hHeld => ?_)
          clear hK K
          try simp only [Act.put, List.setIfInBounds_toArray, List.set_cons_zero, List.set_cons_succ]
          refine wpAnyH_ready (rs := [16]) (by kernel_rfl) (by simp) ?_
          refine AllReadyH.cons (o := ({ dst := some 46, op := Op.buildSlice 26 1 #[(0, Operand.tmp 45)], type := 26, pos := "scc.go:77", after := #[{ on := 15, ground := Ground.data }], guard := none } : Oper)) rfl (fun K hK => ?_) AllReadyH.nil
          go_simp
          refine hK.out _ _ S5.out (fun hHeld => ?_)
          clear hK K
          try simp only [Act.put, List.setIfInBounds_toArray, List.set_cons_zero, List.set_cons_succ]
          refine wpAnyH_ready (rs := [17]) (by kernel_rfl) (by simp) ?_
          refine AllReadyH.cons (o := ({ dst := some 47, op := Op.call { callee := Callee.builtin Builtin.append, args := #[Operand.tmp 43, Operand.tmp 46], argTypes := #[26, 26] }, type := 26, pos := "scc.go:77", after := #[{ on := 13, ground := Ground.data }, { on := 16, ground := Ground.data }], guard := none } : Oper)) rfl (fun K hK => ?_) AllReadyH.nil
          refine step_append_lies _ rfl (.tmp 43) (.tmp 46) 26 rfl w.heap.size 3 i0 _ 1 8 Tryd.underlying26 I0.out I1.out I2.out I3.out rfl (by decide) (.slice AK (E x).length cK) (E x).length ((Bi.nums (E x)).flatMap nC) (by simp [Act.eval]) HOO.out ⟨w4.heap.size, 0, none⟩ 1 1 (nC (y : Int)) (by simp [Act.eval]) rfl HNE.out (one_nC _) (by decide) (by have := HPL.out; simp only [maxLen]; omega) (by have := HPL.out; omega) HBS2.out (w4.heap.size + 1) HSZ.out ?_
          intro g2 cap2 w5 hown5 hgrow5 hat5 hlt5
          obtain ⟨p3, a4, a5, d5, f3⟩ := HC.out w5 hgrow5
          have HO5 := Lib.hid hown5
          have HG5 := Lib.hid hgrow5
          have HA5 := Lib.hid hat5
          clear hown5 hgrow5 hat5 hlt5
          refine hK.out _ _ ⟨p3, a4, a5⟩ (fun hHeld => ?_)
          clear hK K
          try simp only [Act.put, List.setIfInBounds_toArray, List.set_cons_zero, List.set_cons_succ]
          refine wpAnyH_take (i := 18) (oi := ({ dst := some 48, op := Op.indexAddr 41 (Operand.tmp 33) (Operand.tmp 35), type := 0, pos := "scc.go:77", after := #[{ on := 3, ground := Ground.data }, { on := 5, ground := Ground.data }, { on := 0, ground := Ground.phase }, { on := 1, ground := Ground.phase }, { on := 2, ground := Ground.phase }, { on := 3, ground := Ground.phase }, { on := 4, ground := Ground.phase }, { on := 5, ground := Ground.phase }, { on := 6, ground := Ground.phase }, { on := 7, ground := Ground.phase }, { on := 8, ground := Ground.phase }, { on := 9, ground := Ground.phase }, { on := 10, ground := Ground.phase }, { on := 11, ground := Ground.phase }, { on := 12, ground := Ground.phase }, { on := 13, ground := Ground.phase }, { on := 14, ground := Ground.phase }, { on := 15, ground := Ground.phase }, { on := 16, ground := Ground.phase }, { on := 17, ground := Ground.phase }], guard := none } : Oper)) (v := ?_) rfl (by kernel_rfl) (by kernel_rfl) (by kernel_rfl) (fun _ _ _ h => h) (Or.inl ⟨by rfl, ?_⟩) (by assumption) ?_
          rotate_left
          · intro w hSw; (try dsimp only at hSw); go_simp
            try (with_reducible rfl)
          try simp only [Act.put, List.setIfInBounds_toArray, List.set_cons_zero, List.set_cons_succ]
          refine wpAnyH_ready (rs := [19]) (by kernel_rfl) (by simp) ?_
          refine AllReadyH.cons (o := ({ dst := none, op := Op.store 26 (Operand.tmp 48) (Operand.tmp 47), type := 0, pos := "scc.go:77", after := #[{ on := 18, ground := Ground.data }, { on := 17, ground := Ground.data }, { on := 17, ground := Ground.chain }, { on := 0, ground := Ground.phase }, { on := 1, ground := Ground.phase }, { on := 2, ground := Ground.phase }, { on := 3, ground := Ground.phase }, { on := 4, ground := Ground.phase }, { on := 5, ground := Ground.phase }, { on := 6, ground := Ground.phase }, { on := 7, ground := Ground.phase }, { on := 8, ground := Ground.phase }, { on := 9, ground := Ground.phase }, { on := 10, ground := Ground.phase }, { on := 11, ground := Ground.phase }, { on := 12, ground := Ground.phase }, { on := 13, ground := Ground.phase }, { on := 14, ground := Ground.phase }, { on := 15, ground := Ground.phase }, { on := 16, ground := Ground.phase }, { on := 17, ground := Ground.phase }], guard := none } : Oper)) rfl (fun K hK => ?_) AllReadyH.nil
          go_simp
          refine hK.out _ _ ⟨(far_cell HG1.out).trans p3, (far_cell HG2.out).trans a4, (far_cell HG2.out).trans a5⟩ (fun hHeld => ?_)
          clear hK K
          try simp only [Act.put, List.setIfInBounds_toArray, List.set_cons_zero, List.set_cons_succ]
          refine wpAnyH_done (by kernel_rfl) ?_ _
          obtain ⟨P2, hpb2, hw2, hg2⟩ := HAD.out _ w5 y (.slice (some ⟨g2, 0, none⟩) ((E x).length + 1) cap2) HV.out HO5.out HG5.out (HA5.out.imp (fun h => h.symm) (fun h => by rw [h]; exact congrArg some HSZ.out.symm))
          have hg4 := HG3.out.trans hg2
          obtain ⟨he4, hn4⟩ := hg4.own HE.out HN.out
          have HW4 := Lib.hid hw2
          rw [← HNX.out] at HW4
          have HE4 := Lib.hid he4
          have HN4 := Lib.hid hn4
          have HB4 := Lib.hid (hg4.below HW.out HB.out)
          have hpb4 : P2.b = P.b := hpb2.trans hpb
          clear hw2 hg2 hg4 he4 hn4 p3 a4 a5 d5 f3 d2 d3 hHeld
          have hE4 := HEL.out
          go_wp2_with fail
          go_roundw
          case rel => exact ⟨k + 1, P2, by omega, by go_num, hpb4, HW4.out, HE4.out, HN4.out, HB4.out⟩
          case measure => simp [intOf]; omega
        refine AllReadyH.cons (o := ({ dst := some 46, op := Op.buildSlice 26 1 #[(0, Operand.tmp 45)], type := 26, pos := "scc.go:77", after := #[{ on := 15, ground := Ground.data }], guard := none } : Oper)) rfl (fun K hK => ?_) AllReadyH.nil
        go_simp
        refine hK.out _ _ S5.out (fun hHeld => ?_)
        clear hK K
        try simp only [Act.put, List.setIfInBounds_toArray, List.set_cons_zero, List.set_cons_succ]
        refine wpAnyH_ready (rs := [13]) (by kernel_rfl) (by simp) ?_
        refine AllReadyH.cons (o := ({ dst := some 43, op := Op.load 26 (Operand.tmp 42), type := 26, pos := "scc.go:77", after := #[{ on := 12, ground := Ground.data }], guard := none } : Oper)) rfl (fun K hK => ?_) AllReadyH.nil
        go_simp
        refine hK.out _ _ S5.out (fun hHeld => ?_)
        clear hK K
        try simp only [Act.put, List.setIfInBounds_toArray, List.set_cons_zero, List.set_cons_succ]
        refine wpAnyH_ready (rs := [17]) (by kernel_rfl) (by simp) ?_
        refine AllReadyH.cons (o := ({ dst := some 47, op := Op.call { callee := Callee.builtin Builtin.append, args := #[Operand.tmp 43, Operand.tmp 46], argTypes := #[26, 26] }, type := 26, pos := "scc.go:77", after := #[{ on := 13, ground := Ground.data }, { on := 16, ground := Ground.data }], guard := none } : Oper)) rfl (fun K hK => ?_) AllReadyH.nil
        refine step_append_lies _ rfl (.tmp 43) (.tmp 46) 26 rfl w.heap.size 3 i0 _ 1 8 Tryd.underlying26 I0.out I1.out I2.out I3.out rfl (by decide) (.slice AK (E x).length cK) (E x).length ((Bi.nums (E x)).flatMap nC) (by simp [Act.eval]) HOO.out ⟨w4.heap.size, 0, none⟩ 1 1 (nC (y : Int)) (by simp [Act.eval]) rfl HNE.out (one_nC _) (by decide) (by have := HPL.out; simp only [maxLen]; omega) (by have := HPL.out; omega) HBS2.out (w4.heap.size + 1) HSZ.out ?_
        intro g2 cap2 w5 hown5 hgrow5 hat5 hlt5
        obtain ⟨p3, a4, a5, d5, f3⟩ := HC.out w5 hgrow5
        have HO5 := Lib.hid hown5
        have HG5 := Lib.hid hgrow5
        have HA5 := Lib.hid hat5
        clear hown5 hgrow5 hat5 hlt5
        refine hK.out _ _ ⟨p3, a4, a5⟩ (fun hHeld => ?_)
        clear hK K
        try simp only [Act.put, List.setIfInBounds_toArray, List.set_cons_zero, List.set_cons_succ]
        refine wpAnyH_take (i := 18) (oi := ({ dst := some 48, op := Op.indexAddr 41 (Operand.tmp 33) (Operand.tmp 35), type := 0, pos := "scc.go:77", after := #[{ on := 3, ground := Ground.data }, { on := 5, ground := Ground.data }, { on := 0, ground := Ground.phase }, { on := 1, ground := Ground.phase }, { on := 2, ground := Ground.phase }, { on := 3, ground := Ground.phase }, { on := 4, ground := Ground.phase }, { on := 5, ground := Ground.phase }, { on := 6, ground := Ground.phase }, { on := 7, ground := Ground.phase }, { on := 8, ground := Ground.phase }, { on := 9, ground := Ground.phase }, { on := 10, ground := Ground.phase }, { on := 11, ground := Ground.phase }, { on := 12, ground := Ground.phase }, { on := 13, ground := Ground.phase }, { on := 14, ground := Ground.phase }, { on := 15, ground := Ground.phase }, { on := 16, ground := Ground.phase }, { on := 17, ground := Ground.phase }], guard := none } : Oper)) (v := ?_) rfl (by kernel_rfl) (by kernel_rfl) (by kernel_rfl) (fun _ _ _ h => h) (Or.inl ⟨by rfl, ?_⟩) (by assumption) ?_
        rotate_left
        · intro w hSw; (try dsimp only at hSw); go_simp
          try (with_reducible rfl)
        try simp only [Act.put, List.setIfInBounds_toArray, List.set_cons_zero, List.set_cons_succ]
        refine wpAnyH_ready (rs := [19]) (by kernel_rfl) (by simp) ?_
        refine AllReadyH.cons (o := ({ dst := none, op := Op.store 26 (Operand.tmp 48) (Operand.tmp 47), type := 0, pos := "scc.go:77", after := #[{ on := 18, ground := Ground.data }, { on := 17, ground := Ground.data }, { on := 17, ground := Ground.chain }, { on := 0, ground := Ground.phase }, { on := 1, ground := Ground.phase }, { on := 2, ground := Ground.phase }, { on := 3, ground := Ground.phase }, { on := 4, ground := Ground.phase }, { on := 5, ground := Ground.phase }, { on := 6, ground := Ground.phase }, { on := 7, ground := Ground.phase }, { on := 8, ground := Ground.phase }, { on := 9, ground := Ground.phase }, { on := 10, ground := Ground.phase }, { on := 11, ground := Ground.phase }, { on := 12, ground := Ground.phase }, { on := 13, ground := Ground.phase }, { on := 14, ground := Ground.phase }, { on := 15, ground := Ground.phase }, { on := 16, ground := Ground.phase }, { on := 17, ground := Ground.phase }], guard := none } : Oper)) rfl (fun K hK => ?_) AllReadyH.nil
        go_simp
        refine hK.out _ _ ⟨(far_cell HG1.out).trans p3, (far_cell HG2.out).trans a4, (far_cell HG2.out).trans a5⟩ (fun hHeld => ?_)
        clear hK K
        try simp only [Act.put, List.setIfInBounds_toArray, List.set_cons_zero, List.set_cons_succ]
        refine wpAnyH_done (by kernel_rfl) ?_ _
        obtain ⟨P2, hpb2, hw2, hg2⟩ := HAD.out _ w5 y (.slice (some ⟨g2, 0, none⟩) ((E x).length + 1) cap2) HV.out HO5.out HG5.out (HA5.out.imp (fun h => h.symm) (fun h => by rw [h]; exact congrArg some HSZ.out.symm))
        have hg4 := HG3.out.trans hg2
        obtain ⟨he4, hn4⟩ := hg4.own HE.out HN.out
        have HW4 := Lib.hid hw2
        rw [← HNX.out] at HW4
        have HE4 := Lib.hid he4
        have HN4 := Lib.hid hn4
        have HB4 := Lib.hid (hg4.below HW.out HB.out)
        have hpb4 : P2.b = P.b := hpb2.trans hpb
        clear hw2 hg2 hg4 he4 hn4 p3 a4 a5 d5 f3 d2 d3 hHeld
        have hE4 := HEL.out
        go_wp2_with fail
        go_roundw
        case rel => exact ⟨k + 1, P2, by omega, by go_num, hpb4, HW4.out, HE4.out, HN4.out, HB4.out⟩
        case measure => simp [intOf]; omega
      · have hkn : k = (Gf.edges l).length := by omega
        subst hkn
        go_wp2_with fail
        go_ret
        have hw := HW.out
        rw [List.take_length] at hw
        exact ⟨P1, by rw [hpb]; rfl, hw, HB.out⟩
end Go.Proofs.YtgapcjgmmlffmaaDoor
