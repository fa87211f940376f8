/-
  What the calls of a stack of numbers answer: New, Ints, Len, Top, Push, Pop, All; and slices.Clone at a row of numbers.
  Conditions: the stack is one that stands in memory as New made it and its calls left it; its row has at most 2^32 numbers.
-/
import Derived.Test.YteccllhbacjhbaaStMem
import Derived.Lib.SliceRun
set_option maxRecDepth 4000
namespace Go.Proofs.Yteccllhbacjhbaa
open Go.RowKit

theorem st_zero (w : World) : (zeroValue 3).run Try.prog w = .ok (.int .i64 0) w := by kernel_rfl
theorem st_cell (w : World) : (sizeOf 3).run Try.prog w = .ok 1 w := by kernel_rfl
theorem st_elem : Try.prog.elem 26 = 3 := by kernel_rfl
theorem st_desc : Try.prog.underlying 26 = some (.slice (Try.prog.elem 26)) := by rw [st_elem]; exact Try.underlying26

/-- What New hands back: a pointer to an empty stack in memory of the call's own. -/
def RetNew (t e : TypeId) (n : Nat) {α : Type} (f : α → List Value) (most : Int) (w : World) (x : Ending) (w' : World) : Prop := x = .returned (.pointer (some ⟨w.heap.size, 0, none⟩)) ∧ Stk t e n f w.heap.size most none [] w' ∧ Below w.heap.size w w'

theorem stNew_at (most : Int) (w : World) : Calls Try.prog 25 #[.int .i64 most] w (RetNew 57 3 1 nC most w) := by
  have S0 := Lib.hid (Stk.new 57 3 1 nC w most)
  have B0 := Lib.hid (alloc_below w (.cells #[.int .i64 most, .slice none 0 0] 57))
  go_enter Try.func25, Try.ntmps25
  go_wp2_with fail
  go_ret
  exact ⟨rfl, S0.out, B0.out⟩
theorem stInts_at (most : Int) (w : World) : Calls Try.prog 8 #[.int .i64 most] w (RetNew 57 3 1 nC most w) := by
  go_enter Try.func8, Try.ntmps8
  go_wp2_with fail
  refine (stNew_at most _).mono ?_
  rintro e w1 ⟨rfl, hs, hb⟩
  have S1 := Lib.hid hs
  have B1 := Lib.hid hb
  clear hs hb
  go_wp2_with fail
  go_ret
  exact ⟨rfl, S1.out, B1.out⟩

section
variable {B : Nat} {most : Int} {r : Option Nat} {l : List Int}
theorem stLen_at (w : World) (h : Stk 57 3 1 nC B most r l w) : Calls Try.prog 16 #[.pointer (some ⟨B, 0, none⟩)] w fun e w' => e = .returned (.int .i64 (l.length : Nat)) ∧ w' = w := by
  obtain ⟨A, c, _, c0, c1, _, _⟩ := h.reads
  clear h
  go_enter Try.func16, Try.ntmps16
  go_wp2_with fail
  go_ret
  exact ⟨rfl, rfl⟩
/-- The top of a stack that has none. -/
theorem stTop_none (w : World) (h : Stk 57 3 1 nC B most r l w) (hl : l.length = 0) : Calls Try.prog 14 #[.pointer (some ⟨B, 0, none⟩)] w fun e w' => e = .returned (.tuple #[.int .i64 0, .bool false]) ∧ w' = w := by
  have H := Lib.hid h
  have HL := Lib.hid hl
  clear h hl
  go_enter Try.func14, Try.ntmps14
  go_wp2_with fail
  refine (stLen_at _ H.out).mono ?_
  rintro e w1 ⟨rfl, rfl⟩
  rw [HL.out]
  go_wp2_with fail
  go_ret2
  exact ⟨rfl, rfl⟩
theorem stTop_some (w : World) (h : Stk 57 3 1 nC B most r l w) (m : Nat) (hl : l.length = m + 1) (hm : m < 4294967296) (x : Int) (hx : l[m]? = some x) : Calls Try.prog 14 #[.pointer (some ⟨B, 0, none⟩)] w fun e w' => e = .returned (.tuple #[.int .i64 x, .bool true]) ∧ w' = w := by
  have H := Lib.hid h
  obtain ⟨A, c, _, _, c1, _, ho⟩ := h.reads
  obtain ⟨A', c', e', hf⟩ := Ns.spelled (Rows'.own ho)
  cases e'
  have hlt : m < l.length := by omega
  obtain ⟨ad, rfl, _, hc⟩ := hf m hlt
  have hx' : l[m] = x := by rw [List.getElem?_eq_getElem hlt] at hx; exact Option.some.inj hx
  rw [hx'] at hc
  rw [hl] at c1
  have HL := Lib.hid hl
  have hw : IntKind.i64.wrap (((m + 1 : Nat) : Int) - 1) = (m : Int) := by rw [IntWalk.i64_in _ (by omega)]; omega
  have hs : ((m + 1 : Nat) : Int) - 1 = (m : Int) := by omega
  have hz : (((m + 1 : Nat) : Int) == 0) = false := by rw [beq_eq_false_iff_ne]; omega
  have hi : (m : Int) < ((m + 1 : Nat) : Int) := by omega
  clear h hl ho hf hx hx' hlt
  go_enter Try.func14, Try.ntmps14
  go_wp2_with fail
  refine (stLen_at _ H.out).mono ?_
  rintro e w1 ⟨rfl, rfl⟩
  rw [HL.out]
  clear H HL
  generalize m + 1 = m1 at *
  go_wp2_with fail
  go_ret2
  exact ⟨rfl, rfl⟩
/-- A push where there is room. -/
theorem stPush_yes (x : Int) (w : World) (h : Stk 57 3 1 nC B most r l w) (hl : l.length ≤ 4294967296) (hm : (l.length : Int) < most) : Calls Try.prog 10 #[.pointer (some ⟨B, 0, none⟩), .int .i64 x] w (RetStk 57 3 1 nC B most r w (.bool true) (l ++ [x])) := by
  obtain ⟨i0, hi0, hz0, hz1, hz2⟩ := info_parts int_info
  have I0 := Lib.hid hi0
  have I1 := Lib.hid hz0
  have I2 := Lib.hid hz1
  have I3 := Lib.hid hz2
  clear hi0 hz0 hz1 hz2
  have H := Lib.hid h
  obtain ⟨A, c, hr, c0, c1, _, ho⟩ := h.reads
  have HR := Lib.hid hr
  have HO := Lib.hid ho
  have hd : decide (most ≤ (l.length : Int)) = false := decide_eq_false (by omega)
  have hle : B + 1 ≤ w.heap.size := h.lt
  clear h hr ho hm
  go_enter Try.func10, Try.ntmps10
  go_wp2_with fail
  go_quiet (first | (go_at_call 16; exact Calls.quiet_of_same (stLen_at _ (H.out.drewN _))))
  have HQ := Lib.hid (H.out.drewN nq)
  have HOQ := Lib.hid (own_drewN HO.out nq)
  have c2 : (w.drewN nq).cell? ⟨B, 1, none⟩ = some (.slice A l.length c) := c1
  go_wp2_with (at_builtin; refine wpList_append_own_at _ rfl _ _ 26 rfl (B + 1) 3 i0 _ 1 8 Try.underlying26 I0.out I1.out I2.out I3.out rfl (by decide) (.slice A l.length c) l.length _ rfl (HOQ.out.alloc (.cells #[.int .i64 x] 3)) ⟨w.heap.size, 0, none⟩ 1 1 (nC x) rfl rfl (new_nC (w.drewN nq) x 3) (one_nC _) (by simp only [maxLen]; omega) (by omega) (by simp; omega) ?_; intro v' w1 hown' hgrow _ hat; rw [HR.out] at hgrow hat; obtain ⟨A5, c5, rfl⟩ := own_form hown'; obtain ⟨⟨v1, hv1⟩, hf1, HG⟩ := HQ.out.grow (alloc_below (w.drewN nq) (.cells #[.int .i64 x] 3)) (l' := l ++ [x]) (by rw [List.length_append, flat_snoc]; exact hown') hgrow hat; have HG := Lib.hid HG; clear hown' hgrow hat)
  go_ret
  obtain ⟨r', hs, hmv, ht⟩ := HG.out
  exact ⟨rfl, r', hs, hmv, (Touch.of_below (drewN_below w nq)).trans (.inl rfl) ht⟩
/-- A push where there is none. -/
theorem stPush_no (x : Int) (w : World) (h : Stk 57 3 1 nC B most r l w) (hm : most ≤ (l.length : Int)) : Calls Try.prog 10 #[.pointer (some ⟨B, 0, none⟩), .int .i64 x] w (RetStay 57 3 1 nC B most r w (.bool false) l) := by
  have H := Lib.hid h
  obtain ⟨A, c, _, c0, c1, _, _⟩ := h.reads
  have hd : decide (most ≤ (l.length : Int)) = true := decide_eq_true hm
  clear h hm
  go_enter Try.func10, Try.ntmps10
  go_wp2_with fail
  go_quiet (first | (go_at_call 16; exact Calls.quiet_of_same (stLen_at _ (H.out.drewN _))))
  have HQ := Lib.hid (H.out.drewN nq)
  go_wp2_with fail
  go_ret
  exact ⟨rfl, HQ.out, Touch.of_below (drewN_below w nq)⟩
/-- Of a stack that has none nothing is taken. -/
theorem stPop_none (w : World) (h : Stk 57 3 1 nC B most r l w) (hl : l.length = 0) : Calls Try.prog 12 #[.pointer (some ⟨B, 0, none⟩)] w fun e w' => e = .returned (.tuple #[.int .i64 0, .bool false]) ∧ w' = w := by
  have H := Lib.hid h
  have HL := Lib.hid hl
  clear h hl
  go_enter Try.func12, Try.ntmps12
  go_wp2_with fail
  refine (stTop_none _ H.out HL.out).mono ?_
  rintro e w1 ⟨rfl, rfl⟩
  go_wp2_with fail
  go_ret2
  exact ⟨rfl, rfl⟩
set_option maxHeartbeats 1000000 in
/-- The last one is taken. -/
theorem stPop_some (w : World) (h : Stk 57 3 1 nC B most r l w) (m : Nat) (hl : l.length = m + 1) (hm : m < 4294967296) (x : Int) (hx : l[m]? = some x) : Calls Try.prog 12 #[.pointer (some ⟨B, 0, none⟩)] w (RetStay 57 3 1 nC B most r w (.tuple #[.int .i64 x, .bool true]) (l.take m)) := by
  have H := Lib.hid h
  have HX := Lib.hid (fun w h => stTop_some (most := most) (r := r) (B := B) w h m hl hm x hx)
  have HN := Lib.hid (stLen_at w h)
  rw [hl] at HN
  obtain ⟨A, c, A', c', W1, c1, s1, s2, hcl, c2, f2, hS, hT⟩ := h.cut (T := 26) hl nC_len (P := Try.prog) st_desc st_elem st_cell st_zero rfl (one_nC 0)
  have HS := Lib.hid hS
  have HT := Lib.hid hT
  have hw : IntKind.i64.wrap (((m + 1 : Nat) : Int) - 1) = (m : Int) := by rw [IntWalk.i64_in _ (by omega)]; omega
  have hs : ((m + 1 : Nat) : Int) - 1 = (m : Int) := by omega
  have hmb : (m : Int) < 4294967296 := by omega
  clear h hl hx hS hT hm
  go_enter Try.func12, Try.ntmps12
  go_wp2_with fail
  refine (HX.out _ H.out).mono ?_
  rintro e w1 ⟨rfl, rfl⟩
  clear HX H
  generalize m + 1 = m1 at *
  go_wp2_with fail
  refine (HN.out).mono ?_
  rintro e w2 ⟨rfl, rfl⟩
  clear HN
  go_wp2_with fail
  go_ret2
  exact ⟨rfl, HS.out, HT.out⟩
/-- A row held against nil. -/
theorem st_isNil (A : Option Addr) (n c : Nat) (W : World) : (binOp .eql 26 (.slice A n c) (.slice none 0 0)).run Try.prog W = .ok (.bool A.isNone) W := Lib.run_eql_slice_nil W _ _ A n c 0 0 Try.underlying26
theorem stClone_at (l : List Int) (ad : Addr) (c : Nat) (w : World) (hv : Ns w (.slice (some ad) l.length c) l) (hl : l.length ≤ 4294967296) : Calls Try.prog 26 #[.slice (some ad) l.length c] w (RetNs w l) := by
  obtain ⟨i0, hi0, hz0, hz1, hz2⟩ := info_parts int_info
  have I0 := Lib.hid hi0
  have I1 := Lib.hid hz0
  have I2 := Lib.hid hz1
  have I3 := Lib.hid hz2
  clear hi0 hz0 hz1 hz2
  have q0 := fun W => st_isNil (some ad) l.length c W
  have O1 := Lib.hid (World.ownsRow_made (base := w.heap.size) (e := 3) (size := 1) w #[] 0 (Nat.le_refl _) (Nat.zero_le _) rfl)
  have B1 := Lib.hid (alloc_below w (.cells #[] 3))
  have V1 := Lib.hid (hv.below (alloc_below w (.cells #[] 3)))
  have HONE : Hid (∀ u ∈ l.flatMap nC, u.oneCell' = true) := fun u hu => by
    obtain ⟨y, _, hy⟩ := List.mem_flatMap.1 hu
    exact one_nC y u hy
  clear hv
  go_enter Try.func26, Try.ntmps26
  go_wp2_with (at_builtin; refine wpList_append_sl _ rfl (.tmp 5) (.tmp 6) 26 rfl w.heap.size 3 i0 _ 1 8 Try.underlying26 I0.out I1.out I2.out I3.out rfl (by decide) (.slice (some ⟨w.heap.size, 0, none⟩) 0 0) 0 [] rfl O1.out (.slice (some ad) l.length c) l.length (l.flatMap nC) rfl V1.out HONE.out (by simp only [maxLen]; omega) (by omega) B1.out.size ?_; intro v' w1 hown' hgrow _; have HW := Lib.hid hown'; have HB := Lib.hid (below_append B1.out B1.out.size O1.out hgrow); clear hown' hgrow)
  go_ret
  exact ⟨_, rfl, by have := HW.out; rwa [Nat.zero_add, List.nil_append] at this, HB.out⟩
theorem stAll_at (w : World) (h : Stk 57 3 1 nC B most r l w) (hl : l.length ≤ 4294967296) : Calls Try.prog 18 #[.pointer (some ⟨B, 0, none⟩)] w (RetNs w l) := by
  have HN := Lib.hid (stLen_at w h)
  obtain ⟨A, c, _, _, c1, _, ho⟩ := h.reads
  clear h
  by_cases h0 : l.length = 0
  · obtain rfl : l = [] := List.eq_nil_of_length_eq_zero h0
    dsimp only [List.length_nil] at *
    clear c1 ho h0 hl
    go_enter Try.func18, Try.ntmps18
    go_wp2_with fail
    refine (HN.out).mono ?_
    rintro e w1 ⟨rfl, rfl⟩
    go_wp2_with fail
    go_ret
    exact ⟨_, rfl, World.ownsRow_nil _ _ _ _, Below.refl _ _⟩
  · obtain ⟨A', c', e', hf⟩ := Ns.spelled (Rows'.own ho)
    cases e'
    obtain ⟨ad, rfl, -, -⟩ := hf 0 (by omega)
    have hz : ((l.length : Int) == 0) = false := by rw [beq_eq_false_iff_ne]; omega
    have HC := Lib.hid (stClone_at l ad c w (Rows'.own ho) hl)
    clear hf ho hl
    generalize hm : l.length = m at *
    clear hm
    go_enter Try.func18, Try.ntmps18
    go_wp2_with fail
    refine (HN.out).mono ?_
    rintro e w1 ⟨rfl, rfl⟩
    go_wp2_with fail
    refine (HC.out).mono ?_
    rintro e w1 ⟨v1, rfl, ho1, hb1⟩
    have O1 := Lib.hid ho1
    have B1 := Lib.hid hb1
    obtain ⟨A1, n1, c1, rfl⟩ := own_any ho1
    clear ho1 hb1
    go_wp2_with fail
    go_ret
    exact ⟨_, rfl, O1.out, B1.out⟩
end
end Go.Proofs.Yteccllhbacjhbaa
