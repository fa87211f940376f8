/-
  What source's small functions answer: isOp, checkOps, numbersOf, keysOf, and slices.Index and slices.Contains over items; what was in memory stays as it was.
  Conditions: a row has at most 2^32 elements.
-/
import Derived.Test.YtodahdnooidmaaaSoMem
set_option maxRecDepth 4000
namespace Go.Proofs.Ytodahdnooidmaaa
open Go.RowKit

namespace So
/-- The first transaction with an error of the p-th kind, and that error. -/
def firstR (l : List Gr.Tx) (p : Nat) : Int × Int := match firstNZ (phase l p) l.length with
  | some i => ((i : Int), phase l p i)
  | none => (0, 0)
theorem first_bad (l : List Gr.Tx) (p i : Nat) (hi : i < l.length) (h0 : ∀ j, j < i → phase l p j = 0) (hq : phase l p i ≠ 0) : firstR l p = ((i : Int), phase l p i) := by rw [firstR, nz_some hi h0 hq]
theorem first_ok (l : List Gr.Tx) (p : Nat) (h : Clean l p) : firstR l p = (0, 0) := by rw [firstR, nz_none h]
theorem may_bad (l : List Gr.Tx) (i : Nat) (hi : i < l.length) (h : mayT l[i] ≠ true) : phase l 0 i = 1 := by
  rw [phase_at l 0 i hi]
  simp [phaseT, h]
theorem may_good (l : List Gr.Tx) (i : Nat) (hi : i < l.length) (h : mayT l[i] = true) : phase l 0 i = 0 := by
  rw [phase_at l 0 i hi]
  simp [phaseT, h]
theorem next_zero {f : Nat → Int} {k : Nat} (h : ∀ j, j < k → f j = 0) (hk : f k = 0) : ∀ j, j < k + 1 → f j = 0 := fun j hj => by
  by_cases e : j = k
  · rw [e]; exact hk
  · exact h j (by omega)
end So
/-- Two numbers, in whatever memory was made. -/
def RetTwo (w : World) (r : Int × Int) (e : Ending) (w' : World) : Prop := e = .returned (.tuple #[.int .i64 r.1, .int .i64 r.2]) ∧ Below w.heap.size w w'
theorem RetTwo.mk {w w' : World} {r : Int × Int} {a b : Int} (h : r = (a, b)) (hb : Below w.heap.size w w') : RetTwo w r (.returned (.tuple #[.int .i64 a, .int .i64 b])) w' := by
  subst h
  exact ⟨rfl, hb⟩

theorem soIsOp_at (x : Ev.Event) (w : World) : Calls Try.prog 25 #[evV x] w (RetBool w (isOpB x)) := by
  have key : Hid (Ev.right x = false ∧ isOpB x = false) ∨ Hid (Ev.right x = true) ∧ ((x.kind == 1) = true ∧ Hid (isOpB x = true) ∨ (x.kind == 1) = false ∧ ((x.kind == 2) = true ∧ Hid (isOpB x = true) ∨ (x.kind == 2) = false ∧ Hid (isOpB x = false))) := by
    unfold Hid isOpB
    cases hr : Ev.right x with
    | false => exact .inl ⟨rfl, rfl⟩
    | true =>
      refine .inr ⟨rfl, ?_⟩
      rw [Bool.true_and]
      by_cases h1 : x.kind = 1
      · exact .inl ⟨beq_iff_eq.2 h1, (Ev.hasKey_iff _).2 (.inl h1)⟩
      · by_cases h2 : x.kind = 2
        · exact .inr ⟨beq_eq_false_iff_ne.2 h1, .inl ⟨beq_iff_eq.2 h2, (Ev.hasKey_iff _).2 (.inr h2)⟩⟩
        · refine .inr ⟨beq_eq_false_iff_ne.2 h1, .inr ⟨beq_eq_false_iff_ne.2 h2, ?_⟩⟩
          cases hk : Ev.hasKey x.kind with
          | false => rfl
          | true => rcases (Ev.hasKey_iff _).1 hk with h | h
                    · exact absurd h h1
                    · exact absurd h h2
  have HC := Lib.hid (evRight_at x)
  obtain ⟨a, b, c, d⟩ := x
  unfold evV at HC ⊢
  dsimp only at HC key ⊢
  rcases key with hr | ⟨hr, ⟨k1, hv⟩ | ⟨k1, ⟨k2, hv⟩ | ⟨k2, hv⟩⟩⟩
  · go_enter Try.func25, Try.ntmps25
    go_wp2_with fail
    refine (HC.out _).mono ?_
    rintro e w1 ⟨rfl, hb⟩
    rw [hr.out.1]
    have HB := Lib.hid (below_new hb)
    clear hb
    go_wp2_with fail
    go_ret
    exact ⟨ret_bool (by rw [hr.out.2]), HB.out⟩
  all_goals
    go_enter Try.func25, Try.ntmps25
    go_wp2_with fail
    refine (HC.out _).mono ?_
    rintro e w1 ⟨rfl, hb⟩
    rw [hr.out]
    have e0 : w1.cell? ⟨w.heap.size, 0, none⟩ = some (.int .i64 a) := (hb.cell (by simp)).trans (new_cell w _ _ 0 _ rfl)
    have HB := Lib.hid (below_new hb)
    clear hb
    go_wp2_with fail
    go_ret
    exact ⟨ret_bool (by rw [hv.out]), HB.out⟩

set_option maxHeartbeats 1000000 in
theorem checkOps_at (l : List Gr.Tx) (v : Value) (w : World) (hv : Txs w v l) (hl : l.length ≤ 4294967296) (ho : ∀ t ∈ l, t.ops.length ≤ 4294967296) : Calls Try.prog 14 #[v] w (RetTwo w (So.firstR l 0)) := by
  obtain ⟨A, c, rfl, hform⟩ := hv.spelled
  have HF := Lib.hid hform
  have HO := Lib.hid ho
  clear hform hv ho
  go_enter Try.func14, Try.ntmps14
  go_wp2
  go_loopw [10] (fun i wr => ∃ k : Nat, k ≤ l.length ∧ i = .int .i64 k ∧ Hid (∀ j, j < k → So.phase l 0 j = 0) ∧ Below w.heap.size w wr) (fun i _ => l.length - (intOf i).toNat)
  case atStart => exact ⟨0, Nat.zero_le _, rfl, fun j hj => absurd hj (by omega), Below.refl _ _⟩
  case round =>
    obtain ⟨k, hk, rfl, hno, hB⟩ := hrel
    have HB := Lib.hid hB
    clear hB
    by_cases hlt : k < l.length
    · obtain ⟨ad, u, rfl, hblk, hT, hU⟩ := HF.out k hlt
      obtain ⟨t, ht⟩ : ∃ t, t = l[k]'hlt := ⟨_, rfl⟩
      have hol : t.ops.length ≤ 4294967296 := by rw [ht]; exact HO.out _ (List.getElem_mem _)
      have HBAD := Lib.hid (So.may_bad l k hlt)
      have HGOOD := Lib.hid (So.may_good l k hlt)
      rw [← ht] at hT hU HBAD HGOOD
      obtain ⟨Au, cu, rfl, hev⟩ := hU.spelled
      have HEV := Lib.hid hev
      obtain ⟨hc0, hc1, hc2, hc3⟩ := hT.below hblk HB.out
      clear hT hU hev ht
      by_cases hs0 : t.session < 0
      · have hd : decide (t.session < 0) = true := by simpa using hs0
        have HR : Hid (So.firstR l 0 = ((k : Int), 1)) := by
          have e := HBAD.out (fun h => by have := ((So.mayT_iff t).1 h).2.1; omega)
          rw [Hid, So.first_bad l 0 k hlt hno.out (by rw [e]; decide), e]
        clear hs0
        go_wp2_with fail
        go_ret2
        exact RetTwo.mk HR.out (below_all HB.out (alloc_below _ _))
      by_cases hs8 : t.session ≥ 8
      · have hd : decide (t.session < 0) = false := by simpa using hs0
        have hd2 : decide (t.session ≥ 8) = true := by simpa using hs8
        have HR : Hid (So.firstR l 0 = ((k : Int), 1)) := by
          have e := HBAD.out (fun h => by have := ((So.mayT_iff t).1 h).2.2; omega)
          rw [Hid, So.first_bad l 0 k hlt hno.out (by rw [e]; decide), e]
        clear hs0 hs8
        go_wp2_with fail
        go_ret2
        exact RetTwo.mk HR.out (below_all HB.out (alloc_below _ _))
      have hd : decide (t.session < 0) = false := by simpa using hs0
      have hd2 : decide (t.session ≥ 8) = false := by simpa using hs8
      have HS : Hid (0 ≤ t.session ∧ t.session < 8) := by rw [Hid]; omega
      clear hs0 hs8
      go_wp2_with fail
      generalize hW : wr.alloc (.cells #[.int .i64 t.session, .bool t.done, .int .i64 t.first, .slice Au t.ops.length cu] 37) = W
      have HBW : Hid (Below w.heap.size w W) := by rw [← hW]; exact below_all HB.out (alloc_below _ _)
      clear hW HB
      go_loopw [27] (fun i wx => ∃ m : Nat, m ≤ t.ops.length ∧ i = .int .i64 m ∧ Hid (∀ e ∈ t.ops.take m, isOpB e = true) ∧ Below w.heap.size w wx) (fun i _ => t.ops.length - (intOf i).toNat)
      case atStart => exact ⟨0, Nat.zero_le _, rfl, (fun e he => by cases he), HBW.out⟩
      case round =>
        obtain ⟨m, hm, rfl, hall, hB⟩ := hrel
        rename_i wx
        have HB := Lib.hid hB
        clear hB
        by_cases hmt : m < t.ops.length
        · obtain ⟨ad2, rfl, hblk2, hE⟩ := HEV.out m hmt
          obtain ⟨x, hx⟩ : ∃ x, x = t.ops[m]'hmt := ⟨_, rfl⟩
          rw [← hx] at hE
          obtain ⟨e0, e1, e2, e3⟩ := hE.below hblk2 HB.out
          have HX := Lib.hid hx
          clear hE hx
          go_wp2_with fail
          refine (soIsOp_at x _).mono ?_
          rintro e w1 ⟨rfl, hb1⟩
          have HB1 := Lib.hid (below_all HB.out (below_new hb1))
          clear hb1
          cases hop : isOpB x with
          | false =>
            have HR : Hid (So.firstR l 0 = ((k : Int), 1)) := by
              have e := HBAD.out (fun h => by
                have h1 := ((So.mayT_iff t).1 h).1 x (by rw [HX.out]; exact List.getElem_mem _)
                rw [isOpB] at hop
                rw [hop] at h1
                cases h1)
              rw [Hid, So.first_bad l 0 k hlt hno.out (by rw [e]; decide), e]
            go_wp2_with fail
            go_ret2
            exact RetTwo.mk HR.out HB1.out
          | true =>
            have HN : Hid (∀ e ∈ t.ops.take (m + 1), isOpB e = true) := fun e he => by
              rw [List.take_succ_eq_append_getElem hmt] at he
              rcases List.mem_append.1 he with he | he
              · exact hall.out e he
              · rw [List.mem_singleton.1 he, ← HX.out]; exact hop
            go_wp2_with fail
            go_roundw
            case rel => exact ⟨m + 1, by omega, by go_num, HN, HB1.out⟩
            case measure => simp [intOf]; omega
        · have HZ : Hid (So.phase l 0 k = 0) := HGOOD.out ((So.mayT_iff t).2 ⟨fun e he => hall.out e (by rw [List.take_of_length_le (by omega)]; exact he), HS.out⟩)
          go_wp2_with fail
          go_roundw
          case rel => exact ⟨k + 1, by omega, by go_num, So.next_zero hno.out HZ.out, HB.out⟩
          case measure => simp [intOf]; omega
    · have HR : Hid (So.firstR l 0 = (0, 0)) := So.first_ok l 0 (fun j hj => hno.out j (by omega))
      go_wp2_with fail
      go_ret2
      exact RetTwo.mk HR.out HB.out

/-! Numbers, keys, items. -/
theorem int_info : (Try.prog.info? 3).map (fun i => (i.zero, i.size, i.bytes)) = some (some (.int .i64 0), 1, 8) := by kernel_rfl
/-- A row of numbers of the call's own. -/
def RetNs (w : World) (l : List Int) (e : Ending) (w' : World) : Prop := ∃ v, e = .returned v ∧ w'.ownsRow w.heap.size 3 1 v l.length (l.flatMap nC) ∧ Below w.heap.size w w'
theorem new_nC (w : World) (n : Int) (e : TypeId) : ∀ j u, (nC n)[j]? = some u → (w.alloc (.cells #[.int .i64 n] e)).cell? ((⟨w.heap.size, 0, none⟩ : Addr).add j) = some u := new_row w (nC n) e
set_option maxHeartbeats 1000000 in
theorem keysOf_at (l : List (Int × Int)) (v : Value) (w : World) (hv : Its w v l) (hl : l.length ≤ 4294967296) : Calls Try.prog 28 #[v] w (RetNs w (l.map (·.1))) := by
  obtain ⟨i0, hi0, hz0, hz1, hz2⟩ := info_parts int_info
  have I0 := Lib.hid hi0
  have I1 := Lib.hid hz0
  have I2 := Lib.hid hz1
  have I3 := Lib.hid hz2
  clear hi0 hz0 hz1 hz2
  obtain ⟨A, c, rfl, hform⟩ := hv.spelled
  have HF := Lib.hid hform
  clear hform hv
  go_enter Try.func28, Try.ntmps28
  go_wp2
  go_loopw [3, 8] (fun v i wr => ∃ k : Nat, k ≤ l.length ∧ i = .int .i64 k ∧ wr.ownsRow w.heap.size 3 1 v k (((l.take k).map (·.1)).flatMap nC) ∧ Below w.heap.size w wr) (fun _ i _ => l.length - (intOf i).toNat)
  case atStart => exact ⟨0, Nat.zero_le _, rfl, World.ownsRow_nil _ _ _ _, Below.refl _ _⟩
  case round =>
    obtain ⟨k, hk, rfl, hown, hb⟩ := hrel
    have HO := Lib.hid hown
    have HB := Lib.hid hb
    obtain ⟨A', cp, rfl⟩ := own_form hown
    clear hown hb
    by_cases hlt : k < l.length
    · obtain ⟨ad, rfl, hblk, hT⟩ := HF.out k hlt
      obtain ⟨y, hy⟩ : ∃ y, y = l[k]'hlt := ⟨_, rfl⟩
      have HTK : Hid ((l.take (k + 1)).map (·.1) = (l.take k).map (·.1) ++ [y.1]) := by rw [Hid, List.take_succ_eq_append_getElem hlt, List.map_append, hy]; rfl
      rw [← hy] at hT
      obtain ⟨c0, c1⟩ := hT.below hblk HB.out
      have HO1 := Lib.hid ((HO.out.alloc (.cells #[.int .i64 y.1, .int .i64 y.2] 74)).alloc (.cells #[.int .i64 y.1] 3))
      have HB1 := Lib.hid (below_all (below_all HB.out (alloc_below wr (.cells #[.int .i64 y.1, .int .i64 y.2] 74))) (alloc_below _ (.cells #[.int .i64 y.1] 3)))
      have HN : Hid (∀ j u, (nC y.1)[j]? = some u → ((wr.alloc (.cells #[.int .i64 y.1, .int .i64 y.2] 74)).alloc (.cells #[.int .i64 y.1] 3)).cell? ((⟨wr.heap.size + 1, 0, none⟩ : Addr).add j) = some u) := by
        have := new_nC (wr.alloc (.cells #[.int .i64 y.1, .int .i64 y.2] 74)) y.1 3
        rw [size_new] at this
        exact this
      clear hT hy
      go_wp2_with (at_builtin; refine wpList_append_own_at _ rfl _ _ 38 rfl w.heap.size 3 i0 _ 1 8 Try.underlying38 I0.out I1.out I2.out I3.out rfl (by decide) _ k _ rfl HO1.out ⟨wr.heap.size + 1, 0, none⟩ 1 1 (nC y.1) rfl rfl HN.out (one_nC _) (by simp only [maxLen]; omega) (by omega) HB1.out.size ?_; intro v2 w2 hown2 hgrow2 hnil2 hat2; have HO2 := Lib.hid hown2; have HB2 := Lib.hid (below_append HB1.out HB1.out.size HO1.out hgrow2); clear hown2 hgrow2 hnil2 hat2)
      go_roundw
      case rel =>
        refine ⟨k + 1, by omega, by go_num, ?_, HB2.out⟩
        rw [HTK.out, List.flatMap_append]
        simpa using HO2.out
      case measure => simp [intOf]; omega
    · have HK : Hid (l.take k = l ∧ k = l.length) := ⟨List.take_of_length_le (by omega), by omega⟩
      go_wp2_with fail
      go_ret
      have h := HO.out
      rw [HK.out.1] at h
      refine ⟨_, rfl, ?_, HB.out⟩
      rw [List.length_map]
      rw [HK.out.2] at h ⊢
      exact h

/-- Where an item stands in a row of items, or -1. -/
def idxR (l : List (Int × Int)) (y : Int × Int) : Int := match l.findIdx? (fun z => decide (z = y)) with
  | some i => (i : Int)
  | none => -1
theorem idx_hit (l : List (Int × Int)) (y : Int × Int) (k : Nat) (hk : k < l.length) (h : ∀ j (hj : j < l.length), j < k → l[j] ≠ y) (he : l[k] = y) : idxR l y = (k : Int) := by
  have : l.findIdx? (fun z => decide (z = y)) = some k := by
    rw [List.findIdx?_eq_some_iff_getElem]
    exact ⟨hk, by simpa using he, fun j hj => by simpa using h j (by omega) hj⟩
  rw [idxR, this]
theorem idx_none (l : List (Int × Int)) (y : Int × Int) (h : ∀ j (hj : j < l.length), l[j] ≠ y) : idxR l y = -1 := by
  have : l.findIdx? (fun z => decide (z = y)) = none := by
    rw [List.findIdx?_eq_none_iff]
    intro x hx
    obtain ⟨j, hj, rfl⟩ := List.getElem_of_mem hx
    simpa using h j hj
  rw [idxR, this]
theorem idx_pos (l : List (Int × Int)) (y : Int × Int) : decide (idxR l y ≥ 0) = decide (y ∈ l) := by
  by_cases hm : y ∈ l
  · have : ∃ k, ∃ hk : k < l.length, l[k] = y ∧ ∀ j (hj : j < l.length), j < k → l[j] ≠ y := by
      have hs : (l.findIdx? (fun z => decide (z = y))).isSome := by
        rw [List.findIdx?_isSome, List.any_eq_true]
        exact ⟨y, hm, by simp⟩
      obtain ⟨k, hk⟩ := Option.isSome_iff_exists.1 hs
      obtain ⟨h1, h2, h3⟩ := List.findIdx?_eq_some_iff_getElem.1 hk
      exact ⟨k, h1, by simpa using h2, fun j _ hjk => by simpa using h3 j hjk⟩
    obtain ⟨k, hk, he, h⟩ := this
    rw [idx_hit l y k hk h he, decide_eq_true (by omega), decide_eq_true hm]
  · rw [idx_none l y (fun j hj e => hm (e ▸ List.getElem_mem hj)), decide_eq_false hm]
    rfl
set_option maxHeartbeats 1000000 in
theorem itIndex_at (l : List (Int × Int)) (y : Int × Int) (v : Value) (w : World) (hv : Its w v l) (hl : l.length ≤ 4294967296) : Calls Try.prog 49 #[v, .agg #[.int .i64 y.1, .int .i64 y.2]] w fun e w' => e = .returned (.int .i64 (idxR l y)) ∧ Below w.heap.size w w' := by
  obtain ⟨A, c, rfl, hform⟩ := hv.spelled
  have HF := Lib.hid hform
  clear hform hv
  go_enter Try.func49, Try.ntmps49
  go_wp2
  have HW : Hid (Below w.heap.size w (w.alloc (.cells #[.int .i64 y.1, .int .i64 y.2] 74))) := alloc_below _ _
  have HC : Hid ((w.alloc (.cells #[.int .i64 y.1, .int .i64 y.2] 74)).cell? ⟨w.heap.size, 0, none⟩ = some (.int .i64 y.1) ∧ (w.alloc (.cells #[.int .i64 y.1, .int .i64 y.2] 74)).cell? ⟨w.heap.size, 1, none⟩ = some (.int .i64 y.2)) := ⟨new_cell w _ _ 0 _ rfl, new_cell w _ _ 1 _ rfl⟩
  go_loopw [8] (fun i wr => ∃ k : Nat, k ≤ l.length ∧ i = .int .i64 k ∧ Hid (∀ j (hj : j < l.length), j < k → l[j] ≠ y) ∧ (wr.cell? ⟨w.heap.size, 0, none⟩ = some (.int .i64 y.1) ∧ wr.cell? ⟨w.heap.size, 1, none⟩ = some (.int .i64 y.2)) ∧ Below w.heap.size w wr) (fun i _ => l.length - (intOf i).toNat)
  case atStart => exact ⟨0, Nat.zero_le _, rfl, fun j _ hj => absurd hj (by omega), HC.out, HW.out⟩
  case round =>
    clear HW HC
    obtain ⟨k, hk, rfl, hno, ⟨d0, d1⟩, hb⟩ := hrel
    have HB := Lib.hid hb
    clear hb
    by_cases hlt : k < l.length
    · obtain ⟨ad, rfl, hblk, hT⟩ := HF.out k hlt
      obtain ⟨z, hz⟩ : ∃ z, z = l[k]'hlt := ⟨_, rfl⟩
      rw [← hz] at hT
      obtain ⟨c0, c1⟩ := hT.below hblk HB.out
      have HZ := Lib.hid hz
      have HD0 := Lib.hid d0
      have HD1 := Lib.hid d1
      clear hT hz
      by_cases he : z = y
      · have HR := Lib.hid (idx_hit l y k hlt hno.out (by rw [← HZ.out]; exact he))
        subst he
        go_wp2_with fail
        go_quiet (fail)
        go_wp2_with fail
        go_ret
        exact ⟨ret_int HR.out.symm, below_drewN HB.out _⟩
      · have hne : (y.1 == z.1) = false ∨ (y.1 == z.1) = true ∧ (y.2 == z.2) = false := by
          obtain ⟨a, b⟩ := z
          obtain ⟨a', b'⟩ := y
          simp only [beq_eq_false_iff_ne, beq_iff_eq]
          by_cases h1 : a' = a
          · exact .inr ⟨h1, fun h2 => he (by rw [h1, h2])⟩
          · exact .inl h1
        have HN : Hid (∀ j (hj : j < l.length), j < k + 1 → l[j] ≠ y) := fun j hj hjk => by
          by_cases e : j = k
          · subst e; rw [← HZ.out]; exact he
          · exact hno.out j hj (by omega)
        clear he
        rcases hne with q | ⟨q1, q2⟩
        all_goals
          go_wp2_with fail
          go_quiet (fail)
          go_wp2_with fail
          go_roundw
          case rel => exact ⟨k + 1, by omega, by go_num, HN, ⟨HD0.out, HD1.out⟩, below_drewN HB.out _⟩
          case measure => simp [intOf]; omega
    · have HR := Lib.hid (idx_none l y (fun j hj => hno.out j hj (by omega)))
      go_wp2_with fail
      go_ret
      exact ⟨ret_int HR.out.symm, HB.out⟩
theorem contains_at (l : List (Int × Int)) (y : Int × Int) (v : Value) (w : World) (hv : Its w v l) (hl : l.length ≤ 4294967296) : Calls Try.prog 47 #[v, .agg #[.int .i64 y.1, .int .i64 y.2]] w (RetBool w (decide (y ∈ l))) := by
  have HV := Lib.hid (hv.below (alloc_below w (.cells #[.int .i64 y.1, .int .i64 y.2] 74)))
  obtain ⟨A, c, rfl, _⟩ := hv.spelled
  have HP := Lib.hid (idx_pos l y)
  clear hv
  go_enter Try.func47, Try.ntmps47
  go_wp2_with fail
  refine (itIndex_at l y _ _ HV.out hl).mono ?_
  rintro e w1 ⟨rfl, hb⟩
  have HB := Lib.hid (below_new hb)
  clear hb
  go_wp2_with fail
  go_ret
  exact ⟨ret_bool HP.out, HB.out⟩

theorem made_ns (n : Nat) : (madeCells #[.int .i64 0] (n * 1)).toList = (List.replicate n (0 : Int)).flatMap nC := by
  rw [Nat.mul_one, toList_madeCells_one]
  induction n with
  | zero => rfl
  | succ n ih => rw [List.replicate_succ, List.replicate_succ, List.flatMap_cons, ← ih]; rfl
/-- The numbers so far, zeros behind them. -/
def numsMid (l : List Gr.Tx) (k : Nat) : List Int := numsTo l k ++ List.replicate (l.length - k) 0
theorem numsMid_len (l : List Gr.Tx) (k : Nat) (hk : k ≤ l.length) : (numsMid l k).length = l.length := by rw [numsMid, List.length_append, numsTo_len, List.length_replicate]; omega
theorem numsMid_set (l : List Gr.Tx) (k : Nat) (hk : k < l.length) : (numsMid l k).set k (((l.take k).filter (·.done)).length : Int) = numsMid l (k + 1) := by
  have e : l.length - k = (l.length - (k + 1)) + 1 := by omega
  rw [numsMid, numsMid, e, List.replicate_succ, List.set_append_right _ _ (by rw [numsTo_len]; omega), numsTo_len, Nat.sub_self, List.set_cons_zero, numsTo, numsTo, List.range_succ, List.map_append, List.append_assoc]
  rfl
set_option maxHeartbeats 1000000 in
theorem soNumbers_at (l : List Gr.Tx) (v : Value) (w : World) (hv : Txs w v l) (hl : l.length ≤ 4294967296) : Calls Try.prog 17 #[v] w (RetNs w (numsTo l l.length)) := by
  obtain ⟨i0, hi0, hz0, hz1, hz2⟩ := info_parts int_info
  have I0 := Lib.hid hi0
  have I1 := Lib.hid hz0
  have I2 := Lib.hid hz1
  have I3 := Lib.hid hz2
  clear hi0 hz0 hz1 hz2
  obtain ⟨A, c, rfl, hform⟩ := hv.spelled
  have HF := Lib.hid hform
  clear hform hv
  go_enter Try.func17, Try.ntmps17
  go_wp2_with (at_make; refine wpList_make_full _ rfl _ _ 38 rfl w.heap.size 3 i0 _ 1 Try.underlying38 I0.out I1.out I2.out .i64 .i64 _ _ l.length rfl rfl rfl rfl (by rw [I3.out]; omega) (by simp only [maxLen]; omega) (Nat.le_refl _) ?_; intro w1 hown hgrow; have HO1 := Lib.hid hown; have HB1 := Lib.hid (show Below w.heap.size w w1 from (Below.refl _ w).grown hgrow (Nat.le_refl _) (by simp)); clear hown hgrow)
  go_loopw [4, 12] (fun n i wr => ∃ k : Nat, k ≤ l.length ∧ i = .int .i64 k ∧ n = .int .i64 (((l.take k).filter (·.done)).length : Int) ∧ wr.ownsRow w.heap.size 3 1 (.slice (some ⟨w.heap.size, 0, none⟩) l.length l.length) l.length ((numsMid l k).flatMap nC) ∧ Below w.heap.size w wr) (fun _ i _ => l.length - (intOf i).toNat)
  case atStart =>
    refine ⟨0, Nat.zero_le _, rfl, rfl, ?_, HB1.out⟩
    have h := HO1.out
    rw [show (Value.int .i64 0).cells = #[.int .i64 0] from rfl, made_ns] at h
    exact h
  case round =>
    clear HO1 HB1
    obtain ⟨k, hk, rfl, rfl, hown, hb⟩ := hrel
    have HO := Lib.hid hown
    have HB := Lib.hid hb
    clear hown hb
    by_cases hlt : k < l.length
    · obtain ⟨ad, u, rfl, hblk, hT, hU⟩ := HF.out k hlt
      obtain ⟨t, ht⟩ : ∃ t, t = l[k]'hlt := ⟨_, rfl⟩
      have HNX := Lib.hid (So.done_next l k hlt)
      have HSET := Lib.hid (numsMid_set l k hlt)
      have hcl : ((l.take k).filter (·.done)).length ≤ 4294967296 := Nat.le_trans (List.length_filter_le _ _) (by rw [List.length_take]; omega)
      rw [← ht] at hT hU HNX
      obtain ⟨Au, cu, rfl, _⟩ := hU.form
      obtain ⟨hc0, hc1, hc2, hc3⟩ := hT.below hblk HB.out
      have HO2 := Lib.hid (HO.out.alloc (.cells #[.int .i64 t.session, .bool t.done, .int .i64 t.first, .slice Au t.ops.length cu] 37))
      have hcell : ∃ u, (wr.alloc (.cells #[.int .i64 t.session, .bool t.done, .int .i64 t.first, .slice Au t.ops.length cu] 37)).cell? ⟨w.heap.size, k, none⟩ = some u := by
        rw [HO2.out.cellAt k (by omega)]
        have : k < ((numsMid l k).flatMap nC).length := by rw [flat_len nC_len, numsMid_len l k (by omega)]; omega
        exact ⟨_, List.getElem?_eq_getElem this⟩
      obtain ⟨u0, hcell⟩ := hcell
      have hfro := HO2.out.frozenAt k
      have hgs := (HO.out.lt w.heap.size rfl).2
      have hne : ¬ wr.heap.size = w.heap.size := by omega
      have hnew := new_cell wr #[.int .i64 t.session, .bool t.done, .int .i64 t.first, .slice Au t.ops.length cu] 37 1 (.bool t.done) rfl
      have HNEW : Hid (((wr.setCell ⟨w.heap.size, k, none⟩ (.int .i64 (((l.take k).filter (·.done)).length : Int))).alloc (.cells #[.int .i64 t.session, .bool t.done, .int .i64 t.first, .slice Au t.ops.length cu] 37)).ownsRow w.heap.size 3 1 (.slice (some ⟨w.heap.size, 0, none⟩) l.length l.length) l.length ((numsMid l (k + 1)).flatMap nC) ∧ Below w.heap.size w ((wr.setCell ⟨w.heap.size, k, none⟩ (.int .i64 (((l.take k).filter (·.done)).length : Int))).alloc (.cells #[.int .i64 t.session, .bool t.done, .int .i64 t.first, .slice Au t.ops.length cu] 37))) := by
        refine ⟨World.ownsRow.alloc ?_ _, below_all (HB.out.setCell (Nat.le_refl _) _) (alloc_below _ _)⟩
        have h1 := (HO.out.stored k (.int .i64 (((l.take k).filter (·.done)).length : Int))).1
        have h2 := flat_set nC_len (numsMid l k) k (by rw [numsMid_len l k (by omega)]; exact hlt) 0 (by omega) (((l.take k).filter (·.done)).length : Int) (.int .i64 (((l.take k).filter (·.done)).length : Int)) rfl
        rw [Nat.mul_one, Nat.add_zero] at h2
        rw [h2, HSET.out] at h1
        exact h1
      clear hT hU ht HO HO2
      generalize ((l.take k).filter (·.done)).length = n1 at *
      cases hd : t.done with
      | true =>
        rw [hd] at HNX hc1 hnew HNEW hcell hfro
        go_wp2_with fail
        go_roundw
        case rel =>
          refine ⟨k + 1, by omega, by go_num, ?_, HNEW.out.1, HNEW.out.2⟩
          rw [HNX.out]
          go_num
        case measure => simp [intOf]; omega
      | false =>
        rw [hd] at HNX hc1 hnew HNEW hcell hfro
        go_wp2_with fail
        go_roundw
        case rel =>
          refine ⟨k + 1, by omega, by go_num, ?_, HNEW.out.1, HNEW.out.2⟩
          rw [HNX.out]
          go_num
        case measure => simp [intOf]; omega
    · have HK : Hid (numsMid l k = numsTo l l.length) := by
        obtain rfl : k = l.length := by omega
        rw [Hid, numsMid, Nat.sub_self]
        simp
      go_wp2_with fail
      go_ret
      refine ⟨_, rfl, ?_, HB.out⟩
      rw [numsTo_len, ← HK.out]
      exact HO.out
end Go.Proofs.Ytodahdnooidmaaa
