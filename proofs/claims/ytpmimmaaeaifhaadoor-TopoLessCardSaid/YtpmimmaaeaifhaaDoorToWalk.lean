/-
  What topo's Is and Order answer, of any graph and any row of numbers.
  Conditions: rows of the graph hold sets below 2^64; rows of at most 4294967296.
-/
import Derived.Test.YtpmimmaaeaifhaaDoorToAns
import Derived.Test.YtpmimmaaeaifhaaDoorGfAll
import Derived.Test.YtpmimmaaeaifhaaDoorBiAll
set_option maxRecDepth 4000
namespace Go.Proofs.YtpmimmaaeaifhaaDoor
open Go.RowKit

namespace To
open Gf Rc
theorem and_none {a b : Nat} : a &&& b = 0 ↔ ∀ y, a.testBit y = true → b.testBit y = false := by
  constructor
  · intro h y hy
    have := congrArg (fun z => z.testBit y) h
    simp only [Nat.testBit_and, Nat.zero_testBit, hy, Bool.true_and] at this
    exact this
  · intro h
    refine Nat.eq_of_testBit_eq fun y => ?_
    rw [Nat.testBit_and, Nat.zero_testBit]
    cases hy : a.testBit y with
    | false => rfl
    | true => rw [h y hy]; rfl
/-- Behind i rounds of Is: which numbers have a place, and that all is right so far. -/
structure Placed (k : Nat) (g : List Nat) (l : List Int) (i p : Nat) : Prop where
  small : p < 18446744073709551616
  good : ∀ j (hj : j < l.length), j < i → Good k g l j hj
  bits : ∀ y : Nat, y < 64 → (p.testBit y = true ↔ (y : Int) ∈ l.take i)
section
variable {k i p x : Nat} {g : List Nat} {l : List Int}
theorem Placed.start (k : Nat) (g : List Nat) (l : List Int) : Placed k g l 0 0 :=
  ⟨by decide, fun _ _ h => absurd h (Nat.not_lt_zero _), fun y _ => by rw [Nat.zero_testBit, List.take_zero]; simp⟩
theorem Placed.twice (m : Placed k g l i p) (hi : i < l.length) (hx : l[i] = (x : Int)) (hx64 : x < 64) (h : Bi.has p (x : Int) = true) : ¬ Good k g l i hi := by
  rintro ⟨y, e, _, h2, _⟩
  rw [hx] at e
  obtain rfl : x = y := by omega
  rw [Bi.has_nat p x hx64] at h
  exact h2 ((m.bits x hx64).1 h)
theorem not_node (hi : i < l.length) (h : l[i] < 0 ∨ (k : Int) ≤ l[i]) : ¬ Good k g l i hi := by
  rintro ⟨y, e, hy, _⟩
  omega
theorem take_more (hi : i < l.length) (hx : l[i] = (x : Int)) (y : Nat) : (y : Int) ∈ l.take (i + 1) ↔ (y : Int) ∈ l.take i ∨ y = x := by
  rw [List.take_succ_eq_append_getElem hi, List.mem_append, List.mem_singleton, hx]
  refine or_congr_right ?_
  omega
theorem with_bits (m : Placed k g l i p) (hi : i < l.length) (hx : l[i] = (x : Int)) (hx64 : x < 64) (y : Nat) (hy : y < 64) : (Bi.withN p (x : Int)).testBit y = true ↔ (y : Int) ∈ l.take (i + 1) := by
  rw [take_more hi hx, Bi.with_bit, Bi.ok_of x hx64, Bool.or_eq_true, Bool.true_and, decide_eq_true_iff, Int.toNat_natCast, m.bits y hy]
  exact or_congr_right eq_comm
/-- The row of a node has nothing in common with what is placed, the node too: it is right there. -/
theorem Placed.next (hg : Ok k g) (m : Placed k g l i p) (hi : i < l.length) (hx : l[i] = (x : Int)) (hxk : x < k) (hxg : x < g.length) (h : Bi.has p (x : Int) = false) (ha : g[x] &&& Bi.withN p (x : Int) = 0) : Placed k g l (i + 1) (Bi.withN p (x : Int)) := by
  have hx64 : x < 64 := Nat.lt_of_lt_of_le hxk hg.1
  have hw := with_bits m hi hx hx64
  have hno : ∀ y, y < k → (y : Int) ∈ l.take (i + 1) → bit g x y = false := fun y hy hm => by
    cases hb : bit g x y with
    | false => rfl
    | true =>
      rw [bit_at hxg] at hb
      have := and_none.1 ha y hb
      rw [(hw y (Nat.lt_of_lt_of_le hy hg.1)).2 hm] at this
      cases this
  refine ⟨Bi.with_lt m.small _, fun j hj hji => ?_, hw⟩
  rcases Nat.lt_succ_iff_lt_or_eq.1 hji with q | q
  · exact m.good j hj q
  · subst q
    refine ⟨x, hx, hxk, fun hm => ?_, hno x hxk ((take_more hi hx x).2 (.inr rfl)), fun b hb hbj y hy => ?_⟩
    · have := (m.bits x hx64).2 hm
      rw [Bi.has_nat p x hx64, this] at h
      cases h
    · obtain ⟨y', e, hy', _⟩ := m.good b hb hbj
      obtain rfl : y = y' := by rw [hy] at e; omega
      refine hno y hy' ((take_more hi hx y).2 (.inl ?_))
      rw [← hy, List.mem_take_iff_getElem]
      exact ⟨b, by omega, rfl⟩
theorem Placed.edge (hg : Ok k g) (m : Placed k g l i p) (hi : i < l.length) (hx : l[i] = (x : Int)) (hxk : x < k) (hxg : x < g.length) (ha : g[x] &&& Bi.withN p (x : Int) ≠ 0) : ¬ Good k g l i hi := by
  rintro ⟨x', e, _, _, h3, h4⟩
  obtain rfl : x = x' := by omega
  refine ha (and_none.2 fun y hy => ?_)
  rw [← bit_at hxg] at hy
  have hyk := (hg.node hy).2
  cases hb : (Bi.withN p (x : Int)).testBit y with
  | false => rfl
  | true =>
    have hm := (with_bits m hi hx (Nat.lt_of_lt_of_le hxk hg.1) y (Nat.lt_of_lt_of_le hyk hg.1)).1 hb
    rcases (take_more hi hx y).1 hm with q | q
    · obtain ⟨b, hb, e2⟩ := List.mem_take_iff_getElem.1 q
      rw [h4 b (by omega) (by omega) y e2] at hy
      cases hy
    · subst q
      rw [h3] at hy
      cases hy
theorem not_isA (hi : i < l.length) (h : ¬ Good k g l i hi) : ¬ IsA (k : Int) g l := fun hA => by
  obtain ⟨k', e, _, _, hall⟩ := isO_iff.2 hA
  obtain rfl : k = k' := by omega
  exact h (hall i hi)
theorem Placed.all (hg : Ok k g) (hl : l.length = k) (m : Placed k g l l.length p) : IsA (k : Int) g l := isO_iff.1 ⟨k, rfl, hg, hl, fun i hi => m.good i hi hi⟩
theorem isA_size {n : Int} (h : IsA n g l) : (l.length : Int) = n := by
  obtain ⟨k, rfl, _, e, _⟩ := isO_iff.2 h
  rw [e]
theorem isA_ok {n : Int} (h : IsA n g l) : okB n g = true := by
  obtain ⟨k, rfl, hg, _⟩ := h
  exact (okB_nat k g).2 hg
end

/-! The least node that is free, by the graph turned. -/
theorem free_test {k x p : Nat} {g d : List Nat} (hg : Ok k g) (hb : ∀ y : Nat, y < 64 → (p.testBit y = true ↔ y ∈ d)) (hx : x < k) (hxt : x < (turnR k g).length) : freeB k g d x = (!Bi.has p (x : Int) && Bi.sub (turnR k g)[x] p) := by
  have hx64 : x < 64 := Nat.lt_of_lt_of_le hx hg.1
  rw [Bool.eq_iff_iff, freeB_iff, Bool.and_eq_true, Bool.not_eq_true', Bi.has_nat p x hx64, Bi.sub_iff, ← Bool.not_eq_true, hb x hx64]
  refine and_congr_right fun _ => ⟨fun h j hj hbit => ?_, fun h j hj hbit => ?_⟩
  · rw [← bit_at hxt, turn_bit hg] at hbit
    exact (hb j hj).2 (h j (hg.node hbit).1 hbit)
  · have hj64 : j < 64 := Nat.lt_of_lt_of_le hj hg.1
    rw [← turn_bit hg, bit_at hxt] at hbit
    exact (hb j hj64).1 (h j hj64 hbit)
theorem more_bits {p x : Nat} {d : List Nat} (hb : ∀ y : Nat, y < 64 → (p.testBit y = true ↔ y ∈ d)) (hx : x < 64) (y : Nat) (hy : y < 64) : (Bi.withN p (x : Int)).testBit y = true ↔ y ∈ d ++ [x] := by
  rw [Bi.with_bit, Bi.ok_of x hx, Bool.or_eq_true, Bool.true_and, decide_eq_true_iff, Int.toNat_natCast, hb y hy, List.mem_append, List.mem_singleton]
  exact or_congr_right eq_comm
/-- The row that is filled: what has a place, zeros behind. -/
def rowOf (k : Nat) (d : List Nat) : List Int := Bi.nums d ++ List.replicate (k - d.length) 0
theorem rowOf_len {k : Nat} {d : List Nat} (h : d.length ≤ k) : (rowOf k d).length = k := by rw [rowOf, List.length_append, Bi.nums_len, List.length_replicate]; omega
theorem rowOf_set {k : Nat} {d : List Nat} (h : d.length < k) (x : Nat) : (rowOf k d).set d.length (x : Int) = rowOf k (d ++ [x]) := by
  obtain ⟨m, hm⟩ : ∃ m, k - d.length = m + 1 := ⟨k - d.length - 1, by omega⟩
  have hm2 : k - (d ++ [x]).length = m := by rw [List.length_append, List.length_singleton]; omega
  rw [rowOf, rowOf, hm, hm2, List.set_append_right _ _ (by rw [Bi.nums_len]; exact Nat.le_refl _), Bi.nums_len, Nat.sub_self, List.replicate_succ, List.set_cons_zero, Bi.nums_snoc, List.append_assoc]
  rfl
theorem rowOf_all {k : Nat} {d : List Nat} (h : d.length = k) : rowOf k d = Bi.nums d := by rw [rowOf, h, Nat.sub_self, List.replicate_zero, List.append_nil]
end To

/-! A row of numbers of the call's own. -/
theorem nC_flat (l : List Int) : (l.flatMap nC).length = l.length := by rw [flat_len nC_len, Nat.mul_one]
theorem nC_set (l : List Int) (k : Nat) (hk : k < l.length) (x : Int) : (l.flatMap nC).set k (.int .i64 x) = (l.set k x).flatMap nC := by
  have := flat_set nC_len l k hk 0 (by omega) x (.int .i64 x) rfl
  rw [Nat.mul_one, Nat.add_zero] at this
  exact this
theorem nC_zeros (n : Nat) : (List.replicate n (0 : Int)).flatMap nC = List.replicate n (.int .i64 0) := by
  induction n with
  | zero => rfl
  | succ n ih =>
    rw [List.replicate_succ, List.flatMap_cons, ih, List.replicate_succ]
    rfl
def RowI (W : World) (g : Nat) (l : List Int) : Prop := W.heap[g]? = some (.cells (l.flatMap nC).toArray 3 (0, 0))
section
variable {W W' : World} {base g : Nat} {l : List Int}
theorem RowI.own (h : RowI W g l) (hb : base ≤ g) (hl : l.length ≤ maxLen) : W.ownsRow base 3 1 (.slice (some ⟨g, 0, none⟩) l.length l.length) l.length (l.flatMap nC) :=
  ⟨by rw [nC_flat, Nat.mul_one], .inr ⟨g, l.length, (l.flatMap nC).toArray, rfl, hb, h, Nat.le_refl _, hl, by rw [List.size_toArray, nC_flat, Nat.mul_one], by rw [Nat.mul_one]; exact List.take_of_length_le (by rw [nC_flat]; exact Nat.le_refl _)⟩⟩
theorem RowI.cell (h : RowI W g l) (k : Nat) (hk : k < l.length) : W.cell? ⟨g, k, none⟩ = some (.int .i64 l[k]) := by
  have := flat_at nC_len l k hk 0 (by omega)
  rw [Nat.mul_one, Nat.add_zero] at this
  rw [cell_of_row W g k _ _ (0, 0) h, List.getElem?_toArray, this]
  rfl
theorem RowI.frozen (h : RowI W g l) (k : Nat) : W.frozen? ⟨g, k, none⟩ = false := frozen_of_row W g k _ _ h
theorem RowI.lt (h : RowI W g l) : g < W.heap.size := (Array.getElem?_eq_some_iff.1 h).1
theorem RowI.put (h : RowI W g l) (k : Nat) (hk : k < l.length) (x : Int) : RowI (W.setCell ⟨g, k, none⟩ (.int .i64 x)) g (l.set k x) := by
  have := heap_setCell_same W g k _ _ (.int .i64 x) h
  rw [List.setIfInBounds_toArray, nC_set l k hk x] at this
  exact this
theorem RowI.later (h : RowI W g l) (hb : Below W.heap.size W W') : RowI W' g l := (hb.block g h.lt).trans h
theorem RowI.made (W : World) (n : Nat) : RowI (W.alloc (.cells (madeCells #[.int .i64 0] n) 3)) W.heap.size (List.replicate n 0) := by
  have e : madeCells #[.int .i64 0] n = ((List.replicate n (0 : Int)).flatMap nC).toArray := by
    apply Array.ext'
    rw [toList_madeCells_one, nC_zeros]
  rw [RowI, ← e]
  exact World.alloc_heap_new W _
end
theorem to_make (w : World) (n : Nat) (hn : n ≤ 64) : (Instr.makeSlice 26 (.int .i64 (n : Int)) (.int .i64 (n : Int))).run Tryd.prog w = .ok (.slice (some ⟨w.heap.size, 0, none⟩) n n) (w.alloc (.cells (madeCells #[.int .i64 0] n) 3)) := by
  obtain ⟨i, hi, hz, hs, hb⟩ := info_parts int_info
  have := run_make (P := Tryd.prog) w 26 3 i _ Tryd.underlying26 hi hz .i64 .i64 (n : Int) (n : Int) (by omega) (Int.le_refl _) (by rw [hb]; omega) (by omega)
  rw [hs, Int.toNat_natCast, Nat.mul_one] at this
  exact this

theorem RowI.ns {W : World} {g k : Nat} {d : List Nat} (h : RowI W g (To.rowOf k d)) (hd : d.length = k) (hk : k ≤ 64) : Ns W (.slice (some ⟨g, 0, none⟩) k k) (Bi.nums d) := by
  rw [To.rowOf_all hd] at h
  have := Rows'.own (h.own (base := 0) (Nat.zero_le _) (by rw [Bi.nums_len, hd]; simp only [maxLen]; omega))
  rw [Bi.nums_len, hd] at this
  exact this

set_option maxHeartbeats 4000000 in
theorem toIs_at (n : Int) (u : Value) (g : List Nat) (l : List Int) (v : Value) (w : World) (hu : Us w u g) (hs : ∀ x ∈ g, x < 18446744073709551616) (hv : Ns w v l) (hl : l.length ≤ 4294967296) : Calls Tryd.prog 9 #[.agg #[.int .i64 n, u], v] w (RetIff w (To.IsA n g l)) := by
  have HU := Lib.hid hu
  have BW := Lib.hid (alloc_below w (.cells #[.int .i64 n, u] 24))
  have T0 := Lib.hid (Two.new w 24 (.int .i64 n) u)
  obtain ⟨A0, c0', rfl, hfu⟩ := hu.spelled
  have HFU := Lib.hid hfu
  have FR := Lib.hid (fun w h => gfRight_at n (.slice A0 g.length c0') g w h hs)
  obtain ⟨A1, c1', rfl, hform⟩ := hv.spelled
  have HF := Lib.hid hform
  have HSZ := Lib.hid (fun h : To.IsA n g l => To.isA_size h)
  have HSO := Lib.hid (fun h : To.IsA n g l => To.isA_ok h)
  have HS := Lib.hid hs
  clear hu hv hform hfu hs
  cases hok : Gf.okB n g with
  | false =>
    rw [hok] at FR HSO
    clear hok
    go_enter Tryd.func9, Tryd.ntmps9
    go_wp2_with fail
    generalize w.alloc (.cells #[.int .i64 n, .slice A0 g.length c0'] 24) = W at *
    refine (FR.out _ (HU.out.below BW.out)).mono ?_
    rintro e w1 ⟨rfl, hb1⟩
    have B1 := Lib.hid (below_all BW.out hb1)
    clear hb1
    go_wp2_with fail
    go_ret
    exact ret_iff_no (fun h => by cases HSO.out h) B1.out
  | true =>
    obtain ⟨k, rfl, hg⟩ := Gf.okB_iff.1 hok
    have HG := Lib.hid hg
    have HGL := Lib.hid hg.2.1
    have h64 := hg.1
    rw [hok] at FR
    clear hok hg HSO
    by_cases hlk : l.length = k
    · subst hlk
      have hq : ((l.length : Int) != (l.length : Int)) = false := by simp
      have hq2 : (l.length != l.length) = false := by simp
      go_enter Tryd.func9, Tryd.ntmps9
      go_wp2_with fail
      generalize w.alloc (.cells #[.int .i64 (l.length : Int), .slice A0 g.length c0'] 24) = W at *
      refine (FR.out _ (HU.out.below BW.out)).mono ?_
      rintro e w1 ⟨rfl, hb1⟩
      have T1 := Lib.hid (T0.out.later hb1)
      have B1 := Lib.hid (below_all BW.out hb1)
      clear hb1 BW T0
      obtain ⟨a0, a1⟩ := T1.out.cells
      go_wp2_with fail
      clear a0 a1 hq hq2
      go_loopw [5, 20] (fun pl i wr => ∃ (x p : Nat), x ≤ l.length ∧ pl = .int .u64 (p : Int) ∧ i = .int .i64 x ∧ Hid (To.Placed l.length g l x p) ∧ Hid (Below w1.heap.size w1 wr)) (fun _ i _ => l.length - (intOf i).toNat)
      case atStart => exact ⟨0, 0, Nat.zero_le _, rfl, rfl, To.Placed.start _ g l, Below.refl _ _⟩
      case round =>
        obtain ⟨x, p, hx, rfl, rfl, HM, HB⟩ := hrel
        obtain ⟨a0, a1⟩ := (T1.out.later HB.out).cells
        have B2 := Lib.hid (below_all B1.out HB.out)
        by_cases hlt : x < l.length
        · obtain ⟨ad2, had, hblk, hE⟩ := HF.out x hlt
          cases had
          have e0 := (B2.out.cell (by rw [add_block]; exact hblk)).trans hE
          obtain ⟨z, hz⟩ : ∃ z, z = l[x]'hlt := ⟨_, rfl⟩
          rw [← hz] at e0
          have HZ := Lib.hid hz
          have hm := HM.out.small
          clear hE hz hblk
          by_cases hz0 : z < 0
          · have hq1 : decide (z < 0) = true := decide_eq_true hz0
            have HNO := Lib.hid (To.not_isA (g := g) hlt (To.not_node (k := l.length) hlt (.inl (by rw [← HZ.out]; exact hz0))))
            clear hz0
            go_wp2_with fail
            go_ret
            exact ret_iff_no HNO.out B2.out
          · have hq1 : decide (z < 0) = false := decide_eq_false hz0
            by_cases hzn : (l.length : Int) ≤ z
            · have hq3 : decide (z ≥ (l.length : Int)) = true := decide_eq_true hzn
              have hq4 : decide ((l.length : Int) ≤ z) = true := decide_eq_true hzn
              have HNO := Lib.hid (To.not_isA (g := g) hlt (To.not_node (k := l.length) hlt (.inr (by rw [← HZ.out]; exact hzn))))
              clear hz0 hzn
              go_wp2_with fail
              go_ret
              exact ret_iff_no HNO.out B2.out
            · have hq3 : decide (z ≥ (l.length : Int)) = false := decide_eq_false hzn
              have hq4 : decide ((l.length : Int) ≤ z) = false := decide_eq_false hzn
              obtain ⟨y, rfl⟩ : ∃ y : Nat, z = (y : Int) := ⟨z.toNat, by omega⟩
              have hyk : y < l.length := by omega
              have hq5 : decide (y ≥ l.length) = false := decide_eq_false (by omega)
              have hq6 : decide (l.length ≤ y) = false := decide_eq_false (by omega)
              have hyg : y < g.length := by rw [HGL.out]; exact hyk
              obtain ⟨ad3, rfl, hbk, e7⟩ := HFU.out y hyg
              have e8 := (B2.out.cell (by rw [add_block]; exact hbk)).trans e7
              have hrow := HS.out _ (List.getElem_mem hyg)
              have HW2 := Lib.hid (fun w => biWith_at p (y : Int) w hm)
              have HTW := Lib.hid (HM.out.twice hlt HZ.out.symm (by omega))
              have HNX := Lib.hid (fun h ha => HM.out.next HG.out hlt HZ.out.symm hyk hyg h ha)
              have HED := Lib.hid (fun ha => HM.out.edge HG.out hlt HZ.out.symm hyk hyg ha)
              have HNA := Lib.hid (fun h => To.not_isA (k := l.length) (g := g) hlt h)
              have hp2 := Bi.with_lt (show p < 2 ^ 64 from hm) (y : Int)
              clear hz0 hzn e7 hbk
              generalize g[y]'hyg = row at *
              generalize Bi.withN p (y : Int) = p2 at *
              go_wp2_with fail
              refine (biHas_at p (y : Int) _ hm).mono ?_
              rintro e w2 ⟨rfl, rfl⟩
              cases hh : Bi.has p (y : Int) with
              | true =>
                have HNO := Lib.hid (HNA.out (HTW.out hh))
                clear hh
                go_wp2_with fail
                go_ret
                exact ret_iff_no HNO.out B2.out
              | false =>
                by_cases ha : row &&& p2 = 0
                · have key : ((bits .and .u64 (row : Int) (p2 : Int)) != 0) = false := by rw [bits_and_u64_nat _ _ hrow hp2, ha]; rfl
                  have HN := Lib.hid (HNX.out hh ha)
                  clear hh ha
                  go_wp2_with fail
                  refine (HW2.out _).mono ?_
                  rintro e w3 ⟨rfl, rfl⟩
                  go_wp2_with fail
                  go_roundw
                  case rel => exact ⟨x + 1, _, by omega, rfl, by go_num, HN.out, HB.out⟩
                  case measure => simp [intOf]; omega
                · have key : ((bits .and .u64 (row : Int) (p2 : Int)) != 0) = true := by rw [bits_and_u64_nat _ _ hrow hp2, bne_iff_ne]; omega
                  have HNO := Lib.hid (HNA.out (HED.out ha))
                  clear hh ha
                  go_wp2_with fail
                  refine (HW2.out _).mono ?_
                  rintro e w3 ⟨rfl, rfl⟩
                  go_wp2_with fail
                  go_ret
                  exact ret_iff_no HNO.out B2.out
        · obtain rfl : x = l.length := by omega
          have HY := Lib.hid (HM.out.all HG.out rfl)
          go_wp2_with fail
          go_ret
          exact ret_iff_yes HY.out B2.out
    · have hq : ((l.length : Int) != (k : Int)) = true := by rw [bne_iff_ne]; omega
      have hq2 : (l.length != k) = true := by rw [bne_iff_ne]; exact hlk
      go_enter Tryd.func9, Tryd.ntmps9
      go_wp2_with fail
      generalize w.alloc (.cells #[.int .i64 (k : Int), .slice A0 g.length c0'] 24) = W at *
      refine (FR.out _ (HU.out.below BW.out)).mono ?_
      rintro e w1 ⟨rfl, hb1⟩
      obtain ⟨a0, a1⟩ := (T0.out.later hb1).cells
      have B1 := Lib.hid (below_all BW.out hb1)
      have HNO : Hid (¬ To.IsA (k : Int) g l) := fun h => absurd (HSZ.out h) (by omega)
      clear hb1 hlk
      go_wp2_with fail
      go_ret
      exact ret_iff_no HNO.out B1.out

set_option maxHeartbeats 4000000 in
theorem toNext_at (k : Nat) (u : Value) (g d : List Nat) (p : Nat) (w : World) (hu : Us w u (Gf.turnR k g)) (hg : Gf.Ok k g) (hp : p < 18446744073709551616) (hb : ∀ y : Nat, y < 64 → (p.testBit y = true ↔ y ∈ d)) :
    Calls Tryd.prog 14 #[.agg #[.int .i64 k, u], .int .u64 p] w fun e w' => e = .returned (.int .i64 (To.freeI k g d)) ∧ Below w.heap.size w w' := by
  have hok : Gf.Ok k (Gf.turnR k g) := Gf.build_ok hg.1 _
  have h64 := hg.1
  have hlen := hok.2.1
  have HSM := Lib.hid (fun x (h : x ∈ Gf.turnR k g) => hok.small h)
  have HT := Lib.hid (fun x (hx : x < k) (hxt : x < (Gf.turnR k g).length) => To.free_test (p := p) hg hb hx hxt)
  have HFS := Lib.hid (fun v hv h1 h2 => @To.freeI_some k g d v hv h1 h2)
  have HFN := Lib.hid (fun h => @To.freeI_none k g d h)
  generalize To.freeI k g d = res at *
  generalize To.freeB k g d = fb at *
  generalize Gf.turnR k g = tr at *
  have BW := Lib.hid (alloc_below w (.cells #[.int .i64 (k : Int), u] 24))
  have T0 := Lib.hid (Two.new w 24 (.int .i64 (k : Int)) u)
  obtain ⟨A0, c0', rfl, hfu⟩ := hu.spelled
  have HFU := Lib.hid hfu
  clear hok hg hb hu hfu
  subst hlen
  go_enter Tryd.func14, Tryd.ntmps14
  go_upto_region 1 with fail
  generalize w.alloc (.cells #[.int .i64 (tr.length : Int), .slice A0 tr.length c0'] 24) = W at *
  obtain ⟨a0, a1⟩ := T0.out.cells
  go_wp2_with fail
  clear a0 a1
  go_loopw [10] (fun i wr => ∃ x : Nat, x ≤ tr.length ∧ i = .int .i64 x ∧ Hid (∀ y, y < x → fb y = false) ∧ Hid (Below W.heap.size W wr)) (fun i _ => tr.length - (intOf i).toNat)
  case atStart => exact ⟨0, Nat.zero_le _, rfl, fun y h => absurd h (Nat.not_lt_zero y), Below.refl _ _⟩
  case round =>
    obtain ⟨x, hx, rfl, HN, HB⟩ := hrel
    have B2 := Lib.hid (below_all BW.out HB.out)
    by_cases hlt : x < tr.length
    · obtain ⟨ad, rfl, hbk, e7⟩ := HFU.out x hlt
      have e8 := (B2.out.cell (by rw [add_block]; exact hbk)).trans e7
      have hrow := HSM.out _ (List.getElem_mem hlt)
      have HTX := Lib.hid (HT.out x hlt hlt)
      have HY := Lib.hid (fun h => HFS.out x hlt h HN.out)
      have HZ : Hid (fb x = false → ∀ y, y < x + 1 → fb y = false) := fun h y hy => by
        rcases Nat.lt_succ_iff_lt_or_eq.1 hy with q | q
        · exact HN.out y q
        · rw [q]; exact h
      clear e7 hbk
      generalize tr[x]'hlt = row at *
      generalize fb x = fx at *
      go_wp2_with fail
      refine (biHas_at p (x : Int) _ hp).mono ?_
      rintro e w2 ⟨rfl, rfl⟩
      cases hh : Bi.has p (x : Int) with
      | true =>
        have HN2 := Lib.hid (HZ.out (by rw [HTX.out, hh]; rfl))
        clear hh
        go_wp2_with fail
        go_roundw
        case rel => exact ⟨x + 1, by omega, by go_num, HN2.out, HB.out⟩
        case measure => simp [intOf]; omega
      | false =>
        go_wp2_with fail
        refine (biSub_at row p _ hrow hp).mono ?_
        rintro e w3 ⟨rfl, rfl⟩
        cases hu : Bi.sub row p with
        | true =>
          have HR := Lib.hid (HY.out (by rw [HTX.out, hh, hu]; rfl))
          clear hh hu
          go_wp2_with fail
          go_ret
          exact ⟨ret_int HR.out.symm, B2.out⟩
        | false =>
          have HN2 := Lib.hid (HZ.out (by rw [HTX.out, hh, hu]; rfl))
          clear hh hu
          go_wp2_with fail
          go_roundw
          case rel => exact ⟨x + 1, by omega, by go_num, HN2.out, HB.out⟩
          case measure => simp [intOf]; omega
    · obtain rfl : x = tr.length := by omega
      have HR := Lib.hid (HFN.out HN.out)
      go_wp2_with fail
      go_ret
      exact ⟨ret_int HR.out.symm, B2.out⟩

set_option maxHeartbeats 4000000 in
theorem toOrder_at (n : Int) (u : Value) (g : List Nat) (w : World) (hu : Us w u g) (hs : ∀ x ∈ g, x < 18446744073709551616) : Calls Tryd.prog 6 #[.agg #[.int .i64 n, u]] w (RetOrd w (To.orderA n g)) := by
  have HU := Lib.hid hu
  have BW := Lib.hid (alloc_below w (.cells #[.int .i64 n, u] 24))
  have T0 := Lib.hid (Two.new w 24 (.int .i64 n) u)
  obtain ⟨A, c, rfl, -⟩ := hu.spelled
  cases hok : Gf.okB n g with
  | false =>
    have F1 := Lib.hid (fun w h => gfTurn_no n (.slice A g.length c) g w h hs hok)
    rw [To.orderA_no hok]
    clear hu hs hok
    go_enter Tryd.func6, Tryd.ntmps6
    go_upto_region 1 with fail
    generalize w.alloc (.cells #[.int .i64 n, .slice A g.length c] 24) = W at *
    obtain ⟨a0, a1⟩ := T0.out.cells
    go_wp2_with fail
    refine (F1.out _ (HU.out.below BW.out)).mono ?_
    rintro e w1 ⟨rfl, hb1⟩
    have B1 := Lib.hid (below_all BW.out (below_all hb1 (alloc_below w1 (.cells #[.int .i64 0, .slice none 0 0] 24))))
    clear hb1 a0 a1
    go_wp2_with fail
    go_ret2
    exact ⟨_, rfl, Ns.nil _ _, B1.out⟩
  | true =>
    obtain ⟨k, rfl, hg⟩ := Gf.okB_iff.1 hok
    have hn64 := hg.1
    have F1 := Lib.hid (fun w h => gfTurn_at k (.slice A g.length c) g w h hg)
    have F2 := Lib.hid (fun (T : Value) (d : List Nat) (p : Nat) (w : World) h hp hb => toNext_at k T g d p w h hg hp hb)
    have HFI : Hid (∀ d, (To.free k g d = none ∧ To.freeI k g d = -1) ∨ ∃ v, To.free k g d = some v ∧ To.freeI k g d = (v : Int) ∧ v < k) := fun d => by
      rw [To.freeI]
      cases h : To.free k g d with
      | none => exact .inl ⟨rfl, rfl⟩
      | some v => exact .inr ⟨v, rfl, rfl, (To.free_some h).1⟩
    have HFS := Lib.hid (fun m d v h => To.fill_some (n := k) (m := m) (g := g) (d := d) (v := v) h)
    have HFN := Lib.hid (fun m d h => To.fill_none (n := k) (m := m) (g := g) (d := d) h)
    have HF0 : Hid (∀ d, To.fill k g 0 d = some d) := fun d => rfl
    have HOR : Hid (To.fill k g k [] = To.orderR k g) := rfl
    have hmi := fun w => to_make w k hn64
    rw [To.orderA_yes hg]
    clear hu hs hok hg
    generalize To.orderR k g = res at *
    generalize Gf.turnR k g = tr at *
    go_enter Tryd.func6, Tryd.ntmps6
    go_upto_region 1 with fail
    generalize w.alloc (.cells #[.int .i64 (k : Int), .slice A g.length c] 24) = W at *
    obtain ⟨a0, a1⟩ := T0.out.cells
    go_wp2_with fail
    refine (F1.out _ (HU.out.below BW.out)).mono ?_
    rintro e w1 ⟨v1, rfl, ho1, hb1⟩
    obtain ⟨A1, c1, hv1⟩ := ho1.form
    subst hv1
    generalize hm1 : tr.length = m1 at *
    have b2 := alloc_below w1 (.cells #[.int .i64 (k : Int), .slice A1 m1 c1] 24)
    have HB2 := Lib.hid (below_all BW.out (below_all hb1 b2))
    have U2 := Lib.hid (ho1.below b2).us
    have TG := Lib.hid (Two.new w1 24 (.int .i64 (k : Int)) (.slice A1 m1 c1))
    have TA := Lib.hid ((T0.out.later hb1).later b2)
    clear a0 a1 ho1 hb1 b2 T0 BW F1 hm1
    go_upto_region 2 with fail
    generalize w1.alloc (.cells #[.int .i64 (k : Int), .slice A1 m1 c1] 24) = W1 at *
    have b3 := alloc_below W1 (.cells (madeCells #[.int .i64 0] k) 3)
    have HR0 := Lib.hid (RowI.made W1 k)
    have HB3 := Lib.hid b3
    obtain ⟨a0, a1⟩ := TA.out.cells
    obtain ⟨d0, d1⟩ := (TA.out.later b3).cells
    clear b3
    go_upto_region 6 with fail
    generalize W1.alloc (.cells (madeCells #[.int .i64 0] k) 3) = w2 at *
    clear a0 a1 hmi
    go_wp2_with fail
    clear d0 d1
    go_loopw [7, 22] (fun pl i wr => ∃ (p : Nat) (d : List Nat), d.length ≤ k ∧ pl = .int .u64 (p : Int) ∧ i = .int .i64 (d.length : Int) ∧ Hid (p < 18446744073709551616) ∧ Hid (∀ y : Nat, y < 64 → (p.testBit y = true ↔ y ∈ d)) ∧ Hid (RowI wr W1.heap.size (To.rowOf k d)) ∧ Hid (To.fill k g (k - d.length) d = res) ∧ Hid (Below W1.heap.size W1 wr)) (fun _ i _ => k - (intOf i).toNat)
    case atStart => exact ⟨0, [], Nat.zero_le _, rfl, rfl, (show (0 : Nat) < 18446744073709551616 by decide), fun y _ => by rw [Nat.zero_testBit]; simp, HR0.out, HOR.out, HB3.out⟩
    case round =>
      clear HR0 HB3
      obtain ⟨p, d, hdk, rfl, rfl, HP, HPB, HR, HD, HB⟩ := hrel
      by_cases hlt : d.length < k
      · obtain ⟨m, hm⟩ : ∃ m, k - d.length = m + 1 := ⟨k - d.length - 1, by omega⟩
        have hm2 : k - (d.length + 1) = m := by omega
        have HD1 : Hid (To.fill k g (m + 1) d = res) := by rw [Hid, ← hm]; exact HD.out
        have HM2 := Lib.hid hm2
        have G := Lib.hid (fun w h => F2.out (.slice A1 m1 c1) d p w h HP.out HPB.out)
        obtain ⟨g0, g1⟩ := (TG.out.later HB.out).cells
        clear hm hm2 HD
        rcases HFI.out d with ⟨hf, hi⟩ | ⟨x, hf, hi, hx⟩
        · have HRS := Lib.hid ((HFN.out m d hf).symm.trans HD1.out)
          rw [hi] at G
          clear hf hi
          go_wp2_with fail
          refine (G.out _ (U2.out.below HB.out)).mono ?_
          rintro e w4 ⟨rfl, hb4⟩
          have B4 := Lib.hid (below_all HB2.out (below_all HB.out hb4))
          clear hb4 g0 g1
          go_wp2_with fail
          go_ret2
          rw [← HRS.out]
          exact ⟨_, rfl, Ns.nil _ _, B4.out⟩
        · have HD2 : Hid (To.fill k g (k - (d ++ [x]).length) (d ++ [x]) = res) := by
            have := HFS.out m d x hf
            rw [Hid, List.length_append, List.length_singleton, HM2.out, ← this]
            exact HD1.out
          have HPB2 := Lib.hid (fun y hy => To.more_bits HPB.out (show x < 64 by omega) y hy)
          have HP2 := Lib.hid (Bi.with_lt (show p < 2 ^ 64 from HP.out) (x : Int))
          have FW := Lib.hid (fun w => biWith_at p (x : Int) w HP.out)
          have HST := Lib.hid (To.rowOf_set hlt x)
          have HLN : Hid (d.length < (To.rowOf k d).length) := by rw [Hid, To.rowOf_len hdk]; exact hlt
          rw [hi] at G
          clear hf hi
          generalize Bi.withN p (x : Int) = p2 at *
          go_wp2_with fail
          refine (G.out _ (U2.out.below HB.out)).mono ?_
          rintro e w4 ⟨rfl, hb4⟩
          have r4 := HR.out.later hb4
          have r5 := r4.put d.length HLN.out (x : Int)
          rw [HST.out] at r5
          have HR5 := Lib.hid r5
          have HB5 := Lib.hid ((below_all HB.out hb4).setCell (p := ⟨W1.heap.size, d.length, none⟩) (Nat.le_refl _) (.int .i64 (x : Int)))
          have e1 := r4.cell d.length HLN.out
          have e2 := r4.frozen d.length
          generalize ((To.rowOf k d)[d.length]'HLN.out) = old at *
          clear hb4 g0 g1 r4 r5
          go_wp2_with fail
          refine (FW.out _).mono ?_
          rintro e w5 ⟨rfl, rfl⟩
          go_wp2_with fail
          go_roundw
          case rel => exact ⟨p2, d ++ [x], by rw [List.length_append, List.length_singleton]; omega, rfl, by rw [List.length_append, List.length_singleton]; go_num, HP2.out, HPB2.out, HR5.out, HD2.out, HB5.out⟩
          case measure => simp [intOf]; omega
      · obtain rfl : k = d.length := by omega
        have HRS : Hid (some d = res) := by have := HD.out; rw [Nat.sub_self] at this; exact (HF0.out d).symm.trans this
        have HNS := Lib.hid (HR.out.ns rfl hn64)
        go_wp2_with fail
        go_ret2
        rw [← HRS.out]
        exact ⟨_, rfl, HNS.out, below_all HB2.out HB.out⟩
end Go.Proofs.YtpmimmaaeaifhaaDoor
