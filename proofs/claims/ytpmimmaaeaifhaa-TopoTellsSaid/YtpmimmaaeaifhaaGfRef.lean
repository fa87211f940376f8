/-
  Several texts in one, each with its own first words: GfRefA, GfRefB, GfRefC, GfRefD, GfRefE.
  Conditions: as each says.
-/
import Derived.Test.YtpmimmaaeaifhaaGfAll
import Derived.Test.YtpmimmaaeaifhaaBiAll
/-
  What the reference's functions of layer 12 answer that change no graph: Has, Node, New, Right, Same; and Plain of the laws.
  Conditions: rows hold sets below 2^64.
  (This program has not all of these functions: gfPlain_at, rNew12_at, rSame12_at are left out here.)
-/
set_option maxRecDepth 4000
namespace Go.Proofs.Ytpmimmaaeaifhaa
open Go.RowKit

/-- The end of a call of the reference's: a graph is stored into the result's block. -/
theorem end_r {fn : Func} {p : Tmp} (h : fn.results = #[.cell p 27]) {w X : World} {b base : Nat} {n : Int} {l : List Nat} {u0 u1 : Value} {A : Option Addr} {m c : Nat} (hT : Two X b 27 u0 u1) (hR : OwnU X base (.slice A m c) l) (hbase : b < base) (hB : Below w.heap.size w X) (hb : w.heap.size ≤ b)
    (tmps : Array Value) (hp : tmps.getD p undef = .pointer (some ⟨b, 0, none⟩)) :
    bodyPost Try.prog fn (RetR w n l) Exit.ret { tmps := tmps, defers := [] } ((X.setCell ⟨b, 0, none⟩ (.int .i64 n)).setCell ⟨b, 1, none⟩ (.slice A m c)) := by
  obtain ⟨p0, p1⟩ := (hT.put (x := .int .i64 n) (y := .slice A m c)).cells
  exact bodyPost_ret (res_r h _ b _ n _ _ _ hp p0 p1) rfl ⟨_, rfl, (own_setCell (own_setCell hR hbase) hbase).mono (by omega), (hB.setCell (p := ⟨b, 0, none⟩) hb _).setCell (p := ⟨b, 1, none⟩) hb _⟩

theorem end_rd {fn : Func} {p : Tmp} (h : fn.results = #[.cell p 27]) {w X : World} {b base : Nat} {n : Int} {l : List Nat} {u0 u1 : Value} {A : Option Addr} {m c : Nat} (hT : Two X b 27 u0 u1) (hR : OwnU X base (.slice A m c) l) (hbase : b < base) (hB : Below w.heap.size w X) (hb : w.heap.size ≤ b)
    (tmps : Array Value) (hp : tmps.getD p undef = .pointer (some ⟨b, 0, none⟩)) :
    bodyPost Try.prog fn (RetR w n l) Exit.ret { tmps := tmps, defers := [] } (((X.setCell ⟨b, 0, none⟩ (.int .i64 n)).setCell ⟨b, 1, none⟩ (.slice A m c)).drew) := by
  obtain ⟨p0, p1⟩ := (hT.put (x := .int .i64 n) (y := .slice A m c)).cells
  exact bodyPost_ret (res_r h _ b _ n _ _ _ hp p0 p1) rfl ⟨_, rfl, own_drewN ((own_setCell (own_setCell hR hbase) hbase).mono (by omega)) 1, ((hB.setCell (p := ⟨b, 0, none⟩) hb _).setCell (p := ⟨b, 1, none⟩) hb _).drew⟩

theorem rHas12_at (n : Int) (v : Value) (l : List Nat) (a : Nat) (b : Int) (w : World) (hv : Us w v l) (ha : a < l.length) (hs : l[a] < 18446744073709551616) : Calls Try.prog 22 #[.agg #[.int .i64 n, v], .int .i64 a, .int .i64 b] w (RetBool w (Bi.has l[a] b)) := by
  have BW := Lib.hid (alloc_below w (.cells #[.int .i64 n, v] 27))
  obtain ⟨A, c, rfl, hf⟩ := (hv.below BW.out).spelled
  obtain ⟨ad, rfl, _, hE⟩ := hf a ha
  clear hf hv
  generalize l[a]'ha = x at *
  go_enter Try.func22, Try.ntmps22
  go_wp2_with fail
  refine (rHas10_at x b _ hs).mono ?_
  rintro e w1 ⟨rfl, rfl⟩
  go_wp2_with fail
  go_ret
  exact ⟨rfl, BW.out⟩

theorem rNode12_at (n : Int) (v : Value) (a : Int) (w : World) : Calls Try.prog 21 #[.agg #[.int .i64 n, v], .int .i64 a] w (RetBool w (Gf.isN n a)) := by
  have HB := Lib.hid (alloc_below w (.cells #[.int .i64 n, v] 27))
  by_cases h0 : 0 ≤ a
  · have d0 : decide (0 ≤ a) = true := decide_eq_true h0
    have hr : Gf.isN n a = decide (a < n) := by rw [Gf.isN, d0]; rfl
    rw [hr]
    go_enter Try.func21, Try.ntmps21
    go_wp2
    go_ret
    exact ⟨rfl, HB.out⟩
  · have d0 : decide (0 ≤ a) = false := decide_eq_false h0
    have hr : Gf.isN n a = false := by rw [Gf.isN, d0]; rfl
    rw [hr]
    go_enter Try.func21, Try.ntmps21
    go_wp2
    go_ret
    exact ⟨rfl, HB.out⟩

set_option maxHeartbeats 1000000 in
theorem rRight12_at (n : Int) (v : Value) (l : List Nat) (w : World) (hv : Us w v l) (hs : ∀ x ∈ l, x < 18446744073709551616) : Calls Try.prog 7 #[.agg #[.int .i64 n, v]] w (RetBool w (Gf.okB n l)) := by
  have HB := Lib.hid (alloc_below w (.cells #[.int .i64 n, v] 27))
  obtain ⟨A, c, rfl, hf⟩ := (hv.below HB.out).spelled
  have HF := Lib.hid hf
  have HS := Lib.hid hs
  clear hf hv hs
  by_cases h0 : n < 0
  · have HR : Hid (Gf.okB n l = false) := by rw [Hid, Gf.okB, decide_eq_false (by omega)]; rfl
    have hd : decide (n < 0) = true := decide_eq_true h0
    go_enter Try.func7, Try.ntmps7
    go_wp2_with fail
    go_ret
    exact ⟨ret_bool HR.out.symm, HB.out⟩
  · obtain ⟨k, rfl⟩ : ∃ k : Nat, n = (k : Int) := ⟨n.toNat, by omega⟩
    have hd : decide ((k : Int) < 0) = false := decide_eq_false h0
    by_cases h1 : 64 < k
    · have HR : Hid (Gf.okB (k : Int) l = false) := by
        rw [Hid, ← Bool.not_eq_true, Gf.okB_nat]
        exact fun h => by have := h.1; omega
      have hd1 : decide ((64 : Int) < (k : Int)) = true := decide_eq_true (by omega)
      go_enter Try.func7, Try.ntmps7
      go_wp2_with fail
      go_ret
      exact ⟨ret_bool HR.out.symm, HB.out⟩
    · have hd1 : decide ((64 : Int) < (k : Int)) = false := decide_eq_false (by omega)
      by_cases hlen : l.length = k
      · subst hlen
        have hq : (((l.length : Nat) : Int) != (l.length : Int)) = false := by simp
        have h64 : l.length ≤ 64 := by omega
        have HNo := Lib.hid (fun i (hi : i < l.length) j (h2 : l.length ≤ j) (hb : l[i].testBit j = true) => Gf.okB_no hi h2 hb)
        have HYes := Lib.hid (fun (h : Gf.clearTo l.length l l.length) => show Gf.okB (l.length : Int) l = true from (Gf.okB_nat l.length l).2 (Gf.clearTo_all h h64 rfl))
        have HNx := Lib.hid (fun i => @Gf.clearTo_next l.length l i)
        have HRow := Lib.hid (fun s (h : s < 18446744073709551616) => @Gf.row_lt l.length s h)
        have HZ := Lib.hid (Gf.clearTo_zero l.length l)
        have T0 := Lib.hid (Two.new w 27 (.int .i64 l.length) (.slice A l.length c))
        go_enter Try.func7, Try.ntmps7
        go_wp2_with fail
        generalize Gf.okB (l.length : Int) l = r at *
        generalize w.alloc (.cells #[.int .i64 (l.length : Int), .slice A l.length c] 27) = W at *
        obtain ⟨c0, c1⟩ := T0.out.cells
        go_loopw [3] (fun i wr => ∃ j : Nat, j ≤ l.length ∧ i = .int .i64 j ∧ Hid (Gf.clearTo l.length l j) ∧ wr = W) (fun i _ => l.length - (intOf i).toNat)
        case atStart => exact ⟨0, Nat.zero_le _, rfl, HZ.out, rfl⟩
        case round =>
          obtain ⟨j, hj, rfl, HC, rfl⟩ := hrel
          by_cases hlt : j < l.length
          · obtain ⟨ad, hA, hblk, hE⟩ := HF.out j hlt
            subst hA
            have hx := HS.out _ (List.getElem_mem hlt)
            have HN1 := Lib.hid (HNo.out j hlt)
            have HN2 := Lib.hid (HNx.out j HC.out hlt)
            have HRW := Lib.hid (HRow.out _ hx)
            generalize l[j]'hlt = x at *
            go_wp2_with fail
            go_loopw [4] (fun i wq => ∃ k : Nat, l.length ≤ k ∧ k ≤ 64 ∧ i = .int .i64 k ∧ Hid (∀ q, l.length ≤ q → q < k → x.testBit q = false) ∧ wq = wr) (fun i _ => 64 - (intOf i).toNat)
            case atStart => exact ⟨l.length, Nat.le_refl _, h64, rfl, (fun q h1 h2 => absurd h1 (by omega)), rfl⟩
            case round =>
              obtain ⟨k, hk, hk64, rfl, HQ, hwq⟩ := hrel
              subst hwq
              by_cases hkl : k < 64
              · have hh := Bi.has_nat x k hkl
                cases hg : x.testBit k with
                | false =>
                  have HQ2 : Hid (∀ q, l.length ≤ q → q < k + 1 → x.testBit q = false) := fun q h1 h2 => by
                    by_cases e : q = k
                    · subst e; exact hg
                    · exact HQ.out q h1 (by omega)
                  rw [hg] at hh
                  clear hg
                  go_wp2_with fail
                  refine (rHas10_at x (k : Int) _ hx).mono ?_
                  rintro e w3 ⟨rfl, rfl⟩
                  rw [hh]
                  go_wp2_with fail
                  go_roundw
                  case rel => exact ⟨k + 1, by omega, by omega, by go_num, HQ2, trivial⟩
                  case measure => simp [intOf]; omega
                | true =>
                  have HR := Lib.hid (HN1.out k hk hg)
                  rw [hg] at hh
                  clear hg
                  go_wp2_with fail
                  refine (rHas10_at x (k : Int) _ hx).mono ?_
                  rintro e w3 ⟨rfl, rfl⟩
                  rw [hh]
                  go_wp2_with fail
                  go_ret
                  exact ⟨ret_bool HR.out.symm, HB.out⟩
              · have hke : k = 64 := by omega
                subst hke
                have HC2 := Lib.hid (HN2.out (HRW.out.2 HQ.out))
                go_wp2_with fail
                go_roundw
                case rel => exact ⟨j + 1, by omega, by go_num, HC2.out, trivial⟩
                case measure => simp [intOf]; omega
          · have hjn : j = l.length := by omega
            subst hjn
            have HR := Lib.hid (HYes.out HC.out)
            go_wp2_with fail
            go_ret
            exact ⟨ret_bool HR.out.symm, HB.out⟩
      · have hq : (((l.length : Nat) : Int) != (k : Int)) = true := by rw [bne_iff_ne]; omega
        have HR : Hid (Gf.okB (k : Int) l = false) := by
          rw [Hid, ← Bool.not_eq_true, Gf.okB_nat]
          exact fun h => hlen h.2.1
        go_enter Try.func7, Try.ntmps7
        go_wp2_with fail
        go_ret
        exact ⟨ret_bool HR.out.symm, HB.out⟩
end Go.Proofs.Ytpmimmaaeaifhaa
/-
  What the reference's Set of layer 12 answers.
  Conditions: rows hold sets below 2^64.
  (This program has not all of these functions: rSet12_at is left out here.)
-/
set_option maxRecDepth 4000
namespace Go.Proofs.Ytpmimmaaeaifhaa
open Go.RowKit

/-- A row of the call's own with an element lies at a block's head. -/
theorem own_head {w : World} {base : Nat} {v : Value} {l : List Nat} (h : OwnU w base v l) (hl : 0 < l.length) : ∃ g c, v = .slice (some ⟨g, 0, none⟩) l.length c := by
  rcases h.2 with ⟨_, h0⟩ | ⟨g, cap, _, hv, _⟩
  · omega
  · exact ⟨g, cap, hv⟩

end Go.Proofs.Ytpmimmaaeaifhaa
/-
  What the reference's Union and Turn of layer 12 answer; words for a call of the reference's that makes a graph and fills it.
  Conditions: rows hold sets below 2^64.
  (This program has not all of these functions: rTurn12_at is left out here.)
-/
set_option maxRecDepth 4000
namespace Go.Proofs.Ytpmimmaaeaifhaa
open Go.RowKit

/-- A graph that is made: the variable at block o holds it, its row is the call's own; what lies at or below block b is as it was. -/
structure Mk (W0 W : World) (b o n : Nat) (A : Option Addr) (c : Nat) (r : List Nat) : Prop where
  out : Two W o 27 (.int .i64 (n : Int)) (.slice A n c)
  row : W.ownsRow (b + 1) 39 1 (.slice A n c) n (r.flatMap uC)
  len : r.length = n
  far : b < o
  low : Below (b + 1) W0 W
section
variable {W0 W W' : World} {b o n c : Nat} {A : Option Addr} {r : List Nat}
theorem Mk.later (h : Mk W0 W b o n A c r) (hb : Below W.heap.size W W') : Mk W0 W' b o n A c r := by
  have := h.out.lt
  have := h.far
  exact ⟨h.out.later hb, own_below h.row hb, h.len, h.far, h.low.trans (hb.mono (by omega))⟩
theorem Mk.own (h : Mk W0 W b o n A c r) : OwnU W (b + 1) (.slice A n c) r := by
  unfold OwnU
  rw [h.len]
  exact h.row
theorem Mk.below {w : World} (h : Mk W0 W b o n A c r) (hw : Below w.heap.size w W0) (hb : w.heap.size ≤ b + 1) : Below w.heap.size w W := hw.trans (h.low.mono hb)
/-- One set is changed. -/
theorem Mk.put (h : Mk W0 W b o n A c r) (k : Nat) (hk : k < n) : ∃ g, A = some ⟨g, 0, none⟩ ∧ W.cell? ⟨g, k, none⟩ = some (.int .u64 ((r[k]'(by rw [h.len]; exact hk) : Nat) : Int)) ∧ W.frozen? ⟨g, k, none⟩ = false ∧
    ∀ x : Nat, Mk W0 (W.setCell ⟨g, k, none⟩ (.int .u64 (x : Int))) b o n A c (r.set k x) := by
  have hkr : k < r.length := by rw [h.len]; exact hk
  obtain ⟨g, c', e⟩ := own_head h.own (by omega)
  cases e
  have ho := h.own
  refine ⟨g, rfl, ho.cell k hkr, ho.frozen k, fun x => ?_⟩
  have hgo : g ≠ o := by
    intro e
    subst e
    rcases ho.2 with ⟨h', _⟩ | ⟨g', cap', cur, h', _, hg, _⟩
    · cases h'
    · cases h'
      have := h.out
      rw [Two, hg] at this
      cases this
  have hp := ho.put k hkr x
  unfold OwnU at hp
  rw [List.length_set] at hp
  exact ⟨two_far h.out _ hgo _, hp, List.length_set, h.far, h.low.setCell (p := ⟨g, k, none⟩) (ho.lt).1 _⟩
end
/-- The world at the first call: the two graphs and the result lie in variables. -/
theorem gr_two (w : World) (n m : Int) (u v : Value) {W : World} (h : W = ((w.alloc (.cells #[.int .i64 n, u] 27)).alloc (.cells #[.int .i64 m, v] 27)).alloc (.cells #[.int .i64 0, .slice none 0 0] 27)) :
    Two W w.heap.size 27 (.int .i64 n) u ∧ Two W (w.heap.size + 1) 27 (.int .i64 m) v ∧ Two W (w.heap.size + 1 + 1) 27 (.int .i64 0) (.slice none 0 0) ∧ Below w.heap.size w W := by
  subst h
  have b1 := alloc_below w (.cells #[.int .i64 n, u] 27)
  have b2 := alloc_below (w.alloc (.cells #[.int .i64 n, u] 27)) (.cells #[.int .i64 m, v] 27)
  have b3 := alloc_below ((w.alloc (.cells #[.int .i64 n, u] 27)).alloc (.cells #[.int .i64 m, v] 27)) (.cells #[.int .i64 0, .slice none 0 0] 27)
  have t1 := Two.new (w.alloc (.cells #[.int .i64 n, u] 27)) 27 (.int .i64 m) v
  have t2 := Two.new ((w.alloc (.cells #[.int .i64 n, u] 27)).alloc (.cells #[.int .i64 m, v] 27)) 27 (.int .i64 0) (.slice none 0 0)
  rw [World.size_alloc] at t1
  rw [World.size_alloc, World.size_alloc] at t2
  exact ⟨((Two.new w 27 (.int .i64 n) u).later b2).later b3, t1.later b3, t2, below_all (below_all b1 b2) b3⟩
theorem gr_one (w : World) (n : Int) (u : Value) {W : World} (h : W = (w.alloc (.cells #[.int .i64 n, u] 27)).alloc (.cells #[.int .i64 0, .slice none 0 0] 27)) :
    Two W w.heap.size 27 (.int .i64 n) u ∧ Two W (w.heap.size + 1) 27 (.int .i64 0) (.slice none 0 0) ∧ Below w.heap.size w W := by
  subst h
  have b1 := alloc_below w (.cells #[.int .i64 n, u] 27)
  have b2 := alloc_below (w.alloc (.cells #[.int .i64 n, u] 27)) (.cells #[.int .i64 0, .slice none 0 0] 27)
  have t1 := Two.new (w.alloc (.cells #[.int .i64 n, u] 27)) 27 (.int .i64 0) (.slice none 0 0)
  rw [World.size_alloc] at t1
  exact ⟨(Two.new w 27 (.int .i64 n) u).later b2, t1, below_all b1 b2⟩
/-- Behind New: what it made lies in a variable. -/
theorem Mk.start {W W1 : World} {n : Nat} {v : Value} {b : Nat} (hbs : b < W.heap.size) (hb : Below W.heap.size W W1) (ho : OwnU W1 W.heap.size v (Gf.zeros n)) : ∃ A c, v = .slice A n c ∧ Mk W (W1.alloc (.cells #[.int .i64 (n : Int), .slice A n c] 27)) b W1.heap.size n A c (Gf.zeros n) := by
  have hz : (Gf.zeros n).length = n := List.length_replicate
  obtain ⟨A, c, e⟩ := ho.form
  rw [hz] at e
  subst e
  have b1 := alloc_below W1 (.cells #[.int .i64 (n : Int), .slice A n c] 27)
  unfold OwnU at ho
  rw [hz] at ho
  have hsz := hb.size
  exact ⟨A, c, rfl, Two.new _ _ _ _, (own_below ho b1).mono (by omega), hz, by omega, (hb.mono (by omega)).trans (b1.mono (by omega))⟩

end Go.Proofs.Ytpmimmaaeaifhaa
/-
  What the reference's Union of layer 12 answers.
  Conditions: rows hold sets below 2^64.
  (This program has not all of these functions: rUnion12_at is left out here.)
-/
set_option maxRecDepth 4000
namespace Go.Proofs.Ytpmimmaaeaifhaa
open Go.RowKit

end Go.Proofs.Ytpmimmaaeaifhaa
/-
  What the reference's Compose of layer 12 answers.
  Conditions: rows hold sets below 2^64.
  (This program has not all of these functions: rCompose12_at is left out here.)
-/
set_option maxRecDepth 4000
namespace Go.Proofs.Ytpmimmaaeaifhaa
open Go.RowKit

end Go.Proofs.Ytpmimmaaeaifhaa
