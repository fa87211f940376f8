/-
  Several texts in one, each with its own first words: GfRefA, GfRefB, GfRefC, GfRefD, GfRefE.
  Conditions: as each says.
-/
import Derived.Test.YtlhinlfgmfenoaaDoorGfAll
import Derived.Test.YtlhinlfgmfenoaaDoorBiAll
/-
  What the reference's functions of layer 12 answer that change no graph: Has, Node, New, Right, Same; and Plain of the laws.
  Conditions: rows hold sets below 2^64.
  (This program has not all of these functions: rHas12_at, rNode12_at, gfPlain_at, rNew12_at, rRight12_at are left out here.)
-/
set_option maxRecDepth 4000
namespace Go.Proofs.YtlhinlfgmfenoaaDoor
open Go.RowKit

/-- The end of a call of the reference's: a graph is stored into the result's block. -/
theorem end_r {fn : Func} {p : Tmp} (h : fn.results = #[.cell p 36]) {w X : World} {b base : Nat} {n : Int} {l : List Nat} {u0 u1 : Value} {A : Option Addr} {m c : Nat} (hT : Two X b 36 u0 u1) (hR : OwnU X base (.slice A m c) l) (hbase : b < base) (hB : Below w.heap.size w X) (hb : w.heap.size ≤ b)
    (tmps : Array Value) (hp : tmps.getD p undef = .pointer (some ⟨b, 0, none⟩)) :
    bodyPost Tryd.prog fn (RetR w n l) Exit.ret { tmps := tmps, defers := [] } ((X.setCell ⟨b, 0, none⟩ (.int .i64 n)).setCell ⟨b, 1, none⟩ (.slice A m c)) := by
  obtain ⟨p0, p1⟩ := (hT.put (x := .int .i64 n) (y := .slice A m c)).cells
  exact bodyPost_ret (res_r h _ b _ n _ _ _ hp p0 p1) rfl ⟨_, rfl, (own_setCell (own_setCell hR hbase) hbase).mono (by omega), (hB.setCell (p := ⟨b, 0, none⟩) hb _).setCell (p := ⟨b, 1, none⟩) hb _⟩

theorem end_rd {fn : Func} {p : Tmp} (h : fn.results = #[.cell p 36]) {w X : World} {b base : Nat} {n : Int} {l : List Nat} {u0 u1 : Value} {A : Option Addr} {m c : Nat} (hT : Two X b 36 u0 u1) (hR : OwnU X base (.slice A m c) l) (hbase : b < base) (hB : Below w.heap.size w X) (hb : w.heap.size ≤ b)
    (tmps : Array Value) (hp : tmps.getD p undef = .pointer (some ⟨b, 0, none⟩)) :
    bodyPost Tryd.prog fn (RetR w n l) Exit.ret { tmps := tmps, defers := [] } (((X.setCell ⟨b, 0, none⟩ (.int .i64 n)).setCell ⟨b, 1, none⟩ (.slice A m c)).drew) := by
  obtain ⟨p0, p1⟩ := (hT.put (x := .int .i64 n) (y := .slice A m c)).cells
  exact bodyPost_ret (res_r h _ b _ n _ _ _ hp p0 p1) rfl ⟨_, rfl, own_drewN ((own_setCell (own_setCell hR hbase) hbase).mono (by omega)) 1, ((hB.setCell (p := ⟨b, 0, none⟩) hb _).setCell (p := ⟨b, 1, none⟩) hb _).drew⟩

/-- Of two graphs that are the same Same says true. -/
theorem rSame12_at (n : Int) (u v : Value) (l : List Nat) (w : World) (hu : Us w u l) (hv : Us w v l) (hl : l.length ≤ 4294967296) : Calls Tryd.prog 9 #[.agg #[.int .i64 n, u], .agg #[.int .i64 n, v]] w (RetBool w true) := by
  obtain ⟨A, c, rfl, hf⟩ := hu.spelled
  obtain ⟨A', c', rfl, hf'⟩ := hv.spelled
  have HF := Lib.hid hf
  have HF' := Lib.hid hf'
  have b1 := alloc_below w (.cells #[.int .i64 n, .slice A l.length c] 36)
  have b2 := alloc_below (w.alloc (.cells #[.int .i64 n, .slice A l.length c] 36)) (.cells #[.int .i64 n, .slice A' l.length c'] 36)
  have t1 := Two.new (w.alloc (.cells #[.int .i64 n, .slice A l.length c] 36)) 36 (.int .i64 n) (.slice A' l.length c')
  rw [World.size_alloc] at t1
  have T0 := Lib.hid ((Two.new w 36 (.int .i64 n) (.slice A l.length c)).later b2)
  have T1 := Lib.hid t1
  have BW := Lib.hid (below_all b1 b2)
  clear b1 b2 t1 hf hf' hu hv
  go_enter Tryd.func9, Tryd.ntmps9
  go_wp2_with fail
  generalize (w.alloc (.cells #[.int .i64 n, .slice A l.length c] 36)).alloc (.cells #[.int .i64 n, .slice A' l.length c'] 36) = W at *
  go_loopw [5] (fun i wr => ∃ k : Nat, k ≤ l.length ∧ i = .int .i64 k ∧ Hid (Two wr w.heap.size 36 (.int .i64 n) (.slice A l.length c)) ∧ Hid (Two wr (w.heap.size + 1) 36 (.int .i64 n) (.slice A' l.length c')) ∧ Hid (Below w.heap.size w wr)) (fun i _ => l.length - (intOf i).toNat)
  case atStart => exact ⟨0, Nat.zero_le _, rfl, T0.out, T1.out, BW.out⟩
  case round =>
    clear T0 T1 BW
    obtain ⟨k, hk, rfl, T0, T1, HB⟩ := hrel
    obtain ⟨c0, c1⟩ := T0.out.cells
    obtain ⟨d0, d1⟩ := T1.out.cells
    by_cases hlt : k < l.length
    · obtain ⟨ad, rfl, hblk, hE⟩ := HF.out k hlt
      obtain ⟨ad', rfl, hblk', hE'⟩ := HF'.out k hlt
      have e0 := (HB.out.cell (by rw [add_block]; exact hblk)).trans hE
      have e1 := (HB.out.cell (by rw [add_block]; exact hblk')).trans hE'
      clear hE hE'
      generalize l[k]'hlt = x at *
      go_wp2_with fail
      go_quiet (fail)
      go_wp2_with fail
      go_roundw
      case rel => exact ⟨k + 1, by omega, by go_num, T0.out.later (drewN_below wr nq), T1.out.later (drewN_below wr nq), below_drewN HB.out nq⟩
      case measure => simp [intOf]; omega
    · go_wp2_with fail
      go_ret
      exact ⟨rfl, HB.out⟩

end Go.Proofs.YtlhinlfgmfenoaaDoor
/-
  What the reference's Set of layer 12 answers.
  Conditions: rows hold sets below 2^64.
  (This program has not all of these functions: rSet12_at is left out here.)
-/
set_option maxRecDepth 4000
namespace Go.Proofs.YtlhinlfgmfenoaaDoor
open Go.RowKit

/-- A row of the call's own with an element lies at a block's head. -/
theorem own_head {w : World} {base : Nat} {v : Value} {l : List Nat} (h : OwnU w base v l) (hl : 0 < l.length) : ∃ g c, v = .slice (some ⟨g, 0, none⟩) l.length c := by
  rcases h.2 with ⟨_, h0⟩ | ⟨g, cap, _, hv, _⟩
  · omega
  · exact ⟨g, cap, hv⟩

end Go.Proofs.YtlhinlfgmfenoaaDoor
/-
  What the reference's Union and Turn of layer 12 answer; words for a call of the reference's that makes a graph and fills it.
  Conditions: rows hold sets below 2^64.
  (This program has not all of these functions: rTurn12_at is left out here.)
-/
set_option maxRecDepth 4000
namespace Go.Proofs.YtlhinlfgmfenoaaDoor
open Go.RowKit

/-- A graph that is made: the variable at block o holds it, its row is the call's own; what lies at or below block b is as it was. -/
structure Mk (W0 W : World) (b o n : Nat) (A : Option Addr) (c : Nat) (r : List Nat) : Prop where
  out : Two W o 36 (.int .i64 (n : Int)) (.slice A n c)
  row : W.ownsRow (b + 1) 56 1 (.slice A n c) n (r.flatMap uC)
  len : r.length = n
  far : b < o
  low : Below (b + 1) W0 W
section
variable {W0 W W' : World} {b o n c : Nat} {A : Option Addr} {r : List Nat}
theorem Mk.later (h : Mk W0 W b o n A c r) (hb : Below W.heap.size W W') : Mk W0 W' b o n A c r := by
  have := h.out.lt
  have := h.far
  exact ⟨h.out.later hb, own_below h.row hb, h.len, h.far, h.low.trans (hb.mono (by omega))⟩
theorem Mk.own (h : Mk W0 W b o n A c r) : OwnU W (b + 1) (.slice A n c) r := by
  unfold OwnU
  rw [h.len]
  exact h.row
theorem Mk.below {w : World} (h : Mk W0 W b o n A c r) (hw : Below w.heap.size w W0) (hb : w.heap.size ≤ b + 1) : Below w.heap.size w W := hw.trans (h.low.mono hb)
/-- One set is changed. -/
theorem Mk.put (h : Mk W0 W b o n A c r) (k : Nat) (hk : k < n) : ∃ g, A = some ⟨g, 0, none⟩ ∧ W.cell? ⟨g, k, none⟩ = some (.int .u64 ((r[k]'(by rw [h.len]; exact hk) : Nat) : Int)) ∧ W.frozen? ⟨g, k, none⟩ = false ∧
    ∀ x : Nat, Mk W0 (W.setCell ⟨g, k, none⟩ (.int .u64 (x : Int))) b o n A c (r.set k x) := by
  have hkr : k < r.length := by rw [h.len]; exact hk
  obtain ⟨g, c', e⟩ := own_head h.own (by omega)
  cases e
  have ho := h.own
  refine ⟨g, rfl, ho.cell k hkr, ho.frozen k, fun x => ?_⟩
  have hgo : g ≠ o := by
    intro e
    subst e
    rcases ho.2 with ⟨h', _⟩ | ⟨g', cap', cur, h', _, hg, _⟩
    · cases h'
    · cases h'
      have := h.out
      rw [Two, hg] at this
      cases this
  have hp := ho.put k hkr x
  unfold OwnU at hp
  rw [List.length_set] at hp
  exact ⟨two_far h.out _ hgo _, hp, List.length_set, h.far, h.low.setCell (p := ⟨g, k, none⟩) (ho.lt).1 _⟩
end
/-- The world at the first call: the two graphs and the result lie in variables. -/
theorem gr_two (w : World) (n m : Int) (u v : Value) {W : World} (h : W = ((w.alloc (.cells #[.int .i64 n, u] 36)).alloc (.cells #[.int .i64 m, v] 36)).alloc (.cells #[.int .i64 0, .slice none 0 0] 36)) :
    Two W w.heap.size 36 (.int .i64 n) u ∧ Two W (w.heap.size + 1) 36 (.int .i64 m) v ∧ Two W (w.heap.size + 1 + 1) 36 (.int .i64 0) (.slice none 0 0) ∧ Below w.heap.size w W := by
  subst h
  have b1 := alloc_below w (.cells #[.int .i64 n, u] 36)
  have b2 := alloc_below (w.alloc (.cells #[.int .i64 n, u] 36)) (.cells #[.int .i64 m, v] 36)
  have b3 := alloc_below ((w.alloc (.cells #[.int .i64 n, u] 36)).alloc (.cells #[.int .i64 m, v] 36)) (.cells #[.int .i64 0, .slice none 0 0] 36)
  have t1 := Two.new (w.alloc (.cells #[.int .i64 n, u] 36)) 36 (.int .i64 m) v
  have t2 := Two.new ((w.alloc (.cells #[.int .i64 n, u] 36)).alloc (.cells #[.int .i64 m, v] 36)) 36 (.int .i64 0) (.slice none 0 0)
  rw [World.size_alloc] at t1
  rw [World.size_alloc, World.size_alloc] at t2
  exact ⟨((Two.new w 36 (.int .i64 n) u).later b2).later b3, t1.later b3, t2, below_all (below_all b1 b2) b3⟩
theorem gr_one (w : World) (n : Int) (u : Value) {W : World} (h : W = (w.alloc (.cells #[.int .i64 n, u] 36)).alloc (.cells #[.int .i64 0, .slice none 0 0] 36)) :
    Two W w.heap.size 36 (.int .i64 n) u ∧ Two W (w.heap.size + 1) 36 (.int .i64 0) (.slice none 0 0) ∧ Below w.heap.size w W := by
  subst h
  have b1 := alloc_below w (.cells #[.int .i64 n, u] 36)
  have b2 := alloc_below (w.alloc (.cells #[.int .i64 n, u] 36)) (.cells #[.int .i64 0, .slice none 0 0] 36)
  have t1 := Two.new (w.alloc (.cells #[.int .i64 n, u] 36)) 36 (.int .i64 0) (.slice none 0 0)
  rw [World.size_alloc] at t1
  exact ⟨(Two.new w 36 (.int .i64 n) u).later b2, t1, below_all b1 b2⟩
/-- Behind New: what it made lies in a variable. -/
theorem Mk.start {W W1 : World} {n : Nat} {v : Value} {b : Nat} (hbs : b < W.heap.size) (hb : Below W.heap.size W W1) (ho : OwnU W1 W.heap.size v (Gf.zeros n)) : ∃ A c, v = .slice A n c ∧ Mk W (W1.alloc (.cells #[.int .i64 (n : Int), .slice A n c] 36)) b W1.heap.size n A c (Gf.zeros n) := by
  have hz : (Gf.zeros n).length = n := List.length_replicate
  obtain ⟨A, c, e⟩ := ho.form
  rw [hz] at e
  subst e
  have b1 := alloc_below W1 (.cells #[.int .i64 (n : Int), .slice A n c] 36)
  unfold OwnU at ho
  rw [hz] at ho
  have hsz := hb.size
  exact ⟨A, c, rfl, Two.new _ _ _ _, (own_below ho b1).mono (by omega), hz, by omega, (hb.mono (by omega)).trans (b1.mono (by omega))⟩

end Go.Proofs.YtlhinlfgmfenoaaDoor
/-
  What the reference's Union of layer 12 answers.
  Conditions: rows hold sets below 2^64.
  (This program has not all of these functions: rUnion12_at is left out here.)
-/
set_option maxRecDepth 4000
namespace Go.Proofs.YtlhinlfgmfenoaaDoor
open Go.RowKit

end Go.Proofs.YtlhinlfgmfenoaaDoor
/-
  What the reference's Compose of layer 12 answers.
  Conditions: rows hold sets below 2^64.
  (This program has not all of these functions: rCompose12_at is left out here.)
-/
set_option maxRecDepth 4000
namespace Go.Proofs.YtlhinlfgmfenoaaDoor
open Go.RowKit

end Go.Proofs.YtlhinlfgmfenoaaDoor
