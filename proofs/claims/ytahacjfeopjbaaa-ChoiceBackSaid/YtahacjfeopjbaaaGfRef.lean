/-
  Several texts in one, each with its own first words: GfRefA, GfRefB, GfRefC, GfRefD, GfRefE.
  Conditions: as each says.
-/
import Derived.Test.YtahacjfeopjbaaaGfAll
import Derived.Test.YtahacjfeopjbaaaBiAll
/-
  What the reference's functions of layer 12 answer that change no graph: Has, Node, New, Right, Same; and Plain of the laws.
  Conditions: rows hold sets below 2^64.
  (This program has not all of these functions: rNode12_at, gfPlain_at, rRight12_at are left out here.)
-/
set_option maxRecDepth 4000
namespace Go.Proofs.Ytahacjfeopjbaaa
open Go.RowKit

/-- The end of a call of the reference's: a graph is stored into the result's block. -/
theorem end_r {fn : Func} {p : Tmp} (h : fn.results = #[.cell p 30]) {w X : World} {b base : Nat} {n : Int} {l : List Nat} {u0 u1 : Value} {A : Option Addr} {m c : Nat} (hT : Two X b 30 u0 u1) (hR : OwnU X base (.slice A m c) l) (hbase : b < base) (hB : Below w.heap.size w X) (hb : w.heap.size ≤ b)
    (tmps : Array Value) (hp : tmps.getD p undef = .pointer (some ⟨b, 0, none⟩)) :
    bodyPost Try.prog fn (RetR w n l) Exit.ret { tmps := tmps, defers := [] } ((X.setCell ⟨b, 0, none⟩ (.int .i64 n)).setCell ⟨b, 1, none⟩ (.slice A m c)) := by
  obtain ⟨p0, p1⟩ := (hT.put (x := .int .i64 n) (y := .slice A m c)).cells
  exact bodyPost_ret (res_r h _ b _ n _ _ _ hp p0 p1) rfl ⟨_, rfl, (own_setCell (own_setCell hR hbase) hbase).mono (by omega), (hB.setCell (p := ⟨b, 0, none⟩) hb _).setCell (p := ⟨b, 1, none⟩) hb _⟩

theorem end_rd {fn : Func} {p : Tmp} (h : fn.results = #[.cell p 30]) {w X : World} {b base : Nat} {n : Int} {l : List Nat} {u0 u1 : Value} {A : Option Addr} {m c : Nat} (hT : Two X b 30 u0 u1) (hR : OwnU X base (.slice A m c) l) (hbase : b < base) (hB : Below w.heap.size w X) (hb : w.heap.size ≤ b)
    (tmps : Array Value) (hp : tmps.getD p undef = .pointer (some ⟨b, 0, none⟩)) :
    bodyPost Try.prog fn (RetR w n l) Exit.ret { tmps := tmps, defers := [] } (((X.setCell ⟨b, 0, none⟩ (.int .i64 n)).setCell ⟨b, 1, none⟩ (.slice A m c)).drew) := by
  obtain ⟨p0, p1⟩ := (hT.put (x := .int .i64 n) (y := .slice A m c)).cells
  exact bodyPost_ret (res_r h _ b _ n _ _ _ hp p0 p1) rfl ⟨_, rfl, own_drewN ((own_setCell (own_setCell hR hbase) hbase).mono (by omega)) 1, ((hB.setCell (p := ⟨b, 0, none⟩) hb _).setCell (p := ⟨b, 1, none⟩) hb _).drew⟩

theorem rHas12_at (n : Int) (v : Value) (l : List Nat) (a : Nat) (b : Int) (w : World) (hv : Us w v l) (ha : a < l.length) (hs : l[a] < 18446744073709551616) : Calls Try.prog 83 #[.agg #[.int .i64 n, v], .int .i64 a, .int .i64 b] w (RetBool w (Bi.has l[a] b)) := by
  have BW := Lib.hid (alloc_below w (.cells #[.int .i64 n, v] 30))
  obtain ⟨A, c, rfl, hf⟩ := (hv.below BW.out).spelled
  obtain ⟨ad, rfl, _, hE⟩ := hf a ha
  clear hf hv
  generalize l[a]'ha = x at *
  go_enter Try.func83, Try.ntmps83
  go_wp2_with fail
  refine (rHas10_at x b _ hs).mono ?_
  rintro e w1 ⟨rfl, rfl⟩
  go_wp2_with fail
  go_ret
  exact ⟨rfl, BW.out⟩

set_option maxHeartbeats 1000000 in
theorem rNew12_at (n : Nat) (hn : n ≤ 64) (w : World) : Calls Try.prog 44 #[.int .i64 n] w (RetR w n (Gf.zeros n)) := by
  obtain ⟨i0, hi0, hz0, hz1, hz2⟩ := info_parts gf_info
  have I0 := Lib.hid hi0
  have I1 := Lib.hid hz0
  have I2 := Lib.hid hz1
  have I3 := Lib.hid hz2
  clear hi0 hz0 hz1 hz2
  have b1 := alloc_below w (.cells #[.int .i64 0, .slice none 0 0] 30)
  have b2 := alloc_below (w.alloc (.cells #[.int .i64 0, .slice none 0 0] 30)) (.cells #[.int .i64 n, .slice none 0 0] 30)
  have t1 := Two.new (w.alloc (.cells #[.int .i64 0, .slice none 0 0] 30)) 30 (.int .i64 n) (.slice none 0 0)
  rw [World.size_alloc] at t1
  have TR := Lib.hid ((Two.new w 30 (.int .i64 0) (.slice none 0 0)).later b2)
  have TG := Lib.hid t1
  have BW := Lib.hid (below_all b1 b2)
  clear b1 b2 t1
  go_enter Try.func44, Try.ntmps44
  go_wp2_with fail
  generalize (w.alloc (.cells #[.int .i64 0, .slice none 0 0] 30)).alloc (.cells #[.int .i64 n, .slice none 0 0] 30) = W at *
  go_loopw [4] (fun i wr => ∃ (k : Nat) (A : Option Addr) (c : Nat), k ≤ n ∧ i = .int .i64 k ∧ Hid (Two wr (w.heap.size + 1) 30 (.int .i64 n) (.slice A k c)) ∧ Hid (Two wr w.heap.size 30 (.int .i64 0) (.slice none 0 0)) ∧ Hid (wr.ownsRow (w.heap.size + 2) 58 1 (.slice A k c) k ((Gf.zeros k).flatMap uC)) ∧ Hid (Below w.heap.size w wr)) (fun i _ => n - (intOf i).toNat)
  case atStart => exact ⟨0, none, 0, Nat.zero_le _, rfl, TG.out, TR.out, World.ownsRow_nil _ _ _ _, BW.out⟩
  case round =>
    clear TG TR BW
    obtain ⟨k, A, c, hk, rfl, HG, HT, HO, HB⟩ := hrel
    obtain ⟨c0, c1⟩ := HG.out.cells
    by_cases hlt : k < n
    · have b1 := alloc_below wr (.cells #[.int .u64 0] 58)
      have HO2 := Lib.hid (own_below HO.out b1)
      have HG2 := Lib.hid (HG.out.later b1)
      have HT2 := Lib.hid (HT.out.later b1)
      have HB2 := Lib.hid (below_all HB.out b1)
      have HSZ := Lib.hid HG2.out.lt
      have HNW := Lib.hid (gf_new wr 0 58)
      have HZ : Hid ((Gf.zeros k).flatMap uC ++ uC 0 = (Gf.zeros (k + 1)).flatMap uC) := by
        rw [Hid, Gf.zeros, Gf.zeros, List.replicate_succ', List.flatMap_append]
        rfl
      clear b1
      go_wp2_with (at_builtin; refine wpList_append_own_at _ rfl _ _ 28 rfl (w.heap.size + 2) 58 i0 _ 1 8 Try.underlying28 I0.out I1.out I2.out I3.out rfl (by decide) _ k _ rfl HO2.out ⟨wr.heap.size, 0, none⟩ 1 1 (uC 0) rfl rfl HNW.out (one_uC _) (by simp only [maxLen]; omega) (by omega) HSZ.out ?_; intro v2 w3 hown2 hgrow2 hnil2 hat2; rw [HZ.out] at hown2; obtain ⟨A3, c3, rfl⟩ := own_form hown2; have HO3 := Lib.hid hown2; have hb3 := below_append (Below.refl (w.heap.size + 2) _) HSZ.out HO2.out hgrow2; have HG3 := Lib.hid (two_at HG2.out hb3 (by omega)); have HT3 := Lib.hid (two_at HT2.out hb3 (by omega)); have HB3 := Lib.hid (HB2.out.trans (hb3.mono (by omega))); have f1 := HG3.out.frozen 1; have d1 := HG3.out.cells.2; clear hown2 hgrow2 hnil2 hat2 hb3)
      go_roundw
      case rel => exact ⟨k + 1, A3, c3, by omega, by go_num, two_put1 HG3.out, two_far HT3.out _ (by show w.heap.size + 1 ≠ w.heap.size; omega) _, own_setCell HO3.out (by omega), HB3.out.setCell (p := ⟨w.heap.size + 1, 1, none⟩) (Nat.le_succ _) _⟩
      case measure => simp [intOf]; omega
    · have hkn : k = n := by omega
      subst hkn
      obtain ⟨r0, r1⟩ := HT.out.cells
      have f0 := HT.out.frozen 0
      have f1 := HT.out.frozen 1
      have HO2 : Hid (OwnU wr (w.heap.size + 2) (.slice A k c) (Gf.zeros k)) := by
        have := HO.out
        unfold Hid OwnU
        rw [show (Gf.zeros k).length = k from List.length_replicate]
        exact this
      go_wp2_with fail
      exact end_r (p := 2) rfl HT.out HO2.out (by omega) HB.out (Nat.le_refl _) _ rfl

/-- Of two graphs that are the same Same says true. -/
theorem rSame12_at (n : Int) (u v : Value) (l : List Nat) (w : World) (hu : Us w u l) (hv : Us w v l) (hl : l.length ≤ 4294967296) : Calls Try.prog 17 #[.agg #[.int .i64 n, u], .agg #[.int .i64 n, v]] w (RetBool w true) := by
  obtain ⟨A, c, rfl, hf⟩ := hu.spelled
  obtain ⟨A', c', rfl, hf'⟩ := hv.spelled
  have HF := Lib.hid hf
  have HF' := Lib.hid hf'
  have b1 := alloc_below w (.cells #[.int .i64 n, .slice A l.length c] 30)
  have b2 := alloc_below (w.alloc (.cells #[.int .i64 n, .slice A l.length c] 30)) (.cells #[.int .i64 n, .slice A' l.length c'] 30)
  have t1 := Two.new (w.alloc (.cells #[.int .i64 n, .slice A l.length c] 30)) 30 (.int .i64 n) (.slice A' l.length c')
  rw [World.size_alloc] at t1
  have T0 := Lib.hid ((Two.new w 30 (.int .i64 n) (.slice A l.length c)).later b2)
  have T1 := Lib.hid t1
  have BW := Lib.hid (below_all b1 b2)
  clear b1 b2 t1 hf hf' hu hv
  go_enter Try.func17, Try.ntmps17
  go_wp2_with fail
  generalize (w.alloc (.cells #[.int .i64 n, .slice A l.length c] 30)).alloc (.cells #[.int .i64 n, .slice A' l.length c'] 30) = W at *
  go_loopw [5] (fun i wr => ∃ k : Nat, k ≤ l.length ∧ i = .int .i64 k ∧ Hid (Two wr w.heap.size 30 (.int .i64 n) (.slice A l.length c)) ∧ Hid (Two wr (w.heap.size + 1) 30 (.int .i64 n) (.slice A' l.length c')) ∧ Hid (Below w.heap.size w wr)) (fun i _ => l.length - (intOf i).toNat)
  case atStart => exact ⟨0, Nat.zero_le _, rfl, T0.out, T1.out, BW.out⟩
  case round =>
    clear T0 T1 BW
    obtain ⟨k, hk, rfl, T0, T1, HB⟩ := hrel
    obtain ⟨c0, c1⟩ := T0.out.cells
    obtain ⟨d0, d1⟩ := T1.out.cells
    by_cases hlt : k < l.length
    · obtain ⟨ad, rfl, hblk, hE⟩ := HF.out k hlt
      obtain ⟨ad', rfl, hblk', hE'⟩ := HF'.out k hlt
      have e0 := (HB.out.cell (by rw [add_block]; exact hblk)).trans hE
      have e1 := (HB.out.cell (by rw [add_block]; exact hblk')).trans hE'
      clear hE hE'
      generalize l[k]'hlt = x at *
      go_wp2_with fail
      go_quiet (fail)
      go_wp2_with fail
      go_roundw
      case rel => exact ⟨k + 1, by omega, by go_num, T0.out.later (drewN_below wr nq), T1.out.later (drewN_below wr nq), below_drewN HB.out nq⟩
      case measure => simp [intOf]; omega
    · go_wp2_with fail
      go_ret
      exact ⟨rfl, HB.out⟩

end Go.Proofs.Ytahacjfeopjbaaa
/-
  What the reference's Set of layer 12 answers.
  Conditions: rows hold sets below 2^64.
  (This program has not all of these functions: rSet12_at is left out here.)
-/
set_option maxRecDepth 4000
namespace Go.Proofs.Ytahacjfeopjbaaa
open Go.RowKit

/-- A row of the call's own with an element lies at a block's head. -/
theorem own_head {w : World} {base : Nat} {v : Value} {l : List Nat} (h : OwnU w base v l) (hl : 0 < l.length) : ∃ g c, v = .slice (some ⟨g, 0, none⟩) l.length c := by
  rcases h.2 with ⟨_, h0⟩ | ⟨g, cap, _, hv, _⟩
  · omega
  · exact ⟨g, cap, hv⟩

end Go.Proofs.Ytahacjfeopjbaaa
/-
  What the reference's Union and Turn of layer 12 answer; words for a call of the reference's that makes a graph and fills it.
  Conditions: rows hold sets below 2^64.
  (This program has not all of these functions: rTurn12_at is left out here.)
-/
set_option maxRecDepth 4000
namespace Go.Proofs.Ytahacjfeopjbaaa
open Go.RowKit

/-- A graph that is made: the variable at block o holds it, its row is the call's own; what lies at or below block b is as it was. -/
structure Mk (W0 W : World) (b o n : Nat) (A : Option Addr) (c : Nat) (r : List Nat) : Prop where
  out : Two W o 30 (.int .i64 (n : Int)) (.slice A n c)
  row : W.ownsRow (b + 1) 58 1 (.slice A n c) n (r.flatMap uC)
  len : r.length = n
  far : b < o
  low : Below (b + 1) W0 W
section
variable {W0 W W' : World} {b o n c : Nat} {A : Option Addr} {r : List Nat}
theorem Mk.later (h : Mk W0 W b o n A c r) (hb : Below W.heap.size W W') : Mk W0 W' b o n A c r := by
  have := h.out.lt
  have := h.far
  exact ⟨h.out.later hb, own_below h.row hb, h.len, h.far, h.low.trans (hb.mono (by omega))⟩
theorem Mk.own (h : Mk W0 W b o n A c r) : OwnU W (b + 1) (.slice A n c) r := by
  unfold OwnU
  rw [h.len]
  exact h.row
theorem Mk.below {w : World} (h : Mk W0 W b o n A c r) (hw : Below w.heap.size w W0) (hb : w.heap.size ≤ b + 1) : Below w.heap.size w W := hw.trans (h.low.mono hb)
/-- One set is changed. -/
theorem Mk.put (h : Mk W0 W b o n A c r) (k : Nat) (hk : k < n) : ∃ g, A = some ⟨g, 0, none⟩ ∧ W.cell? ⟨g, k, none⟩ = some (.int .u64 ((r[k]'(by rw [h.len]; exact hk) : Nat) : Int)) ∧ W.frozen? ⟨g, k, none⟩ = false ∧
    ∀ x : Nat, Mk W0 (W.setCell ⟨g, k, none⟩ (.int .u64 (x : Int))) b o n A c (r.set k x) := by
  have hkr : k < r.length := by rw [h.len]; exact hk
  obtain ⟨g, c', e⟩ := own_head h.own (by omega)
  cases e
  have ho := h.own
  refine ⟨g, rfl, ho.cell k hkr, ho.frozen k, fun x => ?_⟩
  have hgo : g ≠ o := by
    intro e
    subst e
    rcases ho.2 with ⟨h', _⟩ | ⟨g', cap', cur, h', _, hg, _⟩
    · cases h'
    · cases h'
      have := h.out
      rw [Two, hg] at this
      cases this
  have hp := ho.put k hkr x
  unfold OwnU at hp
  rw [List.length_set] at hp
  exact ⟨two_far h.out _ hgo _, hp, List.length_set, h.far, h.low.setCell (p := ⟨g, k, none⟩) (ho.lt).1 _⟩
end
/-- The world at the first call: the two graphs and the result lie in variables. -/
theorem gr_two (w : World) (n m : Int) (u v : Value) {W : World} (h : W = ((w.alloc (.cells #[.int .i64 n, u] 30)).alloc (.cells #[.int .i64 m, v] 30)).alloc (.cells #[.int .i64 0, .slice none 0 0] 30)) :
    Two W w.heap.size 30 (.int .i64 n) u ∧ Two W (w.heap.size + 1) 30 (.int .i64 m) v ∧ Two W (w.heap.size + 1 + 1) 30 (.int .i64 0) (.slice none 0 0) ∧ Below w.heap.size w W := by
  subst h
  have b1 := alloc_below w (.cells #[.int .i64 n, u] 30)
  have b2 := alloc_below (w.alloc (.cells #[.int .i64 n, u] 30)) (.cells #[.int .i64 m, v] 30)
  have b3 := alloc_below ((w.alloc (.cells #[.int .i64 n, u] 30)).alloc (.cells #[.int .i64 m, v] 30)) (.cells #[.int .i64 0, .slice none 0 0] 30)
  have t1 := Two.new (w.alloc (.cells #[.int .i64 n, u] 30)) 30 (.int .i64 m) v
  have t2 := Two.new ((w.alloc (.cells #[.int .i64 n, u] 30)).alloc (.cells #[.int .i64 m, v] 30)) 30 (.int .i64 0) (.slice none 0 0)
  rw [World.size_alloc] at t1
  rw [World.size_alloc, World.size_alloc] at t2
  exact ⟨((Two.new w 30 (.int .i64 n) u).later b2).later b3, t1.later b3, t2, below_all (below_all b1 b2) b3⟩
theorem gr_one (w : World) (n : Int) (u : Value) {W : World} (h : W = (w.alloc (.cells #[.int .i64 n, u] 30)).alloc (.cells #[.int .i64 0, .slice none 0 0] 30)) :
    Two W w.heap.size 30 (.int .i64 n) u ∧ Two W (w.heap.size + 1) 30 (.int .i64 0) (.slice none 0 0) ∧ Below w.heap.size w W := by
  subst h
  have b1 := alloc_below w (.cells #[.int .i64 n, u] 30)
  have b2 := alloc_below (w.alloc (.cells #[.int .i64 n, u] 30)) (.cells #[.int .i64 0, .slice none 0 0] 30)
  have t1 := Two.new (w.alloc (.cells #[.int .i64 n, u] 30)) 30 (.int .i64 0) (.slice none 0 0)
  rw [World.size_alloc] at t1
  exact ⟨(Two.new w 30 (.int .i64 n) u).later b2, t1, below_all b1 b2⟩
/-- Behind New: what it made lies in a variable. -/
theorem Mk.start {W W1 : World} {n : Nat} {v : Value} {b : Nat} (hbs : b < W.heap.size) (hb : Below W.heap.size W W1) (ho : OwnU W1 W.heap.size v (Gf.zeros n)) : ∃ A c, v = .slice A n c ∧ Mk W (W1.alloc (.cells #[.int .i64 (n : Int), .slice A n c] 30)) b W1.heap.size n A c (Gf.zeros n) := by
  have hz : (Gf.zeros n).length = n := List.length_replicate
  obtain ⟨A, c, e⟩ := ho.form
  rw [hz] at e
  subst e
  have b1 := alloc_below W1 (.cells #[.int .i64 (n : Int), .slice A n c] 30)
  unfold OwnU at ho
  rw [hz] at ho
  have hsz := hb.size
  exact ⟨A, c, rfl, Two.new _ _ _ _, (own_below ho b1).mono (by omega), hz, by omega, (hb.mono (by omega)).trans (b1.mono (by omega))⟩

end Go.Proofs.Ytahacjfeopjbaaa
/-
  What the reference's Union of layer 12 answers.
  Conditions: rows hold sets below 2^64.
-/
set_option maxRecDepth 4000
namespace Go.Proofs.Ytahacjfeopjbaaa
open Go.RowKit

set_option maxHeartbeats 4000000 in
theorem rUnion12_at (n : Nat) (u v : Value) (a b : List Nat) (w : World) (hu : Us w u a) (hv : Us w v b) (ha : Gf.Ok n a) (hb : Gf.Ok n b) : Calls Try.prog 48 #[.agg #[.int .i64 n, u], .agg #[.int .i64 n, v]] w (RetR w n (Gf.unionR n a b)) := by
  have HU := Lib.hid hu
  have HV := Lib.hid hv
  obtain ⟨A0, c0', rfl, -⟩ := hu.spelled
  obtain ⟨B0, d0', rfl, -⟩ := hv.spelled
  have HLA := Lib.hid ha.2.1
  have HLB := Lib.hid hb.2.1
  have HSA := Lib.hid (fun x (h : x < a.length) => ha.small (List.getElem_mem h))
  have HSB := Lib.hid (fun x (h : x < b.length) => hb.small (List.getElem_mem h))
  have hn64 := ha.1
  obtain ⟨f, hf⟩ : ∃ f : Nat → Nat → Bool, f = fun x y => Gf.bit a x y || Gf.bit b x y := ⟨_, rfl⟩
  have HZ := Lib.hid (Gf.rowsAt_zero n f)
  have HE : Hid (Gf.rowsAt n f n 0 = Gf.unionR n a b) := by rw [hf]; exact Gf.rowsAt_all n _ 0
  have HN : Hid (∀ x, Gf.rowsAt n f x (Gf.setTo (f x) n) = Gf.rowsAt n f (x + 1) 0) := fun x => Gf.rowsAt_next f x
  have HST := Lib.hid (fun x s t => @Gf.rowsAt_set n f x s t)
  have HRH := Lib.hid (fun x (h : x < n) s => Gf.rowsAt_here f h s)
  have HS0 := Lib.hid (fun x => Gf.setTo_zero (f x))
  have HSN := Lib.hid (fun x y => Gf.setTo_next (f x) y)
  have HSL := Lib.hid (fun x y => Gf.setTo_lt64 (f x) y)
  have HBF : Hid (∀ x y (hx : x < a.length) (hx' : x < b.length), y < n → f x y = (Bi.has a[x] (y : Int) || Bi.has b[x] (y : Int))) := fun x y hx hx' hy => by
    rw [hf, Bi.has_nat _ y (by omega), Bi.has_nat _ y (by omega)]
    show (Gf.bit a x y || Gf.bit b x y) = _
    rw [Gf.bit_at hx, Gf.bit_at hx']
  have F1 := Lib.hid (fun w => rNew12_at n hn64 w)
  have F2 := Lib.hid (fun w x h y hw => rHas12_at n (.slice A0 a.length c0') a x y w hw h (HSA.out x h))
  have F2' := Lib.hid (fun w x h y hw => rHas12_at n (.slice B0 b.length d0') b x y w hw h (HSB.out x h))
  clear hu hv ha hb hf
  go_enter Try.func48, Try.ntmps48
  go_wp2_with fail
  obtain ⟨t0, t1, t2, bw⟩ := gr_two w n n (.slice A0 a.length c0') (.slice B0 b.length d0') rfl
  have T0 := Lib.hid t0
  have T1 := Lib.hid t1
  have T2 := Lib.hid t2
  have BW := Lib.hid bw
  clear t0 t1 t2 bw
  generalize ((w.alloc (.cells #[.int .i64 n, .slice A0 a.length c0'] 30)).alloc (.cells #[.int .i64 n, .slice B0 b.length d0'] 30)).alloc (.cells #[.int .i64 0, .slice none 0 0] 30) = W at *
  refine (F1.out _).mono ?_
  rintro e w1 ⟨v1, rfl, ho1, hb1⟩
  obtain ⟨A, c, rfl, hmk⟩ := Mk.start (n := n) T2.out.lt hb1 ho1
  have HM := Lib.hid hmk
  clear hmk ho1 hb1
  rw [← HZ.out] at HM
  go_wp2_with fail
  generalize w1.alloc (.cells #[.int .i64 (n : Int), .slice A n c] 30) = w2 at *
  generalize w1.heap.size = o at *
  go_loopw [6] (fun i wr => ∃ x : Nat, x ≤ n ∧ i = .int .i64 x ∧ Hid (Mk W wr (w.heap.size + 1 + 1) o n A c (Gf.rowsAt n f x 0))) (fun i _ => n - (intOf i).toNat)
  case atStart => exact ⟨0, Nat.zero_le _, rfl, HM.out⟩
  case round =>
    clear HM
    obtain ⟨x, hx, rfl, HM⟩ := hrel
    obtain ⟨a0, a1⟩ := (two_at T0.out HM.out.low (by omega)).cells
    by_cases hlt : x < n
    · rw [← HS0.out x] at HM
      have hxa : x < a.length := by have := HLA.out; omega
      have hxb : x < b.length := by have := HLB.out; omega
      go_wp2_with fail
      clear a0 a1
      go_loopw [7] (fun i wq => ∃ y : Nat, y ≤ n ∧ i = .int .i64 y ∧ Hid (Mk W wq (w.heap.size + 1 + 1) o n A c (Gf.rowsAt n f x (Gf.setTo (f x) y)))) (fun i _ => n - (intOf i).toNat)
      case atStart => exact ⟨0, Nat.zero_le _, rfl, HM.out⟩
      case round =>
        clear HM
        obtain ⟨y, hy, rfl, HM⟩ := hrel
        obtain ⟨a0, a1⟩ := (two_at T0.out HM.out.low (by omega)).cells
        by_cases hlt2 : y < n
        · have hfpq := HBF.out x y hxa hxb hlt2
          have hsn := HSN.out x y
          have hsl := HSL.out x y
          generalize hp : Bi.has a[x] (y : Int) = p at *
          generalize hq : Bi.has b[x] (y : Int) = q at *
          have G2 := Lib.hid (fun w hw => F2.out w x hxa (y : Int) hw)
          have G2' := Lib.hid (fun w hw => F2'.out w x hxb (y : Int) hw)
          rw [hp] at G2
          rw [hq] at G2'
          clear hp hq
          go_wp2_with fail
          refine (G2.out _ (HU.out.below (HM.out.below BW.out (by omega)))).mono ?_
          rintro e w3 ⟨rfl, hb3⟩
          have HM2 := Lib.hid (HM.out.later hb3)
          clear hb3 HM a0 a1
          obtain ⟨b0, b1⟩ := (two_at T1.out HM2.out.low (by omega)).cells
          go_wp2_with fail
          refine (G2'.out _ (HV.out.below (HM2.out.below BW.out (by omega)))).mono ?_
          rintro e w4 ⟨rfl, hb4⟩
          have HM3 := Lib.hid (HM2.out.later hb4)
          clear hb4 HM2 b0 b1 G2 G2'
          obtain ⟨a0, a1⟩ := (two_at T0.out HM3.out.low (by omega)).cells
          cases p with
          | false =>
            cases q with
            | false =>
              rw [hfpq] at hsn
              clear hfpq
              have hsn' : Gf.setTo (f x) (y + 1) = Gf.setTo (f x) y := hsn
              have HSS := Lib.hid hsn'
              clear hsn hsn'
              go_wp2_with fail
              go_roundw
              case rel => exact ⟨y + 1, by omega, by go_num, by rw [Hid, HSS.out]; exact HM3.out⟩
              case measure => simp [intOf]; omega
            | true =>
              rw [hfpq] at hsn
              clear hfpq
              have hsn' : Gf.setTo (f x) (y + 1) = Bi.withN (Gf.setTo (f x) y) (y : Int) := hsn
              have HSS := Lib.hid hsn'
              clear hsn hsn'
              have F3 := Lib.hid (fun w => rWith10_at (Gf.setTo (f x) y) (y : Int) w hsl)
              rw [← HSS.out] at F3
              obtain ⟨g, hA, e2, f2, hput⟩ := HM3.out.put x hlt
              rw [HRH.out x hlt] at e2
              have HM4 := Lib.hid (hput (Gf.setTo (f x) (y + 1)))
              rw [HST.out] at HM4
              obtain ⟨e0, e1⟩ := HM3.out.out.cells
              subst hA
              obtain ⟨s', hs'⟩ : ∃ s', s' = Gf.setTo (f x) (y + 1) := ⟨_, rfl⟩
              rw [← hs'] at F3 HM4
              have HS' := Lib.hid hs'
              clear hs' HSS hput
              generalize Gf.setTo (f x) y = s at *
              go_wp2_with fail
              go_region_law (go_simp; go_at_call 45; refine (F3.out _).mono ?_; rintro e w5 ⟨rfl, rfl⟩)
              all_goals
                clear e0 e1 e2 f2 a0 a1
                go_wp2_with fail
                go_roundw
                case rel => exact ⟨y + 1, by omega, by go_num, by rw [Hid, ← HS'.out]; exact HM4.out.later (Below.refl _ _).drew⟩
                case measure => simp [intOf]; omega
          | true =>
            cases q with
            | false =>
              rw [hfpq] at hsn
              clear hfpq
              have hsn' : Gf.setTo (f x) (y + 1) = Bi.withN (Gf.setTo (f x) y) (y : Int) := hsn
              have HSS := Lib.hid hsn'
              clear hsn hsn'
              have F3 := Lib.hid (fun w => rWith10_at (Gf.setTo (f x) y) (y : Int) w hsl)
              rw [← HSS.out] at F3
              obtain ⟨g, hA, e2, f2, hput⟩ := HM3.out.put x hlt
              rw [HRH.out x hlt] at e2
              have HM4 := Lib.hid (hput (Gf.setTo (f x) (y + 1)))
              rw [HST.out] at HM4
              obtain ⟨e0, e1⟩ := HM3.out.out.cells
              subst hA
              obtain ⟨s', hs'⟩ : ∃ s', s' = Gf.setTo (f x) (y + 1) := ⟨_, rfl⟩
              rw [← hs'] at F3 HM4
              have HS' := Lib.hid hs'
              clear hs' HSS hput
              generalize Gf.setTo (f x) y = s at *
              go_wp2_with fail
              go_region_law (go_simp; go_at_call 45; refine (F3.out _).mono ?_; rintro e w5 ⟨rfl, rfl⟩)
              all_goals
                clear e0 e1 e2 f2 a0 a1
                go_wp2_with fail
                go_roundw
                case rel => exact ⟨y + 1, by omega, by go_num, by rw [Hid, ← HS'.out]; exact HM4.out.later (Below.refl _ _).drew⟩
                case measure => simp [intOf]; omega
            | true =>
              rw [hfpq] at hsn
              clear hfpq
              have hsn' : Gf.setTo (f x) (y + 1) = Bi.withN (Gf.setTo (f x) y) (y : Int) := hsn
              have HSS := Lib.hid hsn'
              clear hsn hsn'
              have F3 := Lib.hid (fun w => rWith10_at (Gf.setTo (f x) y) (y : Int) w hsl)
              rw [← HSS.out] at F3
              obtain ⟨g, hA, e2, f2, hput⟩ := HM3.out.put x hlt
              rw [HRH.out x hlt] at e2
              have HM4 := Lib.hid (hput (Gf.setTo (f x) (y + 1)))
              rw [HST.out] at HM4
              obtain ⟨e0, e1⟩ := HM3.out.out.cells
              subst hA
              obtain ⟨s', hs'⟩ : ∃ s', s' = Gf.setTo (f x) (y + 1) := ⟨_, rfl⟩
              rw [← hs'] at F3 HM4
              have HS' := Lib.hid hs'
              clear hs' HSS hput
              generalize Gf.setTo (f x) y = s at *
              go_wp2_with fail
              go_region_law (go_simp; go_at_call 45; refine (F3.out _).mono ?_; rintro e w5 ⟨rfl, rfl⟩)
              all_goals
                clear e0 e1 e2 f2 a0 a1
                go_wp2_with fail
                go_roundw
                case rel => exact ⟨y + 1, by omega, by go_num, by rw [Hid, ← HS'.out]; exact HM4.out.later (Below.refl _ _).drew⟩
                case measure => simp [intOf]; omega
        · have hyn : y = n := by omega
          subst hyn
          rw [HN.out] at HM
          go_wp2_with fail
          go_roundw
          case rel => exact ⟨x + 1, by omega, by go_num, HM.out⟩
          case measure => simp [intOf]; omega
    · have hxn : x = n := by omega
      subst hxn
      obtain ⟨e0, e1⟩ := HM.out.out.cells
      have TR := Lib.hid (two_at T2.out HM.out.low (by omega))
      obtain ⟨r0, r1⟩ := TR.out.cells
      have f0 := TR.out.frozen 0
      have f1 := TR.out.frozen 1
      rw [HE.out] at HM
      go_wp2_with fail
      exact end_r (p := 4) rfl TR.out HM.out.own (by omega) (HM.out.below BW.out (by omega)) (by omega) _ rfl
end Go.Proofs.Ytahacjfeopjbaaa
/-
  What the reference's Compose of layer 12 answers.
  Conditions: rows hold sets below 2^64.
-/
set_option maxRecDepth 4000
namespace Go.Proofs.Ytahacjfeopjbaaa
open Go.RowKit

set_option maxHeartbeats 4000000 in
theorem rCompose12_at (n : Nat) (u v : Value) (a b : List Nat) (w : World) (hu : Us w u a) (hv : Us w v b) (ha : Gf.Ok n a) (hb : Gf.Ok n b) : Calls Try.prog 50 #[.agg #[.int .i64 n, u], .agg #[.int .i64 n, v]] w (RetR w n (Gf.composeR n a b)) := by
  have HU := Lib.hid hu
  have HV := Lib.hid hv
  obtain ⟨A0, c0', rfl, -⟩ := hu.spelled
  obtain ⟨B0, d0', rfl, -⟩ := hv.spelled
  have HLA := Lib.hid ha.2.1
  have HLB := Lib.hid hb.2.1
  have HSA := Lib.hid (fun x (h : x < a.length) => ha.small (List.getElem_mem h))
  have HSB := Lib.hid (fun x (h : x < b.length) => hb.small (List.getElem_mem h))
  have hn64 := ha.1
  obtain ⟨f, hf⟩ : ∃ f : Nat → Nat → Bool, f = fun x z => (List.range n).any fun y => Gf.bit a x y && Gf.bit b y z := ⟨_, rfl⟩
  have HZ := Lib.hid (Gf.rowsAt_zero n f)
  have HE : Hid (Gf.rowsAt n f n 0 = Gf.composeR n a b) := by rw [hf]; exact Gf.rowsAt_all n _ 0
  have HN : Hid (∀ x, Gf.rowsAt n f x (Gf.midTo a b n x n) = Gf.rowsAt n f (x + 1) 0) := fun x => by
    rw [← Gf.rowsAt_next f x, Gf.midTo_all hn64, hf]
  have HST := Lib.hid (fun x s t => @Gf.rowsAt_set n f x s t)
  have HRH := Lib.hid (fun x (h : x < n) s => Gf.rowsAt_here f h s)
  have HM0 := Lib.hid (fun x => Gf.midTo_zero a b n x)
  have HMY := Lib.hid (fun x y (h : Gf.bit a x y = true) => Gf.midTo_yes (b := b) (n := n) h)
  have HMN := Lib.hid (fun x y (h : Gf.bit a x y = false) => Gf.midTo_no (b := b) (n := n) h)
  have HML := Lib.hid (fun x y => Gf.midTo_lt a b n x y)
  have HP0 := Lib.hid (fun y s => Gf.putTo_zero (Gf.bit b y) s)
  have HPY := Lib.hid (fun y z s (h : Gf.bit b y z = true) => Gf.putTo_yes h s)
  have HPN := Lib.hid (fun y z s (h : Gf.bit b y z = false) => Gf.putTo_no h s)
  have HPL := Lib.hid (fun y z s (h : s < 2 ^ 64) => Gf.putTo_lt (Gf.bit b y) z h)
  have HBA : Hid (∀ x y (hx : x < a.length), y < n → Bi.has a[x] (y : Int) = Gf.bit a x y) := fun x y hx hy => by
    rw [Bi.has_nat _ y (by omega), Gf.bit_at hx]
  have HBB : Hid (∀ y z (hy : y < b.length), z < n → Bi.has b[y] (z : Int) = Gf.bit b y z) := fun y z hy hz => by
    rw [Bi.has_nat _ z (by omega), Gf.bit_at hy]
  have F1 := Lib.hid (fun w => rNew12_at n hn64 w)
  have F2 := Lib.hid (fun w x h y hw => rHas12_at n (.slice A0 a.length c0') a x y w hw h (HSA.out x h))
  have F2' := Lib.hid (fun w x h y hw => rHas12_at n (.slice B0 b.length d0') b x y w hw h (HSB.out x h))
  clear hu hv ha hb hf
  go_enter Try.func50, Try.ntmps50
  go_wp2_with fail
  obtain ⟨t0, t1, t2, bw⟩ := gr_two w n n (.slice A0 a.length c0') (.slice B0 b.length d0') rfl
  have T0 := Lib.hid t0
  have T1 := Lib.hid t1
  have T2 := Lib.hid t2
  have BW := Lib.hid bw
  clear t0 t1 t2 bw
  generalize ((w.alloc (.cells #[.int .i64 n, .slice A0 a.length c0'] 30)).alloc (.cells #[.int .i64 n, .slice B0 b.length d0'] 30)).alloc (.cells #[.int .i64 0, .slice none 0 0] 30) = W at *
  refine (F1.out _).mono ?_
  rintro e w1 ⟨v1, rfl, ho1, hb1⟩
  obtain ⟨A, c, rfl, hmk⟩ := Mk.start (n := n) T2.out.lt hb1 ho1
  have HM := Lib.hid hmk
  clear hmk ho1 hb1
  rw [← HZ.out] at HM
  go_wp2_with fail
  generalize w1.alloc (.cells #[.int .i64 (n : Int), .slice A n c] 30) = w2 at *
  generalize w1.heap.size = o at *
  go_loopw [6] (fun i wr => ∃ x : Nat, x ≤ n ∧ i = .int .i64 x ∧ Hid (Mk W wr (w.heap.size + 1 + 1) o n A c (Gf.rowsAt n f x 0))) (fun i _ => n - (intOf i).toNat)
  case atStart => exact ⟨0, Nat.zero_le _, rfl, HM.out⟩
  case round =>
    clear HM
    obtain ⟨x, hx, rfl, HM⟩ := hrel
    obtain ⟨a0, a1⟩ := (two_at T0.out HM.out.low (by omega)).cells
    by_cases hlt : x < n
    · rw [← HM0.out x] at HM
      have hxa : x < a.length := by have := HLA.out; omega
      go_wp2_with fail
      clear a0 a1
      go_loopw [7] (fun i wq => ∃ y : Nat, y ≤ n ∧ i = .int .i64 y ∧ Hid (Mk W wq (w.heap.size + 1 + 1) o n A c (Gf.rowsAt n f x (Gf.midTo a b n x y)))) (fun i _ => n - (intOf i).toNat)
      case atStart => exact ⟨0, Nat.zero_le _, rfl, HM.out⟩
      case round =>
        clear HM
        obtain ⟨y, hy, rfl, HM⟩ := hrel
        obtain ⟨a0, a1⟩ := (two_at T0.out HM.out.low (by omega)).cells
        by_cases hlt2 : y < n
        · have hyb : y < b.length := by have := HLB.out; omega
          have hbf := HBA.out x y hxa hlt2
          have hml := HML.out x y
          have HY := Lib.hid (HMY.out x y)
          have HNo := Lib.hid (HMN.out x y)
          go_wp2_with fail
          refine (F2.out _ x hxa (y : Int) (HU.out.below (HM.out.below BW.out (by omega)))).mono ?_
          rintro e w3 ⟨rfl, hb3⟩
          rw [hbf]
          have HM2 := Lib.hid (HM.out.later hb3)
          clear hb3 HM a0 a1 hbf
          cases hb : Gf.bit a x y with
          | false =>
            have HSS := Lib.hid (HNo.out hb)
            obtain ⟨a0, a1⟩ := (two_at T0.out HM2.out.low (by omega)).cells
            clear hb
            go_wp2_with fail
            go_roundw
            case rel => exact ⟨y + 1, by omega, by go_num, by rw [Hid, HSS.out]; exact HM2.out⟩
            case measure => simp [intOf]; omega
          | true =>
            have HSS := Lib.hid (HY.out hb)
            obtain ⟨a0, a1⟩ := (two_at T0.out HM2.out.low (by omega)).cells
            clear hb HY HNo
            generalize Gf.midTo a b n x y = m at *
            rw [← HP0.out y m] at HM2
            go_wp2_with fail
            clear a0 a1
            go_loopw [9] (fun i wq => ∃ z : Nat, z ≤ n ∧ i = .int .i64 z ∧ Hid (Mk W wq (w.heap.size + 1 + 1) o n A c (Gf.rowsAt n f x (Gf.putTo (Gf.bit b y) z m)))) (fun i _ => n - (intOf i).toNat)
            case atStart => exact ⟨0, Nat.zero_le _, rfl, HM2.out⟩
            case round =>
              clear HM2
              obtain ⟨z, hz, rfl, HM⟩ := hrel
              obtain ⟨a0, a1⟩ := (two_at T0.out HM.out.low (by omega)).cells
              by_cases hlt3 : z < n
              · obtain ⟨b0, b1⟩ := (two_at T1.out HM.out.low (by omega)).cells
                have hbf := HBB.out y z hyb hlt3
                have hsl := HPL.out y z m hml
                have HY := Lib.hid (HPY.out y z m)
                have HNo := Lib.hid (HPN.out y z m)
                go_wp2_with fail
                refine (F2'.out _ y hyb (z : Int) (HV.out.below (HM.out.below BW.out (by omega)))).mono ?_
                rintro e w4 ⟨rfl, hb4⟩
                rw [hbf]
                have HM3 := Lib.hid (HM.out.later hb4)
                clear hb4 HM a0 a1 b0 b1 hbf
                obtain ⟨a0, a1⟩ := (two_at T0.out HM3.out.low (by omega)).cells
                cases hb : Gf.bit b y z with
                | false =>
                  have HSS := Lib.hid (HNo.out hb)
                  clear hb
                  go_wp2_with fail
                  go_roundw
                  case rel => exact ⟨z + 1, by omega, by go_num, by rw [Hid, HSS.out]; exact HM3.out⟩
                  case measure => simp [intOf]; omega
                | true =>
                  have HSS := Lib.hid (HY.out hb)
                  clear hb HY HNo
                  have F3 := Lib.hid (fun w => rWith10_at (Gf.putTo (Gf.bit b y) z m) (z : Int) w hsl)
                  rw [← HSS.out] at F3
                  obtain ⟨g, hA, e2, f2, hput⟩ := HM3.out.put x hlt
                  rw [HRH.out x hlt] at e2
                  have HM4 := Lib.hid (hput (Gf.putTo (Gf.bit b y) (z + 1) m))
                  rw [HST.out] at HM4
                  obtain ⟨e0, e1⟩ := HM3.out.out.cells
                  subst hA
                  obtain ⟨s', hs'⟩ : ∃ s', s' = Gf.putTo (Gf.bit b y) (z + 1) m := ⟨_, rfl⟩
                  rw [← hs'] at F3 HM4
                  have HS' := Lib.hid hs'
                  clear hs' HSS hput
                  generalize Gf.putTo (Gf.bit b y) z m = s at *
                  go_wp2_with fail
                  go_region_law (go_simp; go_at_call 45; refine (F3.out _).mono ?_; rintro e w5 ⟨rfl, rfl⟩)
                  all_goals
                    clear e0 e1 e2 f2 a0 a1
                    go_wp2_with fail
                    go_roundw
                    case rel => exact ⟨z + 1, by omega, by go_num, by rw [Hid, ← HS'.out]; exact HM4.out.later (Below.refl _ _).drew⟩
                    case measure => simp [intOf]; omega
              · have hzn : z = n := by omega
                subst hzn
                rw [← HSS.out] at HM
                go_wp2_with fail
                go_roundw
                case rel => exact ⟨y + 1, by omega, by go_num, HM.out⟩
                case measure => simp [intOf]; omega
        · have hyn : y = n := by omega
          subst hyn
          rw [HN.out] at HM
          go_wp2_with fail
          go_roundw
          case rel => exact ⟨x + 1, by omega, by go_num, HM.out⟩
          case measure => simp [intOf]; omega
    · have hxn : x = n := by omega
      subst hxn
      obtain ⟨e0, e1⟩ := HM.out.out.cells
      have TR := Lib.hid (two_at T2.out HM.out.low (by omega))
      obtain ⟨r0, r1⟩ := TR.out.cells
      have f0 := TR.out.frozen 0
      have f1 := TR.out.frozen 1
      rw [HE.out] at HM
      go_wp2_with fail
      exact end_r (p := 4) rfl TR.out HM.out.own (by omega) (HM.out.below BW.out (by omega)) (by omega) _ rfl
end Go.Proofs.Ytahacjfeopjbaaa
