/-
  The laws' made and awake of layer 12.
  Conditions: made: its edges are among the nodes.
-/
import Derived.Test.YtcpiaddohiokkaaGfWalkG
set_option maxRecDepth 4000
namespace Go.Proofs.Ytcpiaddohiokkaa
open Go.RowKit

/-- A variable that holds a graph with a row of the call's own; the result's variable below it. -/
structure Hold (w W : World) (o n : Nat) (A : Option Addr) (c : Nat) (r : List Nat) : Prop where
  out : Two W o 24 (.int .i64 (n : Int)) (.slice A n c)
  res : Two W w.heap.size 24 (.int .i64 0) (.slice none 0 0)
  row : W.ownsRow (w.heap.size + 1) 49 1 (.slice A n c) n (r.flatMap uC)
  len : r.length = n
  far : w.heap.size < o
  below : Below w.heap.size w W
section
variable {w W W' : World} {o n c : Nat} {A : Option Addr} {r : List Nat}
theorem Hold.later (h : Hold w W o n A c r) (hb : Below W.heap.size W W') : Hold w W' o n A c r := by
  exact ⟨h.out.later hb, h.res.later hb, own_below h.row hb, h.len, h.far, below_all h.below hb⟩
theorem Hold.own (h : Hold w W o n A c r) : OwnU W (w.heap.size + 1) (.slice A n c) r := by
  unfold OwnU
  rw [h.len]
  exact h.row
/-- Another graph is stored into it. -/
theorem Hold.turn {v : Value} {r' : List Nat} (h : Hold w W o n A c r) (hb : Below W.heap.size W W') (ho : OwnU W' W.heap.size v r') (hl : r'.length = n) :
    ∃ A' c', v = .slice A' n c' ∧ Hold w ((W'.setCell ⟨o, 0, none⟩ (.int .i64 (n : Int))).setCell ⟨o, 1, none⟩ (.slice A' n c')) o n A' c' r' := by
  obtain ⟨A', c', e⟩ := ho.form
  rw [hl] at e
  subst e
  have hlt := h.out.lt
  have hfar := h.far
  have h2 := h.later hb
  unfold OwnU at ho
  rw [hl] at ho
  refine ⟨A', c', rfl, (h2.out).put, two_far (two_far h2.res _ (by show o ≠ _; omega) _) _ (by show o ≠ _; omega) _, (own_setCell (own_setCell ho hlt) hlt).mono (by omega), hl, hfar, (h2.below.setCell (p := ⟨o, 0, none⟩) (by show w.heap.size ≤ o; omega) _).setCell (p := ⟨o, 1, none⟩) (by show w.heap.size ≤ o; omega) _⟩
/-- Behind New. -/
theorem Hold.start {W W1 : World} {v : Value} {r : List Nat} (hres : Two W w.heap.size 24 (.int .i64 0) (.slice none 0 0)) (hB : Below w.heap.size w W) (hb : Below W.heap.size W W1) (ho : OwnU W1 W.heap.size v r) (hl : r.length = n) :
    ∃ A c, v = .slice A n c ∧ Hold w (W1.alloc (.cells #[.int .i64 (n : Int), .slice A n c] 24)) W1.heap.size n A c r := by
  obtain ⟨A, c, e⟩ := ho.form
  rw [hl] at e
  subst e
  have b1 := alloc_below W1 (.cells #[.int .i64 (n : Int), .slice A n c] 24)
  unfold OwnU at ho
  rw [hl] at ho
  have hsz := hb.size
  have hlt := hres.lt
  exact ⟨A, c, rfl, Two.new _ _ _ _, (hres.later hb).later b1, (own_below ho b1).mono (by omega), hl, by omega, below_all (below_all hB hb) b1⟩
end
/-- The end of a call that hands back what a variable holds. -/
theorem end_gv {fn : Func} {p u : Tmp} (h : fn.results = #[.cell p 24, .tmp u]) {w X : World} {b base : Nat} {n : Int} {l : List Nat} {u0 u1 : Value} {A : Option Addr} {m c : Nat} (hT : Two X b 24 u0 u1) (hR : OwnU X base (.slice A m c) l) (hbase : b < base) (hB : Below w.heap.size w X) (hb : w.heap.size ≤ b)
    (tmps : Array Value) (hp : tmps.getD p undef = .pointer (some ⟨b, 0, none⟩)) (hq : tmps.getD u undef = .int .i64 0) :
    bodyPost Try.prog fn (RetG w n l) Exit.ret { tmps := tmps, defers := [] } ((X.setCell ⟨b, 0, none⟩ (.int .i64 n)).setCell ⟨b, 1, none⟩ (.slice A m c)) := by
  obtain ⟨p0, p1⟩ := (hT.put (x := .int .i64 n) (y := .slice A m c)).cells
  exact bodyPost_ret (res_g h _ b _ n 0 _ _ _ hp hq p0 p1) rfl ⟨_, rfl, (own_setCell (own_setCell hR hbase) hbase).mono (by omega), (hB.setCell (p := ⟨b, 0, none⟩) hb _).setCell (p := ⟨b, 1, none⟩) hb _⟩
/-- An edge among a row of edges, as the walk spells its cells' places. -/
theorem ed_spelled {w : World} {v : Value} {l : List (Nat × Nat)} (h : Its w v (Gf.eI l)) : ∃ A c, v = .slice A l.length c ∧ ∀ (k : Nat) (hk : k < l.length), ∃ ad : Addr, A = some ad ∧ ad.block < w.heap.size ∧ ItIn w ad k ((l[k].1 : Int), (l[k].2 : Int)) := by
  obtain ⟨A, c, hv, hh⟩ := h.spelled
  rw [Gf.eI_len] at hv
  refine ⟨A, c, hv, fun k hk => ?_⟩
  have := hh k (by rw [Gf.eI_len]; exact hk)
  rw [Gf.eI_at] at this
  exact this

set_option maxHeartbeats 2000000 in
theorem gfMade_at (n : Nat) (hn : n ≤ 64) (es : List (Nat × Nat)) (v : Value) (w : World) (hv : Its w v (Gf.eI es)) (hes : ∀ e ∈ es, e.1 < n ∧ e.2 < n) (hl : es.length ≤ 4294967296) : Calls Try.prog 24 #[.int .i64 n, v] w (RetG w n (Gf.madeOf n es)) := by
  obtain ⟨AE, cE, rfl, hf⟩ := ed_spelled hv
  have HF := Lib.hid hf
  have HES := Lib.hid (fun k (h : k < es.length) => hes _ (List.getElem_mem h))
  have HOK : Hid (∀ k, Gf.Ok n (Gf.madeOf n (es.take k))) := fun k => (Gf.made_bit hn (es.take k) fun e he => hes e (List.mem_of_mem_take he)).1
  have HNX : Hid (∀ k (h : k < es.length), Gf.madeOf n (es.take (k + 1)) = Gf.addR (Gf.madeOf n (es.take k)) es[k].1 es[k].2) := fun k h => by
    rw [List.take_succ_eq_append_getElem h, Gf.made_next]
  have HZ : Hid (Gf.madeOf n (es.take 0) = Gf.zeros n) := rfl
  have HALL : Hid (Gf.madeOf n (es.take es.length) = Gf.madeOf n es) := by rw [Hid, List.take_length]
  have T0 := Lib.hid (Two.new w 24 (.int .i64 0) (.slice none 0 0))
  have BW := Lib.hid (alloc_below w (.cells #[.int .i64 0, .slice none 0 0] 24))
  clear hf hv hes
  go_enter Try.func24, Try.ntmps24
  go_wp2_with fail
  generalize w.alloc (.cells #[.int .i64 0, .slice none 0 0] 24) = W at *
  refine (gfNew_at n hn _).mono ?_
  rintro e w1 ⟨v1, rfl, ho1, hb1⟩
  obtain ⟨A, c, rfl, hmk⟩ := Hold.start T0.out BW.out hb1 ho1 (List.length_replicate (a := 0))
  have HH := Lib.hid hmk
  clear hmk ho1 hb1 T0 BW
  rw [← HZ.out] at HH
  go_wp2_with fail
  generalize w1.alloc (.cells #[.int .i64 (n : Int), .slice A n c] 24) = w2 at *
  generalize w1.heap.size = o at *
  go_loopw [7, 8] (fun q i wr => ∃ (k : Nat) (A : Option Addr) (c : Nat), k ≤ es.length ∧ i = .int .i64 k ∧ q = .int .i64 0 ∧ Hid (Hold w wr o n A c (Gf.madeOf n (es.take k)))) (fun _ i _ => es.length - (intOf i).toNat)
  case atStart => exact ⟨0, A, c, Nat.zero_le _, rfl, rfl, HH.out⟩
  case round =>
    clear HH
    obtain ⟨k, A, c, hk, rfl, rfl, HH⟩ := hrel
    by_cases hlt : k < es.length
    · obtain ⟨ad, rfl, hblk, hE⟩ := HF.out k hlt
      obtain ⟨q0, q1⟩ := hE.below hblk HH.out.below
      obtain ⟨hx, hy⟩ := HES.out k hlt
      have HN2 := Lib.hid (HNX.out k hlt)
      have HOK2 := Lib.hid (HOK.out (k + 1)).2.1
      have F := Lib.hid (fun w A c h => gfAdd_at n (.slice A n c) (Gf.madeOf n (es.take k)) (es[k]'hlt).1 (es[k]'hlt).2 w h (HOK.out k) hx hy)
      rw [← HN2.out] at F
      generalize (es[k]'hlt).1 = x at *
      generalize (es[k]'hlt).2 = y at *
      obtain ⟨c0, c1⟩ := HH.out.out.cells
      have HD := Lib.hid (HH.out.later (Below.refl _ wr).drew)
      clear hE
      have hk1 : decide (k < es.length) = true := decide_eq_true hlt
      go_wp2_with fail
      go_region_law (go_simp; go_at_call 10; refine (F.out _ _ _ HD.out.own.us).mono ?_; rintro e w3 ⟨v3, rfl, ho3, hb3⟩; obtain ⟨A3, c3, rfl, hh3⟩ := HD.out.turn hb3 ho3 HOK2.out; have HH3 := Lib.hid hh3; have T3 := (HD.out.later hb3).out; have f0 := T3.frozen 0; have f1 := T3.frozen 1; have g0 := T3.cells.1; have g1 := T3.cells.2; clear hh3 ho3 hb3 T3)
      all_goals
        go_wp2_with fail
        go_roundw
        case rel => exact ⟨k + 1, A3, c3, by omega, by go_num, rfl, HH3.out⟩
        case measure => simp [intOf]; omega
    · have hkn : k = es.length := by omega
      subst hkn
      obtain ⟨c0, c1⟩ := HH.out.out.cells
      obtain ⟨r0, r1⟩ := HH.out.res.cells
      have f0 := HH.out.res.frozen 0
      have f1 := HH.out.res.frozen 1
      rw [HALL.out] at HH
      go_wp2_with fail
      exact end_gv (p := 4) (u := 5) rfl HH.out.res HH.out.own (by omega) HH.out.below (Nat.le_refl _) _ rfl rfl
end Go.Proofs.Ytcpiaddohiokkaa
