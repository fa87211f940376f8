/-
  What the reference's New, Push, Top and Pop of layer 11 answer: a stack there is a value, a number and a row of numbers.
  Conditions: the row has at most 2^32 numbers.
-/
import Derived.Test.YteccllhbacjhbaaStWalkB
import Derived.Deep.Onto
set_option maxRecDepth 4000
namespace Go.Proofs.Yteccllhbacjhbaa
open Go.RowKit

/-- A stack as a value. -/
def stV (most : Int) (v : Value) : Value := .agg #[.int .i64 most, v]
/-- A stack to which something was done; a stack and the number that was taken: its row is the call's own. -/
def RetPair (w : World) (most : Int) (l : List Int) (e : Ending) (w' : World) : Prop := ∃ v, e = .returned (.tuple #[stV most v, .bool true]) ∧ w'.ownsRow w.heap.size 3 1 v l.length (l.flatMap nC) ∧ Below w.heap.size w w'
def RetThird (w : World) (most : Int) (l : List Int) (x : Int) (e : Ending) (w' : World) : Prop := ∃ v, e = .returned (.tuple #[stV most v, .int .i64 x, .bool true]) ∧ w'.ownsRow w.heap.size 3 1 v l.length (l.flatMap nC) ∧ Below w.heap.size w w'

/-- A block of two values. -/
def Two (W : World) (b : Nat) (t : TypeId) (u0 u1 : Value) : Prop := W.heap[b]? = some (.cells #[u0, u1] t (0, 0))
section
variable {W : World} {b : Nat} {t : TypeId} {u0 u1 x y : Value}
theorem Two.put (h : Two W b t u0 u1) : Two ((W.setCell ⟨b, 0, none⟩ x).setCell ⟨b, 1, none⟩ y) b t x y := heap_setCell_same _ b 1 _ t y (heap_setCell_same W b 0 _ t x h)
theorem Two.cells (h : Two W b t u0 u1) : W.cell? ⟨b, 0, none⟩ = some u0 ∧ W.cell? ⟨b, 1, none⟩ = some u1 := ⟨by rw [cell_of_row W b 0 _ t (0, 0) h]; rfl, by rw [cell_of_row W b 1 _ t (0, 0) h]; rfl⟩
theorem Two.frozen (h : Two W b t u0 u1) (k : Nat) : W.frozen? ⟨b, k, none⟩ = false := frozen_of_row W b k _ t h
theorem Two.new (W : World) (t : TypeId) (u0 u1 : Value) : Two (W.alloc (.cells #[u0, u1] t)) W.heap.size t u0 u1 := World.alloc_heap_new W _
theorem Two.lt (h : Two W b t u0 u1) : b < W.heap.size := (Array.getElem?_eq_some_iff.1 h).1
theorem Two.later {W' : World} (h : Two W b t u0 u1) (hb : Below W.heap.size W W') : Two W' b t u0 u1 := (hb.block b h.lt).trans h
end

theorem results_new (X : World) (b : Nat) (tmps : Array Value) (a : Int) (A : Option Addr) (n c : Nat) (hp : tmps.getD 2 undef = .pointer (some ⟨b, 0, none⟩)) (h0 : X.cell? ⟨b, 0, none⟩ = some (.int .i64 a)) (h1 : X.cell? ⟨b, 1, none⟩ = some (.slice A n c)) :
    (results Try.f9 tmps).run Try.prog X = .ok (stV a (.slice A n c)) X := by
  rw [Array.getD_eq_getD_getElem?] at hp
  simp [results, Try.results9, hp, asAddr, go_sem, h0, h1, stV]
theorem results_push (X : World) (b : Nat) (tmps : Array Value) (a : Int) (A : Option Addr) (n c : Nat) (q : Bool) (hp : tmps.getD 4 undef = .pointer (some ⟨b, 0, none⟩)) (hq : tmps.getD 5 undef = .bool q) (h0 : X.cell? ⟨b, 0, none⟩ = some (.int .i64 a)) (h1 : X.cell? ⟨b, 1, none⟩ = some (.slice A n c)) :
    (results Try.f11 tmps).run Try.prog X = .ok (.tuple #[stV a (.slice A n c), .bool q]) X := by
  rw [results_cell_tmp (p := 4) (u := 5) (ty := 28) rfl, hp, hq]
  simp [asAddr, go_sem, h0, h1, stV]
theorem results_third (X : World) (b : Nat) (tmps : Array Value) (a x : Int) (A : Option Addr) (n c : Nat) (q : Bool) (hp : tmps.getD 2 undef = .pointer (some ⟨b, 0, none⟩)) (hx : tmps.getD 3 undef = .int .i64 x) (hq : tmps.getD 4 undef = .bool q) (h0 : X.cell? ⟨b, 0, none⟩ = some (.int .i64 a)) (h1 : X.cell? ⟨b, 1, none⟩ = some (.slice A n c)) :
    (results Try.f13 tmps).run Try.prog X = .ok (.tuple #[stV a (.slice A n c), .int .i64 x, .bool q]) X := by
  rw [Array.getD_eq_getD_getElem?] at hp hx hq
  simp [results, Try.results13, hp, hx, hq, asAddr, go_sem, h0, h1, stV]

theorem rNew11_at (most : Int) (w : World) : Calls Try.prog 9 #[.int .i64 most] w (RetMade w (stV most (.slice none 0 0))) := by
  go_enter Try.func9, Try.ntmps9
  go_wp2_with fail
  obtain ⟨p0, p1⟩ := (Two.new w 28 (.int .i64 most) (.slice none 0 0)).cells
  exact bodyPost_ret (results_new _ w.heap.size _ most none 0 0 rfl p0 p1) rfl ⟨rfl, alloc_below _ _⟩

theorem rTop11_none (most : Int) (v : Value) (l : List Int) (w : World) (hv : Ns w v l) (hl : l.length = 0) : Calls Try.prog 15 #[stV most v] w (RetMade w (.tuple #[.int .i64 0, .bool false])) := by
  obtain ⟨A, c, rfl, -⟩ := hv.spelled
  rw [hl]
  clear hv hl
  unfold stV
  go_enter Try.func15, Try.ntmps15
  go_wp2_with fail
  go_ret2
  exact ⟨rfl, alloc_below _ _⟩
theorem rTop11_some (most : Int) (v : Value) (l : List Int) (w : World) (hv : Ns w v l) (m : Nat) (hl : l.length = m + 1) (hm : m < 4294967296) (x : Int) (hx : l[m]? = some x) : Calls Try.prog 15 #[stV most v] w (RetMade w (.tuple #[.int .i64 x, .bool true])) := by
  obtain ⟨A, c, rfl, hf⟩ := hv.spelled
  have hlt : m < l.length := by omega
  obtain ⟨ad, rfl, _, hc⟩ := hf m hlt
  have hx' : l[m] = x := by rw [List.getElem?_eq_getElem hlt] at hx; exact Option.some.inj hx
  rw [hx'] at hc
  have hc0 := st_stays (alloc_below w (.cells #[.int .i64 most, .slice (some ad) l.length c] 28)) hc
  rw [hl] at hc0
  have hw : IntKind.i64.wrap (((m + 1 : Nat) : Int) - 1) = (m : Int) := by rw [IntWalk.i64_in _ (by omega)]; omega
  have hs : ((m + 1 : Nat) : Int) - 1 = (m : Int) := by omega
  have hz : (((m + 1 : Nat) : Int) == 0) = false := by rw [beq_eq_false_iff_ne]; omega
  have hi : (m : Int) < ((m + 1 : Nat) : Int) := by omega
  rw [hl]
  clear hf hv hc hx hx' hl hlt
  generalize m + 1 = m1 at *
  unfold stV
  go_enter Try.func15, Try.ntmps15
  go_wp2_with fail
  go_ret2
  exact ⟨rfl, alloc_below _ _⟩

theorem rPush11_no (most : Int) (v : Value) (l : List Int) (x : Int) (w : World) (hv : Ns w v l) (hm : most ≤ (l.length : Int)) : Calls Try.prog 11 #[stV most v, .int .i64 x] w (RetMade w (.tuple #[stV most v, .bool false])) := by
  obtain ⟨A, c, rfl, -⟩ := hv.spelled
  have HV := Lib.hid hv
  have hd : decide (most ≤ (l.length : Int)) = true := decide_eq_true hm
  clear hv hm
  unfold stV
  go_enter Try.func11, Try.ntmps11
  go_wp2_with fail
  obtain ⟨p0, p1⟩ := (Two.new (w.alloc (.cells #[.int .i64 most, .slice A l.length c] 28)) 28 (.int .i64 most) (.slice A l.length c)).cells
  rw [World.size_alloc] at p0 p1
  exact bodyPost_ret (results_push _ (w.heap.size + 1) _ most A l.length c false rfl rfl p0 p1) rfl ⟨rfl, below_all (alloc_below _ _) (alloc_below _ _)⟩
set_option maxHeartbeats 1000000 in
theorem rPush11_yes (most : Int) (v : Value) (l : List Int) (x : Int) (w : World) (hv : Ns w v l) (hl : l.length ≤ 4294967296) (hm : (l.length : Int) < most) : Calls Try.prog 11 #[stV most v, .int .i64 x] w (RetPair w most (l ++ [x])) := by
  obtain ⟨i0, hi0, hz0, hz1, hz2⟩ := info_parts int_info
  have I0 := Lib.hid hi0
  have I1 := Lib.hid hz0
  have I2 := Lib.hid hz1
  have I3 := Lib.hid hz2
  clear hi0 hz0 hz1 hz2
  obtain ⟨A, c, rfl, -⟩ := hv.spelled
  have HV := Lib.hid hv
  have hd : decide (most ≤ (l.length : Int)) = false := decide_eq_false (by omega)
  have HONE : Hid (∀ u ∈ l.flatMap nC, u.oneCell' = true) := fun u hu => by
    obtain ⟨y, _, hy⟩ := List.mem_flatMap.1 hu
    exact one_nC y u hy
  clear hv hm
  unfold stV
  go_enter Try.func11, Try.ntmps11
  go_upto_region 4 with fail
  have B2 := Lib.hid (below_all (below_all (alloc_below w (.cells #[.int .i64 most, .slice A l.length c] 28)) (alloc_below _ (.cells #[.int .i64 0, .slice none 0 0] 28))) (alloc_below _ (.cells #[.int .i64 most, .slice none 0 0] 28)))
  have c1 := st_stays (below_all (alloc_below _ (.cells #[.int .i64 0, .slice none 0 0] 28)) (alloc_below _ (.cells #[.int .i64 most, .slice none 0 0] 28))) (Two.new w 28 (.int .i64 most) (.slice A l.length c)).cells.2
  have T2 := Lib.hid ((Two.new (w.alloc (.cells #[.int .i64 most, .slice A l.length c] 28)) 28 (.int .i64 0) (.slice none 0 0)).later (alloc_below _ (.cells #[.int .i64 most, .slice none 0 0] 28)))
  have S2 := Lib.hid (Stk.new 28 3 1 nC ((w.alloc (.cells #[.int .i64 most, .slice A l.length c] 28)).alloc (.cells #[.int .i64 0, .slice none 0 0] 28)) most)
  have V2 := Lib.hid (HV.out.below B2.out)
  rw [World.size_alloc] at T2
  rw [World.size_alloc, World.size_alloc] at S2
  generalize ((w.alloc (.cells #[.int .i64 most, .slice A l.length c] 28)).alloc (.cells #[.int .i64 0, .slice none 0 0] 28)).alloc (.cells #[.int .i64 most, .slice none 0 0] 28) = w2 at *
  obtain ⟨A2, c2, hr2, q0, q1, q2, ho2⟩ := S2.out.reads
  dsimp only [List.length_nil, List.flatMap_nil] at q1 hr2 ho2
  have O2 := Lib.hid ho2
  have R2 := Lib.hid hr2
  have L2 := Lib.hid S2.out.lt
  clear ho2 hr2 HV
  go_upto_region 5 with (at_builtin; (refine wpList_append_sl w2 rfl (.tmp 18) (.tmp 20) 26 rfl (w.heap.size + 1 + 1 + 1) 3 i0 _ 1 8 Try.underlying26 I0.out I1.out I2.out I3.out rfl (by decide) (.slice A2 0 c2) 0 [] rfl O2.out (.slice A l.length c) l.length (l.flatMap nC) rfl V2.out HONE.out (by simp only [maxLen]; omega) (by omega) L2.out ?_; intro v3 w3 hown3 hgrow3 hat3; rw [R2.out] at hgrow3 hat3; rw [Nat.zero_add, List.nil_append] at hown3; obtain ⟨A3, c3, rfl⟩ := own_form hown3; obtain ⟨⟨v1, hv1⟩, hf1, HG⟩ := S2.out.grow (Below.refl _ w2) (l' := l) hown3 hgrow3 hat3; have HG := Lib.hid HG; clear hown3 hgrow3 hat3))
  obtain ⟨r4, hs4, hm4, ht4⟩ := HG.out
  have S4 := Lib.hid hs4
  have T4 := Lib.hid (ht4.keeps T2.out (by omega) (by simp))
  have B4 := Lib.hid (ht4.below B2.out (by omega) (by simp) B2.out.size)
  have N4 := Lib.hid (show some (w.heap.size + 1) ≠ r4 from fun q => by
    rcases hm4 with e | ⟨k, e, hk⟩
    · rw [e] at q; cases q
    · rw [e] at q; cases q; have := L2.out; omega)
  have R4 := Lib.hid (show ∀ k, r4 = some k → w.heap.size ≤ k from fun k q => by
    rcases hm4 with e | ⟨j, e, hk⟩
    · rw [e] at q; cases q
    · rw [e] at q; cases q; have := L2.out; omega)
  clear HG hs4 hm4 ht4 T2 S2 B2 V2 O2 R2 L2 q0 q1 q2 c1 HONE hf1 hv1
  generalize w3.setCell _ _ = w4 at *
  obtain ⟨A5, c5, hr5, q0, q1, q2, ho5⟩ := S4.out.reads
  have O5 := Lib.hid ho5
  have R5 := Lib.hid hr5
  have L5 := Lib.hid S4.out.lt
  clear ho5 hr5
  go_upto_region 6 with (at_builtin; (refine wpList_append_own_at _ rfl _ _ 26 rfl (w.heap.size + 1 + 1 + 1) 3 i0 _ 1 8 Try.underlying26 I0.out I1.out I2.out I3.out rfl (by decide) (.slice A5 l.length c5) l.length _ rfl (O5.out.alloc (.cells #[.int .i64 x] 3)) ⟨w4.heap.size, 0, none⟩ 1 1 (nC x) rfl rfl (new_nC w4 x 3) (one_nC _) (by simp only [maxLen]; omega) (by omega) (by have := L5.out; simp; omega) ?_; intro v6 w6 hown6 hgrow6 _ hat6; rw [R5.out] at hgrow6 hat6; obtain ⟨A6, c6, rfl⟩ := own_form hown6; obtain ⟨⟨v7, hv7⟩, hf7, HG⟩ := S4.out.grow (alloc_below w4 (.cells #[.int .i64 x] 3)) (l' := l ++ [x]) (by rw [List.length_append, flat_snoc]; exact hown6) hgrow6 hat6; have HG := Lib.hid HG; clear hown6 hgrow6 hat6))
  obtain ⟨r8, hs8, hm8, ht8⟩ := HG.out
  have T8 := Lib.hid (ht8.keeps T4.out (by omega) N4.out)
  have B8 := Lib.hid (ht8.below B4.out (by omega) R4.out B4.out.size)
  obtain ⟨A8, c8, _, u0, u1, _, ho8⟩ := hs8.reads
  have HN := Lib.hid ((own_setCell (own_setCell ho8 (b := w.heap.size + 1) (o := 0) (x := .int .i64 most) (by omega)) (b := w.heap.size + 1) (o := 1) (x := .slice A8 (l ++ [x]).length c8) (by omega)).mono (show w.heap.size ≤ w.heap.size + 1 + 1 + 1 by omega))
  clear hs8 hm8 ht8 ho8 HG S4 T4 B4 N4 R4 O5 R5 L5 q0 q1 q2 hf7 hv7 hl
  generalize w6.setCell _ _ = w8 at *
  generalize hq : (l ++ [x]).length = q at *
  have HQ := Lib.hid hq
  clear hq
  obtain ⟨z0, z1⟩ := Two.cells T8.out
  have g0 := Two.frozen T8.out 0
  have g1 := Two.frozen T8.out 1
  go_wp2_with fail
  obtain ⟨p0, p1⟩ := (Two.put T8.out (x := .int .i64 most) (y := .slice A8 q c8)).cells
  exact bodyPost_ret (results_push _ (w.heap.size + 1) _ most A8 q c8 true rfl rfl p0 p1) rfl ⟨_, rfl, by rw [HQ.out]; exact HN.out, (B8.out.setCell (p := ⟨w.heap.size + 1, 0, none⟩) (Nat.le_succ _) _).setCell (p := ⟨w.heap.size + 1, 1, none⟩) (Nat.le_succ _) _⟩

theorem Ns.take {w : World} {A : Option Addr} {n c : Nat} {l : List Int} (h : Ns w (.slice A n c) l) (m : Nat) (hm : m ≤ l.length) : Ns w (.slice A m c) (l.take m) := by
  obtain ⟨_, A1, c1, hv, hc, hz, hh⟩ := h
  cases hv
  have hlen : (l.take m).length = m := by rw [List.length_take]; omega
  refine ⟨by rw [flat_len nC_len], A, c, by rw [hlen], by rw [hlen]; omega, hz, fun h0 => ?_⟩
  rw [hlen] at h0
  obtain ⟨ad, e, hb, hcell⟩ := hh (by omega)
  refine ⟨ad, e, hb, fun j u hu => hcell j u ?_⟩
  have e2 : l.flatMap nC = (l.take m).flatMap nC ++ (l.drop m).flatMap nC := by rw [← List.flatMap_append, List.take_append_drop]
  rw [e2, List.getElem?_append_left (List.getElem?_eq_some_iff.1 hu).1]
  exact hu
theorem st_front (A : Option Addr) (n c m : Nat) (hm : m ≤ c) (W : World) : (Instr.sliceAt 26 (.slice A n c) none (some (.int .i64 (m : Int))) none).run Try.prog W = .ok (.slice A m c) W := by
  rw [run_sliceAt_slice W _ _ _ _ _ st_desc, run_slice_h W _ _ _ _ st_desc .i64 (m : Int) (by omega) (by omega), st_elem, st_cell]
  have e : ∀ B : Option Addr, B.map (·.add (0 * 1)) = B := fun B => by cases B <;> simp [add_zero']
  simp only [Result.andThen, sliced, e, ite_self, Nat.sub_zero, Int.toNat_natCast]

theorem rPop11_none (most : Int) (v : Value) (l : List Int) (w : World) (hv : Ns w v l) (hl : l.length = 0) : Calls Try.prog 13 #[stV most v] w (RetMade w (.tuple #[stV most v, .int .i64 0, .bool false])) := by
  have HL := Lib.hid hl
  have B2 := Lib.hid (below_all (alloc_below w (.cells #[.int .i64 most, v] 28)) (alloc_below _ (.cells #[.int .i64 0, .slice none 0 0] 28)))
  have V2 := Lib.hid (hv.below B2.out)
  obtain ⟨A, c, rfl, -⟩ := hv.spelled
  have T1 := (Two.new w 28 (.int .i64 most) (.slice A l.length c)).later (alloc_below _ (.cells #[.int .i64 0, .slice none 0 0] 28))
  have T2 := Two.new (w.alloc (.cells #[.int .i64 most, .slice A l.length c] 28)) 28 (.int .i64 0) (.slice none 0 0)
  rw [World.size_alloc] at T2
  have HT1 := Lib.hid T1
  have HT2 := Lib.hid T2
  have HS0 := Lib.hid (rTop11_none most (.slice A l.length c) l)
  have HV := Lib.hid hv
  clear hv hl T1 T2
  unfold stV
  go_enter Try.func13, Try.ntmps13
  go_wp2_with fail
  generalize (w.alloc (.cells #[.int .i64 most, .slice A l.length c] 28)).alloc (.cells #[.int .i64 0, .slice none 0 0] 28) = w2 at *
  refine (HS0.out w2 V2.out HL.out).mono ?_
  rintro e w3 ⟨rfl, hb⟩
  have B3 := Lib.hid (below_all B2.out hb)
  have T3 := Lib.hid (HT2.out.later hb)
  have V3 := Lib.hid (V2.out.below hb)
  obtain ⟨x0, x1⟩ := Two.cells (HT1.out.later hb)
  obtain ⟨z0, z1⟩ := Two.cells T3.out
  have g0 := Two.frozen T3.out 0
  have g1 := Two.frozen T3.out 1
  clear hb HS0 HT1 HT2
  go_wp2_with fail
  obtain ⟨p0, p1⟩ := (Two.put T3.out (x := .int .i64 most) (y := .slice A l.length c)).cells
  have hbe := (B3.out.setCell (p := ⟨w.heap.size + 1, 0, none⟩) (Nat.le_succ _) (.int .i64 most)).setCell (p := ⟨w.heap.size + 1, 1, none⟩) (Nat.le_succ _) (.slice A l.length c)
  exact bodyPost_ret (results_third _ (w.heap.size + 1) _ most 0 A l.length c false rfl rfl rfl p0 p1) rfl ⟨rfl, hbe⟩
set_option maxHeartbeats 1000000 in
theorem rPop11_some (most : Int) (v : Value) (l : List Int) (w : World) (hv : Ns w v l) (m : Nat) (hl : l.length = m + 1) (hm : m < 4294967296) (x : Int) (hx : l[m]? = some x) : Calls Try.prog 13 #[stV most v] w (RetThird w most (l.take m) x) := by
  obtain ⟨i0, hi0, hz0, hz1, hz2⟩ := info_parts int_info
  have I0 := Lib.hid hi0
  have I1 := Lib.hid hz0
  have I2 := Lib.hid hz1
  have I3 := Lib.hid hz2
  clear hi0 hz0 hz1 hz2
  have B2 := Lib.hid (below_all (alloc_below w (.cells #[.int .i64 most, v] 28)) (alloc_below _ (.cells #[.int .i64 0, .slice none 0 0] 28)))
  have V2 := Lib.hid (hv.below B2.out)
  obtain ⟨A, c, rfl, -⟩ := hv.spelled
  have HCAP : Hid (m ≤ c) := by
    have := Sl.cap hv
    show m ≤ c
    omega
  have HTK := Lib.hid (hv.take m (by omega))
  have T1 := (Two.new w 28 (.int .i64 most) (.slice A l.length c)).later (alloc_below _ (.cells #[.int .i64 0, .slice none 0 0] 28))
  have T2 := Two.new (w.alloc (.cells #[.int .i64 most, .slice A l.length c] 28)) 28 (.int .i64 0) (.slice none 0 0)
  rw [World.size_alloc] at T2
  have HT1 := Lib.hid T1
  have HT2 := Lib.hid T2
  have HS0 := Lib.hid (fun w h => rTop11_some most (.slice A l.length c) l w h m hl hm x hx)
  have HONE : Hid (∀ u ∈ (l.take m).flatMap nC, u.oneCell' = true) := fun u hu => by
    obtain ⟨y, _, hy⟩ := List.mem_flatMap.1 hu
    exact one_nC y u hy
  have HLT : Hid ((l.take m).length = m) := by rw [Hid, List.length_take]; omega
  have HLL := Lib.hid hl
  clear hv hl T1 T2 hx
  unfold stV
  go_enter Try.func13, Try.ntmps13
  go_wp2_with fail
  generalize (w.alloc (.cells #[.int .i64 most, .slice A l.length c] 28)).alloc (.cells #[.int .i64 0, .slice none 0 0] 28) = w2 at *
  refine (HS0.out w2 V2.out).mono ?_
  rintro e w3 ⟨rfl, hb⟩
  have B3 := Lib.hid (below_all B2.out hb)
  have T3 := Lib.hid (HT2.out.later hb)
  have U3 := Lib.hid (HT1.out.later hb)
  obtain ⟨x0, x1⟩ := Two.cells U3.out
  clear hb HS0 HT1 HT2 V2 B2
  go_upto_region 5 with fail
  have hlen := HLL.out
  have B4 := Lib.hid (below_all B3.out (alloc_below w3 (.cells #[.int .i64 most, .slice none 0 0] 28)))
  have T4 := Lib.hid (T3.out.later (alloc_below w3 (.cells #[.int .i64 most, .slice none 0 0] 28)))
  have c1 := (Two.later U3.out (alloc_below w3 (.cells #[.int .i64 most, .slice none 0 0] 28))).cells.2
  have S4 := Lib.hid (Stk.new 28 3 1 nC w3 most)
  have L4 := Lib.hid (show w.heap.size + 1 < w3.heap.size from T3.out.lt)
  clear B3 T3 U3 x0 x1
  generalize w3.alloc (.cells #[.int .i64 most, .slice none 0 0] 28) = w4 at *
  generalize w3.heap.size = b4 at *
  obtain ⟨A4, c4, hr4, q0, q1, q2, ho4⟩ := S4.out.reads
  dsimp only [List.length_nil, List.flatMap_nil] at q1 hr4 ho4
  have O4 := Lib.hid (own_drewN ho4 1)
  have R4 := Lib.hid hr4
  have SL := Lib.hid (fun V => st_front A l.length c m HCAP.out V)
  have sl := SL.out
  rw [hlen] at c1 sl ⊢
  have hw : IntKind.i64.wrap (((m + 1 : Nat) : Int) - 1) = (m : Int) := by rw [IntWalk.i64_in _ (by omega)]; omega
  have hs : ((m + 1 : Nat) : Int) - 1 = (m : Int) := by omega
  have hw2 : IntKind.i64.wrap (m : Int) = (m : Int) := IntWalk.i64_in _ (by omega)
  clear hlen SL hr4 ho4
  generalize m + 1 = m1 at *
  go_still_tail 9, (by kernel_rfl)
  change wpList _ _ _ _ _ w4.drew
  have B5 := Lib.hid B4.out.drew
  have T5 : Hid (Two w4.drew (w.heap.size + 1) 28 (.int .i64 0) (.slice none 0 0)) := T4.out
  have S5 : Hid (Stk 28 3 1 nC b4 most none [] w4.drew) := S4.out.drewN 1
  have O5 : Hid (w4.drew.ownsRow (b4 + 1) 3 1 (.slice A4 0 c4) 0 []) := O4.out
  have V5 := Lib.hid (HTK.out.below B5.out)
  have q1' : w4.drew.cell? ⟨b4, 1, none⟩ = some (.slice A4 0 c4) := q1
  clear B4 T4 S4 O4 q0 q1 q2 c1 sl hw hw2 hs
  generalize w4.drew = w5 at *
  have L5 := Lib.hid S5.out.lt
  rw [Ns] at V5
  have V6 : Hid (Sl w5 1 (.slice A m c) m ((l.take m).flatMap nC)) := by have := V5.out; rw [Rows', HLT.out] at this; exact this
  go_upto_region 6 with (at_builtin; (refine wpList_append_sl w5 rfl (.tmp 20) (.tmp 27) 26 rfl (b4 + 1) 3 i0 _ 1 8 Try.underlying26 I0.out I1.out I2.out I3.out rfl (by decide) (.slice A4 0 c4) 0 [] rfl O5.out (.slice A m c) m ((l.take m).flatMap nC) rfl V6.out HONE.out (by simp only [maxLen]; omega) (by omega) L5.out ?_; intro v6 w6 hown6 hgrow6 hat6; rw [R4.out] at hgrow6 hat6; rw [Nat.zero_add, List.nil_append] at hown6; obtain ⟨A6, c6, rfl⟩ := own_form hown6; obtain ⟨⟨v7, hv7⟩, hf7, HG⟩ := S5.out.grow (Below.refl _ w5) (l' := l.take m) (by rw [HLT.out]; exact hown6) hgrow6 hat6; have HG := Lib.hid HG; clear hown6 hgrow6 hat6))
  obtain ⟨r8, hs8, -, ht8⟩ := HG.out
  have T8 := Lib.hid (ht8.keeps T5.out (by have := L4.out; omega) (by simp))
  have B8 := Lib.hid (ht8.below B5.out (by have := L4.out; omega) (by simp) B5.out.size)
  obtain ⟨A8, c8, _, u0, u1, _, ho8⟩ := hs8.reads
  have HN := Lib.hid ((own_setCell (own_setCell ho8 (b := w.heap.size + 1) (o := 0) (x := .int .i64 most) (by have := L4.out; omega)) (b := w.heap.size + 1) (o := 1) (x := .slice A8 (l.take m).length c8) (by have := L4.out; omega)).mono (show w.heap.size ≤ b4 + 1 by have := L4.out; omega))
  clear hs8 ht8 ho8 HG T5 B5 O5 R4 hf7 hv7 hm HLT V5 V6 S5 q1' HTK HONE
  generalize w6.setCell _ _ = w8 at *
  generalize hq : (l.take m).length = q at *
  have HQ := Lib.hid hq
  clear hq
  obtain ⟨z0, z1⟩ := Two.cells T8.out
  have g0 := Two.frozen T8.out 0
  have g1 := Two.frozen T8.out 1
  go_wp2_with fail
  obtain ⟨p0, p1⟩ := (Two.put T8.out (x := .int .i64 most) (y := .slice A8 q c8)).cells
  exact bodyPost_ret (results_third _ (w.heap.size + 1) _ most x A8 q c8 true rfl rfl rfl p0 p1) rfl ⟨_, rfl, by rw [HQ.out]; exact HN.out, (B8.out.setCell (p := ⟨w.heap.size + 1, 0, none⟩) (Nat.le_succ _) _).setCell (p := ⟨w.heap.size + 1, 1, none⟩) (Nat.le_succ _) _⟩
end Go.Proofs.Yteccllhbacjhbaa
