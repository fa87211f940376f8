/-
  What reach's More answers.
  Conditions: rows hold sets below 2^64.
-/
import Derived.Test.YtadgfplaabgkfaaDoorRcWalkB
set_option maxRecDepth 4000
namespace Go.Proofs.YtadgfplaabgkfaaDoor
open Go.RowKit

theorem own_top {w : World} {base : Nat} {v : Value} {l : List Nat} (h : OwnU w base v l) (hl : 0 < l.length) : ∃ g c, v = .slice (some ⟨g, 0, none⟩) l.length c := by
  rcases h.2 with ⟨_, h0⟩ | ⟨g, cap, _, hv, _⟩
  · exact absurd h0 (Nat.ne_of_gt hl)
  · exact ⟨g, cap, hv⟩
/-- A graph in a variable that is being changed, beside the graph that came in and the result's variable. -/
structure Wide (w W : World) (o n : Nat) (u : Value) (A : Option Addr) (c : Nat) (r : List Nat) : Prop where
  one : Two W w.heap.size 24 (.int .i64 (n : Int)) u
  res : Two W (w.heap.size + 1) 24 (.int .i64 0) (.slice none 0 0)
  out : Two W o 24 (.int .i64 (n : Int)) (.slice A n c)
  row : W.ownsRow (w.heap.size + 2) 34 1 (.slice A n c) n (r.flatMap uC)
  apart : ∀ ad, A = some ad → ad.block ≠ o
  len : r.length = n
  far : w.heap.size + 1 < o
  below : Below w.heap.size w W
section
variable {w W W' : World} {o n c : Nat} {u : Value} {A : Option Addr} {r : List Nat}
theorem Wide.later (h : Wide w W o n u A c r) (hb : Below W.heap.size W W') : Wide w W' o n u A c r :=
  ⟨h.one.later hb, h.res.later hb, h.out.later hb, own_below h.row hb, h.apart, h.len, h.far, below_all h.below hb⟩
theorem Wide.drew (h : Wide w W o n u A c r) : Wide w W.drew o n u A c r := h.later (Below.refl _ W).drew
theorem Wide.own (h : Wide w W o n u A c r) : OwnU W (w.heap.size + 2) (.slice A n c) r := by
  unfold OwnU
  rw [h.len]
  exact h.row
/-- Behind the call that made it. -/
theorem Wide.start {W W1 : World} {v : Value} (h1 : Two W w.heap.size 24 (.int .i64 (n : Int)) u) (h2 : Two W (w.heap.size + 1) 24 (.int .i64 0) (.slice none 0 0)) (hB : Below w.heap.size w W) (hb : Below W.heap.size W W1) (ho : OwnU W1 W.heap.size v r) (hl : r.length = n) :
    ∃ A c, v = .slice A n c ∧ Wide w (W1.alloc (.cells #[.int .i64 (n : Int), .slice A n c] 24)) W1.heap.size n u A c r := by
  obtain ⟨A, c, e⟩ := ho.form
  rw [hl] at e
  subst e
  have b1 := alloc_below W1 (.cells #[.int .i64 (n : Int), .slice A n c] 24)
  unfold OwnU at ho
  rw [hl] at ho
  have hsz := hb.size
  have hlt := h2.lt
  refine ⟨A, c, rfl, (h1.later hb).later b1, (h2.later hb).later b1, Two.new _ _ _ _, (own_below ho b1).mono (by omega), fun ad e => ?_, hl, by omega, below_all (below_all hB hb) b1⟩
  subst e
  rcases ho.2 with ⟨h', _⟩ | ⟨g', cap', cur, h', _, hg, _⟩
  · cases h'
  · cases h'
    exact Nat.ne_of_lt (Array.getElem?_eq_some_iff.1 hg).1
/-- The end of a call that hands back what the variable holds. -/
theorem Wide.done {fn : Func} {p q : Tmp} (hf : fn.results = #[.cell p 24, .tmp q]) (h : Wide w W o n u A c r) (tmps : Array Value) (hp : tmps.getD p undef = .pointer (some ⟨w.heap.size + 1, 0, none⟩)) (hq : tmps.getD q undef = .int .i64 0) :
    bodyPost Tryd.prog fn (RetG w n r) Exit.ret { tmps := tmps, defers := [] } ((W.setCell ⟨w.heap.size + 1, 0, none⟩ (.int .i64 n)).setCell ⟨w.heap.size + 1, 1, none⟩ (.slice A n c)) := by
  obtain ⟨p0, p1⟩ := (h.res.put (x := .int .i64 n) (y := .slice A n c)).cells
  exact bodyPost_ret (res_g hf _ (w.heap.size + 1) _ n 0 _ _ _ hp hq p0 p1) rfl ⟨_, rfl, World.ownsRow.mono (own_setCell (own_setCell h.own (Nat.lt_succ_self _)) (Nat.lt_succ_self _)) (by omega), (h.below.setCell (p := ⟨w.heap.size + 1, 0, none⟩) (Nat.le_succ _) _).setCell (p := ⟨w.heap.size + 1, 1, none⟩) (Nat.le_succ _) _⟩
/-- Its row's place, read and written. -/
theorem Wide.put (h : Wide w W o n u A c r) (k : Nat) (hk : k < r.length) : ∃ g, A = some ⟨g, 0, none⟩ ∧ W.cell? ⟨g, k, none⟩ = some (.int .u64 (r[k] : Int)) ∧ W.frozen? ⟨g, k, none⟩ = false ∧ w.heap.size + 2 ≤ g ∧
    ∀ x : Nat, Wide w (W.setCell ⟨g, k, none⟩ (.int .u64 (x : Int))) o n u A c (r.set k x) := by
  obtain ⟨g, c', e⟩ := own_top h.own (by omega)
  rw [h.len] at e
  cases e
  have ho := h.own
  rw [← h.len] at ho
  have hne := h.apart _ rfl
  have hlt := OwnU.lt ho
  refine ⟨g, rfl, ho.cell k hk, ho.frozen k, hlt.1, fun x => ?_⟩
  have hp := ho.put k hk x
  have h4 := h.out
  have hfar := h.far
  unfold OwnU at hp
  rw [List.length_set, h.len] at hp
  exact ⟨two_far h.one _ (by show g ≠ _; omega) _, two_far h.res _ (by show g ≠ _; omega) _, two_far h4 ⟨g, k, none⟩ (show g ≠ o from hne) _, hp, h.apart, by rw [List.length_set]; exact h.len, hfar, h.below.setCell (p := ⟨g, k, none⟩) (by show w.heap.size ≤ g; omega) _⟩
end

set_option maxHeartbeats 1000000 in
theorem rcMore_no (n : Int) (v : Value) (l : List Nat) (a b : Int) (w : World) (hv : Us w v l) (hs : ∀ x ∈ l, x < 18446744073709551616) (hno : Gf.addB n l a b = false) : Calls Tryd.prog 11 #[.agg #[.int .i64 n, v], .int .i64 a, .int .i64 b] w (RetNoG w) := by
  have HU := Lib.hid hv
  obtain ⟨A, c, rfl, -⟩ := hv.spelled
  have F1 := Lib.hid (fun w h1 => gfAdd_no n (.slice A l.length c) l a b w h1 hs hno)
  clear hs hv hno
  go_enter Tryd.func11, Tryd.ntmps11
  go_wp2_with fail
  obtain ⟨t0, t1, bw⟩ := gf_one w n (.slice A l.length c) rfl
  have T2 := Lib.hid t1
  have BW := Lib.hid bw
  clear t0 t1 bw
  generalize (w.alloc (.cells #[.int .i64 n, .slice A l.length c] 24)).alloc (.cells #[.int .i64 0, .slice none 0 0] 24) = W at *
  refine (F1.out _ (HU.out.below BW.out)).mono ?_
  rintro e w1 ⟨rfl, hb1⟩
  have b2 := alloc_below w1 (.cells #[.int .i64 0, .slice none 0 0] 24)
  have B2 := Lib.hid (below_all (below_all BW.out hb1) b2)
  have TR := Lib.hid ((T2.out.later hb1).later b2)
  obtain ⟨r0, r1⟩ := TR.out.cells
  have f0 := TR.out.frozen 0
  have f1 := TR.out.frozen 1
  clear hb1 b2
  go_upto_region 2 with fail
  generalize w1.alloc (.cells #[.int .i64 0, .slice none 0 0] 24) = w2 at *
  go_wp2_with fail
  exact end_no (p := 6) (u := 7) rfl TR.out B2.out (by omega) _ rfl rfl

set_option maxHeartbeats 2000000 in
theorem rcMore_at (n : Nat) (v : Value) (l : List Nat) (a b : Nat) (w : World) (hv : Us w v l) (hok : Gf.Ok n l) (ha : a < n) (hb : b < n) : Calls Tryd.prog 11 #[.agg #[.int .i64 n, v], .int .i64 a, .int .i64 b] w (RetG w n (Rc.moreR n l a b)) := by
  have HU := Lib.hid hv
  obtain ⟨A0, c0, rfl, hf⟩ := hv.spelled
  have HF := Lib.hid hf
  have F1 := Lib.hid (fun w h1 => gfAdd_at n (.slice A0 l.length c0) l a b w h1 hok ha hb)
  have hbl : b < l.length := by rw [hok.2.1]; exact hb
  have hal : a < 64 := Nat.lt_of_lt_of_le ha hok.1
  have hn64 := hok.1
  have HLN := Lib.hid hok.2.1
  have HS := Lib.hid (fun x (h : x < l.length) => hok.small (List.getElem_mem h))
  have HZ : Hid (Gf.addR l a b = Rc.moreTo n l a b 0) := (Rc.moreTo_zero hok).symm
  have HE : Hid (Rc.moreTo n l a b n = Rc.moreR n l a b) := Rc.moreTo_all
  have HOLD : Hid (∀ k, k < n → k ≠ a → Gf.bit l k a = false → Rc.moreTo n l a b k = Rc.moreTo n l a b (k + 1)) := fun k h1 h2 h3 => Rc.moreTo_old hok ha hb h1 h2 h3
  have HNEW : Hid (∀ k (hk : k < l.length), (decide (k = a) || Gf.bit l k a) = true → (Rc.moreTo n l a b k).set k (Bi.join [l[k], Bi.withN (l[b]'hbl) (b : Int)]) = Rc.moreTo n l a b (k + 1)) := fun k hk h => Rc.moreTo_new hok ha hb hk hbl h
  have HBT : Hid (∀ k (hk : k < l.length), Bi.has l[k] (a : Int) = Gf.bit l k a) := fun k hk => by rw [Bi.has_nat _ a hal, Gf.bit_at hk]
  have HML := Lib.hid (fun k => Rc.moreTo_len n l a b k)
  have HAL : Hid ((Gf.addR l a b).length = n) := by rw [Hid, Gf.add_len, hok.2.1]
  obtain ⟨adb, e, hbb, hb0⟩ := hf b hbl
  have sb := HS.out b hbl
  obtain ⟨pb, hpb⟩ : ∃ p, p = l[b]'hbl := ⟨_, rfl⟩
  rw [← hpb] at HNEW hb0 sb
  have F2 := Lib.hid (fun w => biWith_at pb (b : Int) w sb)
  have hend : Bi.withN pb (b : Int) < 18446744073709551616 := Bi.with_lt sb _
  subst e
  clear hv hok hf hpb
  generalize Bi.withN pb (b : Int) = ends at *
  go_enter Tryd.func11, Tryd.ntmps11
  go_wp2_with fail
  obtain ⟨t0, t1, bw⟩ := gf_one w n (.slice (some adb) l.length c0) rfl
  have T0 := Lib.hid t0
  have T1 := Lib.hid t1
  have BW := Lib.hid bw
  clear t0 t1 bw
  generalize (w.alloc (.cells #[.int .i64 n, .slice (some adb) l.length c0] 24)).alloc (.cells #[.int .i64 0, .slice none 0 0] 24) = W at *
  refine (F1.out _ (HU.out.below BW.out)).mono ?_
  rintro e w1 ⟨v1, rfl, ho1, hb1⟩
  obtain ⟨A, c, rfl, hh⟩ := Wide.start T0.out T1.out BW.out hb1 ho1 HAL.out
  rw [HZ.out] at hh
  have HW := Lib.hid hh
  clear hh ho1 hb1 T0 T1 BW
  obtain ⟨a0, a1⟩ := HW.out.one.cells
  have hb1 := (HW.out.below.cell (by rw [add_block]; exact hbb)).trans hb0
  go_upto_region 2 with fail
  generalize w1.alloc (.cells #[.int .i64 (n : Int), .slice A n c] 24) = w2 at *
  generalize w1.heap.size = o at *
  go_wp2_with fail
  refine (F2.out _).mono ?_
  rintro e w3 ⟨rfl, rfl⟩
  go_wp2_with fail
  clear a0 a1 hb1
  go_loopw [34] (fun i wr => ∃ x : Nat, x ≤ n ∧ i = .int .i64 x ∧ Hid (Wide w wr o n (.slice (some adb) l.length c0) A c (Rc.moreTo n l a b x))) (fun i _ => n - (intOf i).toNat)
  case atStart => exact ⟨0, Nat.zero_le _, rfl, HW.out⟩
  case round =>
    clear HW
    obtain ⟨x, hx, rfl, HW⟩ := hrel
    by_cases hlt : x < n
    · have hxl : x < l.length := by have := HLN.out; omega
      obtain ⟨ad, e, hbx, hx0⟩ := HF.out x hxl
      cases e
      have hx1 := (HW.out.below.cell (by rw [add_block]; exact hbx)).trans hx0
      have sx := HS.out x hxl
      have HNX := Lib.hid (HNEW.out x hxl)
      have HOX := Lib.hid (HOLD.out x hlt)
      have HBX := Lib.hid (HBT.out x hxl)
      have hxr : x < (Rc.moreTo n l a b x).length := by rw [HML.out]; exact hlt
      clear hx0
      generalize l[x]'hxl = p at *
      by_cases hxa : x = a
      · have hq : ((x : Int) == (a : Int)) = true := by rw [beq_iff_eq]; omega
        have HNY := Lib.hid (HNX.out (by rw [decide_eq_true hxa]; rfl))
        clear hxa
        have HB2 := Lib.hid ((HW.out.later (alloc_below wr (.cells #[.int .u64 (p : Int), .int .u64 (ends : Int)] 34))).drew)
        have L3 := Lib.hid (show Us (wr.alloc (.cells #[.int .u64 (p : Int), .int .u64 (ends : Int)] 34)).drew (.slice (some ⟨wr.heap.size, 0, none⟩) 2 2) [p, ends] from (lit_rows uC_len wr 34 [p, ends] (by simp [maxLen])).below (Below.refl _ _).drew)
        obtain ⟨g, hA, e3, f3, hg, hput⟩ := HB2.out.put x hxr
        subst hA
        have HB4 := Lib.hid (hput (Bi.join [p, ends]))
        rw [HNY.out] at HB4
        clear hput
        have F3 := Lib.hid (fun w h => biJoin_at [p, ends] (.slice (some ⟨wr.heap.size, 0, none⟩) 2 2) w h (by simp) (by
          intro y hy
          simp only [List.mem_cons, List.not_mem_nil, or_false] at hy
          rcases hy with rfl | rfl
          · exact sx
          · exact hend))
        generalize Bi.join [p, ends] = t at *
        obtain ⟨q0, q1⟩ := HW.out.out.cells
        have HB0 := Lib.hid HW.out.drew
        have HK : Hid (∀ (W' : World) r, Wide w W' o n (.slice (some adb) l.length c0) (some ⟨g, 0, none⟩) c r → W'.cell? ⟨o, 1, none⟩ = some (.slice (some ⟨g, 0, none⟩) n c)) := fun W' r h => h.out.cells.2
        go_wp2_with fail
        go_region_held3 (fun w' => w'.cell? ⟨o, 1, none⟩ = some (.slice (some ⟨g, 0, none⟩) n c))
          (first | (exact HK.out _ _ HB0.out) | (exact HK.out _ _ HB2.out) | (exact HK.out _ _ HB4.out) | (exact q1))
          (first | (go_at_call 30; (with_reducible refine (F3.out _ L3.out).mono ?_); rintro e w4 ⟨rfl, rfl⟩))
        go_wp2_with fail
        go_roundw
        case rel => exact ⟨x + 1, by omega, by go_num, HB4.out⟩
        case measure => simp [intOf]; omega
      · have hq : ((x : Int) == (a : Int)) = false := by rw [beq_eq_false_iff_ne]; omega
        have HNY1 := Lib.hid (fun (h : Gf.bit l x a = true) => HNX.out (by rw [h, Bool.or_true]))
        have HOY1 := Lib.hid (HOX.out hxa)
        clear hxa
        cases hb : Gf.bit l x a with
        | true =>
          have HNY := Lib.hid (HNY1.out hb)
          have HBY := Lib.hid (HBX.out.trans hb)
          clear hb
          go_wp2_with fail
          refine (biHas_at p (a : Int) _ sx).mono ?_
          rintro e wr ⟨rfl, rfl⟩
          rw [HBY.out]
          have HB2 := Lib.hid ((HW.out.later (alloc_below wr (.cells #[.int .u64 (p : Int), .int .u64 (ends : Int)] 34))).drew)
          have L3 := Lib.hid (show Us (wr.alloc (.cells #[.int .u64 (p : Int), .int .u64 (ends : Int)] 34)).drew (.slice (some ⟨wr.heap.size, 0, none⟩) 2 2) [p, ends] from (lit_rows uC_len wr 34 [p, ends] (by simp [maxLen])).below (Below.refl _ _).drew)
          obtain ⟨g, hA, e3, f3, hg, hput⟩ := HB2.out.put x hxr
          subst hA
          have HB4 := Lib.hid (hput (Bi.join [p, ends]))
          rw [HNY.out] at HB4
          clear hput
          have F3 := Lib.hid (fun w h => biJoin_at [p, ends] (.slice (some ⟨wr.heap.size, 0, none⟩) 2 2) w h (by simp) (by
            intro y hy
            simp only [List.mem_cons, List.not_mem_nil, or_false] at hy
            rcases hy with rfl | rfl
            · exact sx
            · exact hend))
          generalize Bi.join [p, ends] = t at *
          obtain ⟨q0, q1⟩ := HW.out.out.cells
          have HB0 := Lib.hid HW.out.drew
          have HK : Hid (∀ (W' : World) r, Wide w W' o n (.slice (some adb) l.length c0) (some ⟨g, 0, none⟩) c r → W'.cell? ⟨o, 1, none⟩ = some (.slice (some ⟨g, 0, none⟩) n c)) := fun W' r h => h.out.cells.2
          go_wp2_with fail
          go_region_held3 (fun w' => w'.cell? ⟨o, 1, none⟩ = some (.slice (some ⟨g, 0, none⟩) n c))
            (first | (exact HK.out _ _ HB0.out) | (exact HK.out _ _ HB2.out) | (exact HK.out _ _ HB4.out) | (exact q1))
            (first | (go_at_call 30; (with_reducible refine (F3.out _ L3.out).mono ?_); rintro e w4 ⟨rfl, rfl⟩))
          go_wp2_with fail
          go_roundw
          case rel => exact ⟨x + 1, by omega, by go_num, HB4.out⟩
          case measure => simp [intOf]; omega
        | false =>
          have HOY := Lib.hid (HOY1.out hb)
          have HBY := Lib.hid (HBX.out.trans hb)
          clear hb
          rw [HOY.out] at HW
          go_wp2_with fail
          refine (biHas_at p (a : Int) _ sx).mono ?_
          rintro e wr ⟨rfl, rfl⟩
          rw [HBY.out]
          go_wp2_with fail
          go_roundw
          case rel => exact ⟨x + 1, by omega, by go_num, HW.out⟩
          case measure => simp [intOf]; omega
    · obtain rfl : x = n := by omega
      have hnl : ¬ x < l.length := by have := HLN.out; omega
      obtain ⟨q0, q1⟩ := HW.out.out.cells
      obtain ⟨r0, r1⟩ := HW.out.res.cells
      have f0 := HW.out.res.frozen 0
      have f1 := HW.out.res.frozen 1
      rw [HE.out] at HW
      go_wp2_with fail
      exact HW.out.done (p := 6) (q := 7) rfl _ rfl rfl

/-- Whatever More answers, in one form. -/
theorem rcMore_any (n : Int) (v : Value) (l : List Nat) (a b : Int) (w : World) (hv : Us w v l) (hs : ∀ x ∈ l, x < 18446744073709551616) : Calls Tryd.prog 11 #[.agg #[.int .i64 n, v], .int .i64 a, .int .i64 b] w fun e w' =>
    ∃ (nx ex : Int) (lx : List Nat) (vx : Value), e = .returned (.tuple #[.agg #[.int .i64 nx, vx], .int .i64 ex]) ∧ Us w' vx lx ∧ Below w.heap.size w w' ∧ ((Gf.addB n l a b = true ∧ nx = n ∧ ex = 0 ∧ lx = Rc.moreR n.toNat l a.toNat b.toNat) ∨ (Gf.addB n l a b = false ∧ nx = 0 ∧ ex = 1 ∧ lx = [])) := by
  cases h : Gf.addB n l a b with
  | false =>
    refine (rcMore_no n v l a b w hv hs h).mono ?_
    rintro e w' ⟨rfl, hb⟩
    exact ⟨0, 1, [], _, rfl, Us.nil _ _, hb, .inr ⟨rfl, rfl, rfl, rfl⟩⟩
  | true =>
    have h' : (Gf.okB n l && (Gf.isN n a && Gf.isN n b)) = true := h
    rw [Bool.and_eq_true, Bool.and_eq_true] at h'
    obtain ⟨k, rfl, hok⟩ := Gf.okB_iff.1 h'.1
    obtain ⟨x, rfl, hx⟩ := Gf.isN_nat h'.2.1
    obtain ⟨y, rfl, hy⟩ := Gf.isN_nat h'.2.2
    refine (rcMore_at k v l x y w hv hok hx hy).mono ?_
    rintro e w' ⟨v', rfl, ho, hb⟩
    exact ⟨k, 0, _, v', rfl, ho.us, hb, .inl ⟨rfl, rfl, rfl, by rw [Int.toNat_natCast, Int.toNat_natCast, Int.toNat_natCast]⟩⟩
end Go.Proofs.YtadgfplaabgkfaaDoor
