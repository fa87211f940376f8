/-
  The law GraphTells: whether any graph may be, has an edge, and what it is with one more, or turned, or what is wrong, are the document's; the graph stays.
  Conditions: rows hold sets below 2^64.
-/
import Derived.Test.YtcpiaddohiokkaaGfBothLaw
set_option maxRecDepth 4000
namespace Go.Proofs.Ytcpiaddohiokkaa
open Go.RowKit

/-- Whatever Add answers, in one form. -/
theorem gfAdd_any (n : Int) (v : Value) (l : List Nat) (a b : Int) (w : World) (hv : Us w v l) (hs : ∀ x ∈ l, x < 18446744073709551616) : Calls Try.prog 10 #[.agg #[.int .i64 n, v], .int .i64 a, .int .i64 b] w fun e w' =>
    ∃ (nx ex : Int) (lx : List Nat) (vx : Value), e = .returned (.tuple #[.agg #[.int .i64 nx, vx], .int .i64 ex]) ∧ Us w' vx lx ∧ Below w.heap.size w w' ∧ ((Gf.addB n l a b = true ∧ nx = n ∧ ex = 0 ∧ lx = Gf.addR l a.toNat b.toNat) ∨ (Gf.addB n l a b = false ∧ nx = 0 ∧ ex = 1 ∧ lx = [])) := by
  cases h : Gf.addB n l a b with
  | false =>
    refine (gfAdd_no n v l a b w hv hs h).mono ?_
    rintro e w' ⟨rfl, hb⟩
    exact ⟨0, 1, [], _, rfl, Us.nil _ _, hb, .inr ⟨rfl, rfl, rfl, rfl⟩⟩
  | true =>
    have h' : (Gf.okB n l && (Gf.isN n a && Gf.isN n b)) = true := h
    rw [Bool.and_eq_true, Bool.and_eq_true] at h'
    obtain ⟨k, rfl, hok⟩ := Gf.okB_iff.1 h'.1
    obtain ⟨x, rfl, hx⟩ := Gf.isN_nat h'.2.1
    obtain ⟨y, rfl, hy⟩ := Gf.isN_nat h'.2.2
    refine (gfAdd_at k v l x y w hv hok hx hy).mono ?_
    rintro e w' ⟨v', rfl, ho, hb⟩
    exact ⟨k, 0, _, v', rfl, ho.us, hb, .inl ⟨rfl, rfl, rfl, by rw [Int.toNat_natCast, Int.toNat_natCast]⟩⟩
/-- Whatever Turn answers, in one form. -/
theorem gfTurn_any (n : Int) (v : Value) (l : List Nat) (w : World) (hv : Us w v l) (hs : ∀ x ∈ l, x < 18446744073709551616) : Calls Try.prog 11 #[.agg #[.int .i64 n, v]] w fun e w' =>
    ∃ (nx ex : Int) (lx : List Nat) (vx : Value), e = .returned (.tuple #[.agg #[.int .i64 nx, vx], .int .i64 ex]) ∧ Us w' vx lx ∧ Below w.heap.size w w' ∧ ((Gf.okB n l = true ∧ nx = n ∧ ex = 0 ∧ lx = Gf.turnR n.toNat l) ∨ (Gf.okB n l = false ∧ nx = 0 ∧ ex = 1 ∧ lx = [])) := by
  cases h : Gf.okB n l with
  | false =>
    refine (gfTurn_no n v l w hv hs h).mono ?_
    rintro e w' ⟨rfl, hb⟩
    exact ⟨0, 1, [], _, rfl, Us.nil _ _, hb, .inr ⟨rfl, rfl, rfl, rfl⟩⟩
  | true =>
    obtain ⟨k, rfl, hok⟩ := Gf.okB_iff.1 h
    refine (gfTurn_at k v l w hv hok).mono ?_
    rintro e w' ⟨v', rfl, ho, hb⟩
    exact ⟨k, 0, _, v', rfl, ho.us, hb, .inl ⟨rfl, rfl, rfl, by rw [Int.toNat_natCast]⟩⟩
/-- A slice that reads as a row. -/
theorem us_form {w : World} {v : Value} {l : List Nat} (h : Us w v l) : ∃ A c, v = .slice A l.length c := by
  obtain ⟨A, c, e, -⟩ := h.spelled
  exact ⟨A, c, e⟩

set_option maxHeartbeats 8000000 in
theorem lawGraphTells (n : Int) (u : Value) (l : List Nat) (a b : Int) (w : World) (hu : Us w u l) (hs : ∀ x ∈ l, x < 18446744073709551616) : Calls Try.prog 3 #[.agg #[.int .i64 n, u], .int .i64 a, .int .i64 b] w (RetBool w true) := by
  obtain ⟨i0, hi0, hz0, hz1, hz2⟩ := info_parts gf_info
  have I0 := Lib.hid hi0
  have I1 := Lib.hid hz0
  have I2 := Lib.hid hz1
  have I3 := Lib.hid hz2
  clear hi0 hz0 hz1 hz2
  have HU := Lib.hid hu
  obtain ⟨A, c, rfl, -⟩ := hu.spelled
  have T0 := Lib.hid (Two.new w 24 (.int .i64 n) (.slice A l.length c))
  have BW := Lib.hid (alloc_below w (.cells #[.int .i64 n, .slice A l.length c] 24))
  have HON := Lib.hid (gf_ones l)
  have HS := Lib.hid hs
  clear hu hs
  go_enter Try.func3, Try.ntmps3
  go_wp2_with fail
  generalize w.alloc (.cells #[.int .i64 n, .slice A l.length c] 24) = W at *
  refine (gfAwake_at _).mono ?_
  rintro e w1 ⟨rfl, hb1⟩
  have T1 := Lib.hid (T0.out.later hb1)
  have B1 := Lib.hid (below_all BW.out hb1)
  clear hb1 T0 BW
  obtain ⟨a0, a1⟩ := T1.out.cells
  by_cases h70 : 70 < l.length
  · go_wp2_with fail
    go_ret
    exact ⟨rfl, B1.out⟩
  obtain ⟨s0, s1⟩ := (T1.out.later (alloc_below w1 (.cells #[.int .i64 0, .slice none 0 0] 24))).cells
  go_upto_region 8 with fail
  have b2 := alloc_below w1 (.cells #[.int .i64 n, .slice none 0 0] 24)
  have T2 := Lib.hid (T1.out.later b2)
  have B2 := Lib.hid (below_all B1.out b2)
  have U2 := Lib.hid (HU.out.below B2.out)
  have O2 := Lib.hid (Two.new w1 24 (.int .i64 n) (.slice none 0 0))
  have HLT := Lib.hid (show w.heap.size < w1.heap.size from T1.out.lt)
  have HSZ := Lib.hid O2.out.lt
  clear a0 a1 s0 s1 b2 T1 B1
  generalize w1.alloc (.cells #[.int .i64 n, .slice none 0 0] 24) = w2 at *
  generalize w1.heap.size = oo at *
  obtain ⟨a0, a1⟩ := T2.out.cells
  obtain ⟨o0, o1⟩ := O2.out.cells
  go_upto_region 9 with (at_builtin; (refine wpList_append_sl w2 rfl (.tmp 26) (.tmp 28) 22 rfl (oo + 1) 49 i0 _ 1 8 Try.underlying22 I0.out I1.out I2.out I3.out rfl (by decide) (.slice none 0 0) 0 [] rfl (World.ownsRow_nil _ _ _ _) (.slice A l.length c) l.length (l.flatMap uC) rfl U2.out HON.out (by simp only [maxLen]; omega) (by omega) HSZ.out ?_; intro v3 w3 hown3 hgrow3 hat3; rw [Nat.zero_add, List.nil_append] at hown3; obtain ⟨A3, c3, rfl⟩ := own_form hown3; have O3 := Lib.hid (show OwnU w3 (oo + 1) (.slice A3 l.length c3) l from hown3); have hb3 := below_append (Below.refl (oo + 1) w2) HSZ.out (World.ownsRow_nil w2 (oo + 1) 49 1) hgrow3; have HB3 := Lib.hid hb3; have TO3 := Lib.hid (two_at O2.out hb3 (by omega)); have f1 := TO3.out.frozen 1; have g1 := TO3.out.cells.2; clear hown3 hgrow3 hat3 hb3))
  have T4 : Hid (Two (w3.setCell ⟨oo, 1, none⟩ (.slice A3 l.length c3)) w.heap.size 24 (.int .i64 n) (.slice A l.length c)) := two_far (two_at T2.out HB3.out (by have := HLT.out; omega)) _ (by have := HLT.out; show oo ≠ w.heap.size; omega) _
  have TO4 : Hid (Two (w3.setCell ⟨oo, 1, none⟩ (.slice A3 l.length c3)) oo 24 (.int .i64 n) (.slice A3 l.length c3)) := two_put1 TO3.out
  have UO4 : Hid (Us (w3.setCell ⟨oo, 1, none⟩ (.slice A3 l.length c3)) (.slice A3 l.length c3) l) := OwnU.us (base := oo + 1) (own_setCell O3.out (by omega))
  have B4 : Hid (Below w.heap.size w (w3.setCell ⟨oo, 1, none⟩ (.slice A3 l.length c3))) := (B2.out.trans (HB3.out.mono (by have := HLT.out; omega))).setCell (p := ⟨oo, 1, none⟩) (by have := HLT.out; show w.heap.size ≤ oo; omega) _
  generalize w3.setCell ⟨oo, 1, none⟩ (.slice A3 l.length c3) = w4 at *
  clear a0 a1 o0 o1 f1 g1 O3 HB3 TO3 T2 B2 U2 O2 HLT HSZ HON
  obtain ⟨o0, o1⟩ := TO4.out.cells
  go_wp2_with fail
  refine (gfPlain_at n (.slice A3 l.length c3) l _ UO4.out).mono ?_
  rintro e w5 ⟨rfl, hb5⟩
  have b6 := alloc_below w5 (.cells #[.int .i64 n, .slice A3 l.length c3] 26)
  have T6 := Lib.hid (T4.out.later (below_all hb5 b6))
  have UR6 := Lib.hid (UO4.out.below (below_all hb5 b6))
  have B6 := Lib.hid (below_all B4.out (below_all hb5 b6))
  have R6 := Lib.hid (Two.new w5 26 (.int .i64 n) (.slice A3 l.length c3))
  clear hb5 b6 o0 o1 T4 TO4 UO4 B4
  go_wp2_with fail
  generalize w5.alloc (.cells #[.int .i64 n, .slice A3 l.length c3] 26) = w6 at *
  generalize w5.heap.size = orr at *
  refine (rRight12_at n _ l _ UR6.out HS.out).mono ?_
  rintro e w7 ⟨rfl, hb7⟩
  have T7 := Lib.hid (T6.out.later hb7)
  have R7 := Lib.hid (R6.out.later hb7)
  have UR7 := Lib.hid (UR6.out.below hb7)
  have B7 := Lib.hid (below_all B6.out hb7)
  clear hb7 T6 R6 UR6 B6
  obtain ⟨a0, a1⟩ := T7.out.cells
  go_wp2_with fail
  refine (gfAdd_any n _ l a b _ (HU.out.below B7.out) HS.out).mono ?_
  rintro e w8 ⟨nx, ex, lx, vx, rfl, hux, hb8, hx⟩
  obtain ⟨Ax, cx, rfl⟩ := us_form hux
  have HX := Lib.hid hx
  have b9 := alloc_below w8 (.cells #[.int .i64 nx, .slice Ax lx.length cx] 24)
  have T9 := Lib.hid (T7.out.later (below_all hb8 b9))
  have R9 := Lib.hid (R7.out.later (below_all hb8 b9))
  have UR9 := Lib.hid (UR7.out.below (below_all hb8 b9))
  have B9 := Lib.hid (below_all B7.out (below_all hb8 b9))
  have X9 := Lib.hid (Two.new w8 24 (.int .i64 nx) (.slice Ax lx.length cx))
  have UX9 := Lib.hid (hux.below b9)
  clear hux hb8 hx b9 a0 a1 T7 R7 UR7 B7
  obtain ⟨a0, a1⟩ := T9.out.cells
  go_wp2_with fail
  generalize w8.alloc (.cells #[.int .i64 nx, .slice Ax lx.length cx] 24) = w9 at *
  generalize w8.heap.size = ox at *
  refine (gfTurn_any n _ l _ (HU.out.below B9.out) HS.out).mono ?_
  rintro e w10 ⟨ny, ey, ly, vy, rfl, huy, hb10, hy⟩
  obtain ⟨Ay, cy, rfl⟩ := us_form huy
  have HY := Lib.hid hy
  have b11 := alloc_below w10 (.cells #[.int .i64 ny, .slice Ay ly.length cy] 24)
  have T11 := Lib.hid (T9.out.later (below_all hb10 b11))
  have R11 := Lib.hid (R9.out.later (below_all hb10 b11))
  have UR11 := Lib.hid (UR9.out.below (below_all hb10 b11))
  have B11 := Lib.hid (below_all B9.out (below_all hb10 b11))
  have X11 := Lib.hid (X9.out.later (below_all hb10 b11))
  have UX11 := Lib.hid (UX9.out.below (below_all hb10 b11))
  have Y11 := Lib.hid (Two.new w10 24 (.int .i64 ny) (.slice Ay ly.length cy))
  have UY11 := Lib.hid (huy.below b11)
  clear huy hb10 hy b11 a0 a1 T9 R9 UR9 B9 X9 UX9
  have UA11 := Lib.hid (HU.out.below B11.out)
  go_wp2_with fail
  generalize w10.alloc (.cells #[.int .i64 ny, .slice Ay ly.length cy] 24) = w11 at *
  generalize w10.heap.size = oy at *
  have HK : Hid (∀ W', Below w11.heap.size w11 W' → W'.cell? ⟨w.heap.size, 0, none⟩ = some (.int .i64 n) ∧ W'.cell? ⟨w.heap.size, 1, none⟩ = some (.slice A l.length c) ∧ W'.cell? ⟨orr, 0, none⟩ = some (.int .i64 n) ∧ W'.cell? ⟨orr, 1, none⟩ = some (.slice A3 l.length c3)) := fun W' h =>
    ⟨(T11.out.later h).cells.1, (T11.out.later h).cells.2, (R11.out.later h).cells.1, (R11.out.later h).cells.2⟩
  obtain ⟨a0, a1, r0, r1⟩ := HK.out _ (Below.refl _ w11)
  have D := Lib.hid (Below.refl w11.heap.size w11).drew
  have hpp : (Gf.okB n l != Gf.okB n l) = false := by simp
  have FR := Lib.hid (fun w h => gfRight_at n (.slice A l.length c) l w h HS.out)
  have FM := Lib.hid (fun u v w h1 h2 => rSame12_at n u v l w h1 h2 (by omega))
  have HP := Lib.hid (show Gf.okB n l = Gf.okB n l from rfl)
  obtain ⟨p, hp⟩ : ∃ p, p = Gf.okB n l := ⟨_, rfl⟩
  rw [← hp] at hpp FR ⊢
  have HPP := Lib.hid hp
  clear hp HP
  go_region_held3 (fun W' => W'.cell? ⟨w.heap.size, 0, none⟩ = some (.int .i64 n) ∧ W'.cell? ⟨w.heap.size, 1, none⟩ = some (.slice A l.length c) ∧ W'.cell? ⟨orr, 0, none⟩ = some (.int .i64 n) ∧ W'.cell? ⟨orr, 1, none⟩ = some (.slice A3 l.length c3))
    (first | (exact ⟨a0, a1, r0, r1⟩) | (exact HK.out _ D.out) | (exact HK.out _ Y1.out) | (exact HK.out _ Y2.out) | (exact HK.out _ Y3.out))
    (first
      | (go_at_call 12; (with_reducible refine (FR.out _ (UA11.out.below D.out)).mono ?_); rintro e z1 ⟨rfl, hz⟩; have Y1 := Lib.hid (below_all D.out hz); clear hz)
      | (go_at_call 8; (with_reducible refine (gfPlain_at n (.slice A l.length c) l _ (UA11.out.below Y1.out)).mono ?_); rintro e z2 ⟨rfl, hz⟩; have Y2 := Lib.hid (below_all Y1.out hz); clear hz)
      | (go_at_call 13; (with_reducible refine (FM.out _ _ _ (UA11.out.below Y2.out) (UR11.out.below Y2.out)).mono ?_); rintro e z3 ⟨rfl, hz⟩; have Y3 := Lib.hid (below_all Y2.out hz); clear hz))
  all_goals
    clear a0 a1 r0 r1
    have T12 := Lib.hid (T11.out.later Y3.out)
    have R12 := Lib.hid (R11.out.later Y3.out)
    have X12 := Lib.hid (X11.out.later Y3.out)
    have Y12 := Lib.hid (Y11.out.later Y3.out)
    have UA12 := Lib.hid (UA11.out.below Y3.out)
    have UR12 := Lib.hid (UR11.out.below Y3.out)
    have UX12 := Lib.hid (UX11.out.below Y3.out)
    have UY12 := Lib.hid (UY11.out.below Y3.out)
    have B12 := Lib.hid (below_all B11.out Y3.out)
    clear T11 R11 X11 Y11 UA11 UR11 UX11 UY11 B11 HK D Y1 Y2 Y3 FR FM
    cases p with
    | false =>
      have hno : Gf.okB n l = false := HPP.out.symm
      have hnx : nx = 0 ∧ ex = 1 ∧ lx = [] := by
        rcases HX.out with ⟨h, _⟩ | ⟨_, h⟩
        · rw [Gf.addB, hno] at h; cases h
        · exact h
      have hny : ny = 0 ∧ ey = 1 ∧ ly = [] := by
        rcases HY.out with ⟨h, _⟩ | ⟨_, h⟩
        · rw [hno] at h; cases h
        · exact h
      obtain ⟨rfl, rfl, hlx⟩ := hnx
      obtain ⟨rfl, rfl, hly⟩ := hny
      have FH := Lib.hid (fun w h => gfHas_at n (.slice A l.length c) l a b w h HS.out)
      rw [Gf.has_no (a := a) (b := b) (by rw [hno]; rfl)] at FH
      have FE := Lib.hid (fun w h => gfEdges_no n (.slice A l.length c) l w h HS.out hno)
      generalize hmx : lx.length = mx at *
      generalize hmy : ly.length = my at *
      obtain rfl : mx = 0 := by rw [← hmx, hlx]; rfl
      obtain rfl : my = 0 := by rw [← hmy, hly]; rfl
      clear hmx hmy hlx hly HX HY hno
      obtain ⟨a0, a1⟩ := T12.out.cells
      obtain ⟨x0, x1⟩ := X12.out.cells
      obtain ⟨y0, y1⟩ := Y12.out.cells
      go_wp2_with fail
      refine (FH.out _ UA12.out).mono ?_
      rintro e w13 ⟨rfl, hb13⟩
      have B13 := Lib.hid (below_all B12.out hb13)
      have UA13 := Lib.hid (UA12.out.below hb13)
      have T13 := Lib.hid (T12.out.later hb13)
      clear hb13 a0 a1 x0 x1 y0 y1
      obtain ⟨a0, a1⟩ := T13.out.cells
      go_wp2_with fail
      refine (FE.out _ UA13.out).mono ?_
      rintro e w14 ⟨rfl, hb14⟩
      have B14 := Lib.hid (below_all B13.out hb14)
      go_wp2_with fail
      go_ret
      exact ⟨rfl, B14.out⟩
    | true =>
      obtain ⟨k, hnk, hok⟩ := Gf.okB_iff.1 HPP.out.symm
      subst hnk
      have hny : ny = k ∧ ey = 0 ∧ ly = Gf.turnR k l := by
        rcases HY.out with ⟨_, h1, h2, h3⟩ | ⟨h, _⟩
        · rw [Int.toNat_natCast] at h3; exact ⟨h1, h2, h3⟩
        · rw [← HPP.out] at h; cases h
      obtain ⟨rfl, rfl, hly⟩ := hny
      have HOK := Lib.hid hok
      have hlt : ly.length = k := by rw [hly]; exact Gf.build_len _ _
      have h64 := hok.1
      have FT := Lib.hid (fun w h => rTurn12_at k (.slice A3 l.length c3) l w h hok)
      have FM := Lib.hid (fun u v w h1 h2 => rSame12_at (k : Int) u v (Gf.turnR k l) w h1 h2 (by rw [← hly, hlt]; omega))
      rw [← hly] at FT FM
      have HK : Hid (∀ W', Below z3.heap.size z3 W' → W'.cell? ⟨oy, 0, none⟩ = some (.int .i64 k) ∧ W'.cell? ⟨oy, 1, none⟩ = some (.slice Ay ly.length cy) ∧ W'.cell? ⟨orr, 0, none⟩ = some (.int .i64 k) ∧ W'.cell? ⟨orr, 1, none⟩ = some (.slice A3 l.length c3)) := fun W' h =>
        ⟨(Y12.out.later h).cells.1, (Y12.out.later h).cells.2, (R12.out.later h).cells.1, (R12.out.later h).cells.2⟩
      have HLK := Lib.hid hok.2.1
      clear hok hly HY hlt
      obtain ⟨y0, y1, r0, r1⟩ := HK.out _ (Below.refl _ z3)
      have D := Lib.hid (Below.refl z3.heap.size z3).drew
      go_wp2_with fail
      go_region_held3 (fun W' => W'.cell? ⟨oy, 0, none⟩ = some (.int .i64 k) ∧ W'.cell? ⟨oy, 1, none⟩ = some (.slice Ay ly.length cy) ∧ W'.cell? ⟨orr, 0, none⟩ = some (.int .i64 k) ∧ W'.cell? ⟨orr, 1, none⟩ = some (.slice A3 l.length c3))
        (first | (exact ⟨y0, y1, r0, r1⟩) | (exact HK.out _ D.out) | (exact HK.out _ Y1.out) | (exact HK.out _ Y2.out) | (exact HK.out _ Y3.out))
        (first
          | (go_at_call 8; (with_reducible refine (gfPlain_at (k : Int) (.slice Ay ly.length cy) ly _ (UY12.out.below D.out)).mono ?_); rintro e q1 ⟨rfl, hz⟩; have Y1 := Lib.hid (below_all D.out hz); clear hz)
          | (go_at_call 16; (with_reducible refine (FT.out _ (UR12.out.below Y1.out)).mono ?_); rintro e q2 ⟨v2, rfl, ho2, hz⟩; have Y2 := Lib.hid (below_all Y1.out hz); have R2 := Lib.hid ho2.us; clear hz ho2)
          | (go_at_call 13; (with_reducible refine (FM.out _ _ _ (UY12.out.below Y2.out) R2.out).mono ?_); rintro e q3 ⟨rfl, hz⟩; have Y3 := Lib.hid (below_all Y2.out hz); clear hz))
      all_goals
        clear y0 y1 r0 r1
        have T13 := Lib.hid (T12.out.later Y3.out)
        have R13 := Lib.hid (R12.out.later Y3.out)
        have X13 := Lib.hid (X12.out.later Y3.out)
        have UA13 := Lib.hid (UA12.out.below Y3.out)
        have UR13 := Lib.hid (UR12.out.below Y3.out)
        have UX13 := Lib.hid (UX12.out.below Y3.out)
        have B13 := Lib.hid (below_all B12.out Y3.out)
        clear T12 R12 X12 Y12 UA12 UR12 UX12 UY12 B12 HK D Y1 Y2 Y3 FT FM
        obtain ⟨r0, r1⟩ := R13.out.cells
        have HPK : Hid (Gf.okB (k : Int) l = true) := HPP.out.symm
        have FN1 := Lib.hid (fun w => rNode12_at (k : Int) (.slice A3 l.length c3) a w)
        have FN2 := Lib.hid (fun w => rNode12_at (k : Int) (.slice A3 l.length c3) b w)
        have FH := Lib.hid (fun w h => gfHas_at (k : Int) (.slice A l.length c) l a b w h HS.out)
        cases hna : Gf.isN (k : Int) a with
        | false =>
          have hnx : nx = 0 ∧ ex = 1 ∧ lx = [] := by
            rcases HX.out with ⟨h, _⟩ | ⟨_, h⟩
            · rw [Gf.addB, hna, HPK.out] at h; cases h
            · exact h
          obtain ⟨rfl, rfl, hlx⟩ := hnx
          rw [Gf.has_no (a := a) (b := b) (by rw [hna, Bool.and_false])] at FH
          rw [hna] at FN1
          generalize hmx : lx.length = mx at *
          obtain rfl : mx = 0 := by rw [← hmx, hlx]; rfl
          clear hmx hlx HX
          go_wp2_with fail
          refine (FN1.out _).mono ?_
          rintro e w14 ⟨rfl, hb14⟩
          have B14 := Lib.hid (below_all B13.out hb14)
          obtain ⟨a0, a1⟩ := (T13.out.later hb14).cells
          obtain ⟨x0, x1⟩ := (X13.out.later hb14).cells
          have UA14 := Lib.hid (UA13.out.below hb14)
          clear hb14 r0 r1
          go_wp2_with fail
          refine (FH.out _ UA14.out).mono ?_
          rintro e w15 ⟨rfl, hb15⟩
          have B15 := Lib.hid (below_all B14.out hb15)
          go_wp2_with fail
          go_ret
          exact ⟨rfl, B15.out⟩
        | true =>
          rw [hna] at FN1
          go_wp2_with fail
          refine (FN1.out _).mono ?_
          rintro e w14 ⟨rfl, hb14⟩
          have T14 := Lib.hid (T13.out.later hb14)
          have R14 := Lib.hid (R13.out.later hb14)
          have X14 := Lib.hid (X13.out.later hb14)
          have UA14 := Lib.hid (UA13.out.below hb14)
          have UR14 := Lib.hid (UR13.out.below hb14)
          have UX14 := Lib.hid (UX13.out.below hb14)
          have B14 := Lib.hid (below_all B13.out hb14)
          clear hb14 r0 r1 T13 R13 X13 UA13 UR13 UX13 B13
          obtain ⟨r0, r1⟩ := R14.out.cells
          go_wp2_with fail
          refine (FN2.out _).mono ?_
          rintro e w15 ⟨rfl, hb15⟩
          have T15 := Lib.hid (T14.out.later hb15)
          have R15 := Lib.hid (R14.out.later hb15)
          have X15 := Lib.hid (X14.out.later hb15)
          have UA15 := Lib.hid (UA14.out.below hb15)
          have UR15 := Lib.hid (UR14.out.below hb15)
          have UX15 := Lib.hid (UX14.out.below hb15)
          have B15 := Lib.hid (below_all B14.out hb15)
          clear hb15 r0 r1 T14 R14 X14 UA14 UR14 UX14 B14
          cases hnb : Gf.isN (k : Int) b with
          | false =>
            have hnx : nx = 0 ∧ ex = 1 ∧ lx = [] := by
              rcases HX.out with ⟨h, _⟩ | ⟨_, h⟩
              · rw [Gf.addB, hna, hnb, HPK.out] at h; cases h
              · exact h
            obtain ⟨rfl, rfl, hlx⟩ := hnx
            have hhf : Gf.hasR (k : Int) l a b = false := by rw [Gf.hasR, hnb, Bool.false_and, Bool.and_false, Bool.and_false]
            rw [hhf] at FH
            generalize hmx : lx.length = mx at *
            obtain rfl : mx = 0 := by rw [← hmx, hlx]; rfl
            clear hmx hlx HX hhf
            obtain ⟨a0, a1⟩ := T15.out.cells
            obtain ⟨x0, x1⟩ := X15.out.cells
            go_wp2_with fail
            refine (FH.out _ UA15.out).mono ?_
            rintro e w16 ⟨rfl, hb16⟩
            have B16 := Lib.hid (below_all B15.out hb16)
            go_wp2_with fail
            go_ret
            exact ⟨rfl, B16.out⟩
          | true =>
            have hnx : nx = k ∧ ex = 0 ∧ lx = Gf.addR l a.toNat b.toNat := by
              rcases HX.out with ⟨_, h⟩ | ⟨h, _⟩
              · exact h
              · rw [Gf.addB, hna, hnb, HPK.out] at h; cases h
            obtain ⟨rfl, rfl, hlx⟩ := hnx
            obtain ⟨x, rfl, hxk⟩ := Gf.isN_nat hna
            rw [Int.toNat_natCast] at hlx
            have hxl : x < l.length := by have := HLK.out; omega
            have hll : l.length ≤ 64 := by have := HLK.out; omega
            obtain ⟨y, rfl, hyk⟩ := Gf.isN_nat hnb
            rw [Int.toNat_natCast] at hlx
            have hset : l.set x (Bi.withN (l[x]'hxl) (y : Int)) = lx := by
              rw [hlx, Gf.addR, List.getD_eq_getElem?_getD, List.getElem?_eq_getElem hxl]
              rfl
            have hll2 : lx.length ≤ 4294967296 := by rw [← hset, List.length_set]; omega
            have FS := Lib.hid (fun w h => rSet12_at (k : Int) (.slice A3 l.length c3) l x (y : Int) w h hxl (HS.out _ (List.getElem_mem hxl)) hll)
            rw [hset] at FS
            have FM := Lib.hid (fun u v w h1 h2 => rSame12_at (k : Int) u v lx w h1 h2 hll2)
            have FR := Lib.hid (fun w h => rHas12_at (k : Int) (.slice A3 l.length c3) l x (y : Int) w h hxl (HS.out _ (List.getElem_mem hxl)))
            rw [← Gf.has_at HOK.out hxk hxl] at FR
            have hqq : (Gf.hasR (k : Int) l x y == Gf.hasR (k : Int) l x y) = true := by simp
            generalize Gf.hasR (k : Int) l x y = h at *
            clear hlx hset HX hll2 HOK
            have HK : Hid (∀ W', Below w15.heap.size w15 W' → W'.cell? ⟨w.heap.size, 0, none⟩ = some (.int .i64 k) ∧ W'.cell? ⟨w.heap.size, 1, none⟩ = some (.slice A l.length c) ∧ W'.cell? ⟨orr, 0, none⟩ = some (.int .i64 k) ∧ W'.cell? ⟨orr, 1, none⟩ = some (.slice A3 l.length c3) ∧ W'.cell? ⟨ox, 0, none⟩ = some (.int .i64 k) ∧ W'.cell? ⟨ox, 1, none⟩ = some (.slice Ax lx.length cx)) := fun W' h =>
              ⟨(T15.out.later h).cells.1, (T15.out.later h).cells.2, (R15.out.later h).cells.1, (R15.out.later h).cells.2, (X15.out.later h).cells.1, (X15.out.later h).cells.2⟩
            obtain ⟨a0, a1, r0, r1, x0, x1⟩ := HK.out _ (Below.refl _ w15)
            have D := Lib.hid (Below.refl w15.heap.size w15).drew
            go_wp2_with fail
            go_region_held3 (fun W' => W'.cell? ⟨w.heap.size, 0, none⟩ = some (.int .i64 k) ∧ W'.cell? ⟨w.heap.size, 1, none⟩ = some (.slice A l.length c) ∧ W'.cell? ⟨orr, 0, none⟩ = some (.int .i64 k) ∧ W'.cell? ⟨orr, 1, none⟩ = some (.slice A3 l.length c3) ∧ W'.cell? ⟨ox, 0, none⟩ = some (.int .i64 k) ∧ W'.cell? ⟨ox, 1, none⟩ = some (.slice Ax lx.length cx))
              (first | (exact ⟨a0, a1, r0, r1, x0, x1⟩) | (exact HK.out _ D.out) | (exact HK.out _ Y1.out) | (exact HK.out _ Y2.out) | (exact HK.out _ Y3.out) | (exact HK.out _ Y4.out) | (exact HK.out _ Y5.out))
              (first
                | (go_at_call 8; (with_reducible refine (gfPlain_at (k : Int) (.slice Ax lx.length cx) lx _ (UX15.out.below D.out)).mono ?_); rintro e q1 ⟨rfl, hz⟩; have Y1 := Lib.hid (below_all D.out hz); clear hz)
                | (go_at_call 18; (with_reducible refine (FS.out _ (UR15.out.below Y1.out)).mono ?_); rintro e q2 ⟨v2, rfl, ho2, hz⟩; have Y2 := Lib.hid (below_all Y1.out hz); have R2 := Lib.hid ho2.us; clear hz ho2)
                | (go_at_call 13; (with_reducible refine (FM.out _ _ _ (UX15.out.below Y2.out) R2.out).mono ?_); rintro e q3 ⟨rfl, hz⟩; have Y3 := Lib.hid (below_all Y2.out hz); clear hz)
                | (go_at_call 14; (with_reducible refine (FH.out _ (UA15.out.below Y3.out)).mono ?_); rintro e q4 ⟨rfl, hz⟩; have Y4 := Lib.hid (below_all Y3.out hz); clear hz)
                | (go_at_call 19; (with_reducible refine (FR.out _ (UR15.out.below Y4.out)).mono ?_); rintro e q5 ⟨rfl, hz⟩; have Y5 := Lib.hid (below_all Y4.out hz); clear hz))
            all_goals
              go_wp2_with fail
              go_ret
              exact ⟨ret_bool (by first | rfl | exact hqq), below_all B15.out Y5.out⟩
end Go.Proofs.Ytcpiaddohiokkaa
