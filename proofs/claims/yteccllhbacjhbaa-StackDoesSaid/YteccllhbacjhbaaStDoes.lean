/-
  The law StackDoes: whatever is pushed, popped and looked at, in any order: each answer, how many there are, and all, are the document's.
  Conditions: the second argument reads as a row of calls (a kind and a number each).
-/
import Derived.Test.YteccllhbacjhbaaStBack
import Derived.Test.YteccllhbacjhbaaStRefA
set_option maxRecDepth 4000
namespace Go.Proofs.Yteccllhbacjhbaa
open Go.RowKit

/-- What stands between two calls: the stack (with l), the reference's stack in a variable at block R (with g, its row in memory of its own). -/
structure DoesAt (B R P : Nat) (most : Int) (r : Option Nat) (l g : List Int) (v : Value) (W : World) : Prop where
  gone : GoneAt B P most r l g v W
  var : Two W R 28 (.int .i64 most) v
  ne : R ≠ B
  apart : some R ≠ r
  row : v.ownBlock ≠ some R
section
variable {B R P : Nat} {most : Int} {r : Option Nat} {l g : List Int} {v : Value} {W : World}
theorem DoesAt.call {W' : World} {l' : List Int} {r' : Option Nat} (h : DoesAt B R P most r l g v W) (hs : Stk 57 3 1 nC B most r' l' W') (hm : Moved W r r') (ht : Touch B r W W') : DoesAt B R P most r' l' g v W' := by
  refine ⟨h.gone.call hs hm ht, ht.keeps h.var h.ne h.apart, h.ne, ?_, h.row⟩
  rcases hm with e | ⟨j, e, hj⟩
  · rw [e]; exact h.apart
  · have := h.var.lt
    rw [e]
    intro e2
    cases e2
    omega
theorem DoesAt.later {W' : World} (h : DoesAt B R P most r l g v W) (hb : Below W.heap.size W W') : DoesAt B R P most r l g v W' :=
  h.call (h.gone.stk.later hb) (Moved.refl _ _) (Touch.of_below hb)
theorem DoesAt.still {W' w : World} (h : DoesAt B R P most r l g v W) (hb : Below w.heap.size w W) (hB : w.heap.size ≤ B) (ht : Touch B r W W') : Below w.heap.size w W' := h.gone.stk.still hb hB ht
/-- The variable gets what is in it. -/
theorem DoesAt.same (h : DoesAt B R P most r l g v W) : DoesAt B R P most r l g v ((W.setCell ⟨R, 0, none⟩ (.int .i64 most)).setCell ⟨R, 1, none⟩ v) := by
  have ht : Touch R none W ((W.setCell ⟨R, 0, none⟩ (.int .i64 most)).setCell ⟨R, 1, none⟩ v) := (touch_setCell W R 0 none _).trans (.inl rfl) (touch_setCell _ R 1 none _)
  have hs : Stk 57 3 1 nC B most r l ((W.setCell ⟨R, 0, none⟩ (.int .i64 most)).setCell ⟨R, 1, none⟩ v) := (h.gone.stk.put h.ne h.apart 0 _).put h.ne h.apart 1 _
  exact ⟨⟨hs, ht.own h.gone.row h.row (fun k _ q => by cases q), h.gone.above, h.gone.apart, Nat.le_trans h.gone.size ht.size⟩, h.var.put, h.ne, h.apart, h.row⟩
/-- The variable gets a row that was made meanwhile. -/
theorem DoesAt.put {W' : World} {g' : List Int} {v' : Value} (h : DoesAt B R P most r l g v W) (hb : Below W.heap.size W W') (ho : W'.ownsRow W.heap.size 3 1 v' g'.length (g'.flatMap nC)) : DoesAt B R W.heap.size most r l g' v' ((W'.setCell ⟨R, 0, none⟩ (.int .i64 most)).setCell ⟨R, 1, none⟩ v') := by
  have h' := h.later hb
  have hlt := h.var.lt
  have ht : Touch R none W' ((W'.setCell ⟨R, 0, none⟩ (.int .i64 most)).setCell ⟨R, 1, none⟩ v') := (touch_setCell W' R 0 none _).trans (.inl rfl) (touch_setCell _ R 1 none _)
  have hs : Stk 57 3 1 nC B most r l ((W'.setCell ⟨R, 0, none⟩ (.int .i64 most)).setCell ⟨R, 1, none⟩ v') := (h'.gone.stk.put h.ne h.apart 0 _).put h.ne h.apart 1 _
  have hrow : v'.ownBlock ≠ some R := fun q => by have := (ho.lt R q).1; omega
  refine ⟨⟨hs, ht.own ho hrow (fun k _ q => by cases q), h.gone.stk.lt, fun k q e => ?_, Nat.le_trans hb.size ht.size⟩, h'.var.put, h.ne, h.apart, hrow⟩
  have h1 := (ho.lt k q).1
  have h2 := (h.gone.stk.row_lt k e.symm).2
  omega
end

/-- Two cells stored into another block. -/
theorem st_far {W : World} {X : Nat} {p : Addr} {u v x : Value} (h : p.block ≠ X) (hc : W.cell? p = some x) : ((W.setCell ⟨X, 0, none⟩ u).setCell ⟨X, 1, none⟩ v).cell? p = some x := by
  have h1 : ((W.setCell ⟨X, 0, none⟩ u).setCell ⟨X, 1, none⟩ v).heap[p.block]? = W.heap[p.block]? := (heap_setCell_other _ ⟨X, 1, none⟩ p.block v h).trans (heap_setCell_other W ⟨X, 0, none⟩ p.block u h)
  exact (World.cell?_of_block h1).trans hc
/-! The reference's calls, as the walk spells their values. -/
theorem rPush11_go (most : Int) (v : Value) (l : List Int) (x : Int) (w : World) (hv : Ns w v l) (hl : l.length ≤ 4294967296) (hm : (l.length : Int) < most) : Calls Try.prog 11 #[.agg #[.int .i64 most, v], .int .i64 x] w fun e w' => ∃ A n c, e = .returned (.tuple #[.agg #[.int .i64 most, .slice A n c], .bool true]) ∧ Hid ((l ++ [x]).length = n) ∧ Hid (w'.ownsRow w.heap.size 3 1 (.slice A n c) (l ++ [x]).length ((l ++ [x]).flatMap nC)) ∧ Hid (Below w.heap.size w w') := by
  refine (rPush11_yes most v l x w hv hl hm).mono ?_
  rintro e w' ⟨v', rfl, ho, hb⟩
  obtain ⟨A, c, rfl⟩ := own_form ho
  exact ⟨A, _, c, rfl, rfl, ho, hb⟩
theorem rPush11_full (most : Int) (v : Value) (l : List Int) (x : Int) (w : World) (hv : Ns w v l) (hm : most ≤ (l.length : Int)) : Calls Try.prog 11 #[.agg #[.int .i64 most, v], .int .i64 x] w fun e w' => e = .returned (.tuple #[.agg #[.int .i64 most, v], .bool false]) ∧ Hid (Below w.heap.size w w') := rPush11_no most v l x w hv hm
theorem rPop11_go (most : Int) (v : Value) (l : List Int) (w : World) (hv : Ns w v l) (m : Nat) (hl : l.length = m + 1) (hm : m < 4294967296) (x : Int) (hx : l[m]? = some x) : Calls Try.prog 13 #[.agg #[.int .i64 most, v]] w fun e w' => ∃ A n c, e = .returned (.tuple #[.agg #[.int .i64 most, .slice A n c], .int .i64 x, .bool true]) ∧ Hid ((l.take m).length = n) ∧ Hid (w'.ownsRow w.heap.size 3 1 (.slice A n c) (l.take m).length ((l.take m).flatMap nC)) ∧ Hid (Below w.heap.size w w') := by
  refine (rPop11_some most v l w hv m hl hm x hx).mono ?_
  rintro e w' ⟨v', rfl, ho, hb⟩
  obtain ⟨A, c, rfl⟩ := own_form ho
  exact ⟨A, _, c, rfl, rfl, ho, hb⟩
theorem rPop11_empty (most : Int) (v : Value) (l : List Int) (w : World) (hv : Ns w v l) (hl : l.length = 0) : Calls Try.prog 13 #[.agg #[.int .i64 most, v]] w fun e w' => e = .returned (.tuple #[.agg #[.int .i64 most, v], .int .i64 0, .bool false]) ∧ Hid (Below w.heap.size w w') := rPop11_none most v l w hv hl

set_option maxHeartbeats 4000000 in
theorem lawStackDoes (most : Int) (ops : List (Int × Int)) (v : Value) (w : World) (hv : Ops w v ops) : Calls Try.prog 3 #[.int .i64 most, v] w (RetBool w true) := by
  obtain ⟨A, c, rfl, hf⟩ := hv.spelled
  have HF := Lib.hid hf
  clear hv hf
  go_enter Try.func3, Try.ntmps3
  go_wp2_with fail
  refine (stAwake_at _).mono ?_
  rintro e w1 ⟨rfl, hb⟩
  have B1 := Lib.hid hb
  clear hb
  by_cases hl : 200 < ops.length
  · have d0 : decide ((200 : Int) < (ops.length : Int)) = true := decide_eq_true (by omega)
    clear hl
    go_wp2_with fail
    go_ret
    exact ⟨rfl, B1.out⟩
  have d0 : decide ((200 : Int) < (ops.length : Int)) = false := decide_eq_false (by omega)
  have hlb : ops.length ≤ 200 := by omega
  clear hl
  go_wp2_with fail
  refine (stInts_at most _).mono ?_
  rintro e w2 ⟨rfl, hs, hb⟩
  have B2 := Lib.hid (below_all B1.out hb)
  have S2 := Lib.hid hs
  have LB : Hid (w.heap.size ≤ w1.heap.size) := B1.out.size
  clear hs hb d0 B1
  generalize w1.heap.size = B at *
  go_wp2_with fail
  refine (rNew11_at most _).mono ?_
  rintro e w3 ⟨rfl, hb⟩
  unfold stV
  have S3 := Lib.hid (S2.out.later hb)
  have B3 := Lib.hid (below_all B2.out hb)
  clear hb S2 B2
  go_wp2_with fail
  have D0 := Lib.hid (show DoesAt B w3.heap.size w3.heap.size most none [] [] (.slice none 0 0) (w3.alloc (.cells #[.int .i64 most, .slice none 0 0] 28)) from
    ⟨⟨S3.out.alloc _, World.ownsRow_nil _ _ _ _, S3.out.lt, fun k q => by simp [Value.ownBlock] at q, by simp⟩, Two.new w3 _ _ _, Nat.ne_of_gt S3.out.lt, by simp, by simp [Value.ownBlock]⟩)
  have B4 := Lib.hid (below_all B3.out (alloc_below w3 (.cells #[.int .i64 most, .slice none 0 0] 28)))
  have HRB := Lib.hid (show w.heap.size ≤ w3.heap.size from B3.out.size)
  clear S3 B3
  generalize w3.alloc (.cells #[.int .i64 most, .slice none 0 0] 28) = w4 at *
  generalize w3.heap.size = R at *
  go_loopw [8, 9, 11, 12, 13, 15, 16, 17, 18, 19, 20] (fun iv _ _ _ _ _ _ _ _ _ _ wr => ∃ (k P : Nat) (r : Option Nat) (l : List Int) (v : Value), k ≤ ops.length ∧ iv = .int .i64 k ∧ l.length ≤ k ∧ Hid (DoesAt B R P most r l l v wr) ∧ Hid (Below w.heap.size w wr)) (fun iv _ _ _ _ _ _ _ _ _ _ _ => ops.length - (intOf iv).toNat)
  case atStart => exact ⟨0, R, none, [], .slice none 0 0, Nat.zero_le _, rfl, Nat.le_refl _, D0.out, B4.out⟩
  case round =>
    clear D0 B4
    obtain ⟨k, P, r, l, v, hk, rfl, hlk, HD, HB⟩ := hrel
    by_cases hlt : k < ops.length
    · obtain ⟨ad, rfl, hblk, hE⟩ := HF.out k hlt
      have HEE := Lib.hid hE
      have HK := Lib.hid hblk
      obtain ⟨e0, e1⟩ := hE.below hblk HB.out
      generalize ops[k] = x at *
      obtain ⟨kd, x⟩ := x
      dsimp only at e0 e1
      clear hE hblk
      rcases (show kd = 0 ∨ kd = 1 ∨ kd ≠ 0 ∧ kd ≠ 1 by omega) with rfl | rfl | ⟨hk0, hk1⟩
      · by_cases hroom : (l.length : Int) < most
        · go_wp2_with fail
          refine (stPush_yes x _ HD.out.gone.stk (by omega) hroom).mono ?_
          rintro e w5 ⟨rfl, r5, hs, hm, ht⟩
          have HD5 := Lib.hid (HD.out.call hs hm ht)
          have HB5 := Lib.hid (HD.out.still HB.out LB.out ht)
          obtain ⟨e0, e1⟩ := HEE.out.below HK.out HB5.out
          obtain ⟨A1, c1, rfl⟩ := own_form HD5.out.gone.row
          obtain ⟨z0, z1⟩ := HD5.out.var.cells
          dsimp only at e1
          clear hs hm ht HD HB e0
          go_wp2_with fail
          have HBD := Lib.hid (Below.refl w5.heap.size w5).drew
          have HBE := Lib.hid (alloc_below w5 (.cells #[.int .i64 0, .slice none 0 0] 28)).drew
          have HTX := Lib.hid (show Two (w5.alloc (.cells #[.int .i64 0, .slice none 0 0] 28)).drew w5.heap.size 28 (.int .i64 0) (.slice none 0 0) from Two.new w5 _ _ _)
          have HRX := Lib.hid (show R ≠ w5.heap.size from Nat.ne_of_lt HD5.out.var.lt)
          have HAX := Lib.hid (show (ad.add (k * 2)).block ≠ w5.heap.size by have h1 := HK.out; have h2 := HB5.out.size; rw [add_block]; omega)
          have y0 := st_stays HBE.out z0
          have y1 := st_stays HBE.out z1
          have y2 := st_stays HBE.out e1
          have HNS : Hid (∀ W, Below w5.heap.size w5 W → Ns W (.slice A1 l.length c1) l) := fun W hb => Rows'.own (HD5.out.later hb).gone.row
          have FP := Lib.hid (fun W (hb : Below w5.heap.size w5 W) => rPush11_go most (.slice A1 l.length c1) l x W (HNS.out W hb) (by omega) hroom)
          go_region_held3 (fun w' => w'.cell? ⟨R, 0, none⟩ = some (.int .i64 most) ∧ w'.cell? ⟨R, 1, none⟩ = some (.slice A1 l.length c1) ∧ w'.cell? ⟨(ad.add (k * 2)).block, (ad.add (k * 2)).off + 1, none⟩ = some (.int .i64 x))
            (first | (exact ⟨z0, z1, e1⟩) | (exact ⟨y0, y1, y2⟩) | (exact ⟨x0, x1, x2⟩) | (exact ⟨st_far HRX.out x0, st_far HRX.out x1, st_far HAX.out x2⟩) | (exact ⟨st_stays (alloc_below _ _) x0, st_stays (alloc_below _ _) x1, st_stays (alloc_below _ _) x2⟩) | go_keep)
            (first | (go_at_call 11; (with_reducible refine (FP.out _ (by first | exact HBD.out | exact HBE.out)).mono ?_); rintro e w6 ⟨A6, n6, c6, rfl, HN6, HO6, hb6⟩; have HB6 := hb6
                      have x0 : w6.cell? ⟨R, 0, none⟩ = some (.int .i64 most) := by first | exact st_stays (below_all HBD.out hb6.out) z0 | exact st_stays (below_all HBE.out hb6.out) z0
                      have x1 : w6.cell? ⟨R, 1, none⟩ = some (.slice A1 l.length c1) := by first | exact st_stays (below_all HBD.out hb6.out) z1 | exact st_stays (below_all HBE.out hb6.out) z1
                      have x2 : w6.cell? ⟨(ad.add (k * 2)).block, (ad.add (k * 2)).off + 1, none⟩ = some (.int .i64 x) := by first | exact st_stays (below_all HBD.out hb6.out) e1 | exact st_stays (below_all HBE.out hb6.out) e1
                      try have t6 := HTX.out.later hb6.out
                      try obtain ⟨t0, t1⟩ := t6.cells
                      try have f0 := t6.frozen 0
                      try have f1 := t6.frozen 1
                      try have HT6 := Lib.hid t6
                      try clear t6
                      clear hb6))
          rotate_left
          · have TX7 := Lib.hid (HT6.out.put (x := .int .i64 most) (y := .slice A6 n6 c6))
            have B7 := Lib.hid (((below_all HBE.out HB6.out).setCell (p := ⟨w5.heap.size, 0, none⟩) (Nat.le_refl _) (.int .i64 most)).setCell (p := ⟨w5.heap.size, 1, none⟩) (Nat.le_refl _) (.slice A6 n6 c6))
            have hsz : w5.heap.size < (w5.alloc (.cells #[.int .i64 0, .slice none 0 0] 28)).drew.heap.size := HTX.out.lt
            have O7 := (own_setCell (own_setCell HO6.out (b := w5.heap.size) (o := 0) (x := .int .i64 most) hsz) (b := w5.heap.size) (o := 1) (x := .slice A6 n6 c6) hsz).mono (Nat.le_of_lt hsz)
            have D8 := Lib.hid (HD5.out.put B7.out O7)
            clear O7 hsz x0 x1 x2 y0 y1 y2 z0 z1 e1 t0 t1 f0 f1 HTX HBE HBD HNS FP HO6 HB6 HT6 HRX HAX
            generalize (w6.setCell ⟨w5.heap.size, 0, none⟩ (.int .i64 most)).setCell ⟨w5.heap.size, 1, none⟩ (.slice A6 n6 c6) = W7 at *
            obtain ⟨t0, t1⟩ := Two.cells TX7.out
            have DD7 := HD5.out.later B7.out
            obtain ⟨r0, r1⟩ := DD7.var.cells
            have g0 := DD7.var.frozen 0
            have g1 := DD7.var.frozen 1
            have B8 := Lib.hid (((below_all HB5.out B7.out).setCell (p := ⟨R, 0, none⟩) HRB.out (.int .i64 most)).setCell (p := ⟨R, 1, none⟩) HRB.out (.slice A6 n6 c6))
            clear DD7 HD5 TX7 B7
            go_wp2_with fail
            generalize (W7.setCell ⟨R, 0, none⟩ (.int .i64 most)).setCell ⟨R, 1, none⟩ (.slice A6 n6 c6) = W8 at *
            have HLL := Lib.hid (show (l ++ [x]).length ≤ k + 1 by simp; omega)
            generalize l ++ [x] = L at *
            obtain rfl := HN6.out
            have hLL := HLL.out
            have hLs : L.length ≤ 4294967296 := by omega
            have hne : ((L.length : Int) != (L.length : Int)) = false := by simp
            obtain ⟨q0, q1⟩ := D8.out.var.cells
            have HW8 := Lib.hid (Below.refl W8.heap.size W8).drew
            have HSK := Lib.hid (fun W (hb : Below W8.heap.size W8 W) => (D8.out.later hb).gone.stk)
            have HRW := Lib.hid (fun W (hb : Below W8.heap.size W8 W) => show Ns W (.slice A6 L.length c6) L from Rows'.own (D8.out.later hb).gone.row)
            clear q0 hLL
            go_region_held3 (fun w' => w'.cell? ⟨R, 1, none⟩ = some (.slice A6 L.length c6))
              (first | (exact q1) | (exact q2) | (exact q3) | go_keep)
              (first
                | (go_at_call 16; (with_reducible refine (stLen_at _ (HSK.out _ HW8.out)).mono ?_); rintro e w9 ⟨rfl, rfl⟩)
                | (go_at_call 18; (with_reducible refine (stAll_at _ (HSK.out _ HW8.out) hLs).mono ?_); rintro e w9 ⟨v9, rfl, ho9, hb9⟩; have N9 := Lib.hid (show Ns w9 v9 L from Rows'.own ho9); have HB9 := Lib.hid (below_all HW8.out hb9); have q2 := st_stays (below_all HW8.out hb9) q1; clear ho9 hb9)
                | (go_at_call 17; (with_reducible refine (rInts_at L _ _ _ N9.out (HRW.out _ HB9.out) hLs).mono ?_); rintro e w10 ⟨rfl, hb10⟩; have HB10 := Lib.hid (below_all HB9.out hb10); have q3 := st_stays HB10.out q1; clear hb10))
            all_goals
              have D10 := Lib.hid (D8.out.later HB10.out)
              have B10 := Lib.hid (below_all B8.out HB10.out)
              go_wp2_with fail
              go_roundw
              case rel => exact ⟨k + 1, _, _, L, _, by omega, by go_num, HLL.out, D10, B10⟩
              case measure => simp [intOf]; omega
          · have TX7 := Lib.hid (Two.new w6 28 (.int .i64 most) (.slice A6 n6 c6))
            have B7 := Lib.hid (below_all (below_all HBD.out HB6.out) (alloc_below w6 (.cells #[.int .i64 most, .slice A6 n6 c6] 28)))
            have D8 := Lib.hid (HD5.out.put B7.out (HO6.out.alloc _))
            clear x0 x1 x2 y0 y1 y2 z0 z1 e1 HTX HBE HBD HNS FP HO6 HB6 HRX HAX
            generalize w6.alloc (.cells #[.int .i64 most, .slice A6 n6 c6] 28) = W7 at *
            obtain ⟨t0, t1⟩ := Two.cells TX7.out
            have DD7 := HD5.out.later B7.out
            obtain ⟨r0, r1⟩ := DD7.var.cells
            have g0 := DD7.var.frozen 0
            have g1 := DD7.var.frozen 1
            have B8 := Lib.hid (((below_all HB5.out B7.out).setCell (p := ⟨R, 0, none⟩) HRB.out (.int .i64 most)).setCell (p := ⟨R, 1, none⟩) HRB.out (.slice A6 n6 c6))
            clear DD7 HD5 TX7 B7
            go_wp2_with fail
            generalize (W7.setCell ⟨R, 0, none⟩ (.int .i64 most)).setCell ⟨R, 1, none⟩ (.slice A6 n6 c6) = W8 at *
            have HLL := Lib.hid (show (l ++ [x]).length ≤ k + 1 by simp; omega)
            generalize l ++ [x] = L at *
            obtain rfl := HN6.out
            have hLL := HLL.out
            have hLs : L.length ≤ 4294967296 := by omega
            have hne : ((L.length : Int) != (L.length : Int)) = false := by simp
            obtain ⟨q0, q1⟩ := D8.out.var.cells
            have HW8 := Lib.hid (Below.refl W8.heap.size W8).drew
            have HSK := Lib.hid (fun W (hb : Below W8.heap.size W8 W) => (D8.out.later hb).gone.stk)
            have HRW := Lib.hid (fun W (hb : Below W8.heap.size W8 W) => show Ns W (.slice A6 L.length c6) L from Rows'.own (D8.out.later hb).gone.row)
            clear q0 hLL
            go_region_held3 (fun w' => w'.cell? ⟨R, 1, none⟩ = some (.slice A6 L.length c6))
              (first | (exact q1) | (exact q2) | (exact q3) | go_keep)
              (first
                | (go_at_call 16; (with_reducible refine (stLen_at _ (HSK.out _ HW8.out)).mono ?_); rintro e w9 ⟨rfl, rfl⟩)
                | (go_at_call 18; (with_reducible refine (stAll_at _ (HSK.out _ HW8.out) hLs).mono ?_); rintro e w9 ⟨v9, rfl, ho9, hb9⟩; have N9 := Lib.hid (show Ns w9 v9 L from Rows'.own ho9); have HB9 := Lib.hid (below_all HW8.out hb9); have q2 := st_stays (below_all HW8.out hb9) q1; clear ho9 hb9)
                | (go_at_call 17; (with_reducible refine (rInts_at L _ _ _ N9.out (HRW.out _ HB9.out) hLs).mono ?_); rintro e w10 ⟨rfl, hb10⟩; have HB10 := Lib.hid (below_all HB9.out hb10); have q3 := st_stays HB10.out q1; clear hb10))
            all_goals
              have D10 := Lib.hid (D8.out.later HB10.out)
              have B10 := Lib.hid (below_all B8.out HB10.out)
              go_wp2_with fail
              go_roundw
              case rel => exact ⟨k + 1, _, _, L, _, by omega, by go_num, HLL.out, D10, B10⟩
              case measure => simp [intOf]; omega
        · go_wp2_with fail
          refine (stPush_no x _ HD.out.gone.stk (by omega)).mono ?_
          rintro e w5 ⟨rfl, hs, ht⟩
          have HD5 := Lib.hid (HD.out.call hs (Moved.refl _ _) ht)
          have HB5 := Lib.hid (HD.out.still HB.out LB.out ht)
          obtain ⟨e0, e1⟩ := HEE.out.below HK.out HB5.out
          obtain ⟨A1, c1, rfl⟩ := own_form HD5.out.gone.row
          obtain ⟨z0, z1⟩ := HD5.out.var.cells
          dsimp only at e1
          clear hs ht HD HB e0
          go_wp2_with fail
          have HBD := Lib.hid (Below.refl w5.heap.size w5).drew
          have HBE := Lib.hid (alloc_below w5 (.cells #[.int .i64 0, .slice none 0 0] 28)).drew
          have HTX := Lib.hid (show Two (w5.alloc (.cells #[.int .i64 0, .slice none 0 0] 28)).drew w5.heap.size 28 (.int .i64 0) (.slice none 0 0) from Two.new w5 _ _ _)
          have HRX := Lib.hid (show R ≠ w5.heap.size from Nat.ne_of_lt HD5.out.var.lt)
          have HAX := Lib.hid (show (ad.add (k * 2)).block ≠ w5.heap.size by have h1 := HK.out; have h2 := HB5.out.size; rw [add_block]; omega)
          have y0 := st_stays HBE.out z0
          have y1 := st_stays HBE.out z1
          have y2 := st_stays HBE.out e1
          have HNS : Hid (∀ W, Below w5.heap.size w5 W → Ns W (.slice A1 l.length c1) l) := fun W hb => Rows'.own (HD5.out.later hb).gone.row
          have FP := Lib.hid (fun W (hb : Below w5.heap.size w5 W) => rPush11_full most (.slice A1 l.length c1) l x W (HNS.out W hb) (by omega))
          go_region_held3 (fun w' => w'.cell? ⟨R, 0, none⟩ = some (.int .i64 most) ∧ w'.cell? ⟨R, 1, none⟩ = some (.slice A1 l.length c1) ∧ w'.cell? ⟨(ad.add (k * 2)).block, (ad.add (k * 2)).off + 1, none⟩ = some (.int .i64 x))
            (first | (exact ⟨z0, z1, e1⟩) | (exact ⟨y0, y1, y2⟩) | (exact ⟨x0, x1, x2⟩) | (exact ⟨st_far HRX.out x0, st_far HRX.out x1, st_far HAX.out x2⟩) | (exact ⟨st_stays (alloc_below _ _) x0, st_stays (alloc_below _ _) x1, st_stays (alloc_below _ _) x2⟩) | go_keep)
            (first | (go_at_call 11; (with_reducible refine (FP.out _ (by first | exact HBD.out | exact HBE.out)).mono ?_); rintro e w6 ⟨rfl, hb6⟩; have HB6 := hb6
                      have x0 : w6.cell? ⟨R, 0, none⟩ = some (.int .i64 most) := by first | exact st_stays (below_all HBD.out hb6.out) z0 | exact st_stays (below_all HBE.out hb6.out) z0
                      have x1 : w6.cell? ⟨R, 1, none⟩ = some (.slice A1 l.length c1) := by first | exact st_stays (below_all HBD.out hb6.out) z1 | exact st_stays (below_all HBE.out hb6.out) z1
                      have x2 : w6.cell? ⟨(ad.add (k * 2)).block, (ad.add (k * 2)).off + 1, none⟩ = some (.int .i64 x) := by first | exact st_stays (below_all HBD.out hb6.out) e1 | exact st_stays (below_all HBE.out hb6.out) e1
                      try have t6 := HTX.out.later hb6.out
                      try obtain ⟨t0, t1⟩ := t6.cells
                      try have f0 := t6.frozen 0
                      try have f1 := t6.frozen 1
                      try have HT6 := Lib.hid t6
                      try clear t6
                      clear hb6))
          rotate_left
          · have TX7 := Lib.hid (HT6.out.put (x := .int .i64 most) (y := .slice A1 l.length c1))
            have B7 := Lib.hid (((below_all HBE.out HB6.out).setCell (p := ⟨w5.heap.size, 0, none⟩) (Nat.le_refl _) (.int .i64 most)).setCell (p := ⟨w5.heap.size, 1, none⟩) (Nat.le_refl _) (.slice A1 l.length c1))
            have D8 := Lib.hid (HD5.out.later B7.out).same
            clear x0 x1 x2 y0 y1 y2 z0 z1 e1 t0 t1 f0 f1 HTX HBE HBD HNS FP HB6 HT6 HRX HAX
            generalize (w6.setCell ⟨w5.heap.size, 0, none⟩ (.int .i64 most)).setCell ⟨w5.heap.size, 1, none⟩ (.slice A1 l.length c1) = W7 at *
            obtain ⟨t0, t1⟩ := Two.cells TX7.out
            have DD7 := HD5.out.later B7.out
            obtain ⟨r0, r1⟩ := DD7.var.cells
            have g0 := DD7.var.frozen 0
            have g1 := DD7.var.frozen 1
            have B8 := Lib.hid (((below_all HB5.out B7.out).setCell (p := ⟨R, 0, none⟩) HRB.out (.int .i64 most)).setCell (p := ⟨R, 1, none⟩) HRB.out (.slice A1 l.length c1))
            clear DD7 HD5 TX7 B7
            go_wp2_with fail
            generalize (W7.setCell ⟨R, 0, none⟩ (.int .i64 most)).setCell ⟨R, 1, none⟩ (.slice A1 l.length c1) = W8 at *
            have HLL := Lib.hid (show (l).length ≤ k + 1 by omega)
            generalize hL : l = L at *
            clear hL
            have hLL := HLL.out
            have hLs : L.length ≤ 4294967296 := by omega
            have hne : ((L.length : Int) != (L.length : Int)) = false := by simp
            obtain ⟨q0, q1⟩ := D8.out.var.cells
            have HW8 := Lib.hid (Below.refl W8.heap.size W8).drew
            have HSK := Lib.hid (fun W (hb : Below W8.heap.size W8 W) => (D8.out.later hb).gone.stk)
            have HRW := Lib.hid (fun W (hb : Below W8.heap.size W8 W) => show Ns W (.slice A1 L.length c1) L from Rows'.own (D8.out.later hb).gone.row)
            clear q0 hLL
            go_region_held3 (fun w' => w'.cell? ⟨R, 1, none⟩ = some (.slice A1 L.length c1))
              (first | (exact q1) | (exact q2) | (exact q3) | go_keep)
              (first
                | (go_at_call 16; (with_reducible refine (stLen_at _ (HSK.out _ HW8.out)).mono ?_); rintro e w9 ⟨rfl, rfl⟩)
                | (go_at_call 18; (with_reducible refine (stAll_at _ (HSK.out _ HW8.out) hLs).mono ?_); rintro e w9 ⟨v9, rfl, ho9, hb9⟩; have N9 := Lib.hid (show Ns w9 v9 L from Rows'.own ho9); have HB9 := Lib.hid (below_all HW8.out hb9); have q2 := st_stays (below_all HW8.out hb9) q1; clear ho9 hb9)
                | (go_at_call 17; (with_reducible refine (rInts_at L _ _ _ N9.out (HRW.out _ HB9.out) hLs).mono ?_); rintro e w10 ⟨rfl, hb10⟩; have HB10 := Lib.hid (below_all HB9.out hb10); have q3 := st_stays HB10.out q1; clear hb10))
            all_goals
              have D10 := Lib.hid (D8.out.later HB10.out)
              have B10 := Lib.hid (below_all B8.out HB10.out)
              go_wp2_with fail
              go_roundw
              case rel => exact ⟨k + 1, _, _, L, _, by omega, by go_num, HLL.out, D10, B10⟩
              case measure => simp [intOf]; omega
          · have TX7 := Lib.hid (Two.new w6 28 (.int .i64 most) (.slice A1 l.length c1))
            have B7 := Lib.hid (below_all (below_all HBD.out HB6.out) (alloc_below w6 (.cells #[.int .i64 most, .slice A1 l.length c1] 28)))
            have D8 := Lib.hid (HD5.out.later B7.out).same
            clear x0 x1 x2 y0 y1 y2 z0 z1 e1 HTX HBE HBD HNS FP HB6 HRX HAX
            generalize w6.alloc (.cells #[.int .i64 most, .slice A1 l.length c1] 28) = W7 at *
            obtain ⟨t0, t1⟩ := Two.cells TX7.out
            have DD7 := HD5.out.later B7.out
            obtain ⟨r0, r1⟩ := DD7.var.cells
            have g0 := DD7.var.frozen 0
            have g1 := DD7.var.frozen 1
            have B8 := Lib.hid (((below_all HB5.out B7.out).setCell (p := ⟨R, 0, none⟩) HRB.out (.int .i64 most)).setCell (p := ⟨R, 1, none⟩) HRB.out (.slice A1 l.length c1))
            clear DD7 HD5 TX7 B7
            go_wp2_with fail
            generalize (W7.setCell ⟨R, 0, none⟩ (.int .i64 most)).setCell ⟨R, 1, none⟩ (.slice A1 l.length c1) = W8 at *
            have HLL := Lib.hid (show (l).length ≤ k + 1 by omega)
            generalize hL : l = L at *
            clear hL
            have hLL := HLL.out
            have hLs : L.length ≤ 4294967296 := by omega
            have hne : ((L.length : Int) != (L.length : Int)) = false := by simp
            obtain ⟨q0, q1⟩ := D8.out.var.cells
            have HW8 := Lib.hid (Below.refl W8.heap.size W8).drew
            have HSK := Lib.hid (fun W (hb : Below W8.heap.size W8 W) => (D8.out.later hb).gone.stk)
            have HRW := Lib.hid (fun W (hb : Below W8.heap.size W8 W) => show Ns W (.slice A1 L.length c1) L from Rows'.own (D8.out.later hb).gone.row)
            clear q0 hLL
            go_region_held3 (fun w' => w'.cell? ⟨R, 1, none⟩ = some (.slice A1 L.length c1))
              (first | (exact q1) | (exact q2) | (exact q3) | go_keep)
              (first
                | (go_at_call 16; (with_reducible refine (stLen_at _ (HSK.out _ HW8.out)).mono ?_); rintro e w9 ⟨rfl, rfl⟩)
                | (go_at_call 18; (with_reducible refine (stAll_at _ (HSK.out _ HW8.out) hLs).mono ?_); rintro e w9 ⟨v9, rfl, ho9, hb9⟩; have N9 := Lib.hid (show Ns w9 v9 L from Rows'.own ho9); have HB9 := Lib.hid (below_all HW8.out hb9); have q2 := st_stays (below_all HW8.out hb9) q1; clear ho9 hb9)
                | (go_at_call 17; (with_reducible refine (rInts_at L _ _ _ N9.out (HRW.out _ HB9.out) hLs).mono ?_); rintro e w10 ⟨rfl, hb10⟩; have HB10 := Lib.hid (below_all HB9.out hb10); have q3 := st_stays HB10.out q1; clear hb10))
            all_goals
              have D10 := Lib.hid (D8.out.later HB10.out)
              have B10 := Lib.hid (below_all B8.out HB10.out)
              go_wp2_with fail
              go_roundw
              case rel => exact ⟨k + 1, _, _, L, _, by omega, by go_num, HLL.out, D10, B10⟩
              case measure => simp [intOf]; omega
      · by_cases hroom : 0 < l.length
        · obtain ⟨m, hm⟩ : ∃ m, l.length = m + 1 := ⟨l.length - 1, by omega⟩
          have hml : m < l.length := by omega
          have HX := Lib.hid (show l[m]? = some l[m] from List.getElem?_eq_getElem hml)
          generalize l[m] = y at *
          have HM := Lib.hid hm
          clear hm hml hroom
          have hxx : (y != y) = false := by simp
          go_wp2_with fail
          refine (stPop_some _ HD.out.gone.stk m HM.out (by have := HM.out; omega) y HX.out).mono ?_
          rintro e w5 ⟨rfl, hs, ht⟩
          have HD5 := Lib.hid (HD.out.call hs (Moved.refl _ _) ht)
          have HB5 := Lib.hid (HD.out.still HB.out LB.out ht)
          obtain ⟨A1, c1, rfl⟩ := own_form HD5.out.gone.row
          obtain ⟨z0, z1⟩ := HD5.out.var.cells
          clear hs ht HD HB
          go_wp2_with fail
          refine (rPop11_go most (.slice A1 l.length c1) l w5 (Rows'.own HD5.out.gone.row) m HM.out (by have := HM.out; omega) y HX.out).mono ?_
          rintro e w6 ⟨A6, n6, c6, rfl, HN6, HO6, HB6⟩
          have TX7 := Lib.hid (Two.new w6 28 (.int .i64 most) (.slice A6 n6 c6))
          have B7 := Lib.hid (below_all HB6.out (alloc_below w6 (.cells #[.int .i64 most, .slice A6 n6 c6] 28)))
          have D8 := Lib.hid (HD5.out.put B7.out (HO6.out.alloc _))
          go_upto_region 27 with fail
          clear z0 z1 HO6 HB6
          generalize w6.alloc (.cells #[.int .i64 most, .slice A6 n6 c6] 28) = W7 at *
          generalize w6.heap.size = X at *
          obtain ⟨t0, t1⟩ := Two.cells TX7.out
          have DD7 := HD5.out.later B7.out
          obtain ⟨r0, r1⟩ := DD7.var.cells
          have g0 := DD7.var.frozen 0
          have g1 := DD7.var.frozen 1
          have B8 := Lib.hid (((below_all HB5.out B7.out).setCell (p := ⟨R, 0, none⟩) HRB.out (.int .i64 most)).setCell (p := ⟨R, 1, none⟩) HRB.out (.slice A6 n6 c6))
          clear DD7 HD5 TX7 B7
          go_wp2_with fail
          generalize (W7.setCell ⟨R, 0, none⟩ (.int .i64 most)).setCell ⟨R, 1, none⟩ (.slice A6 n6 c6) = W8 at *
          have HLL := Lib.hid (show (l.take m).length ≤ k + 1 by rw [List.length_take]; have := HM.out; omega)
          generalize l.take m = L at *
          obtain rfl := HN6.out
          have hLL := HLL.out
          have hLs : L.length ≤ 4294967296 := by omega
          have hne : ((L.length : Int) != (L.length : Int)) = false := by simp
          obtain ⟨q0, q1⟩ := D8.out.var.cells
          have HW8 := Lib.hid (Below.refl W8.heap.size W8).drew
          have HSK := Lib.hid (fun W (hb : Below W8.heap.size W8 W) => (D8.out.later hb).gone.stk)
          have HRW := Lib.hid (fun W (hb : Below W8.heap.size W8 W) => show Ns W (.slice A6 L.length c6) L from Rows'.own (D8.out.later hb).gone.row)
          clear q0 hLL
          go_region_held3 (fun w' => w'.cell? ⟨R, 1, none⟩ = some (.slice A6 L.length c6))
            (first | (exact q1) | (exact q2) | (exact q3) | go_keep)
            (first
              | (go_at_call 16; (with_reducible refine (stLen_at _ (HSK.out _ HW8.out)).mono ?_); rintro e w9 ⟨rfl, rfl⟩)
              | (go_at_call 18; (with_reducible refine (stAll_at _ (HSK.out _ HW8.out) hLs).mono ?_); rintro e w9 ⟨v9, rfl, ho9, hb9⟩; have N9 := Lib.hid (show Ns w9 v9 L from Rows'.own ho9); have HB9 := Lib.hid (below_all HW8.out hb9); have q2 := st_stays (below_all HW8.out hb9) q1; clear ho9 hb9)
              | (go_at_call 17; (with_reducible refine (rInts_at L _ _ _ N9.out (HRW.out _ HB9.out) hLs).mono ?_); rintro e w10 ⟨rfl, hb10⟩; have HB10 := Lib.hid (below_all HB9.out hb10); have q3 := st_stays HB10.out q1; clear hb10))
          all_goals
            have D10 := Lib.hid (D8.out.later HB10.out)
            have B10 := Lib.hid (below_all B8.out HB10.out)
            go_wp2_with fail
            go_roundw
            case rel => exact ⟨k + 1, _, _, L, _, by omega, by go_num, HLL.out, D10, B10⟩
            case measure => simp [intOf]; omega
        · have HM := Lib.hid (show l.length = 0 by omega)
          go_wp2_with fail
          refine (stPop_none _ HD.out.gone.stk HM.out).mono ?_
          rintro e w5 ⟨rfl, rfl⟩
          have HD5 := HD
          have HB5 := HB
          obtain ⟨A1, c1, rfl⟩ := own_form HD5.out.gone.row
          obtain ⟨z0, z1⟩ := HD5.out.var.cells
          clear HD HB hroom
          go_wp2_with fail
          refine (rPop11_empty most (.slice A1 l.length c1) l w5 (Rows'.own HD5.out.gone.row) HM.out).mono ?_
          rintro e w6 ⟨rfl, HB6⟩
          have TX7 := Lib.hid (Two.new w6 28 (.int .i64 most) (.slice A1 l.length c1))
          have B7 := Lib.hid (below_all HB6.out (alloc_below w6 (.cells #[.int .i64 most, .slice A1 l.length c1] 28)))
          have D8 := Lib.hid (HD5.out.later B7.out).same
          go_upto_region 27 with fail
          clear z0 z1 HB6
          generalize w6.alloc (.cells #[.int .i64 most, .slice A1 l.length c1] 28) = W7 at *
          generalize w6.heap.size = X at *
          obtain ⟨t0, t1⟩ := Two.cells TX7.out
          have DD7 := HD5.out.later B7.out
          obtain ⟨r0, r1⟩ := DD7.var.cells
          have g0 := DD7.var.frozen 0
          have g1 := DD7.var.frozen 1
          have B8 := Lib.hid (((below_all HB5.out B7.out).setCell (p := ⟨R, 0, none⟩) HRB.out (.int .i64 most)).setCell (p := ⟨R, 1, none⟩) HRB.out (.slice A1 l.length c1))
          clear DD7 HD5 TX7 B7
          go_wp2_with fail
          generalize (W7.setCell ⟨R, 0, none⟩ (.int .i64 most)).setCell ⟨R, 1, none⟩ (.slice A1 l.length c1) = W8 at *
          have HLL := Lib.hid (show (l).length ≤ k + 1 by omega)
          generalize hL : l = L at *
          clear hL
          have hLL := HLL.out
          have hLs : L.length ≤ 4294967296 := by omega
          have hne : ((L.length : Int) != (L.length : Int)) = false := by simp
          obtain ⟨q0, q1⟩ := D8.out.var.cells
          have HW8 := Lib.hid (Below.refl W8.heap.size W8).drew
          have HSK := Lib.hid (fun W (hb : Below W8.heap.size W8 W) => (D8.out.later hb).gone.stk)
          have HRW := Lib.hid (fun W (hb : Below W8.heap.size W8 W) => show Ns W (.slice A1 L.length c1) L from Rows'.own (D8.out.later hb).gone.row)
          clear q0 hLL
          go_region_held3 (fun w' => w'.cell? ⟨R, 1, none⟩ = some (.slice A1 L.length c1))
            (first | (exact q1) | (exact q2) | (exact q3) | go_keep)
            (first
              | (go_at_call 16; (with_reducible refine (stLen_at _ (HSK.out _ HW8.out)).mono ?_); rintro e w9 ⟨rfl, rfl⟩)
              | (go_at_call 18; (with_reducible refine (stAll_at _ (HSK.out _ HW8.out) hLs).mono ?_); rintro e w9 ⟨v9, rfl, ho9, hb9⟩; have N9 := Lib.hid (show Ns w9 v9 L from Rows'.own ho9); have HB9 := Lib.hid (below_all HW8.out hb9); have q2 := st_stays (below_all HW8.out hb9) q1; clear ho9 hb9)
              | (go_at_call 17; (with_reducible refine (rInts_at L _ _ _ N9.out (HRW.out _ HB9.out) hLs).mono ?_); rintro e w10 ⟨rfl, hb10⟩; have HB10 := Lib.hid (below_all HB9.out hb10); have q3 := st_stays HB10.out q1; clear hb10))
          all_goals
            have D10 := Lib.hid (D8.out.later HB10.out)
            have B10 := Lib.hid (below_all B8.out HB10.out)
            go_wp2_with fail
            go_roundw
            case rel => exact ⟨k + 1, _, _, L, _, by omega, by go_num, HLL.out, D10, B10⟩
            case measure => simp [intOf]; omega
      · have hq0 : (kd == 0) = false := beq_eq_false_iff_ne.2 hk0
        have hq1 : (kd == 1) = false := beq_eq_false_iff_ne.2 hk1
        clear hk0 hk1
        by_cases hroom : 0 < l.length
        · obtain ⟨m, hm⟩ : ∃ m, l.length = m + 1 := ⟨l.length - 1, by omega⟩
          have hml : m < l.length := by omega
          have HX := Lib.hid (show l[m]? = some l[m] from List.getElem?_eq_getElem hml)
          generalize l[m] = y at *
          have HM := Lib.hid hm
          clear hm hml hroom
          have hxx : (y != y) = false := by simp
          go_wp2_with fail
          refine (stTop_some _ HD.out.gone.stk m HM.out (by have := HM.out; omega) y HX.out).mono ?_
          rintro e w5 ⟨rfl, rfl⟩
          obtain ⟨A1, c1, rfl⟩ := own_form HD.out.gone.row
          obtain ⟨z0, z1⟩ := HD.out.var.cells
          have FT := Lib.hid (rTop11_some most (.slice A1 l.length c1) l w5 (Rows'.own HD.out.gone.row) m HM.out (by have := HM.out; omega) y HX.out)
          unfold stV at FT
          go_wp2_with fail
          refine (FT.out).mono ?_
          rintro e w6 ⟨rfl, hb6⟩
          have D8 := Lib.hid (HD.out.later hb6)
          have B8 := Lib.hid (below_all HB.out hb6)
          have HLL := Lib.hid (show l.length ≤ k + 1 by omega)
          clear hb6 HD HB z0 z1 HX HM FT
          generalize w6 = W8 at *
          generalize hL : l = L at *
          clear hL
          go_wp2_with fail
          have hLL := HLL.out
          have hLs : L.length ≤ 4294967296 := by omega
          have hne : ((L.length : Int) != (L.length : Int)) = false := by simp
          obtain ⟨q0, q1⟩ := D8.out.var.cells
          have HW8 := Lib.hid (Below.refl W8.heap.size W8).drew
          have HSK := Lib.hid (fun W (hb : Below W8.heap.size W8 W) => (D8.out.later hb).gone.stk)
          have HRW := Lib.hid (fun W (hb : Below W8.heap.size W8 W) => show Ns W (.slice A1 L.length c1) L from Rows'.own (D8.out.later hb).gone.row)
          clear q0 hLL
          go_region_held3 (fun w' => w'.cell? ⟨R, 1, none⟩ = some (.slice A1 L.length c1))
            (first | (exact q1) | (exact q2) | (exact q3) | go_keep)
            (first
              | (go_at_call 16; (with_reducible refine (stLen_at _ (HSK.out _ HW8.out)).mono ?_); rintro e w9 ⟨rfl, rfl⟩)
              | (go_at_call 18; (with_reducible refine (stAll_at _ (HSK.out _ HW8.out) hLs).mono ?_); rintro e w9 ⟨v9, rfl, ho9, hb9⟩; have N9 := Lib.hid (show Ns w9 v9 L from Rows'.own ho9); have HB9 := Lib.hid (below_all HW8.out hb9); have q2 := st_stays (below_all HW8.out hb9) q1; clear ho9 hb9)
              | (go_at_call 17; (with_reducible refine (rInts_at L _ _ _ N9.out (HRW.out _ HB9.out) hLs).mono ?_); rintro e w10 ⟨rfl, hb10⟩; have HB10 := Lib.hid (below_all HB9.out hb10); have q3 := st_stays HB10.out q1; clear hb10))
          all_goals
            have D10 := Lib.hid (D8.out.later HB10.out)
            have B10 := Lib.hid (below_all B8.out HB10.out)
            go_wp2_with fail
            go_roundw
            case rel => exact ⟨k + 1, _, _, L, _, by omega, by go_num, HLL.out, D10, B10⟩
            case measure => simp [intOf]; omega
        · have HM := Lib.hid (show l.length = 0 by omega)
          clear hroom
          go_wp2_with fail
          refine (stTop_none _ HD.out.gone.stk HM.out).mono ?_
          rintro e w5 ⟨rfl, rfl⟩
          obtain ⟨A1, c1, rfl⟩ := own_form HD.out.gone.row
          obtain ⟨z0, z1⟩ := HD.out.var.cells
          have FT := Lib.hid (rTop11_none most (.slice A1 l.length c1) l w5 (Rows'.own HD.out.gone.row) HM.out)
          unfold stV at FT
          go_wp2_with fail
          refine (FT.out).mono ?_
          rintro e w6 ⟨rfl, hb6⟩
          have D8 := Lib.hid (HD.out.later hb6)
          have B8 := Lib.hid (below_all HB.out hb6)
          have HLL := Lib.hid (show l.length ≤ k + 1 by omega)
          clear hb6 HD HB z0 z1 HM FT
          generalize w6 = W8 at *
          generalize hL : l = L at *
          clear hL
          go_wp2_with fail
          have hLL := HLL.out
          have hLs : L.length ≤ 4294967296 := by omega
          have hne : ((L.length : Int) != (L.length : Int)) = false := by simp
          obtain ⟨q0, q1⟩ := D8.out.var.cells
          have HW8 := Lib.hid (Below.refl W8.heap.size W8).drew
          have HSK := Lib.hid (fun W (hb : Below W8.heap.size W8 W) => (D8.out.later hb).gone.stk)
          have HRW := Lib.hid (fun W (hb : Below W8.heap.size W8 W) => show Ns W (.slice A1 L.length c1) L from Rows'.own (D8.out.later hb).gone.row)
          clear q0 hLL
          go_region_held3 (fun w' => w'.cell? ⟨R, 1, none⟩ = some (.slice A1 L.length c1))
            (first | (exact q1) | (exact q2) | (exact q3) | go_keep)
            (first
              | (go_at_call 16; (with_reducible refine (stLen_at _ (HSK.out _ HW8.out)).mono ?_); rintro e w9 ⟨rfl, rfl⟩)
              | (go_at_call 18; (with_reducible refine (stAll_at _ (HSK.out _ HW8.out) hLs).mono ?_); rintro e w9 ⟨v9, rfl, ho9, hb9⟩; have N9 := Lib.hid (show Ns w9 v9 L from Rows'.own ho9); have HB9 := Lib.hid (below_all HW8.out hb9); have q2 := st_stays (below_all HW8.out hb9) q1; clear ho9 hb9)
              | (go_at_call 17; (with_reducible refine (rInts_at L _ _ _ N9.out (HRW.out _ HB9.out) hLs).mono ?_); rintro e w10 ⟨rfl, hb10⟩; have HB10 := Lib.hid (below_all HB9.out hb10); have q3 := st_stays HB10.out q1; clear hb10))
          all_goals
            have D10 := Lib.hid (D8.out.later HB10.out)
            have B10 := Lib.hid (below_all B8.out HB10.out)
            go_wp2_with fail
            go_roundw
            case rel => exact ⟨k + 1, _, _, L, _, by omega, by go_num, HLL.out, D10, B10⟩
            case measure => simp [intOf]; omega
    · obtain rfl : k = ops.length := by omega
      go_wp2_with fail
      go_ret
      exact ⟨rfl, HB.out⟩
end Go.Proofs.Yteccllhbacjhbaa
