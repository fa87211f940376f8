/-
  What the reference's One and Right of layer 18 answer.
  Conditions: rows of at most 4294967296.
-/
import Derived.Test.YtahacjfeopjbaaaChRow
import Derived.Test.YtahacjfeopjbaaaHiRef
import Derived.Test.YtahacjfeopjbaaaStAll
import Derived.Test.YtahacjfeopjbaaaGfAll
import Derived.Deep.RegionHeld3
set_option maxRecDepth 4000
namespace Go.Proofs.Ytahacjfeopjbaaa
open Go.RowKit

theorem one_no {h : List So.Txn} {k a b : Int} (q : a = b ∨ a < 0 ∨ (h.length : Int) ≤ a ∨ b < 0 ∨ (h.length : Int) ≤ b) : Ch.oneB h (k, a, b) = false := by
  cases e : Ch.oneB h (k, a, b) with
  | false => rfl
  | true =>
    obtain ⟨x, y, e, hne, hx, hy⟩ := Ch.oneB_iff.1 e
    obtain ⟨rfl, rfl⟩ : a = (x : Int) ∧ b = (y : Int) := by simpa using e
    have := Ch.wr_lt hx
    have := Ch.wr_lt hy
    omega
theorem one_yes {h : List So.Txn} {k a b : Int} {x y : Nat} (e1 : a = (x : Int)) (e2 : b = (y : Int)) (hne : a ≠ b) (hx : x < h.length) (hy : y < h.length) : Ch.oneB h (k, a, b) = (decide (k ∈ h[x].writes) && decide (k ∈ h[y].writes)) := by
  subst e1
  subst e2
  rw [Bool.eq_iff_iff, Ch.oneB_iff, Bool.and_eq_true, decide_eq_true_iff, decide_eq_true_iff]
  constructor
  · rintro ⟨p, q, e, _, h1, h2⟩
    obtain ⟨e1, e2⟩ : (x : Int) = (p : Int) ∧ (y : Int) = (q : Int) := by simpa using e
    obtain rfl : x = p := by omega
    obtain rfl : y = q := by omega
    exact ⟨((Ix.writes_iff h k x).1 h1).2, ((Ix.writes_iff h k y).1 h2).2⟩
  · rintro ⟨h1, h2⟩
    exact ⟨x, y, rfl, fun e => hne (by omega), (Ix.writes_iff h k x).2 ⟨hx, h1⟩, (Ix.writes_iff h k y).2 ⟨hy, h2⟩⟩

set_option maxHeartbeats 4000000 in
theorem rOne18_at (h : List So.Txn) (u : Value) (k a b : Int) (w : World) (hv : Txns w u h) (hs : ∀ t ∈ h, t.writes.length ≤ 4294967296 ∧ t.reads.length ≤ 4294967296) : Calls Try.prog 39 #[.agg #[u], .agg #[.int .i64 k, .int .i64 a, .int .i64 b]] w (RetBool w (Ch.oneB h (k, a, b))) := by
  have HV := Lib.hid hv
  obtain ⟨A, c, rfl, -⟩ := hv.spelled
  have b0 := alloc_below w (.cells #[.slice A h.length c] 24)
  have b1 := alloc_below (w.alloc (.cells #[.slice A h.length c] 24)) (.cells #[.int .i64 k, .int .i64 a, .int .i64 b] 38)
  have N_h := Lib.hid (Boxed.later (Boxed.new w 24 (.slice A h.length c)) b1)
  have tq := Three.new (w.alloc (.cells #[.slice A h.length c] 24)) 38 (.int .i64 k) (.int .i64 a) (.int .i64 b)
  rw [World.size_alloc] at tq
  have TQ := Lib.hid tq
  have BW := Lib.hid (below_all b0 b1)
  have V_h := Lib.hid (HV.out.below BW.out)
  clear hv b0 b1 tq
  have HNO : Hid ((a = b ∨ a < 0 ∨ (h.length : Int) ≤ a ∨ b < 0 ∨ (h.length : Int) ≤ b) → Ch.oneB h (k, a, b) = false) := fun q => one_no q
  have HYES : Hid (∀ x y : Nat, a = (x : Int) → b = (y : Int) → a ≠ b → ∀ (hx : x < h.length) (hy : y < h.length), Ch.oneB h (k, a, b) = (decide (k ∈ h[x].writes) && decide (k ∈ h[y].writes))) := fun x y e1 e2 hne hx hy => one_yes e1 e2 hne hx hy
  generalize Ch.oneB h (k, a, b) = res at *
  go_enter Try.func39, Try.ntmps39
  go_upto_region 1 with fail
  generalize (w.alloc (.cells #[.slice A h.length c] 24)).alloc (.cells #[.int .i64 k, .int .i64 a, .int .i64 b] 38) = W0 at *
  by_cases hab : a = b
  ·
    have d0 : (a == b) = true := by rw [beq_iff_eq]; exact hab
    obtain rfl : res = false := HNO.out (.inl hab)
    have h0 := N_h.out.cell
    obtain ⟨q0, q1, q2⟩ := TQ.out.cells
    go_wp2_with fail
    go_ret
    exact ⟨rfl, BW.out⟩
  have d0 : (a == b) = false := by rw [beq_eq_false_iff_ne]; exact hab
  by_cases ha0 : a < 0
  ·
    obtain rfl : res = false := HNO.out (.inr (.inl ha0))
    have h0 := N_h.out.cell
    obtain ⟨q0, q1, q2⟩ := TQ.out.cells
    go_wp2_with fail
    go_ret
    exact ⟨rfl, BW.out⟩
  by_cases ha1 : (h.length : Int) ≤ a
  ·
    obtain rfl : res = false := HNO.out (.inr (.inr (.inl ha1)))
    have h0 := N_h.out.cell
    obtain ⟨q0, q1, q2⟩ := TQ.out.cells
    go_wp2_with fail
    go_ret
    exact ⟨rfl, BW.out⟩
  by_cases hb0 : b < 0
  ·
    obtain rfl : res = false := HNO.out (.inr (.inr (.inr (.inl hb0))))
    have h0 := N_h.out.cell
    obtain ⟨q0, q1, q2⟩ := TQ.out.cells
    go_wp2_with fail
    go_ret
    exact ⟨rfl, BW.out⟩
  by_cases hb1 : (h.length : Int) ≤ b
  ·
    obtain rfl : res = false := HNO.out (.inr (.inr (.inr (.inr hb1))))
    have h0 := N_h.out.cell
    obtain ⟨q0, q1, q2⟩ := TQ.out.cells
    go_wp2_with fail
    go_ret
    exact ⟨rfl, BW.out⟩
  obtain ⟨x, hx⟩ : ∃ x : Nat, a = (x : Int) := ⟨a.toNat, by omega⟩
  obtain ⟨y, hy⟩ : ∃ y : Nat, b = (y : Int) := ⟨b.toNat, by omega⟩
  have hxh : x < h.length := by omega
  have hyh : y < h.length := by omega
  have hres := HYES.out x y hx hy hab hxh hyh
  subst hx
  subst hy
  obtain ⟨A', c', e, hf⟩ := V_h.out.spelled
  cases e
  obtain ⟨adx, ux, rx, hAx, -, ix, nx, mx⟩ := hf x hxh
  obtain ⟨ady, uy, ry, hAy, -, iy, ny, my⟩ := hf y hyh
  subst hAx
  cases hAy
  obtain ⟨Bx, dx, hmx, -⟩ := mx.spelled
  subst hmx
  have Ix := Lib.hid ix
  have Mx := Lib.hid nx
  have hlx := (hs _ (List.getElem_mem hxh)).1
  generalize hrlx : (h[x]'hxh).reads.length = ox at *
  obtain ⟨By, dy, hmy, -⟩ := my.spelled
  subst hmy
  have Iy := Lib.hid iy
  have My := Lib.hid ny
  have hly := (hs _ (List.getElem_mem hyh)).1
  generalize hrly : (h[y]'hyh).reads.length = oy at *
  clear hf mx my ix iy nx ny hrlx hrly ha0 ha1 hb0 hb1 HNO HYES
  generalize h[x]'hxh = tx at *
  generalize h[y]'hyh = ty at *
  have hx1 : (0 : Int) ≤ (x : Int) := Int.natCast_nonneg _
  have hy1 : (0 : Int) ≤ (y : Int) := Int.natCast_nonneg _
  have hx2 : (x : Int) < (h.length : Int) := by omega
  have hy2 : (y : Int) < (h.length : Int) := by omega
  have d1 : decide ((x : Int) < 0) = false := decide_eq_false (by omega)
  have d2 : decide ((h.length : Int) ≤ (x : Int)) = false := decide_eq_false (by omega)
  have d3 : decide (h.length ≤ x) = false := decide_eq_false (by omega)
  have d4 : decide ((y : Int) < 0) = false := decide_eq_false (by omega)
  have d5 : decide ((h.length : Int) ≤ (y : Int)) = false := decide_eq_false (by omega)
  have d6 : decide (h.length ≤ y) = false := decide_eq_false (by omega)
  have h0 := N_h.out.cell
  obtain ⟨q0, q1, q2⟩ := TQ.out.cells
  go_wp2_with fail
  clear h0 q0 q1 q2
  have Fx := Lib.hid (fun w hw => rWrites8_at tx ux (.slice Bx ox dx) k w hw ⟨_, _, _, rfl⟩ hlx)
  generalize decide (k ∈ tx.writes) = px at *
  have Fy := Lib.hid (fun w hw => rWrites8_at ty uy (.slice By oy dy) k w hw ⟨_, _, _, rfl⟩ hly)
  generalize decide (k ∈ ty.writes) = py at *
  have HK : Hid (∀ W', Below W0.heap.size W0 W' → W'.cell? ⟨w.heap.size, 0, none⟩ = some (.slice (some adx) h.length c) ∧ W'.cell? ⟨w.heap.size + 1, 0, none⟩ = some (.int .i64 k) ∧ W'.cell? ⟨w.heap.size + 1, 1, none⟩ = some (.int .i64 (x : Int)) ∧ W'.cell? (adx.add (x * 3)) = some (.int .i64 tx.session) ∧ W'.cell? ⟨(adx.add (x * 3)).block, (adx.add (x * 3)).off + 1, none⟩ = some ux ∧ W'.cell? ⟨(adx.add (x * 3)).block, (adx.add (x * 3)).off + 2, none⟩ = some (.slice Bx ox dx)) := fun W' h => ⟨(Boxed.later N_h.out h).cell, (TQ.out.later h).cells.1, (TQ.out.later h).cells.2.1, st_stays h Ix.out.c0, st_stays h Ix.out.c1, st_stays h Ix.out.c2⟩
  obtain ⟨h0, q0, q1, r0, r1, r2⟩ := HK.out _ (Below.refl _ W0)
  have D := Lib.hid (Below.refl W0.heap.size W0).drew
  go_region_held3 (fun W' => W'.cell? ⟨w.heap.size, 0, none⟩ = some (.slice (some adx) h.length c) ∧ W'.cell? ⟨w.heap.size + 1, 0, none⟩ = some (.int .i64 k) ∧ W'.cell? ⟨w.heap.size + 1, 1, none⟩ = some (.int .i64 (x : Int)) ∧ W'.cell? (adx.add (x * 3)) = some (.int .i64 tx.session) ∧ W'.cell? ⟨(adx.add (x * 3)).block, (adx.add (x * 3)).off + 1, none⟩ = some ux ∧ W'.cell? ⟨(adx.add (x * 3)).block, (adx.add (x * 3)).off + 2, none⟩ = some (.slice Bx ox dx))
    (first | (exact ⟨h0, q0, q1, r0, r1, r2⟩) | (exact HK.out _ D.out) | (exact HK.out _ Y1.out))
    (first
        | (go_at_call 74; (with_reducible refine (Fx.out _ (Mx.out.below D.out)).mono ?_); rintro e W1 ⟨rfl, hz⟩; have Y1 := Lib.hid (below_all D.out hz); clear hz))
  all_goals
    have S1 := Lib.hid Y1.out
    clear h0 q0 q1 r0 r1 r2 HK D Y1
    go_wp2_with fail
    have HK : Hid (∀ W', Below W1.heap.size W1 W' → W'.cell? ⟨w.heap.size, 0, none⟩ = some (.slice (some adx) h.length c) ∧ W'.cell? ⟨w.heap.size + 1, 0, none⟩ = some (.int .i64 k) ∧ W'.cell? ⟨w.heap.size + 1, 2, none⟩ = some (.int .i64 (y : Int)) ∧ W'.cell? (adx.add (y * 3)) = some (.int .i64 ty.session) ∧ W'.cell? ⟨(adx.add (y * 3)).block, (adx.add (y * 3)).off + 1, none⟩ = some uy ∧ W'.cell? ⟨(adx.add (y * 3)).block, (adx.add (y * 3)).off + 2, none⟩ = some (.slice By oy dy)) := fun W' h => ⟨(Boxed.later N_h.out (below_all S1.out h)).cell, (TQ.out.later (below_all S1.out h)).cells.1, (TQ.out.later (below_all S1.out h)).cells.2.2, st_stays (below_all S1.out h) Iy.out.c0, st_stays (below_all S1.out h) Iy.out.c1, st_stays (below_all S1.out h) Iy.out.c2⟩
    obtain ⟨h0, q0, q1, r0, r1, r2⟩ := HK.out _ (Below.refl _ W1)
    have D := Lib.hid (Below.refl W1.heap.size W1).drew
    go_region_held3 (fun W' => W'.cell? ⟨w.heap.size, 0, none⟩ = some (.slice (some adx) h.length c) ∧ W'.cell? ⟨w.heap.size + 1, 0, none⟩ = some (.int .i64 k) ∧ W'.cell? ⟨w.heap.size + 1, 2, none⟩ = some (.int .i64 (y : Int)) ∧ W'.cell? (adx.add (y * 3)) = some (.int .i64 ty.session) ∧ W'.cell? ⟨(adx.add (y * 3)).block, (adx.add (y * 3)).off + 1, none⟩ = some uy ∧ W'.cell? ⟨(adx.add (y * 3)).block, (adx.add (y * 3)).off + 2, none⟩ = some (.slice By oy dy))
      (first | (exact ⟨h0, q0, q1, r0, r1, r2⟩) | (exact HK.out _ D.out) | (exact HK.out _ Y1.out))
      (first
            | (go_at_call 74; (with_reducible refine (Fy.out _ (My.out.below (below_all S1.out D.out))).mono ?_); rintro e W2 ⟨rfl, hz⟩; have Y1 := Lib.hid (below_all D.out hz); clear hz))
    all_goals
      have S2 := Lib.hid Y1.out
      clear h0 q0 q1 r0 r1 r2 HK D Y1
      cases px <;> cases py
      all_goals
        go_wp2_with fail
        go_ret
        exact ⟨ret_bool hres.symm, (below_all BW.out (below_all S1.out S2.out))⟩

set_option maxHeartbeats 2000000 in
theorem rRight18_at (h : List So.Txn) (u : Value) (l : List (Int × Int × Int)) (v : Value) (w : World) (hv : Txns w u h) (hs : ∀ t ∈ h, t.writes.length ≤ 4294967296 ∧ t.reads.length ≤ 4294967296) (hl : Tris w v l) (hn : l.length ≤ 4294967296) : Calls Try.prog 14 #[.agg #[u], v] w (RetBool w (Ch.rightC h l)) := by
  have HV := Lib.hid hv
  obtain ⟨A, c, rfl, -⟩ := hv.spelled
  have HL := Lib.hid hl
  obtain ⟨B, d, rfl, hf⟩ := hl.spelled
  have HF := Lib.hid hf
  have N_h := Lib.hid (Boxed.new w 24 (.slice A h.length c))
  have BW := Lib.hid (alloc_below w (.cells #[.slice A h.length c] 24))
  have V_h := Lib.hid (HV.out.below BW.out)
  clear hv hl hf
  have FR := Lib.hid (fun w hw => rRight8_at h (.slice A h.length c) w hw hs)
  have F1 := Lib.hid (fun w k a b hw => rOne18_at h (.slice A h.length c) k a b w hw hs)
  have HC : Hid (Ch.rightC h l = (Hi.rightB h && (decide (l.length ≤ 20000) && l.all (Ch.oneB h)))) := rfl
  generalize Ch.rightC h l = res at *
  go_enter Try.func14, Try.ntmps14
  go_wp2_with fail
  generalize w.alloc (.cells #[.slice A h.length c] 24) = W0 at *
  have h0 := N_h.out.cell
  go_wp2_with fail
  refine (FR.out _ V_h.out).mono ?_
  rintro e W1 ⟨rfl, hb⟩
  have S1 := Lib.hid hb
  clear hb
  clear h0
  cases hr : Hi.rightB h with
  | false =>
    obtain rfl : res = false := by rw [HC.out, hr, Bool.false_and]
    clear hr
    go_wp2_with fail
    go_ret
    exact ⟨rfl, (below_all BW.out S1.out)⟩
  | true =>
  by_cases hm : 20000 < l.length
  ·
    obtain rfl : res = false := by rw [HC.out, decide_eq_false (by omega), Bool.false_and, Bool.and_false]
    clear hr
    go_wp2_with fail
    go_ret
    exact ⟨rfl, (below_all BW.out S1.out)⟩
  have HC2 : Hid (res = l.all (Ch.oneB h)) := by rw [Hid, HC.out, hr, Bool.true_and, decide_eq_true (by omega), Bool.true_and]
  clear hr
  go_wp2_with fail
  go_loopw [6] (fun ix wr => ∃ i : Nat, i ≤ l.length ∧ ix = .int .i64 i ∧ Hid (∀ j (hj : j < l.length), j < i → Ch.oneB h l[j] = true) ∧ Hid (Below W1.heap.size W1 wr)) (fun ix _ => l.length - (intOf ix).toNat)
  case atStart => exact ⟨0, Nat.zero_le _, rfl, fun j _ q => absurd q (Nat.not_lt_zero j), Below.refl _ _⟩
  case round =>
    obtain ⟨i, hi, rfl, HI, HB⟩ := hrel
    have S2 := HB
    by_cases hlt : i < l.length
    ·
      obtain ⟨ad, rfl, hbl, hin⟩ := HF.out i hlt
      have hin2 := hin.below hbl ((below_all BW.out (below_all S1.out S2.out)))
      have HIN := Lib.hid hin2
      clear hin hin2
      have FX := Lib.hid (fun w hw => F1.out w (l[i]'hlt).1 (l[i]'hlt).2.1 (l[i]'hlt).2.2 hw)
      have HALL : Hid (Ch.oneB h (l[i]'hlt) = false → l.all (Ch.oneB h) = false) := fun q => List.all_eq_false.2 ⟨_, List.getElem_mem hlt, by rw [q]; simp⟩
      have HNX : Hid (Ch.oneB h (l[i]'hlt) = true → ∀ j (hj : j < l.length), j < i + 1 → Ch.oneB h l[j] = true) := fun q j hj hji => by
        rcases Nat.lt_succ_iff_lt_or_eq.1 hji with r | r
        · exact HI.out j hj r
        · subst r; exact q
      rw [show ((l[i]'hlt).1, (l[i]'hlt).2.1, (l[i]'hlt).2.2) = l[i]'hlt from rfl] at FX
      generalize Ch.oneB h (l[i]'hlt) = q at *
      generalize hz : l[i]'hlt = z at *
      obtain ⟨zk, za, zb⟩ := z
      dsimp only at FX
      clear hz
      have hi1 : (0 : Int) ≤ (i : Int) := Int.natCast_nonneg _
      have hi2 : (i : Int) < (l.length : Int) := by omega
      have h0 := (Boxed.later N_h.out (below_all S1.out S2.out)).cell
      go_wp2_with fail
      clear h0
      have VC := Lib.hid (V_h.out.below (below_all S1.out S2.out))
      have HK : Hid (∀ W', Below wr.heap.size wr W' → W'.cell? ⟨w.heap.size, 0, none⟩ = some (.slice A h.length c) ∧ W'.cell? (ad.add (i * 3)) = some (.int .i64 zk) ∧ W'.cell? ⟨(ad.add (i * 3)).block, (ad.add (i * 3)).off + 1, none⟩ = some (.int .i64 za) ∧ W'.cell? ⟨(ad.add (i * 3)).block, (ad.add (i * 3)).off + 2, none⟩ = some (.int .i64 zb)) := fun W' h => ⟨(Boxed.later N_h.out (below_all (below_all S1.out S2.out) h)).cell, st_stays h HIN.out.c0, st_stays h HIN.out.c1, st_stays h HIN.out.c2⟩
      obtain ⟨h0, r0, r1, r2⟩ := HK.out _ (Below.refl _ wr)
      have D := Lib.hid (Below.refl wr.heap.size wr).drew
      go_region_held3 (fun W' => W'.cell? ⟨w.heap.size, 0, none⟩ = some (.slice A h.length c) ∧ W'.cell? (ad.add (i * 3)) = some (.int .i64 zk) ∧ W'.cell? ⟨(ad.add (i * 3)).block, (ad.add (i * 3)).off + 1, none⟩ = some (.int .i64 za) ∧ W'.cell? ⟨(ad.add (i * 3)).block, (ad.add (i * 3)).off + 2, none⟩ = some (.int .i64 zb))
        (first | (exact ⟨h0, r0, r1, r2⟩) | (exact HK.out _ D.out) | (exact HK.out _ Y1.out))
        (first
                | (go_at_call 39; (with_reducible refine (FX.out _ (VC.out.below D.out)).mono ?_); rintro e W3 ⟨rfl, hz⟩; have Y1 := Lib.hid (below_all D.out hz); clear hz))
      all_goals
        have S3 := Lib.hid Y1.out
        clear h0 r0 r1 r2 HK D Y1
        cases q with
        | false =>
          obtain rfl : res = false := HC2.out.trans (HALL.out rfl)
          go_wp2_with fail
          go_ret
          exact ⟨rfl, (below_all BW.out (below_all (below_all S1.out S2.out) S3.out))⟩
        | true =>
          have HN2 := Lib.hid (HNX.out rfl)
          go_wp2_with fail
          go_roundw
          case rel => exact ⟨i + 1, by omega, by go_num, HN2.out, (below_all S2.out S3.out)⟩
          case measure => simp [intOf]; omega
    ·
      obtain rfl : res = true := HC2.out.trans (List.all_eq_true.2 fun z hz => by
        obtain ⟨j, hj, rfl⟩ := List.getElem_of_mem hz
        exact HI.out j hj (by omega))
      go_wp2_with fail
      go_ret
      exact ⟨rfl, (below_all BW.out (below_all S1.out S2.out))⟩
end Go.Proofs.Ytahacjfeopjbaaa
