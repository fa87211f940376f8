/-
  The law KnownSelf: nobody leads to themselves; a history without reads has nothing but its sessions' order.
  Conditions: the argument reads as a history.
-/
import Derived.Test.YtlhinlfgmfenoaaKnAwake
import Derived.Test.YtlhinlfgmfenoaaHiAll
import Derived.Test.YtlhinlfgmfenoaaSoAll
import Derived.Deep.RegionHeld3
set_option maxRecDepth 4000
namespace Go.Proofs.Ytlhinlfgmfenoaa
open Go.RowKit

/-- The variable that holds the history without reads, and its row; the history lies ahead. -/
structure BareAt (w W : World) (v : Value) (n : Nat) (xs : List Value) : Prop where
  box : Boxed W w.heap.size 24 v
  own : W.ownsRow (w.heap.size + 1) 44 3 v n xs
  below : Below w.heap.size w W
theorem BareAt.start (w : World) : BareAt w (w.alloc (.cells #[.slice none 0 0] 24)) (.slice none 0 0) 0 [] := ⟨Boxed.new _ _ _, World.ownsRow_nil _ _ _ _, alloc_below _ _⟩
theorem BareAt.later {w W W' : World} {v : Value} {n : Nat} {xs : List Value} (h : BareAt w W v n xs) (hb : Below W.heap.size W W') : BareAt w W' v n xs := ⟨Boxed.later h.box hb, own_below h.own hb, below_all h.below hb⟩
/-- Ahead of an append: what the region reads and writes stands where it was. -/
theorem BareAt.ready {w W : World} {v : Value} {n : Nat} {xs : List Value} (h : BareAt w W v n xs) (o : Obj) : BareAt w ((W.alloc o).drewN 1) v n xs ∧ ∀ w2, ((W.alloc o).drewN 1).grownBy w2 v.ownBlock → w2.cell? ⟨w.heap.size, 0, none⟩ = some v ∧ w2.frozen? ⟨w.heap.size, 0, none⟩ = false := by
  have h2 : BareAt w ((W.alloc o).drewN 1) v n xs := (h.later (alloc_below W o)).later (drewN_below _ 1)
  refine ⟨h2, fun w2 hg => ?_⟩
  have hb : Boxed w2 w.heap.size 24 v := h2.box.kept hg (fun e => own_above h2.own e.symm)
  exact ⟨hb.cell, hb.frozen⟩
theorem BareAt.more {w W W' : World} {v v' : Value} {n m : Nat} {xs ys : List Value} (h : BareAt w W v n xs) (ho : W'.ownsRow (w.heap.size + 1) 44 3 v' m ys) (hg : W.grownBy W' v.ownBlock) : BareAt w (W'.setCell ⟨w.heap.size, 0, none⟩ v') v' m ys := by
  have hb : Boxed W' w.heap.size 24 v := h.box.kept hg (fun e => own_above h.own e.symm)
  have hbw : Below w.heap.size w W' := h.below.grown hg h.below.size (fun k e => by
    have := (h.own.lt k e).1
    omega)
  exact ⟨hb.set v', own_setCell ho (by omega), hbw.setCell (p := ⟨w.heap.size, 0, none⟩) (Nat.le_refl _) v'⟩
theorem BareAt.grown {w W W' : World} {v : Value} {n : Nat} {xs : List Value} (h : BareAt w W v n xs) (hg : W.grownBy W' v.ownBlock) : Below w.heap.size w W' := h.below.grown hg h.below.size (fun k e => by
  have := (h.own.lt k e).1
  omega)
theorem BareAt.txns {w W : World} {v : Value} {h : List So.Txn} {p : List (So.Txn × Value × Value)} (b : BareAt w W v p.length (p.flatMap txnC)) (he : ∀ x ∈ p, Ns w x.2.1 x.1.writes ∧ Its w x.2.2 x.1.reads) (hp : p.map (·.1) = h) : Txns W v h := by
  subst hp
  exact ⟨p, rfl, Sl.own b.own, fun x hx => ⟨(he x hx).1.below b.below, (he x hx).2.below b.below⟩⟩
theorem bare_small {h : List So.Txn} (hs : Ix.Small h) : Ix.Small (Kn.bare h) := by
  refine ⟨by rw [Kn.bare_len]; exact hs.1, fun t ht => ?_⟩
  obtain ⟨x, hx, rfl⟩ := List.mem_map.1 ht
  exact ⟨(hs.2 x hx).1, Nat.zero_le _⟩
theorem bare_take (h : List So.Txn) (i : Nat) (hi : i < h.length) : (Kn.bare h).take (i + 1) = (Kn.bare h).take i ++ [⟨h[i].session, h[i].writes, []⟩] := by
  rw [List.take_succ_eq_append_getElem (by rw [Kn.bare_len]; exact hi)]
  congr 2
  simp [Kn.bare]

set_option maxHeartbeats 8000000 in
theorem lawKnownSelf (h : List So.Txn) (u : Value) (w : World) (hv : Txns w u h) : Calls Try.prog 5 #[.agg #[u]] w (RetBool w true) := by
  have HV := Lib.hid hv
  obtain ⟨A, c, rfl, -⟩ := hv.spelled
  have N_h := Lib.hid (Boxed.new w 24 (.slice A h.length c))
  have BW := Lib.hid (alloc_below w (.cells #[.slice A h.length c] 24))
  have V_h := Lib.hid (HV.out.below BW.out)
  clear hv
  go_enter Try.func5, Try.ntmps5
  go_wp2_with fail
  generalize w.alloc (.cells #[.slice A h.length c] 24) = W0 at *
  go_wp2_with fail
  refine (knAwake_at _).mono ?_
  rintro e W1 ⟨rfl, hb⟩
  have S1 := Lib.hid hb
  clear hb
  have h0 := (Boxed.later N_h.out S1.out).cell
  go_wp2_with fail
  refine (few8_at h _ _ (V_h.out.below S1.out)).mono ?_
  rintro e W2 ⟨rfl, hb⟩
  have S2 := Lib.hid hb
  clear hb
  clear h0
  cases hf : Hi.fewB h with
  | false =>
    clear hf
    have h0 := (Boxed.later N_h.out (below_all S1.out S2.out)).cell
    go_wp2_with fail
    go_ret
    exact ⟨rfl, (below_all BW.out (below_all S1.out S2.out))⟩
  | true =>
  have HSM := Lib.hid (Hi.few_small hf).2
  have h40 := (Hi.few_small hf).1
  clear hf
  have FRI := Lib.hid (fun w hw => hRight_at h (.slice A h.length c) w hw HSM.out.2)
  cases hrb : Hi.rightB h with
  | false =>
    rw [hrb] at FRI
    clear hrb
    have h0 := (Boxed.later N_h.out (below_all S1.out S2.out)).cell
    go_wp2_with fail
    refine (FRI.out _ (V_h.out.below (below_all S1.out S2.out))).mono ?_
    rintro e W3 ⟨rfl, hb⟩
    have S3 := Lib.hid hb
    clear hb
    clear h0
    have h0 := (Boxed.later N_h.out (below_all (below_all S1.out S2.out) S3.out)).cell
    go_wp2_with fail
    go_ret
    exact ⟨rfl, (below_all BW.out (below_all (below_all S1.out S2.out) S3.out))⟩
  | true =>
  rw [hrb] at FRI
  obtain ⟨en, es, ew, ei, ep⟩ := Kn.all_yes hrb
  have HR := Lib.hid ((Hi.rightB_iff _).1 hrb)
  have h32 : h.length ≤ 32 := HR.out.1
  have F_s := Lib.hid (fun w hw => knSo_at h (.slice A h.length c) w hw HSM.out)
  rw [en, es] at F_s
  have F_x := Lib.hid (fun w hw => knWr_at h (.slice A h.length c) w hw HSM.out)
  rw [en, ew] at F_x
  have F_t := Lib.hid (fun w hw => knInit_at h (.slice A h.length c) w hw HSM.out)
  rw [en, ei] at F_t
  have F_p := Lib.hid (fun w hw => knPast_at h (.slice A h.length c) w hw HSM.out)
  rw [en, ep] at F_p
  clear hrb en es ew ei ep
  have h0 := (Boxed.later N_h.out (below_all S1.out S2.out)).cell
  go_wp2_with fail
  refine (FRI.out _ (V_h.out.below (below_all S1.out S2.out))).mono ?_
  rintro e W3 ⟨rfl, hb⟩
  have S3 := Lib.hid hb
  clear hb
  clear h0
  obtain ⟨j0, hi0, hz0, hz1, hz2⟩ := info_parts txn_info
  have J0 := Lib.hid hi0
  have J1 := Lib.hid hz0
  have J2 := Lib.hid hz1
  have J3 := Lib.hid hz2
  clear hi0 hz0 hz1 hz2
  have h0 := (Boxed.later N_h.out (below_all (below_all S1.out S2.out) S3.out)).cell
  go_wp2_with fail
  refine (F_s.out _ (V_h.out.below (below_all (below_all S1.out S2.out) S3.out))).mono ?_
  rintro e V ⟨v, rfl, ho, hb⟩
  obtain ⟨A_s, c_s, rfl, hu_s⟩ := own_is (k := h.length) ho (Kn.so_len h)
  clear ho
  have b := alloc_below V (.cells #[.int .i64 h.length, .slice A_s h.length c_s] 31)
  have S4 := Lib.hid (below_all hb b)
  have T_s := Lib.hid (Two.new V 31 (.int .i64 h.length) (.slice A_s h.length c_s))
  have U_s := Lib.hid (hu_s.below b)
  clear hb b
  clear h0
  have Qs : Hid (∀ (i : Nat) (w : World), i < h.length → Us w (.slice A_s h.length c_s) (Kn.soR h) → Calls Try.prog 22 #[.agg #[.int .i64 h.length, .slice A_s h.length c_s], .int .i64 i, .int .i64 i] w (RetBool w false)) := fun i w hi hw => by
    have := gfHas_at h.length (.slice A_s h.length c_s) (Kn.soR h) i i w hw (fun s hs => (Kn.so_ok HR.out).small hs)
    rw [Gf.hasR_nat (Kn.so_ok HR.out) hi hi, Kn.so_self HR.out] at this
    exact this
  have h0 := (Boxed.later N_h.out (below_all (below_all (below_all S1.out S2.out) S3.out) S4.out)).cell
  go_wp2_with fail
  generalize V.alloc (.cells #[.int .i64 h.length, .slice A_s h.length c_s] 31) = W4 at *
  generalize V.heap.size = o_s at *
  refine (F_x.out _ (V_h.out.below (below_all (below_all (below_all S1.out S2.out) S3.out) S4.out))).mono ?_
  rintro e V ⟨v, rfl, ho, hb⟩
  obtain ⟨A_x, c_x, rfl, hu_x⟩ := own_is (k := h.length) ho (Kn.wr_len h)
  clear ho
  have b := alloc_below V (.cells #[.int .i64 h.length, .slice A_x h.length c_x] 31)
  have S5 := Lib.hid (below_all hb b)
  have T_x := Lib.hid (Two.new V 31 (.int .i64 h.length) (.slice A_x h.length c_x))
  have U_x := Lib.hid (hu_x.below b)
  clear hb b
  clear h0
  have Qx : Hid (∀ (i : Nat) (w : World), i < h.length → Us w (.slice A_x h.length c_x) (Kn.wrR h) → Calls Try.prog 22 #[.agg #[.int .i64 h.length, .slice A_x h.length c_x], .int .i64 i, .int .i64 i] w (RetBool w false)) := fun i w hi hw => by
    have := gfHas_at h.length (.slice A_x h.length c_x) (Kn.wrR h) i i w hw (fun s hs => (Kn.wr_ok HR.out).small hs)
    rw [Gf.hasR_nat (Kn.wr_ok HR.out) hi hi, Kn.wr_self HR.out] at this
    exact this
  have h0 := (Boxed.later N_h.out (below_all (below_all (below_all (below_all S1.out S2.out) S3.out) S4.out) S5.out)).cell
  go_wp2_with fail
  generalize V.alloc (.cells #[.int .i64 h.length, .slice A_x h.length c_x] 31) = W5 at *
  generalize V.heap.size = o_x at *
  refine (F_t.out _ (V_h.out.below (below_all (below_all (below_all (below_all S1.out S2.out) S3.out) S4.out) S5.out))).mono ?_
  rintro e V ⟨v, rfl, ho, hb⟩
  obtain ⟨A_t, c_t, rfl, hu_t⟩ := own_is (k := h.length) ho (Kn.init_len h)
  clear ho
  have b := alloc_below V (.cells #[.int .i64 h.length, .slice A_t h.length c_t] 31)
  have S6 := Lib.hid (below_all hb b)
  have T_t := Lib.hid (Two.new V 31 (.int .i64 h.length) (.slice A_t h.length c_t))
  have U_t := Lib.hid (hu_t.below b)
  clear hb b
  clear h0
  have Qt : Hid (∀ (i : Nat) (w : World), i < h.length → Us w (.slice A_t h.length c_t) (Kn.initR h) → Calls Try.prog 22 #[.agg #[.int .i64 h.length, .slice A_t h.length c_t], .int .i64 i, .int .i64 i] w (RetBool w false)) := fun i w hi hw => by
    have := gfHas_at h.length (.slice A_t h.length c_t) (Kn.initR h) i i w hw (fun s hs => (Kn.init_ok HR.out).small hs)
    rw [Gf.hasR_nat (Kn.init_ok HR.out) hi hi, Kn.init_self HR.out] at this
    exact this
  have h0 := (Boxed.later N_h.out (below_all (below_all (below_all (below_all (below_all S1.out S2.out) S3.out) S4.out) S5.out) S6.out)).cell
  go_wp2_with fail
  generalize V.alloc (.cells #[.int .i64 h.length, .slice A_t h.length c_t] 31) = W6 at *
  generalize V.heap.size = o_t at *
  refine (F_p.out _ (V_h.out.below (below_all (below_all (below_all (below_all (below_all S1.out S2.out) S3.out) S4.out) S5.out) S6.out))).mono ?_
  rintro e V ⟨v, rfl, ho, hb⟩
  obtain ⟨A_p, c_p, rfl, hu_p⟩ := own_is (k := h.length) ho (Kn.past_len h)
  clear ho
  have b := alloc_below V (.cells #[.int .i64 h.length, .slice A_p h.length c_p] 31)
  have S7 := Lib.hid (below_all hb b)
  have T_p := Lib.hid (Two.new V 31 (.int .i64 h.length) (.slice A_p h.length c_p))
  have U_p := Lib.hid (hu_p.below b)
  clear hb b
  clear h0
  have Qp : Hid (∀ (i : Nat) (w : World), i < h.length → Us w (.slice A_p h.length c_p) (Kn.pastR h) → Calls Try.prog 22 #[.agg #[.int .i64 h.length, .slice A_p h.length c_p], .int .i64 i, .int .i64 i] w (RetBool w false)) := fun i w hi hw => by
    have := gfHas_at h.length (.slice A_p h.length c_p) (Kn.pastR h) i i w hw (fun s hs => (Kn.past_ok HR.out).small hs)
    rw [Gf.hasR_nat (Kn.past_ok HR.out) hi hi, Kn.past_self HR.out] at this
    exact this
  go_wp2_with fail
  generalize V.alloc (.cells #[.int .i64 h.length, .slice A_p h.length c_p] 31) = W7 at *
  generalize V.heap.size = o_p at *
  go_loopw [9] (fun ix wr => ∃ i : Nat, i ≤ h.length ∧ ix = .int .i64 i ∧ Hid (Below W7.heap.size W7 wr)) (fun ix _ => h.length - (intOf ix).toNat)
  case atStart => exact ⟨0, Nat.zero_le _, rfl, Below.refl _ _⟩
  case round =>
    obtain ⟨i, hi, rfl, HB⟩ := hrel
    have S8 := HB
    by_cases hlt : i < h.length
    ·
      have h0 := (Boxed.later N_h.out (below_all (below_all (below_all (below_all (below_all (below_all (below_all S1.out S2.out) S3.out) S4.out) S5.out) S6.out) S7.out) S8.out)).cell
      obtain ⟨s0, s1⟩ := (T_s.out.later (below_all (below_all (below_all S5.out S6.out) S7.out) S8.out)).cells
      go_wp2_with fail
      refine (Qs.out i _ hlt (U_s.out.below (below_all (below_all (below_all S5.out S6.out) S7.out) S8.out))).mono ?_
      rintro e W9 ⟨rfl, hb⟩
      have S9 := Lib.hid hb
      clear hb
      clear h0 s0 s1
      obtain ⟨x0, x1⟩ := (T_x.out.later (below_all (below_all (below_all S6.out S7.out) S8.out) S9.out)).cells
      go_wp2_with fail
      refine (Qx.out i _ hlt (U_x.out.below (below_all (below_all (below_all S6.out S7.out) S8.out) S9.out))).mono ?_
      rintro e W10 ⟨rfl, hb⟩
      have S10 := Lib.hid hb
      clear hb
      clear x0 x1
      obtain ⟨t0, t1⟩ := (T_t.out.later (below_all (below_all (below_all S7.out S8.out) S9.out) S10.out)).cells
      go_wp2_with fail
      refine (Qt.out i _ hlt (U_t.out.below (below_all (below_all (below_all S7.out S8.out) S9.out) S10.out))).mono ?_
      rintro e W11 ⟨rfl, hb⟩
      have S11 := Lib.hid hb
      clear hb
      clear t0 t1
      obtain ⟨p0, p1⟩ := (T_p.out.later (below_all (below_all (below_all S8.out S9.out) S10.out) S11.out)).cells
      go_wp2_with fail
      refine (Qp.out i _ hlt (U_p.out.below (below_all (below_all (below_all S8.out S9.out) S10.out) S11.out))).mono ?_
      rintro e W12 ⟨rfl, hb⟩
      have S12 := Lib.hid hb
      clear hb
      clear p0 p1
      go_wp2_with fail
      go_roundw
      case rel => exact ⟨i + 1, by omega, by go_num, (below_all (below_all (below_all (below_all S8.out S9.out) S10.out) S11.out) S12.out)⟩
      case measure => simp [intOf]; omega
    ·
      obtain rfl : i = h.length := by omega
      clear Qs Qx Qt Qp
      have h0 := (Boxed.later N_h.out (below_all (below_all (below_all (below_all (below_all (below_all (below_all S1.out S2.out) S3.out) S4.out) S5.out) S6.out) S7.out) S8.out)).cell
      go_wp2_with fail
      clear h0
      clear hi hlt
      generalize hwk : wr = WB at *
      clear hwk
      have VB := Lib.hid (V_h.out.below (below_all (below_all (below_all (below_all (below_all (below_all (below_all S1.out S2.out) S3.out) S4.out) S5.out) S6.out) S7.out) S8.out))
      have HX : Hid (∀ (k : Nat) (hk : k < h.length), ∃ (ad : Addr) (x y : Value), A = some ad ∧ ad.block < WB.heap.size ∧ TxnIn WB ad k h[k] x y ∧ Ns WB x h[k].writes) := fun k hk => by
        obtain ⟨A', c', e, hf⟩ := VB.out.spelled
        cases e
        obtain ⟨ad, x, y, h1, h2, h3, h4, _⟩ := hf k hk
        exact ⟨ad, x, y, h1, h2, h3, h4⟩
      have HBC := Lib.hid (Boxed.later N_h.out (below_all (below_all (below_all (below_all (below_all (below_all (below_all S1.out S2.out) S3.out) S4.out) S5.out) S6.out) S7.out) S8.out)).cell
      go_loopw [11] (fun ix wx => ∃ (i : Nat) (p : List (So.Txn × Value × Value)) (Ab : Option Addr) (cb : Nat), i ≤ h.length ∧ ix = .int .i64 i ∧ Hid (p.length = i) ∧ Hid (p.map (·.1) = (Kn.bare h).take i) ∧ Hid (∀ y ∈ p, Ns WB y.2.1 y.1.writes ∧ Its WB y.2.2 y.1.reads) ∧ Hid (BareAt WB wx (.slice Ab i cb) i (p.flatMap txnC))) (fun ix _ => h.length - (intOf ix).toNat)
      case atStart => exact ⟨0, [], none, 0, Nat.zero_le _, rfl, rfl, (show ([] : List (So.Txn × Value × Value)).map (·.1) = (Kn.bare h).take 0 from rfl), fun y hy => (by cases hy), BareAt.start WB⟩
      case round =>
        obtain ⟨i, p, Ab, cb, hi, rfl, HPL, HPM, HPE, HM⟩ := hrel
        have HB2 := Lib.hid HM.out.below
        have S9 := HB2
        have b0 := HM.out.box.cell
        have h0 := (Boxed.later N_h.out (below_all (below_all (below_all (below_all (below_all (below_all (below_all (below_all S1.out S2.out) S3.out) S4.out) S5.out) S6.out) S7.out) S8.out) S9.out)).cell
        by_cases hlt : i < h.length
        ·
          obtain ⟨ad, x, y, rfl, hbl, hin, hnx⟩ := HX.out i hlt
          obtain ⟨c0, c1, -⟩ := hin.below hbl HB2.out
          have HK : Hid (∀ W', Below WB.heap.size WB W' → W'.cell? ⟨w.heap.size, 0, none⟩ = some (.slice (some ad) h.length c) ∧ W'.cell? (ad.add (i * 3)) = some (.int .i64 h[i].session) ∧ W'.cell? ⟨(ad.add (i * 3)).block, (ad.add (i * 3)).off + 1, none⟩ = some x) := fun W' hb => ⟨st_stays hb HBC.out, st_stays hb hin.c0, st_stays hb hin.c1⟩
          obtain ⟨Aw, cw, rfl, -⟩ := hnx.spelled
          have HNX := Lib.hid hnx
          have HTK := Lib.hid (bare_take h i hlt)
          have hwl : h[i].writes.length ≤ 4294967296 := (HSM.out.2 _ (List.getElem_mem hlt)).1
          generalize h[i]'hlt = tx at *
          have HRDY := Lib.hid (HM.out.ready (.cells #[.int .i64 tx.session, .slice Aw tx.writes.length cw, .slice none 0 0] 44))
          have e1 := cell_new b0 (.cells #[.int .i64 tx.session, .slice Aw tx.writes.length cw, .slice none 0 0] 44)
          have HNT := Lib.hid (new_txn wr ⟨tx.session, tx.writes, []⟩ (.slice Aw tx.writes.length cw) (.slice none 0 0) 44)
          have hi1 : (0 : Int) ≤ (i : Int) := Int.natCast_nonneg _
          have hi2 : (i : Int) < (h.length : Int) := by omega
          have HLW := Lib.hid HM.out.box.lt
          clear hin hnx
          generalize tx.writes.length = nw at *
          go_wp2_with fail
          have D0 := Lib.hid HM.out.below.drew
          have D1 := Lib.hid HRDY.out.1.below
          refine wp_region_held_drew (S := fun W' => W'.cell? ⟨w.heap.size, 0, none⟩ = some (.slice (some ad) h.length c) ∧ W'.cell? (ad.add (i * 3)) = some (.int .i64 tx.session) ∧ W'.cell? ⟨(ad.add (i * 3)).block, (ad.add (i * 3)).off + 1, none⟩ = some (.slice Aw nw cw)) (by kernel_rfl) (HK.out _ D0.out) (fun hHeld => ?_)
          refine wpAnyH_take (i := 0) (oi := ({ dst := some 68, op := Op.fieldAddr 24 (Operand.tmp 10) 0, type := 0, pos := "law.go:116", after := #[], guard := none } : Oper)) (v := ?_) rfl (by kernel_rfl) (by kernel_rfl) (by kernel_rfl) (fun _ _ _ h => h) (Or.inl ⟨by rfl, ?_⟩) (by assumption) ?_
          rotate_left
          · intro w hSw; (try dsimp only at hSw); go_simp
            try (with_reducible rfl)
          try simp only [Act.put, List.setIfInBounds_toArray, List.set_cons_zero, List.set_cons_succ]
          refine wpAnyH_take (i := 2) (oi := ({ dst := some 70, op := Op.fieldAddr 24 (Operand.tmp 1) 0, type := 0, pos := "law.go:116", after := #[], guard := none } : Oper)) (v := ?_) rfl (by kernel_rfl) (by kernel_rfl) (by kernel_rfl) (fun _ _ _ h => h) (Or.inl ⟨by rfl, ?_⟩) (by assumption) ?_
          rotate_left
          · intro w hSw; (try dsimp only at hSw); go_simp
            try (with_reducible rfl)
          try simp only [Act.put, List.setIfInBounds_toArray, List.set_cons_zero, List.set_cons_succ]
          refine wpAnyH_take (i := 3) (oi := ({ dst := some 71, op := Op.load 22 (Operand.tmp 70), type := 22, pos := "law.go:116", after := #[{ on := 2, ground := Ground.data }], guard := none } : Oper)) (v := ?_) rfl (by kernel_rfl) (by kernel_rfl) (by kernel_rfl) (fun _ _ _ h => h) (Or.inl ⟨by rfl, ?_⟩) (by assumption) ?_
          rotate_left
          · intro w hSw; (try dsimp only at hSw); go_simp
            try (with_reducible rfl)
          try simp only [Act.put, List.setIfInBounds_toArray, List.set_cons_zero, List.set_cons_succ]
          refine wpAnyH_take (i := 4) (oi := ({ dst := some 72, op := Op.move (Operand.tmp 11), type := 3, pos := "law.go:116", after := #[], guard := none } : Oper)) (v := ?_) rfl (by kernel_rfl) (by kernel_rfl) (by kernel_rfl) (fun _ _ _ h => h) (Or.inl ⟨by rfl, ?_⟩) (by assumption) ?_
          rotate_left
          · intro w hSw; (try dsimp only at hSw); go_simp
            try (with_reducible rfl)
          try simp only [Act.put, List.setIfInBounds_toArray, List.set_cons_zero, List.set_cons_succ]
          refine wpAnyH_take (i := 5) (oi := ({ dst := some 73, op := Op.indexAddr 22 (Operand.tmp 71) (Operand.tmp 72), type := 0, pos := "law.go:116", after := #[{ on := 3, ground := Ground.data }, { on := 4, ground := Ground.data }], guard := none } : Oper)) (v := ?_) rfl (by kernel_rfl) (by kernel_rfl) (by kernel_rfl) (fun _ _ _ h => h) (Or.inl ⟨by rfl, ?_⟩) (by assumption) ?_
          rotate_left
          · intro w hSw; (try dsimp only at hSw); go_simp
            try (with_reducible rfl)
          try simp only [Act.put, List.setIfInBounds_toArray, List.set_cons_zero, List.set_cons_succ]
          refine wpAnyH_take (i := 6) (oi := ({ dst := some 74, op := Op.fieldAddr 44 (Operand.tmp 73) 0, type := 0, pos := "law.go:116", after := #[{ on := 5, ground := Ground.data }], guard := none } : Oper)) (v := ?_) rfl (by kernel_rfl) (by kernel_rfl) (by kernel_rfl) (fun _ _ _ h => h) (Or.inl ⟨by rfl, ?_⟩) (by assumption) ?_
          rotate_left
          · intro w hSw; (try dsimp only at hSw); go_simp
            try (with_reducible rfl)
          try simp only [Act.put, List.setIfInBounds_toArray, List.set_cons_zero, List.set_cons_succ]
          refine wpAnyH_take (i := 7) (oi := ({ dst := some 75, op := Op.load 3 (Operand.tmp 74), type := 3, pos := "law.go:116", after := #[{ on := 6, ground := Ground.data }], guard := none } : Oper)) (v := ?_) rfl (by kernel_rfl) (by kernel_rfl) (by kernel_rfl) (fun _ _ _ h => h) (Or.inl ⟨by rfl, ?_⟩) (by assumption) ?_
          rotate_left
          · intro w hSw; (try dsimp only at hSw); go_simp
            try (with_reducible rfl)
          try simp only [Act.put, List.setIfInBounds_toArray, List.set_cons_zero, List.set_cons_succ]
          refine wpAnyH_take (i := 8) (oi := ({ dst := some 76, op := Op.fieldAddr 24 (Operand.tmp 1) 0, type := 0, pos := "law.go:116", after := #[], guard := none } : Oper)) (v := ?_) rfl (by kernel_rfl) (by kernel_rfl) (by kernel_rfl) (fun _ _ _ h => h) (Or.inl ⟨by rfl, ?_⟩) (by assumption) ?_
          rotate_left
          · intro w hSw; (try dsimp only at hSw); go_simp
            try (with_reducible rfl)
          try simp only [Act.put, List.setIfInBounds_toArray, List.set_cons_zero, List.set_cons_succ]
          refine wpAnyH_take (i := 9) (oi := ({ dst := some 77, op := Op.load 22 (Operand.tmp 76), type := 22, pos := "law.go:116", after := #[{ on := 8, ground := Ground.data }], guard := none } : Oper)) (v := ?_) rfl (by kernel_rfl) (by kernel_rfl) (by kernel_rfl) (fun _ _ _ h => h) (Or.inl ⟨by rfl, ?_⟩) (by assumption) ?_
          rotate_left
          · intro w hSw; (try dsimp only at hSw); go_simp
            try (with_reducible rfl)
          try simp only [Act.put, List.setIfInBounds_toArray, List.set_cons_zero, List.set_cons_succ]
          refine wpAnyH_take (i := 10) (oi := ({ dst := some 78, op := Op.move (Operand.tmp 11), type := 3, pos := "law.go:116", after := #[], guard := none } : Oper)) (v := ?_) rfl (by kernel_rfl) (by kernel_rfl) (by kernel_rfl) (fun _ _ _ h => h) (Or.inl ⟨by rfl, ?_⟩) (by assumption) ?_
          rotate_left
          · intro w hSw; (try dsimp only at hSw); go_simp
            try (with_reducible rfl)
          try simp only [Act.put, List.setIfInBounds_toArray, List.set_cons_zero, List.set_cons_succ]
          refine wpAnyH_take (i := 11) (oi := ({ dst := some 79, op := Op.indexAddr 22 (Operand.tmp 77) (Operand.tmp 78), type := 0, pos := "law.go:116", after := #[{ on := 9, ground := Ground.data }, { on := 10, ground := Ground.data }], guard := none } : Oper)) (v := ?_) rfl (by kernel_rfl) (by kernel_rfl) (by kernel_rfl) (fun _ _ _ h => h) (Or.inl ⟨by rfl, ?_⟩) (by assumption) ?_
          rotate_left
          · intro w hSw; (try dsimp only at hSw); go_simp
            try (with_reducible rfl)
          try simp only [Act.put, List.setIfInBounds_toArray, List.set_cons_zero, List.set_cons_succ]
          refine wpAnyH_take (i := 12) (oi := ({ dst := some 80, op := Op.fieldAddr 44 (Operand.tmp 79) 1, type := 0, pos := "law.go:116", after := #[{ on := 11, ground := Ground.data }], guard := none } : Oper)) (v := ?_) rfl (by kernel_rfl) (by kernel_rfl) (by kernel_rfl) (fun _ _ _ h => h) (Or.inl ⟨by rfl, ?_⟩) (by assumption) ?_
          rotate_left
          · intro w hSw; (try dsimp only at hSw); go_simp
            try (with_reducible rfl)
          try simp only [Act.put, List.setIfInBounds_toArray, List.set_cons_zero, List.set_cons_succ]
          refine wpAnyH_take (i := 13) (oi := ({ dst := some 81, op := Op.load 38 (Operand.tmp 80), type := 38, pos := "law.go:116", after := #[{ on := 12, ground := Ground.data }], guard := none } : Oper)) (v := ?_) rfl (by kernel_rfl) (by kernel_rfl) (by kernel_rfl) (fun _ _ _ h => h) (Or.inl ⟨by rfl, ?_⟩) (by assumption) ?_
          rotate_left
          · intro w hSw; (try dsimp only at hSw); go_simp
            try (with_reducible rfl)
          try simp only [Act.put, List.setIfInBounds_toArray, List.set_cons_zero, List.set_cons_succ]
          refine wpAnyH_take (i := 14) (oi := ({ dst := some 82, op := Op.build 44 #[(0, Operand.tmp 75), (1, Operand.tmp 81)], type := 44, pos := "law.go:116", after := #[{ on := 7, ground := Ground.data }, { on := 13, ground := Ground.data }], guard := none } : Oper)) (v := ?_) rfl (by kernel_rfl) (by kernel_rfl) (by kernel_rfl) (fun _ _ _ h => h) (Or.inl ⟨by rfl, ?_⟩) (by assumption) ?_
          rotate_left
          · intro w hSw; (try dsimp only at hSw); go_simp
            try (with_reducible rfl)
          try simp only [Act.put, List.setIfInBounds_toArray, List.set_cons_zero, List.set_cons_succ]
          refine wpAnyH_ready (rs := [1, 15]) (by kernel_rfl) (by simp) ?_
          refine AllReadyH.cons (o := ({ dst := some 69, op := Op.load 22 (Operand.tmp 68), type := 22, pos := "law.go:116", after := #[{ on := 0, ground := Ground.data }], guard := none } : Oper)) rfl (fun K hK => ?_) ?_
          · go_simp
            refine hK.out _ _ hHeld (fun hHeld => ?_)
            clear hK K
            try simp only [Act.put, List.setIfInBounds_toArray, List.set_cons_zero, List.set_cons_succ]
            refine wpAnyH_ready (rs := [15]) (by kernel_rfl) (by simp) ?_
            refine AllReadyH.cons (o := ({ dst := some 83, op := Op.buildSlice 22 1 #[(0, Operand.tmp 82)], type := 22, pos := "law.go:116", after := #[{ on := 14, ground := Ground.data }], guard := none } : Oper)) rfl (fun K hK => ?_) AllReadyH.nil
            go_simp
            refine hK.out _ _ (HK.out _ D1.out) (fun hHeld => ?_)
            clear hK K
            try simp only [Act.put, List.setIfInBounds_toArray, List.set_cons_zero, List.set_cons_succ]
            refine wpAnyH_ready (rs := [16]) (by kernel_rfl) (by simp) ?_
            refine AllReadyH.cons (o := ({ dst := some 84, op := Op.call { callee := Callee.builtin Builtin.append, args := #[Operand.tmp 69, Operand.tmp 83], argTypes := #[22, 22] }, type := 22, pos := "law.go:116", after := #[{ on := 1, ground := Ground.data }, { on := 15, ground := Ground.data }], guard := none } : Oper)) rfl (fun K hK => ?_) AllReadyH.nil
            refine step_append_lies _ rfl (.tmp 69) (.tmp 83) 22 rfl (WB.heap.size + 1) 44 j0 _ 3 56 Try.underlying22 J0.out J1.out J2.out J3.out rfl (by decide) (.slice Ab i cb) i (p.flatMap txnC) (by simp [Act.eval]) HRDY.out.1.own ⟨wr.heap.size, 0, none⟩ 1 1 (txnC (⟨tx.session, tx.writes, []⟩, .slice Aw nw cw, .slice none 0 0)) (by simp [Act.eval]) rfl HNT.out (one_txnC _ _ _ _ _ _ _) (by decide) (by simp only [maxLen]; omega) (by omega) (by have := HLW.out; simp; omega) (wr.heap.size + 1) (by simp) ?_
            intro g2 cap2 w2 hown2 hgrow2 hat2 hlt2
            obtain ⟨f1, f2⟩ := HRDY.out.2 w2 hgrow2
            have D2 := Lib.hid (HRDY.out.1.grown hgrow2)
            have HN2 := Lib.hid (HRDY.out.1.more hown2 hgrow2)
            clear hown2 hgrow2 hat2 hlt2
            refine hK.out _ _ (HK.out _ D2.out) (fun hHeld => ?_)
            clear hK K
            try simp only [Act.put, List.setIfInBounds_toArray, List.set_cons_zero, List.set_cons_succ]
            refine wpAnyH_take (i := 17) (oi := ({ dst := some 85, op := Op.fieldAddr 24 (Operand.tmp 10) 0, type := 0, pos := "law.go:116", after := #[{ on := 0, ground := Ground.phase }, { on := 1, ground := Ground.phase }, { on := 2, ground := Ground.phase }, { on := 3, ground := Ground.phase }, { on := 4, ground := Ground.phase }, { on := 5, ground := Ground.phase }, { on := 6, ground := Ground.phase }, { on := 7, ground := Ground.phase }, { on := 8, ground := Ground.phase }, { on := 9, ground := Ground.phase }, { on := 10, ground := Ground.phase }, { on := 11, ground := Ground.phase }, { on := 12, ground := Ground.phase }, { on := 13, ground := Ground.phase }, { on := 14, ground := Ground.phase }, { on := 15, ground := Ground.phase }, { on := 16, ground := Ground.phase }], guard := none } : Oper)) (v := ?_) rfl (by kernel_rfl) (by kernel_rfl) (by kernel_rfl) (fun _ _ _ h => h) (Or.inl ⟨by rfl, ?_⟩) (by assumption) ?_
            rotate_left
            · intro w hSw; (try dsimp only at hSw); go_simp
              try (with_reducible rfl)
            try simp only [Act.put, List.setIfInBounds_toArray, List.set_cons_zero, List.set_cons_succ]
            refine wpAnyH_ready (rs := [18]) (by kernel_rfl) (by simp) ?_
            refine AllReadyH.cons (o := ({ dst := none, op := Op.store 22 (Operand.tmp 85) (Operand.tmp 84), type := 0, pos := "law.go:116", after := #[{ on := 17, ground := Ground.data }, { on := 16, ground := Ground.data }, { on := 16, ground := Ground.chain }, { on := 0, ground := Ground.phase }, { on := 1, ground := Ground.phase }, { on := 2, ground := Ground.phase }, { on := 3, ground := Ground.phase }, { on := 4, ground := Ground.phase }, { on := 5, ground := Ground.phase }, { on := 6, ground := Ground.phase }, { on := 7, ground := Ground.phase }, { on := 8, ground := Ground.phase }, { on := 9, ground := Ground.phase }, { on := 10, ground := Ground.phase }, { on := 11, ground := Ground.phase }, { on := 12, ground := Ground.phase }, { on := 13, ground := Ground.phase }, { on := 14, ground := Ground.phase }, { on := 15, ground := Ground.phase }, { on := 16, ground := Ground.phase }], guard := none } : Oper)) rfl (fun K hK => ?_) AllReadyH.nil
            go_simp
            refine hK.out _ _ (HK.out _ HN2.out.below) (fun hHeld => ?_)
            clear hK K
            try simp only [Act.put, List.setIfInBounds_toArray, List.set_cons_zero, List.set_cons_succ]
            refine wpAnyH_done (by kernel_rfl) ?_ _
            go_wp2_with fail
            go_roundw
            case rel => exact ⟨i + 1, p ++ [(⟨tx.session, tx.writes, []⟩, .slice Aw nw cw, .slice none 0 0)], _, _, by omega, by go_num, by rw [Hid, List.length_append, HPL.out]; rfl, by rw [Hid, HTK.out, List.map_append, HPM.out]; rfl, fun y hy => (List.mem_append.1 hy).elim (HPE.out y) (fun q => by rw [List.mem_singleton.1 q]; exact ⟨HNX.out, Its.nil _ _⟩), by rw [Hid, flat_snoc]; exact HN2.out⟩
            case measure => simp [intOf]; omega
          · refine AllReadyH.cons (o := ({ dst := some 83, op := Op.buildSlice 22 1 #[(0, Operand.tmp 82)], type := 22, pos := "law.go:116", after := #[{ on := 14, ground := Ground.data }], guard := none } : Oper)) rfl (fun K hK => ?_) AllReadyH.nil
            go_simp
            refine hK.out _ _ (HK.out _ D1.out) (fun hHeld => ?_)
            clear hK K
            try simp only [Act.put, List.setIfInBounds_toArray, List.set_cons_zero, List.set_cons_succ]
            refine wpAnyH_ready (rs := [1]) (by kernel_rfl) (by simp) ?_
            refine AllReadyH.cons (o := ({ dst := some 69, op := Op.load 22 (Operand.tmp 68), type := 22, pos := "law.go:116", after := #[{ on := 0, ground := Ground.data }], guard := none } : Oper)) rfl (fun K hK => ?_) AllReadyH.nil
            go_simp
            refine hK.out _ _ hHeld (fun hHeld => ?_)
            clear hK K
            try simp only [Act.put, List.setIfInBounds_toArray, List.set_cons_zero, List.set_cons_succ]
            refine wpAnyH_ready (rs := [16]) (by kernel_rfl) (by simp) ?_
            refine AllReadyH.cons (o := ({ dst := some 84, op := Op.call { callee := Callee.builtin Builtin.append, args := #[Operand.tmp 69, Operand.tmp 83], argTypes := #[22, 22] }, type := 22, pos := "law.go:116", after := #[{ on := 1, ground := Ground.data }, { on := 15, ground := Ground.data }], guard := none } : Oper)) rfl (fun K hK => ?_) AllReadyH.nil
            refine step_append_lies _ rfl (.tmp 69) (.tmp 83) 22 rfl (WB.heap.size + 1) 44 j0 _ 3 56 Try.underlying22 J0.out J1.out J2.out J3.out rfl (by decide) (.slice Ab i cb) i (p.flatMap txnC) (by simp [Act.eval]) HRDY.out.1.own ⟨wr.heap.size, 0, none⟩ 1 1 (txnC (⟨tx.session, tx.writes, []⟩, .slice Aw nw cw, .slice none 0 0)) (by simp [Act.eval]) rfl HNT.out (one_txnC _ _ _ _ _ _ _) (by decide) (by simp only [maxLen]; omega) (by omega) (by have := HLW.out; simp; omega) (wr.heap.size + 1) (by simp) ?_
            intro g2 cap2 w2 hown2 hgrow2 hat2 hlt2
            obtain ⟨f1, f2⟩ := HRDY.out.2 w2 hgrow2
            have D2 := Lib.hid (HRDY.out.1.grown hgrow2)
            have HN2 := Lib.hid (HRDY.out.1.more hown2 hgrow2)
            clear hown2 hgrow2 hat2 hlt2
            refine hK.out _ _ (HK.out _ D2.out) (fun hHeld => ?_)
            clear hK K
            try simp only [Act.put, List.setIfInBounds_toArray, List.set_cons_zero, List.set_cons_succ]
            refine wpAnyH_take (i := 17) (oi := ({ dst := some 85, op := Op.fieldAddr 24 (Operand.tmp 10) 0, type := 0, pos := "law.go:116", after := #[{ on := 0, ground := Ground.phase }, { on := 1, ground := Ground.phase }, { on := 2, ground := Ground.phase }, { on := 3, ground := Ground.phase }, { on := 4, ground := Ground.phase }, { on := 5, ground := Ground.phase }, { on := 6, ground := Ground.phase }, { on := 7, ground := Ground.phase }, { on := 8, ground := Ground.phase }, { on := 9, ground := Ground.phase }, { on := 10, ground := Ground.phase }, { on := 11, ground := Ground.phase }, { on := 12, ground := Ground.phase }, { on := 13, ground := Ground.phase }, { on := 14, ground := Ground.phase }, { on := 15, ground := Ground.phase }, { on := 16, ground := Ground.phase }], guard := none } : Oper)) (v := ?_) rfl (by kernel_rfl) (by kernel_rfl) (by kernel_rfl) (fun _ _ _ h => h) (Or.inl ⟨by rfl, ?_⟩) (by assumption) ?_
            rotate_left
            · intro w hSw; (try dsimp only at hSw); go_simp
              try (with_reducible rfl)
            try simp only [Act.put, List.setIfInBounds_toArray, List.set_cons_zero, List.set_cons_succ]
            refine wpAnyH_ready (rs := [18]) (by kernel_rfl) (by simp) ?_
            refine AllReadyH.cons (o := ({ dst := none, op := Op.store 22 (Operand.tmp 85) (Operand.tmp 84), type := 0, pos := "law.go:116", after := #[{ on := 17, ground := Ground.data }, { on := 16, ground := Ground.data }, { on := 16, ground := Ground.chain }, { on := 0, ground := Ground.phase }, { on := 1, ground := Ground.phase }, { on := 2, ground := Ground.phase }, { on := 3, ground := Ground.phase }, { on := 4, ground := Ground.phase }, { on := 5, ground := Ground.phase }, { on := 6, ground := Ground.phase }, { on := 7, ground := Ground.phase }, { on := 8, ground := Ground.phase }, { on := 9, ground := Ground.phase }, { on := 10, ground := Ground.phase }, { on := 11, ground := Ground.phase }, { on := 12, ground := Ground.phase }, { on := 13, ground := Ground.phase }, { on := 14, ground := Ground.phase }, { on := 15, ground := Ground.phase }, { on := 16, ground := Ground.phase }], guard := none } : Oper)) rfl (fun K hK => ?_) AllReadyH.nil
            go_simp
            refine hK.out _ _ (HK.out _ HN2.out.below) (fun hHeld => ?_)
            clear hK K
            try simp only [Act.put, List.setIfInBounds_toArray, List.set_cons_zero, List.set_cons_succ]
            refine wpAnyH_done (by kernel_rfl) ?_ _
            go_wp2_with fail
            go_roundw
            case rel => exact ⟨i + 1, p ++ [(⟨tx.session, tx.writes, []⟩, .slice Aw nw cw, .slice none 0 0)], _, _, by omega, by go_num, by rw [Hid, List.length_append, HPL.out]; rfl, by rw [Hid, HTK.out, List.map_append, HPM.out]; rfl, fun y hy => (List.mem_append.1 hy).elim (HPE.out y) (fun q => by rw [List.mem_singleton.1 q]; exact ⟨HNX.out, Its.nil _ _⟩), by rw [Hid, flat_snoc]; exact HN2.out⟩
            case measure => simp [intOf]; omega
        ·
          obtain rfl : i = h.length := by omega
          have HTW : Hid ((Kn.bare h).take h.length = Kn.bare h) := List.take_of_length_le (Nat.le_of_eq (Kn.bare_len h))
          rw [HTW.out] at HPM
          have V_b : Hid (Txns wr (.slice Ab h.length cb) (Kn.bare h)) := by
            refine BareAt.txns (p := p) (w := WB) ?_ HPE.out HPM.out
            rw [HPL.out]
            exact HM.out
          have N_b := Lib.hid HM.out.box
          have HBR := Lib.hid (Kn.bare_right HR.out)
          obtain ⟨en, es, ew, ei, ep⟩ := Kn.all_yes ((Hi.rightB_iff _).2 HBR.out)
          rw [Kn.bare_len] at en
          rw [Kn.bare_past HR.out] at ep
          have G_x := Lib.hid (fun w hw => knWr_at (Kn.bare h) (.slice Ab h.length cb) w hw (bare_small HSM.out))
          rw [en, ew] at G_x
          have G_t := Lib.hid (fun w hw => knInit_at (Kn.bare h) (.slice Ab h.length cb) w hw (bare_small HSM.out))
          rw [en, ei] at G_t
          have G_p := Lib.hid (fun w hw => knPast_at (Kn.bare h) (.slice Ab h.length cb) w hw (bare_small HSM.out))
          rw [en, ep] at G_p
          have O_x : Hid (Gf.Ok h.length (Kn.wrR (Kn.bare h))) := by
            have := Kn.wr_ok HBR.out
            rw [Kn.bare_len] at this
            exact this
          have E_x := Lib.hid (Kn.edges_none O_x.out (Kn.bare_wr HR.out))
          have O_t : Hid (Gf.Ok h.length (Kn.initR (Kn.bare h))) := by
            have := Kn.init_ok HBR.out
            rw [Kn.bare_len] at this
            exact this
          have E_t := Lib.hid (Kn.edges_none O_t.out (Kn.bare_init HR.out))
          have HLE : Hid ((Kn.soR h).length ≤ 4294967296) := by rw [Hid, Kn.so_len]; omega
          clear en es ew ei ep HPL HPM HPE HM HX HTW hi hlt b0
          go_wp2_with fail
          clear h0
          have UC_s := Lib.hid (U_s.out.below (below_all (below_all (below_all (below_all S5.out S6.out) S7.out) S8.out) S9.out))
          generalize Kn.wrR (Kn.bare h) = lw at *
          generalize Kn.initR (Kn.bare h) = li at *
          generalize Kn.soR h = ls at *
          have HK : Hid (∀ W', Below wr.heap.size wr W' → W'.cell? ⟨WB.heap.size, 0, none⟩ = some (.slice Ab h.length cb) ∧ W'.cell? ⟨o_s, 0, none⟩ = some (.int .i64 h.length) ∧ W'.cell? ⟨o_s, 1, none⟩ = some (.slice A_s h.length c_s)) := fun W' h => ⟨(Boxed.later N_b.out h).cell, (T_s.out.later (below_all (below_all (below_all (below_all (below_all S5.out S6.out) S7.out) S8.out) S9.out) h)).cells.1, (T_s.out.later (below_all (below_all (below_all (below_all (below_all S5.out S6.out) S7.out) S8.out) S9.out) h)).cells.2⟩
          obtain ⟨b0, s0, s1⟩ := HK.out _ (Below.refl _ wr)
          have D := Lib.hid (Below.refl wr.heap.size wr).drew
          go_region_held3 (fun W' => W'.cell? ⟨WB.heap.size, 0, none⟩ = some (.slice Ab h.length cb) ∧ W'.cell? ⟨o_s, 0, none⟩ = some (.int .i64 h.length) ∧ W'.cell? ⟨o_s, 1, none⟩ = some (.slice A_s h.length c_s))
            (first | (exact ⟨b0, s0, s1⟩) | (exact HK.out _ D.out) | (exact HK.out _ Y1.out) | (exact HK.out _ Y2.out) | (exact HK.out _ Y3.out) | (exact HK.out _ Y4.out) | (exact HK.out _ Y5.out) | (exact HK.out _ Y6.out) | (exact HK.out _ Y7.out) | (exact HK.out _ Y8.out))
            (first
                        | (go_at_call 10; (with_reducible refine (G_x.out _ (V_b.out.below D.out)).mono ?_); rintro e z1 ⟨vx, rfl, hox, hz⟩; have Y1 := Lib.hid (below_all D.out hz); have Rx := Lib.hid hox.us; clear hox; clear hz)
                        | (go_at_call 23; (with_reducible refine (gfEdges_at h.length vx lw _ Rx.out O_x.out).mono ?_); rintro e z2 ⟨vex, rfl, hoe, hz⟩; have Y2 := Lib.hid (below_all Y1.out hz); rw [E_x.out] at hoe; obtain ⟨Aex, cex, hve⟩ := own_form hoe; subst hve; dsimp only [List.length_nil]; clear hoe; clear hz)
                        | (go_at_call 11; (with_reducible refine (G_t.out _ (V_b.out.below Y2.out)).mono ?_); rintro e z3 ⟨vt, rfl, hot, hz⟩; have Y3 := Lib.hid (below_all Y2.out hz); have Rt := Lib.hid hot.us; clear hot; clear hz)
                        | (go_at_call 23; (with_reducible refine (gfEdges_at h.length vt li _ Rt.out O_t.out).mono ?_); rintro e z4 ⟨vet, rfl, hoe, hz⟩; have Y4 := Lib.hid (below_all Y3.out hz); rw [E_t.out] at hoe; obtain ⟨Aet, cet, hve⟩ := own_form hoe; subst hve; dsimp only [List.length_nil]; clear hoe; clear hz)
                        | (go_at_call 12; (with_reducible refine (G_p.out _ (V_b.out.below Y4.out)).mono ?_); rintro e z5 ⟨vp, rfl, hop, hz⟩; have Y5 := Lib.hid (below_all Y4.out hz); have RP := Lib.hid hop.us; clear hop; clear hz)
                        | (go_at_call 8; (with_reducible refine (knPlain_at h.length vp ls _ RP.out).mono ?_); rintro e z6 ⟨rfl, hz⟩; have Y6 := Lib.hid (below_all Y5.out hz); have RP := Lib.hid (RP.out.below hz); clear hz)
                        | (go_at_call 8; (with_reducible refine (knPlain_at h.length (.slice A_s h.length c_s) ls _ (UC_s.out.below Y6.out)).mono ?_); rintro e z7 ⟨rfl, hz⟩; have Y7 := Lib.hid (below_all Y6.out hz); have RP := Lib.hid (RP.out.below hz); clear hz)
                        | (go_at_call 14; (with_reducible refine (rSame12_at h.length vp (.slice A_s h.length c_s) ls _ RP.out (UC_s.out.below Y7.out) HLE.out).mono ?_); rintro e W10 ⟨rfl, hz⟩; have Y8 := Lib.hid (below_all Y7.out hz); clear hz))
          all_goals
            have S10 := Lib.hid Y8.out
            clear b0 s0 s1 HK D Y1 Y2 Y3 Y4 Y5 Y6 Y7 Y8
            go_wp2_with fail
            go_ret
            exact ⟨rfl, (below_all BW.out (below_all (below_all (below_all (below_all (below_all (below_all (below_all (below_all (below_all S1.out S2.out) S3.out) S4.out) S5.out) S6.out) S7.out) S8.out) S9.out) S10.out))⟩
end Go.Proofs.Ytlhinlfgmfenoaa
