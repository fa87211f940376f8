/-
  What layer 17's So, Wr and Init answer.
  Conditions: a history of at most 2^32 transactions, reads and writes.
-/
import Derived.Test.YtahacjfeopjbaaaKnFill
set_option maxRecDepth 4000
namespace Go.Proofs.Ytahacjfeopjbaaa
open Go.RowKit

theorem res_gr {fn : Func} {p : Tmp} (h : fn.results = #[.cell p 32]) (X : World) (b : Nat) (tmps : Array Value) (n : Int) (A : Option Addr) (m c : Nat) (hp : tmps.getD p undef = .pointer (some ⟨b, 0, none⟩)) (h0 : X.cell? ⟨b, 0, none⟩ = some (.int .i64 n)) (h1 : X.cell? ⟨b, 1, none⟩ = some (.slice A m c)) :
    (results fn tmps).run Try.prog X = .ok (.agg #[.int .i64 n, .slice A m c]) X := by
  rw [Array.getD_eq_getD_getElem?] at hp
  simp [results, h, hp, asAddr, go_sem, h0, h1]
/-- The end of a call that hands back a graph alone: it is stored into the result's block. -/
theorem end_gr {fn : Func} {p : Tmp} (h : fn.results = #[.cell p 32]) {w X : World} {b base : Nat} {n : Int} {l : List Nat} {u0 u1 : Value} {A : Option Addr} {m c : Nat} (hT : Two X b 32 u0 u1) (hR : OwnU X base (.slice A m c) l) (hbase : b < base) (hB : Below w.heap.size w X) (hb : w.heap.size ≤ b)
    (tmps : Array Value) (hp : tmps.getD p undef = .pointer (some ⟨b, 0, none⟩)) :
    bodyPost Try.prog fn (RetR w n l) Exit.ret { tmps := tmps, defers := [] } ((X.setCell ⟨b, 0, none⟩ (.int .i64 n)).setCell ⟨b, 1, none⟩ (.slice A m c)) := by
  obtain ⟨p0, p1⟩ := (hT.put (x := .int .i64 n) (y := .slice A m c)).cells
  exact bodyPost_ret (res_gr h _ b _ n _ _ _ hp p0 p1) rfl ⟨_, rfl, (own_setCell (own_setCell hR hbase) hbase).mono (by omega), (hB.setCell (p := ⟨b, 0, none⟩) hb _).setCell (p := ⟨b, 1, none⟩) hb _⟩
/-- The world at the first call: the history and the result lie in variables. -/
theorem kn_made (w : World) (u : Value) {W : World} (h : W = (w.alloc (.cells #[u] 24)).alloc (.cells #[.int .i64 0, .slice none 0 0] 32)) :
    Boxed W w.heap.size 24 u ∧ Two W (w.heap.size + 1) 32 (.int .i64 0) (.slice none 0 0) ∧ Below w.heap.size w W := by
  subst h
  have b1 := alloc_below w (.cells #[u] 24)
  have b2 := alloc_below (w.alloc (.cells #[u] 24)) (.cells #[.int .i64 0, .slice none 0 0] 32)
  have t1 := Two.new (w.alloc (.cells #[u] 24)) 32 (.int .i64 0) (.slice none 0 0)
  rw [World.size_alloc] at t1
  exact ⟨box_at (Boxed.new w 24 u) b2 (by rw [World.size_alloc]; exact Nat.lt_succ_self _), t1, below_all b1 b2⟩

set_option maxHeartbeats 1000000 in
theorem knDrawnSo_at (h : List So.Txn) (u : Value) (q : Nat) (w : World) (hv : Txns w u h) (hs : Ix.Small h) (hq : Boxed w q 24 u) :
    Calls Try.prog 62 #[.agg #[u], .func (.func 93) #[] #[.pointer (some ⟨q, 0, none⟩)]] w (RetR w (Kn.nA h) (Kn.soA h)) := by
  have hmf : ∀ (fn : Fn) (first cap : Array Value) (w : World), (Instr.makeFunc fn first cap).run Try.prog w = .ok (.func fn first cap) w := fun _ _ _ _ => rfl
  have HV := Lib.hid hv
  have HS := Lib.hid hs
  have HQ := Lib.hid hq
  obtain ⟨A0, c0', rfl, -⟩ := hv.spelled
  have F1 := Lib.hid (fun w hw => hRight_at h (.slice A0 h.length c0') w hw hs.2)
  clear hv hs hq
  cases hb : Hi.rightB h with
  | false =>
    obtain ⟨e0, e1, e2, e3, e4⟩ := Kn.all_no hb
    rw [e0, e1]
    rw [hb] at F1
    clear e0 e1 e2 e3 e4 hb
    go_enter Try.func62, Try.ntmps62
    go_wp2_with fail
    obtain ⟨t0, t1, bw⟩ := kn_made w (.slice A0 h.length c0') rfl
    have T1 := Lib.hid t1
    have BW := Lib.hid bw
    have a0 := t0.cell
    clear t0 t1 bw
    generalize (w.alloc (.cells #[.slice A0 h.length c0'] 24)).alloc (.cells #[.int .i64 0, .slice none 0 0] 32) = W at *
    go_wp2_with fail
    refine (F1.out _ (HV.out.below BW.out)).mono ?_
    rintro e w1 ⟨rfl, hb1⟩
    have T11 := Lib.hid (T1.out.later hb1)
    have B1 := Lib.hid (below_all BW.out hb1)
    clear hb1 a0
    obtain ⟨r0, r1⟩ := T11.out.cells
    have f0 := T11.out.frozen 0
    have f1 := T11.out.frozen 1
    go_wp2_with fail
    exact end_gr (p := 4) rfl T11.out (OwnU.nil _ _) (Nat.lt_succ_self _) B1.out (by omega) _ rfl
  | true =>
    obtain ⟨e0, e1, e2, e3, e4⟩ := Kn.all_yes hb
    rw [e0, e1]
    have hr := (Hi.rightB_iff h).1 hb
    have hn := Kn.len64 hr
    have HZ := Lib.hid (Gf.zeros_ok (n := h.length) hn)
    have F2 := Lib.hid (fun w => gfNew_at h.length hn w)
    have F3 := Lib.hid (fun W base b h1 h2 h3 h4 => knSo1_at h (.slice A0 h.length c0') w W base b q HV.out hr HQ.out h1 h2 h3 h4)
    rw [hb] at F1
    clear e0 e1 e2 e3 e4 hb hr hn
    go_enter Try.func62, Try.ntmps62
    go_wp2_with fail
    obtain ⟨t0, t1, bw⟩ := kn_made w (.slice A0 h.length c0') rfl
    have T0 := Lib.hid t0
    have T1 := Lib.hid t1
    have BW := Lib.hid bw
    have a0 := t0.cell
    clear t0 t1 bw
    generalize (w.alloc (.cells #[.slice A0 h.length c0'] 24)).alloc (.cells #[.int .i64 0, .slice none 0 0] 32) = W at *
    go_wp2_with fail
    refine (F1.out _ (HV.out.below BW.out)).mono ?_
    rintro e w1 ⟨rfl, hb1⟩
    have T01 := Lib.hid (box_at T0.out hb1 (by have := T1.out.lt; omega))
    have T11 := Lib.hid (T1.out.later hb1)
    have B1 := Lib.hid (below_all BW.out hb1)
    have HL1 := Lib.hid T11.out.lt
    clear hb1 a0 T0 T1
    have a0 := T01.out.cell
    go_wp2_with fail
    refine (F2.out _).mono ?_
    rintro e w2 ⟨v2, rfl, ho2, hb2⟩
    obtain ⟨A, c, rfl⟩ := ho2.form
    rw [HZ.out.2.1] at ho2 ⊢
    have HG : Hid (GV (w2.alloc (.cells #[.int .i64 (h.length : Int), .slice A h.length c] 32)) w1.heap.size w2.heap.size h.length (Gf.zeros h.length)) := ⟨HZ.out, A, c, Two.new _ _ _ _, ho2.below (alloc_below _ _)⟩
    have B3 := Lib.hid (below_all hb2 (alloc_below w2 (.cells #[.int .i64 (h.length : Int), .slice A h.length c] 32)))
    have HS2 := Lib.hid hb2.size
    have T13 := Lib.hid (T11.out.later B3.out)
    have BW3 := Lib.hid (below_all B1.out B3.out)
    clear ho2 hb2 a0 T01 T11
    go_wp2_with fail
    generalize hw3 : w2.alloc (.cells #[.int .i64 (h.length : Int), .slice A h.length c] 32) = w3 at *
    generalize w2.heap.size = b at *
    refine (F3.out w3 w1.heap.size b BW3.out (Nat.le_trans B1.out.size HS2.out) B3.out.size HG.out).mono ?_
    rintro e w4 ⟨rfl, hg4, hs4⟩
    obtain ⟨-, A', c', t4, o4⟩ := hg4
    have O4 := Lib.hid o4
    have T14 : Hid (Two w4 (w.heap.size + 1) 32 (.int .i64 0) (.slice none 0 0)) := (save_block hs4 T13.out.lt (by have := HL1.out; have := HS2.out; omega)).trans T13.out
    have B4 := Lib.hid (BW3.out.trans (hs4.below (Nat.le_trans B1.out.size HS2.out) BW3.out.size))
    obtain ⟨g0, g1⟩ := t4.cells
    obtain ⟨r0, r1⟩ := T14.out.cells
    have f0 := T14.out.frozen 0
    have f1 := T14.out.frozen 1
    clear t4 o4 hs4 HG F1 F2 F3
    go_wp2_with fail
    exact end_gr (p := 4) rfl T14.out O4.out HL1.out B4.out (by omega) _ rfl
theorem knSo_at (h : List So.Txn) (u : Value) (w : World) (hu : Txns w u h) (hs : Ix.Small h) : Calls Try.prog 69 #[.agg #[u]] w (RetR w (Kn.nA h) (Kn.soA h)) := by
  have hmf : ∀ (fn : Fn) (first cap : Array Value) (w : World), (Instr.makeFunc fn first cap).run Try.prog w = .ok (.func fn first cap) w := fun _ _ _ _ => rfl
  have HV := Lib.hid hu
  have HS := Lib.hid hs
  obtain ⟨A0, c0', rfl, -⟩ := hu.spelled
  clear hu hs
  go_enter Try.func69, Try.ntmps69
  go_wp2_with fail
  obtain ⟨t0, t1, bw⟩ := kn_made w (.slice A0 h.length c0') rfl
  have T0 := Lib.hid t0
  have T1 := Lib.hid t1
  have BW := Lib.hid bw
  have a0 := t0.cell
  clear t0 t1 bw
  generalize (w.alloc (.cells #[.slice A0 h.length c0'] 24)).alloc (.cells #[.int .i64 0, .slice none 0 0] 32) = W at *
  go_wp2_with fail
  refine (knDrawnSo_at h (.slice A0 h.length c0') w.heap.size W (HV.out.below BW.out) HS.out T0.out).mono ?_
  rintro e w1 ⟨v1, rfl, ho1, hb1⟩
  obtain ⟨A, m, c, rfl⟩ := own_any ho1
  have T11 := Lib.hid (T1.out.later hb1)
  have B1 := Lib.hid (below_all BW.out hb1)
  have HL1 := Lib.hid T1.out.lt
  have O1 := Lib.hid ho1
  clear hb1 a0 ho1
  obtain ⟨r0, r1⟩ := T11.out.cells
  have f0 := T11.out.frozen 0
  have f1 := T11.out.frozen 1
  go_wp2_with fail
  exact end_gr (p := 2) rfl T11.out O1.out HL1.out B1.out (by omega) _ rfl

set_option maxHeartbeats 1000000 in
theorem knDrawnWr_at (h : List So.Txn) (u : Value) (q : Nat) (w : World) (hv : Txns w u h) (hs : Ix.Small h) (hq : Boxed w q 24 u) :
    Calls Try.prog 62 #[.agg #[u], .func (.func 94) #[] #[.pointer (some ⟨q, 0, none⟩)]] w (RetR w (Kn.nA h) (Kn.wrA h)) := by
  have hmf : ∀ (fn : Fn) (first cap : Array Value) (w : World), (Instr.makeFunc fn first cap).run Try.prog w = .ok (.func fn first cap) w := fun _ _ _ _ => rfl
  have HV := Lib.hid hv
  have HS := Lib.hid hs
  have HQ := Lib.hid hq
  obtain ⟨A0, c0', rfl, -⟩ := hv.spelled
  have F1 := Lib.hid (fun w hw => hRight_at h (.slice A0 h.length c0') w hw hs.2)
  clear hv hs hq
  cases hb : Hi.rightB h with
  | false =>
    obtain ⟨e0, e1, e2, e3, e4⟩ := Kn.all_no hb
    rw [e0, e2]
    rw [hb] at F1
    clear e0 e1 e2 e3 e4 hb
    go_enter Try.func62, Try.ntmps62
    go_wp2_with fail
    obtain ⟨t0, t1, bw⟩ := kn_made w (.slice A0 h.length c0') rfl
    have T1 := Lib.hid t1
    have BW := Lib.hid bw
    have a0 := t0.cell
    clear t0 t1 bw
    generalize (w.alloc (.cells #[.slice A0 h.length c0'] 24)).alloc (.cells #[.int .i64 0, .slice none 0 0] 32) = W at *
    go_wp2_with fail
    refine (F1.out _ (HV.out.below BW.out)).mono ?_
    rintro e w1 ⟨rfl, hb1⟩
    have T11 := Lib.hid (T1.out.later hb1)
    have B1 := Lib.hid (below_all BW.out hb1)
    clear hb1 a0
    obtain ⟨r0, r1⟩ := T11.out.cells
    have f0 := T11.out.frozen 0
    have f1 := T11.out.frozen 1
    go_wp2_with fail
    exact end_gr (p := 4) rfl T11.out (OwnU.nil _ _) (Nat.lt_succ_self _) B1.out (by omega) _ rfl
  | true =>
    obtain ⟨e0, e1, e2, e3, e4⟩ := Kn.all_yes hb
    rw [e0, e2]
    have hr := (Hi.rightB_iff h).1 hb
    have hn := Kn.len64 hr
    have HZ := Lib.hid (Gf.zeros_ok (n := h.length) hn)
    have F2 := Lib.hid (fun w => gfNew_at h.length hn w)
    have F3 := Lib.hid (fun W base b h1 h2 h3 h4 => knWr1_at h (.slice A0 h.length c0') w W base b q HV.out hr HQ.out h1 h2 h3 h4)
    rw [hb] at F1
    clear e0 e1 e2 e3 e4 hb hr hn
    go_enter Try.func62, Try.ntmps62
    go_wp2_with fail
    obtain ⟨t0, t1, bw⟩ := kn_made w (.slice A0 h.length c0') rfl
    have T0 := Lib.hid t0
    have T1 := Lib.hid t1
    have BW := Lib.hid bw
    have a0 := t0.cell
    clear t0 t1 bw
    generalize (w.alloc (.cells #[.slice A0 h.length c0'] 24)).alloc (.cells #[.int .i64 0, .slice none 0 0] 32) = W at *
    go_wp2_with fail
    refine (F1.out _ (HV.out.below BW.out)).mono ?_
    rintro e w1 ⟨rfl, hb1⟩
    have T01 := Lib.hid (box_at T0.out hb1 (by have := T1.out.lt; omega))
    have T11 := Lib.hid (T1.out.later hb1)
    have B1 := Lib.hid (below_all BW.out hb1)
    have HL1 := Lib.hid T11.out.lt
    clear hb1 a0 T0 T1
    have a0 := T01.out.cell
    go_wp2_with fail
    refine (F2.out _).mono ?_
    rintro e w2 ⟨v2, rfl, ho2, hb2⟩
    obtain ⟨A, c, rfl⟩ := ho2.form
    rw [HZ.out.2.1] at ho2 ⊢
    have HG : Hid (GV (w2.alloc (.cells #[.int .i64 (h.length : Int), .slice A h.length c] 32)) w1.heap.size w2.heap.size h.length (Gf.zeros h.length)) := ⟨HZ.out, A, c, Two.new _ _ _ _, ho2.below (alloc_below _ _)⟩
    have B3 := Lib.hid (below_all hb2 (alloc_below w2 (.cells #[.int .i64 (h.length : Int), .slice A h.length c] 32)))
    have HS2 := Lib.hid hb2.size
    have T13 := Lib.hid (T11.out.later B3.out)
    have BW3 := Lib.hid (below_all B1.out B3.out)
    clear ho2 hb2 a0 T01 T11
    go_wp2_with fail
    generalize hw3 : w2.alloc (.cells #[.int .i64 (h.length : Int), .slice A h.length c] 32) = w3 at *
    generalize w2.heap.size = b at *
    refine (F3.out w3 w1.heap.size b BW3.out (Nat.le_trans B1.out.size HS2.out) B3.out.size HG.out).mono ?_
    rintro e w4 ⟨rfl, hg4, hs4⟩
    obtain ⟨-, A', c', t4, o4⟩ := hg4
    have O4 := Lib.hid o4
    have T14 : Hid (Two w4 (w.heap.size + 1) 32 (.int .i64 0) (.slice none 0 0)) := (save_block hs4 T13.out.lt (by have := HL1.out; have := HS2.out; omega)).trans T13.out
    have B4 := Lib.hid (BW3.out.trans (hs4.below (Nat.le_trans B1.out.size HS2.out) BW3.out.size))
    obtain ⟨g0, g1⟩ := t4.cells
    obtain ⟨r0, r1⟩ := T14.out.cells
    have f0 := T14.out.frozen 0
    have f1 := T14.out.frozen 1
    clear t4 o4 hs4 HG F1 F2 F3
    go_wp2_with fail
    exact end_gr (p := 4) rfl T14.out O4.out HL1.out B4.out (by omega) _ rfl
theorem knWr_at (h : List So.Txn) (u : Value) (w : World) (hu : Txns w u h) (hs : Ix.Small h) : Calls Try.prog 70 #[.agg #[u]] w (RetR w (Kn.nA h) (Kn.wrA h)) := by
  have hmf : ∀ (fn : Fn) (first cap : Array Value) (w : World), (Instr.makeFunc fn first cap).run Try.prog w = .ok (.func fn first cap) w := fun _ _ _ _ => rfl
  have HV := Lib.hid hu
  have HS := Lib.hid hs
  obtain ⟨A0, c0', rfl, -⟩ := hu.spelled
  clear hu hs
  go_enter Try.func70, Try.ntmps70
  go_wp2_with fail
  obtain ⟨t0, t1, bw⟩ := kn_made w (.slice A0 h.length c0') rfl
  have T0 := Lib.hid t0
  have T1 := Lib.hid t1
  have BW := Lib.hid bw
  have a0 := t0.cell
  clear t0 t1 bw
  generalize (w.alloc (.cells #[.slice A0 h.length c0'] 24)).alloc (.cells #[.int .i64 0, .slice none 0 0] 32) = W at *
  go_wp2_with fail
  refine (knDrawnWr_at h (.slice A0 h.length c0') w.heap.size W (HV.out.below BW.out) HS.out T0.out).mono ?_
  rintro e w1 ⟨v1, rfl, ho1, hb1⟩
  obtain ⟨A, m, c, rfl⟩ := own_any ho1
  have T11 := Lib.hid (T1.out.later hb1)
  have B1 := Lib.hid (below_all BW.out hb1)
  have HL1 := Lib.hid T1.out.lt
  have O1 := Lib.hid ho1
  clear hb1 a0 ho1
  obtain ⟨r0, r1⟩ := T11.out.cells
  have f0 := T11.out.frozen 0
  have f1 := T11.out.frozen 1
  go_wp2_with fail
  exact end_gr (p := 2) rfl T11.out O1.out HL1.out B1.out (by omega) _ rfl

set_option maxHeartbeats 1000000 in
theorem knDrawnInit_at (h : List So.Txn) (u : Value) (q : Nat) (w : World) (hv : Txns w u h) (hs : Ix.Small h) (hq : Boxed w q 24 u) :
    Calls Try.prog 62 #[.agg #[u], .func (.func 63) #[] #[.pointer (some ⟨q, 0, none⟩)]] w (RetR w (Kn.nA h) (Kn.initA h)) := by
  have hmf : ∀ (fn : Fn) (first cap : Array Value) (w : World), (Instr.makeFunc fn first cap).run Try.prog w = .ok (.func fn first cap) w := fun _ _ _ _ => rfl
  have HV := Lib.hid hv
  have HS := Lib.hid hs
  have HQ := Lib.hid hq
  obtain ⟨A0, c0', rfl, -⟩ := hv.spelled
  have F1 := Lib.hid (fun w hw => hRight_at h (.slice A0 h.length c0') w hw hs.2)
  clear hv hs hq
  cases hb : Hi.rightB h with
  | false =>
    obtain ⟨e0, e1, e2, e3, e4⟩ := Kn.all_no hb
    rw [e0, e3]
    rw [hb] at F1
    clear e0 e1 e2 e3 e4 hb
    go_enter Try.func62, Try.ntmps62
    go_wp2_with fail
    obtain ⟨t0, t1, bw⟩ := kn_made w (.slice A0 h.length c0') rfl
    have T1 := Lib.hid t1
    have BW := Lib.hid bw
    have a0 := t0.cell
    clear t0 t1 bw
    generalize (w.alloc (.cells #[.slice A0 h.length c0'] 24)).alloc (.cells #[.int .i64 0, .slice none 0 0] 32) = W at *
    go_wp2_with fail
    refine (F1.out _ (HV.out.below BW.out)).mono ?_
    rintro e w1 ⟨rfl, hb1⟩
    have T11 := Lib.hid (T1.out.later hb1)
    have B1 := Lib.hid (below_all BW.out hb1)
    clear hb1 a0
    obtain ⟨r0, r1⟩ := T11.out.cells
    have f0 := T11.out.frozen 0
    have f1 := T11.out.frozen 1
    go_wp2_with fail
    exact end_gr (p := 4) rfl T11.out (OwnU.nil _ _) (Nat.lt_succ_self _) B1.out (by omega) _ rfl
  | true =>
    obtain ⟨e0, e1, e2, e3, e4⟩ := Kn.all_yes hb
    rw [e0, e3]
    have hr := (Hi.rightB_iff h).1 hb
    have hn := Kn.len64 hr
    have HZ := Lib.hid (Gf.zeros_ok (n := h.length) hn)
    have F2 := Lib.hid (fun w => gfNew_at h.length hn w)
    have F3 := Lib.hid (fun W base b h1 h2 h3 h4 => knInit1_at h (.slice A0 h.length c0') w W base b q HV.out hr HS.out HQ.out h1 h2 h3 h4)
    rw [hb] at F1
    clear e0 e1 e2 e3 e4 hb hr hn
    go_enter Try.func62, Try.ntmps62
    go_wp2_with fail
    obtain ⟨t0, t1, bw⟩ := kn_made w (.slice A0 h.length c0') rfl
    have T0 := Lib.hid t0
    have T1 := Lib.hid t1
    have BW := Lib.hid bw
    have a0 := t0.cell
    clear t0 t1 bw
    generalize (w.alloc (.cells #[.slice A0 h.length c0'] 24)).alloc (.cells #[.int .i64 0, .slice none 0 0] 32) = W at *
    go_wp2_with fail
    refine (F1.out _ (HV.out.below BW.out)).mono ?_
    rintro e w1 ⟨rfl, hb1⟩
    have T01 := Lib.hid (box_at T0.out hb1 (by have := T1.out.lt; omega))
    have T11 := Lib.hid (T1.out.later hb1)
    have B1 := Lib.hid (below_all BW.out hb1)
    have HL1 := Lib.hid T11.out.lt
    clear hb1 a0 T0 T1
    have a0 := T01.out.cell
    go_wp2_with fail
    refine (F2.out _).mono ?_
    rintro e w2 ⟨v2, rfl, ho2, hb2⟩
    obtain ⟨A, c, rfl⟩ := ho2.form
    rw [HZ.out.2.1] at ho2 ⊢
    have HG : Hid (GV (w2.alloc (.cells #[.int .i64 (h.length : Int), .slice A h.length c] 32)) w1.heap.size w2.heap.size h.length (Gf.zeros h.length)) := ⟨HZ.out, A, c, Two.new _ _ _ _, ho2.below (alloc_below _ _)⟩
    have B3 := Lib.hid (below_all hb2 (alloc_below w2 (.cells #[.int .i64 (h.length : Int), .slice A h.length c] 32)))
    have HS2 := Lib.hid hb2.size
    have T13 := Lib.hid (T11.out.later B3.out)
    have BW3 := Lib.hid (below_all B1.out B3.out)
    clear ho2 hb2 a0 T01 T11
    go_wp2_with fail
    generalize hw3 : w2.alloc (.cells #[.int .i64 (h.length : Int), .slice A h.length c] 32) = w3 at *
    generalize w2.heap.size = b at *
    refine (F3.out w3 w1.heap.size b BW3.out (Nat.le_trans B1.out.size HS2.out) B3.out.size HG.out).mono ?_
    rintro e w4 ⟨rfl, hg4, hs4⟩
    obtain ⟨-, A', c', t4, o4⟩ := hg4
    have O4 := Lib.hid o4
    have T14 : Hid (Two w4 (w.heap.size + 1) 32 (.int .i64 0) (.slice none 0 0)) := (save_block hs4 T13.out.lt (by have := HL1.out; have := HS2.out; omega)).trans T13.out
    have B4 := Lib.hid (BW3.out.trans (hs4.below (Nat.le_trans B1.out.size HS2.out) BW3.out.size))
    obtain ⟨g0, g1⟩ := t4.cells
    obtain ⟨r0, r1⟩ := T14.out.cells
    have f0 := T14.out.frozen 0
    have f1 := T14.out.frozen 1
    clear t4 o4 hs4 HG F1 F2 F3
    go_wp2_with fail
    exact end_gr (p := 4) rfl T14.out O4.out HL1.out B4.out (by omega) _ rfl
theorem knInit_at (h : List So.Txn) (u : Value) (w : World) (hu : Txns w u h) (hs : Ix.Small h) : Calls Try.prog 32 #[.agg #[u]] w (RetR w (Kn.nA h) (Kn.initA h)) := by
  have hmf : ∀ (fn : Fn) (first cap : Array Value) (w : World), (Instr.makeFunc fn first cap).run Try.prog w = .ok (.func fn first cap) w := fun _ _ _ _ => rfl
  have HV := Lib.hid hu
  have HS := Lib.hid hs
  obtain ⟨A0, c0', rfl, -⟩ := hu.spelled
  clear hu hs
  go_enter Try.func32, Try.ntmps32
  go_wp2_with fail
  obtain ⟨t0, t1, bw⟩ := kn_made w (.slice A0 h.length c0') rfl
  have T0 := Lib.hid t0
  have T1 := Lib.hid t1
  have BW := Lib.hid bw
  have a0 := t0.cell
  clear t0 t1 bw
  generalize (w.alloc (.cells #[.slice A0 h.length c0'] 24)).alloc (.cells #[.int .i64 0, .slice none 0 0] 32) = W at *
  go_wp2_with fail
  refine (knDrawnInit_at h (.slice A0 h.length c0') w.heap.size W (HV.out.below BW.out) HS.out T0.out).mono ?_
  rintro e w1 ⟨v1, rfl, ho1, hb1⟩
  obtain ⟨A, m, c, rfl⟩ := own_any ho1
  have T11 := Lib.hid (T1.out.later hb1)
  have B1 := Lib.hid (below_all BW.out hb1)
  have HL1 := Lib.hid T1.out.lt
  have O1 := Lib.hid ho1
  clear hb1 a0 ho1
  obtain ⟨r0, r1⟩ := T11.out.cells
  have f0 := T11.out.frozen 0
  have f1 := T11.out.frozen 1
  go_wp2_with fail
  exact end_gr (p := 2) rfl T11.out O1.out HL1.out B1.out (by omega) _ rfl

end Go.Proofs.Ytahacjfeopjbaaa
