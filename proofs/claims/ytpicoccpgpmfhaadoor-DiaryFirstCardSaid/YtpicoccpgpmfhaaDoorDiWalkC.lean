/-
  What diary.Parse answers, for every text that a string may hold: Di.parseR; what was in memory stays as it was.
  Conditions: the variable that lists the kinds' words holds them; a string's length is at most the model's greatest.
-/
import Derived.Test.YtpicoccpgpmfhaaDoorDiWalkB
namespace Go.Proofs.YtpicoccpgpmfhaaDoor
open Go.RowKit

theorem own_setCell {w : World} {base size n b o : Nat} {e : TypeId} {v x : Value} {xs : List Value} (h : w.ownsRow base e size v n xs) (hb : b < base) : (w.setCell ⟨b, o, none⟩ x).ownsRow base e size v n xs := by
  refine ⟨h.1, ?_⟩
  rcases h.2 with h2 | ⟨g, cap, cur, h1, h2, h3, h4⟩
  · exact .inl h2
  · refine .inr ⟨g, cap, cur, h1, h2, ?_, h4⟩
    simp only [World.setCell, Array.getElem?_modify]
    rw [if_neg (by omega)]
    exact h3

theorem own_less {w : World} {base base' size n : Nat} {e : TypeId} {v : Value} {xs : List Value} (hb : base' ≤ base) (h : w.ownsRow base e size v n xs) : w.ownsRow base' e size v n xs := by
  refine ⟨h.1, ?_⟩
  rcases h.2 with h2 | ⟨g, cap, cur, h1, h2, h3, h4⟩
  · exact .inl h2
  · exact .inr ⟨g, cap, cur, h1, Nat.le_trans hb h2, h3, h4⟩

theorem results_di (X : World) (b : Nat) (tmps : Array Value) (v n q : Value) (h0 : tmps.getD 2 undef = .pointer (some ⟨b, 0, none⟩)) (h1 : tmps.getD 3 undef = .pointer (some ⟨b + 1, 0, none⟩)) (h2 : tmps.getD 4 undef = .pointer (some ⟨b + 2, 0, none⟩))
    (c0 : X.cell? ⟨b, 0, none⟩ = some v) (c1 : X.cell? ⟨b + 1, 0, none⟩ = some n) (c2 : X.cell? ⟨b + 2, 0, none⟩ = some q) :
    (results Tryd.f8 tmps).run Tryd.prog X = .ok (.tuple #[v, n, q]) X := by
  have hr : Tryd.f8.results = #[.cell 2 22, .cell 3 3, .cell 4 24] := rfl
  have g0 : tmps[2]?.getD undef = .pointer (some ⟨b, 0, none⟩) := by simpa using h0
  have g1 : tmps[3]?.getD undef = .pointer (some ⟨b + 1, 0, none⟩) := by simpa using h1
  have g2 : tmps[4]?.getD undef = .pointer (some ⟨b + 2, 0, none⟩) := by simpa using h2
  simp only [results, hr]
  simp [Sem.run_bind, Result.andThen, g0, g1, g2, asAddr, go_sem, c0, c1, c2]

/-- What is deferred: the function that looks at a panic, over the three result variables. -/
def lastCall (b : Nat) : Deferred := { target := .fn (.func 15) #[.pointer (some ⟨b, 0, none⟩), .pointer (some ⟨b + 1, 0, none⟩), .pointer (some ⟨b + 1 + 1, 0, none⟩)], args := #[] }

/-- The call's end behind a fault. -/
theorem end_bad {w W : World} {r : List Ev.Event × Int × Int} {n q : Int} {x y z : Value} (tmps : Array Value) (hr : r = ([], n, q)) (hb : Below w.heap.size w W) (o0 : One W w.heap.size x) (o1 : One W (w.heap.size + 1) y) (o2 : One W (w.heap.size + 2) z)
    (h0 : tmps.getD 2 undef = .pointer (some ⟨w.heap.size, 0, none⟩)) (h1 : tmps.getD 3 undef = .pointer (some ⟨w.heap.size + 1, 0, none⟩)) (h2 : tmps.getD 4 undef = .pointer (some ⟨w.heap.size + 2, 0, none⟩)) :
    bodyPostD Tryd.prog Tryd.f8 (RetEvs w r) (Exit.panic [{ v := faultV n q, recovered := false }]) { tmps := tmps, defers := [lastCall w.heap.size] } W := by
  refine leaves_cons (f := 15) (args := #[.pointer (some ⟨w.heap.size, 0, none⟩), .pointer (some ⟨w.heap.size + 1, 0, none⟩), .pointer (some ⟨w.heap.size + 2, 0, none⟩)]) (by simp) (by simp [go_sem]) ?_
  refine (catch_fault _ _ _ _ n q [] W o0 o1 o2).mono ?_
  rintro e u' w2 ⟨rfl, rfl, c0, c1, c2, hb2⟩
  exact ⟨_, results_di w2 _ tmps _ _ _ h0 h1 h2 c0 c1 c2, RetEvs.mk _ n q (by rw [hr]) (by rw [hr]) (by rw [hr]; exact Evs.nil _ _) (hb.trans hb2)⟩

/-- The call's end behind all lines' events. -/
theorem end_ok {w W : World} {l : List Ev.Event} {r : List Ev.Event × Int × Int} {x y z v : Value} (tmps : Array Value) (hr : r = (l, 0, 0)) (hb : Below w.heap.size w W) (o0 : One W w.heap.size x) (o1 : One W (w.heap.size + 1) y) (o2 : One W (w.heap.size + 2) z)
    (hv : W.ownsRow (w.heap.size + 3) 35 4 v l.length (l.flatMap evCells))
    (h0 : tmps.getD 2 undef = .pointer (some ⟨w.heap.size, 0, none⟩)) (h1 : tmps.getD 3 undef = .pointer (some ⟨w.heap.size + 1, 0, none⟩)) (h2 : tmps.getD 4 undef = .pointer (some ⟨w.heap.size + 2, 0, none⟩)) :
    bodyPostD Tryd.prog Tryd.f8 (RetEvs w r) Exit.ret { tmps := tmps, defers := [lastCall w.heap.size] } (((W.setCell ⟨w.heap.size, 0, none⟩ v).setCell ⟨w.heap.size + 1, 0, none⟩ (.int .i64 0)).setCell ⟨w.heap.size + 1 + 1, 0, none⟩ (.int .i64 0)) := by
  refine leaves_cons (f := 15) (args := #[.pointer (some ⟨w.heap.size, 0, none⟩), .pointer (some ⟨w.heap.size + 1, 0, none⟩), .pointer (some ⟨w.heap.size + 2, 0, none⟩)]) (by simp) (by simp [go_sem]) ?_
  refine (catch_idle _ _ _ _).mono ?_
  rintro e u' w2 ⟨rfl, rfl, rfl⟩
  have k0 := o0.c
  have k1 := o1.c
  have k2 := o2.c
  have c0 : (((W.setCell ⟨w.heap.size, 0, none⟩ v).setCell ⟨w.heap.size + 1, 0, none⟩ (.int .i64 0)).setCell ⟨w.heap.size + 1 + 1, 0, none⟩ (.int .i64 0)).cell? ⟨w.heap.size, 0, none⟩ = some v := by simp [go_sem, k0]
  have c1 : (((W.setCell ⟨w.heap.size, 0, none⟩ v).setCell ⟨w.heap.size + 1, 0, none⟩ (.int .i64 0)).setCell ⟨w.heap.size + 1 + 1, 0, none⟩ (.int .i64 0)).cell? ⟨w.heap.size + 1, 0, none⟩ = some (.int .i64 0) := by simp [go_sem, k1]
  have c2 : (((W.setCell ⟨w.heap.size, 0, none⟩ v).setCell ⟨w.heap.size + 1, 0, none⟩ (.int .i64 0)).setCell ⟨w.heap.size + 1 + 1, 0, none⟩ (.int .i64 0)).cell? ⟨w.heap.size + 2, 0, none⟩ = some (.int .i64 0) := by simp [go_sem, k2]
  have hV := own_setCell (own_setCell (own_setCell hv (b := w.heap.size) (o := 0) (x := v) (by omega)) (b := w.heap.size + 1) (o := 0) (x := .int .i64 0) (by omega)) (b := w.heap.size + 1 + 1) (o := 0) (x := .int .i64 0) (by omega)
  exact ⟨_, results_di _ _ tmps _ _ _ h0 h1 h2 c0 c1 c2, RetEvs.mk _ 0 0 (by rw [hr]) (by rw [hr]) (by rw [hr]; exact Evs.own hV) (((hb.setCell (Nat.le_refl _) _).setCell (Nat.le_add_right _ _) _).setCell (show w.heap.size ≤ w.heap.size + 1 + 1 by omega) _)⟩

/-- The three result variables, as they are made. -/
def vars3 (w : World) : World := ((w.alloc (.cells #[.slice none 0 0] 22)).alloc (.cells #[.int .i64 0] 3)).alloc (.cells #[.int .i64 0] 24)
theorem vars3_size (w : World) : (vars3 w).heap.size = w.heap.size + 3 := by simp [vars3]
theorem vars3_below (w : World) : Below w.heap.size w (vars3 w) := by
  unfold vars3
  refine (((Below.refl _ w).alloc (Nat.le_refl _) _).alloc ?_ _).alloc ?_ _
  all_goals simp
  omega
theorem One.below {w w' : World} {b : Nat} {v : Value} (h : One w b v) (hb : Below w.heap.size w w') : One w' b v := by
  have hlt : b < w.heap.size := World.block_lt_of_cell? w ⟨b, 0, none⟩ h.c
  have hh : w'.heap[b]? = w.heap[b]? := hb.block b hlt
  refine ⟨(hb.cell hlt).trans h.c, ?_⟩
  have := h.f
  simp only [World.frozen?, hh] at this ⊢
  exact this
theorem One.new (w : World) (v : Value) (t : TypeId) : One (w.alloc (.cells #[v] t)) w.heap.size v := by
  exact ⟨new_cell w _ _ 0 _ rfl, zeros_frozen (Below.refl _ _) 0⟩
theorem vars3_one (w : World) : One (vars3 w) w.heap.size (.slice none 0 0) ∧ One (vars3 w) (w.heap.size + 1) (.int .i64 0) ∧ One (vars3 w) (w.heap.size + 2) (.int .i64 0) := by
  refine ⟨((One.new w _ _).alloc _).alloc _, ?_, ?_⟩
  · have h := One.new (w.alloc (.cells #[.slice none 0 0] 22)) (.int .i64 0) 3
    rw [size_new] at h
    exact h.alloc _
  · have h := One.new ((w.alloc (.cells #[.slice none 0 0] 22)).alloc (.cells #[.int .i64 0] 3)) (.int .i64 0) 24
    rw [size_new, size_new] at h
    exact h

set_option maxHeartbeats 1000000 in
theorem diParse_at (s : List UInt8) (w : World) (hs : s.length ≤ maxLen) (hK : KW w) : Calls Tryd.prog 8 #[.string (Ln.bs s)] w (RetEvs w (Di.parseR s)) := by
  have hmf : ∀ (fn : Fn) (first cap : Array Value) (w : World), (Instr.makeFunc fn first cap).run Tryd.prog w = .ok (.func fn first cap) w := fun _ _ _ _ => rfl
  have HS := Lib.hid hs
  have HK := Lib.hid (hK.below (vars3_below w))
  obtain ⟨o0, o1, o2⟩ := vars3_one w
  have O0 := Lib.hid o0
  have O1 := Lib.hid o1
  have O2 := Lib.hid o2
  clear hs hK o0 o1 o2
  by_cases hq : (Ln.splitR s).2 = 0
  · have HQ := Lib.hid hq
    have HL := Lib.hid (Ln.splitR_len s)
    clear hq
    go_enter_defers Tryd.func8, Tryd.ntmps8
    go_wp2_with fail
    refine (linesOf_ok s (vars3 w) HS.out HQ.out).mono ?_
    rintro e w1 ⟨v1, rfl, hs1, hb1⟩
    have S1 := Lib.hid hs1
    have B1 := Lib.hid hb1
    clear hs1 hb1
    go_wp2_with fail
    refine (eventsOf_at (Ln.splitR s).1 v1 w1 S1.out (HK.out.below B1.out) HL.out (fun x hx => Nat.le_trans (Di.line_len s HQ.out x hx) HS.out)).mono ?_
    rintro e w2 ⟨hb2, ⟨hbad, v2, rfl, hown⟩ | ⟨hbad, rfl⟩⟩
    · obtain ⟨A2, cap2, rfl⟩ := own_form hown
      have HR := Lib.hid (Di.parse_ok s HQ.out hbad)
      have B2 := Lib.hid (below_all B1.out hb2)
      have V2 := Lib.hid (own_less (show w.heap.size + 3 ≤ w1.heap.size from by rw [← vars3_size]; exact B1.out.size) hown)
      have D0 := Lib.hid (O0.out.below B2.out)
      have D1 := Lib.hid (O1.out.below B2.out)
      have D2 := Lib.hid (O2.out.below B2.out)
      clear hbad hb2 hown
      have c0 := D0.out.c
      have c1 := D1.out.c
      have c2 := D2.out.c
      have f0 := D0.out.f
      have f1 := D1.out.f
      have f2 := D2.out.f
      go_wp2_with fail
      exact end_ok _ HR.out (below_all (vars3_below w) B2.out) D0.out D1.out D2.out V2.out rfl rfl rfl
    · have HR := Lib.hid (Di.parse_bad s HQ.out hbad)
      have B2 := Lib.hid (below_all B1.out hb2)
      clear hbad hb2
      unfold thrown
      go_wp2_with fail
      exact end_bad _ HR.out (below_all (vars3_below w) B2.out) (O0.out.below B2.out) (O1.out.below B2.out) (O2.out.below B2.out) rfl rfl rfl
  · have HQ := Lib.hid hq
    clear hq
    go_enter_defers Tryd.func8, Tryd.ntmps8
    go_wp2_with fail
    refine (linesOf_bad s (vars3 w) HS.out HQ.out).mono ?_
    rintro e w1 ⟨rfl, hb1⟩
    have B1 := Lib.hid hb1
    clear hb1
    unfold thrown
    go_wp2_with fail
    exact end_bad _ (Di.parse_split s HQ.out) (below_all (vars3_below w) B1.out) (O0.out.below B1.out) (O1.out.below B1.out) (O2.out.below B1.out) rfl rfl rfl
end Go.Proofs.YtpicoccpgpmfhaaDoor
