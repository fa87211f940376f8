/-
  What hist.Parse answers: Hi.parseR, the history of a text, or where it is wrong, and how; what was in memory stays as it was.
  Conditions: the text is no longer than any string can be; event.kindWords holds its words.
-/
import Derived.Test.YtfjamdpgbbnmcaaGreatDoorHiRange
import Derived.Test.YtfjamdpgbbnmcaaGreatDoorHiIter
import Derived.Test.YtfjamdpgbbnmcaaGreatDoorHiParse
import Derived.Test.YtfjamdpgbbnmcaaGreatDoorSoAll
import Derived.Test.YtfjamdpgbbnmcaaGreatDoorGrAll
import Derived.Test.YtfjamdpgbbnmcaaGreatDoorDiAll
import Derived.Shelf.Abstract
set_option maxRecDepth 4000
namespace Go.Proofs.YtfjamdpgbbnmcaaGreatDoor
open Go.RowKit

attribute [local go_sem] Oper.semAt_some

theorem hSteps_at (s : Value) (b : Nat) (w : World) (hs : ∃ x, s = .string x) : Calls Tryz.prog 13 #[s, .pointer (some ⟨b, 0, none⟩)] w fun e w' => e = .returned (.func (.func 28) #[] #[.pointer (some ⟨w.heap.size, 0, none⟩), .pointer (some ⟨w.heap.size + 1, 0, none⟩)]) ∧ w' = (w.alloc (.cells #[s] 9)).alloc (.cells #[.pointer (some ⟨b, 0, none⟩)] 44) := by
  have hmf : ∀ (fn : Fn) (first cap : Array Value) (w : World), (Instr.makeFunc fn first cap).run Tryz.prog w = .ok (.func fn first cap) w := fun _ _ _ _ => rfl
  obtain ⟨x, rfl⟩ := hs
  go_enter Tryz.func13, Tryz.ntmps13
  go_wp2_with fail
  go_ret
  exact ⟨rfl, rfl⟩

/-- Parse's variables while its loop runs: the three results, the history that is to be filled, and what the iterator has captured. -/
structure VarsAt (w : World) (s : List UInt8) (u : Value) (W : World) : Prop where
  below : Below w.heap.size w W
  r0 : Boxed W w.heap.size 24 (.slice none 0 0)
  r1 : Boxed W (w.heap.size + 1) 3 (.int .i64 0)
  r2 : Boxed W (w.heap.size + 2) 27 (.int .i64 0)
  h : Boxed W (w.heap.size + 3) 24 u
  text : Boxed W (w.heap.size + 4) 9 (.string (Ln.bs s))
  ptr : Boxed W (w.heap.size + 5) 44 (.pointer (some ⟨w.heap.size + 3, 0, none⟩))
theorem Boxed.later {W W' : World} {b : Nat} {t : TypeId} {v : Value} (h : Boxed W b t v) (hb : Below W.heap.size W W') : Boxed W' b t v := (hb.block _ h.lt).trans h
theorem VarsAt.later {w : World} {s : List UInt8} {u : Value} {W W' : World} (h : VarsAt w s u W) (hb : Below W.heap.size W W') : VarsAt w s u W' :=
  ⟨below_all h.below hb, Boxed.later h.r0 hb, Boxed.later h.r1 hb, Boxed.later h.r2 hb, Boxed.later h.h hb, Boxed.later h.text hb, Boxed.later h.ptr hb⟩
theorem vars_own (w : World) (s : List UInt8) (u : Value) (B : Nat) (hB : w.heap.size ≤ B) : OwnFrom B (fun (_ : Unit) => VarsAt w s u) := fun _ _ _ _ h hg hr =>
  ⟨below_last hg hr (Nat.le_refl _) hB h.below, boxes_last hg hr h.r0, boxes_last hg hr h.r1, boxes_last hg hr h.r2, boxes_last hg hr h.h, boxes_last hg hr h.text, boxes_last hg hr h.ptr⟩
/-- Where a round has left: the results are laid. -/
def LeftAt (w : World) (x : Int × Int) (W : World) : Prop :=
  x.2 ≠ 0 ∧ Below w.heap.size w W ∧ Boxed W w.heap.size 24 (.slice none 0 0) ∧ Boxed W (w.heap.size + 1) 3 (.int .i64 x.1) ∧ Boxed W (w.heap.size + 2) 27 (.int .i64 x.2)
theorem left_own (w : World) (B : Nat) (hB : w.heap.size ≤ B) : OwnFrom B (LeftAt w) := fun _ _ _ _ h hg hr =>
  ⟨h.1, below_last hg hr (Nat.le_refl _) hB h.2.1, boxes_last hg hr h.2.2.1, boxes_last hg hr h.2.2.2.1, boxes_last hg hr h.2.2.2.2⟩
/-- The loop has come to its end: the history is there, all its rows lie in memory beyond the variables. -/
def FullAt (w : World) (s : List UInt8) (W : World) : Prop :=
  ∃ v p, VarsAt w s v W ∧ OwnTxns 38 3 40 W (w.heap.size + 6) v p ∧ p.map (·.1) = (Hi.parseR s).1 ∧ (Hi.parseR s).2.1 = 0 ∧ (Hi.parseR s).2.2 = 0
theorem own_last {B : Nat} {X Y : World} {row : Option Nat} (hg : X.grownBy Y row) (hr : ∀ r, row = some r → B ≤ r ∧ ∃ o : Obj, X.heap[r]? = some o ∧ o.isCells = false) {base size n : Nat} {e : TypeId} {v : Value} {xs : List Value} (h : X.ownsRow base e size v n xs) : Y.ownsRow base e size v n xs := by
  refine h.kept hg ?_
  rcases h.2 with ⟨rfl, _⟩ | ⟨g, cap, cur, rfl, _, hgb, _⟩
  · exact .inl rfl
  · refine .inr fun e' => ?_
    obtain ⟨_, o, ho, hc⟩ := hr g e'.symm
    rw [hgb] at ho
    cases ho
    cases hc
theorem full_own (w : World) (s : List UInt8) (B : Nat) (hB : w.heap.size ≤ B) : OwnFrom B (fun (_ : Unit) => FullAt w s) := fun _ X Y row h hg hr => by
  obtain ⟨v, p, h1, h2, h3⟩ := h
  exact ⟨v, p, vars_own w s v B hB () X Y row h1 hg hr, ⟨own_last hg hr h2.row, fun x hx => own_last hg hr (h2.writes x hx), fun x hx => own_last hg hr (h2.reads x hx)⟩, h3⟩

/-! Parse's answer, by what each layer says. -/
namespace Hi
theorem parsed_right (s : List UInt8) : ∀ e ∈ (Di.parseR s).1, Ev.right e = true := by
  intro e he
  by_cases h : (Di.parseR s).2.2 = 0
  · obtain ⟨_, h2, h3⟩ := Di.parse_yes s h
    rw [h3] at he
    obtain ⟨x, hx, rfl⟩ := List.mem_map.1 he
    exact (Ev.parse_own x ((Di.bad_zero _).1 h2 x hx)).1
  · rw [Di.parse_none s h] at he; cases he
theorem parsed_wf (s : List UInt8) : ∀ e ∈ (Di.parseR s).1, evWf e := fun e he => by
  have h := (Ev.right_iff e).1 (parsed_right s e he)
  exact WalkArith.wf_i64 (by omega)
/-- Where a transaction begins. -/
theorem go_first (l : List Ev.Event) : ∀ (i : Nat) (st : List (Gr.Tx × Bool)), (∀ x ∈ st, 0 ≤ x.1.first ∧ x.1.first < (i : Int)) → ∀ x ∈ Gr.go i st l, 0 ≤ x.1.first ∧ x.1.first < ((i + l.length : Nat) : Int) := by
  induction l with
  | nil => intro i st h x hx; exact h x hx
  | cons e r ih =>
    intro i st h x hx
    have hu : ∀ f : Gr.Tx → Gr.Tx × Bool, (∀ t, (f t).1.first = t.first) → ∀ y ∈ Gr.upd st e.session f, 0 ≤ y.1.first ∧ y.1.first < ((i + 1 : Nat) : Int) := fun f hf y hy => by
      obtain ⟨z, hz, rfl⟩ := List.mem_map.1 hy
      have := h z hz
      split
      · rw [hf]; omega
      · omega
    have key := ih (i + 1) (Gr.next i st e) (fun y hy => by
      unfold Gr.next at hy
      split at hy
      · rcases List.mem_append.1 hy with q | q
        · have := h y q; omega
        · rw [List.mem_singleton.1 q]; dsimp only; omega
      · split at hy
        · exact hu _ (fun _ => rfl) y hy
        · exact hu _ (fun _ => rfl) y hy) x hx
    rw [List.length_cons]
    omega
/-- What was grouped is small. -/
theorem group_small (l : List Ev.Event) (h : (Gr.groupR l).2.2 = 0) : (Gr.groupR l).1.length ≤ 32 ∧ ∀ t ∈ (Gr.groupR l).1, t.ops.length ≤ l.length ∧ 0 ≤ t.first ∧ t.first < (l.length : Int) := by
  obtain ⟨h1, h2⟩ := group_none l h
  obtain ⟨c1, c2, c3⟩ := Gr.counts l h1
  rw [h2]
  refine ⟨by rw [List.length_map, c2]; exact c3, fun t ht => ?_⟩
  obtain ⟨x, hx, rfl⟩ := List.mem_map.1 ht
  have hf := go_first l 0 [] (fun y hy => by cases hy) x hx
  refine ⟨?_, hf.1, by have := hf.2; omega⟩
  have hk := kinds_len l
  have hle : x.1.ops.length ≤ ((Gr.go 0 [] l).map fun y => y.1.ops.length).sum := by
    have : ∀ m : List (Gr.Tx × Bool), x ∈ m → x.1.ops.length ≤ (m.map fun y => y.1.ops.length).sum := by
      intro m
      induction m with
      | nil => intro q; cases q
      | cons y m ih =>
        intro q
        rw [List.map_cons, List.sum_cons]
        rcases List.mem_cons.1 q with rfl | q
        · omega
        · have := ih q; omega
    exact this _ hx
  have : ((Gr.go 0 [] l).map fun y => y.1.ops.length).sum = Gr.keyed l := c1
  omega
theorem group_place (l : List Ev.Event) : 0 ≤ (Gr.groupR l).2.1 ∧ (Gr.groupR l).2.1 ≤ (l.length : Int) := by
  cases hq : Gr.run 0 [] l with
  | none => rw [Gr.group_ok l hq]; dsimp only; omega
  | some p =>
    obtain ⟨k, q⟩ := p
    rw [Gr.group_bad l k q hq]
    have := Gr.run_some 0 [] l k q hq
    dsimp only
    omega
theorem hist_place (l : List Gr.Tx) (h : (So.histR l).2.2 ≠ 0) : ∃ k, k < l.length ∧ (So.histR l).2.1 = (k : Int) := by
  rcases So.hist_cases l with q | ⟨hl, q | ⟨p, i, q1, q2, q3, q4, q5⟩⟩
  · exact ⟨0, by omega, by rw [So.hist_many l q]; rfl⟩
  · rw [So.hist_ok l hl q] at h; exact absurd rfl h
  · exact ⟨i, q2, by rw [So.hist_bad l hl p i q1 q2 q3 q4 q5]⟩
theorem first_at (l : List Gr.Tx) (k : Nat) (hk : k < l.length) : firstOf l (k : Int) = l[k].first := by rw [firstOf, Int.toNat_natCast, List.getElem?_eq_getElem hk]
theorem parse_one {s : List UInt8} (h : (Di.parseR s).2.2 ≠ 0) : parseR s = ([], (Di.parseR s).2.1, (Di.parseR s).2.2) := by rw [parseR, if_pos h]
theorem parse_two {s : List UInt8} (h : (Di.parseR s).2.2 = 0) (h2 : (Gr.groupR (Di.parseR s).1).2.2 ≠ 0) : parseR s = ([], (Gr.groupR (Di.parseR s).1).2.1 + 1, (Gr.groupR (Di.parseR s).1).2.2) := by
  rw [parseR, if_neg (by omega), if_pos h2]
theorem parse_three {s : List UInt8} (h : (Di.parseR s).2.2 = 0) (h2 : (Gr.groupR (Di.parseR s).1).2.2 = 0) (h3 : (So.histR (Gr.groupR (Di.parseR s).1).1).2.2 ≠ 0) :
    parseR s = ([], firstOf (Gr.groupR (Di.parseR s).1).1 (So.histR (Gr.groupR (Di.parseR s).1).1).2.1 + 1, (So.histR (Gr.groupR (Di.parseR s).1).1).2.2) := by
  rw [parseR, if_neg (by omega), if_neg (by omega), if_pos h3]
theorem parse_all {s : List UInt8} (h : (Di.parseR s).2.2 = 0) (h2 : (Gr.groupR (Di.parseR s).1).2.2 = 0) (h3 : (So.histR (Gr.groupR (Di.parseR s).1).1).2.2 = 0) : parseR s = ((So.histR (Gr.groupR (Di.parseR s).1).1).1, 0, 0) := by
  rw [parseR, if_neg (by omega), if_neg (by omega), if_neg (by omega)]
end Hi

theorem Booked.set {n : Nat} {r : Loop} {W : World} (h : Booked n r W) (b : Nat) (hb : b < n) (v : Value) : Booked n r (W.setCell ⟨b, 0, none⟩ v) :=
  ⟨(Below.heap_setCell W ⟨b, 0, none⟩ v n (by show n ≠ b; omega)).trans h.1, (Below.heap_setCell W ⟨b, 0, none⟩ v (n + 1) (by show n + 1 ≠ b; omega)).trans h.2⟩
theorem VarsAt.put {w : World} {s : List UInt8} {u : Value} {W : World} (h : VarsAt w s u W) (v : Value) : VarsAt w s v (W.setCell ⟨w.heap.size + 3, 0, none⟩ v) :=
  ⟨h.below.setCell (p := ⟨w.heap.size + 3, 0, none⟩) (by simp) v, Boxed.other h.r0 (by omega) v, Boxed.other h.r1 (by omega) v, Boxed.other h.r2 (by omega) v, Boxed.set v h.h, Boxed.other h.text (by omega) v, Boxed.other h.ptr (by omega) v⟩
theorem txs_at {w : World} {A : Option Addr} {n c : Nat} {l : List Gr.Tx} (h : Txs w (.slice A n c) l) (k : Nat) (hk : k < l.length) : ∃ (ad : Addr) (u : Value), A = some ad ∧ n = l.length ∧ TxIn w ad k l[k] u := by
  obtain ⟨A', c', e, hh⟩ := h.spelled
  cases e
  obtain ⟨ad, u, e, _, hT, _⟩ := hh k hk
  exact ⟨ad, u, e, rfl, hT⟩

set_option maxHeartbeats 1000000 in
set_option maxRecDepth 100000 in
theorem steps_in (s : List UInt8) (w : World) (hs : s.length ≤ maxLen) (hK : KW w) (n : Nat) (ready out : Loop) (W : World)
    (hY : ∀ (x : Int × Int) W, VarsAt w s (.slice none 0 0) W → Booked n ready W → YieldAt Fence.wide 1 Tryz.prog (n + 1) #[.int .i64 x.1, .int .i64 x.2] W (Round n (fun x : Int × Int => x.2 = 0) (LeftAt w) out x W))
    (hV : VarsAt w s (.slice none 0 0) W) (hb : Booked n ready W) (hn : w.heap.size + 6 ≤ n) :
    CallsIn Fence.wide 2 Tryz.prog 28 #[.func (.yield (n + 1)) #[] #[], .pointer (some ⟨w.heap.size + 4, 0, none⟩), .pointer (some ⟨w.heap.size + 5, 0, none⟩)] W fun e W' => (∃ v, e = .returned v) ∧
      ((FullAt w s W' ∧ Booked n ready W') ∨ ∃ x : Int × Int, (Hi.parseR s = ([], x.1, x.2)) ∧ LeftAt w x W' ∧ Booked n out W') := by
  refine callsIn_of_wp Tryz.func28 rfl trivial ?_ rfl
  simp only [Tryz.ntmps28, List.size_toArray, List.length_cons, List.length_nil, Nat.reduceAdd, Nat.reduceSub, Array.replicate_succ, Array.replicate_zero, List.push_toArray, List.append_toArray, List.nil_append, List.cons_append]
  have ct := hV.text.cell
  have HK := Lib.hid (hK.below hV.below)
  have HV := Lib.hid hV
  have HBK := Lib.hid hb
  have HY := Lib.hid hY
  have HN := Lib.hid hn
  clear hV hb hY hn hK
  gi_wp2_with fail
  refine ⟨trivial, ?_⟩
  refine (callsIn_wide.2 (diParse_at s _ hs HK.out)).mono ?_
  rintro e w1 ⟨v1, rfl, hv1, hb1⟩
  have HV1 := Lib.hid (HV.out.later hb1)
  have HBK1 := Lib.hid (HBK.out.below hb1)
  have HE1 := Lib.hid hv1
  obtain ⟨A1, c1, rfl, _⟩ := hv1.spelled
  clear hv1 hb1 HV HBK ct HK
  obtain ⟨fn, tmps, assign, body, hy, hR⟩ := HY.out ((Di.parseR s).2.1, (Di.parseR s).2.2) w1 HV1.out HBK1.out
  dsimp only at hy
  have HR := Lib.hid hR
  clear hR
  gi_wp2_with fail
  refine HR.out.mono ?_
  clear HR hy
  rintro e W1 (⟨rfl, hgo, rfl⟩ | ⟨rfl, hleft, hbk⟩)
  rotate_left
  · have HP := Lib.hid (Hi.parse_one hleft.1)
    have HL := Lib.hid hleft
    have HBO := Lib.hid hbk
    clear hleft hbk
    gi_wp2_with fail
    refine bodyPost_ret (results_none rfl _ _ _) rfl ?_
    exact ⟨⟨_, rfl⟩, .inr ⟨_, HP.out, HL.out, HBO.out⟩⟩
  have HG := Lib.hid hgo
  have HWF := Lib.hid (Hi.parsed_wf s)
  have HLN := Lib.hid (Di.parse_len s)
  have HGS := Lib.hid (Hi.group_small (Di.parseR s).1)
  have HP2 := Lib.hid (Hi.parse_two (s := s) hgo)
  have HP3 := Lib.hid (Hi.parse_three (s := s) hgo)
  have HP4 := Lib.hid (Hi.parse_all (s := s) hgo)
  clear hgo
  generalize hl0 : (Di.parseR s).1 = l at *
  generalize (Di.parseR s).2.1 = d1 at *
  generalize (Di.parseR s).2.2 = d2 at *
  clear hl0
  gi_wp2_with fail
  refine ⟨trivial, ?_⟩
  refine (callsIn_wide.2 (group_at l _ _ HE1.out (Nat.le_trans HLN.out (by decide)) HWF.out)).mono ?_
  rintro e w2 ⟨v2, rfl, hv2, hb2⟩
  have HV2 := Lib.hid (HV1.out.later hb2)
  have HBK2 := Lib.hid (HBK1.out.below hb2)
  have HE2 := Lib.hid hv2
  obtain ⟨A2, c2, rfl, _⟩ := hv2.spelled
  clear hv2 hb2 HV1 HBK1 HE1 HWF
  have hpl : (Gr.groupR l).2.1 + 1 ≤ 401 ∧ 0 ≤ (Gr.groupR l).2.1 := by
    have := Hi.group_place l
    have := HLN.out
    omega
  generalize hg0 : Gr.groupR l = g at *
  obtain ⟨txs, at2, q2⟩ := g
  dsimp only at *
  obtain ⟨fn, tmps, assign, body, hy, hR⟩ := HY.out (at2 + 1, q2) w2 HV2.out HBK2.out
  dsimp only at hy
  have HR := Lib.hid hR
  clear hR hg0
  gi_wp2_with fail
  refine HR.out.mono ?_
  clear HR hy
  rintro e W2 (⟨rfl, hgo, rfl⟩ | ⟨rfl, hleft, hbk⟩)
  rotate_left
  · have HP := Lib.hid (HP2.out hleft.1)
    have HL := Lib.hid hleft
    have HBO := Lib.hid hbk
    clear hleft hbk
    gi_wp2_with fail
    refine bodyPost_ret (results_none rfl _ _ _) rfl ?_
    exact ⟨⟨_, rfl⟩, .inr ⟨_, HP.out, HL.out, HBO.out⟩⟩
  replace HP3 := Lib.hid (HP3.out hgo)
  replace HP4 := Lib.hid (HP4.out hgo)
  obtain ⟨hg32, hgs⟩ := HGS.out hgo
  have HOP := Lib.hid hgs
  have hl4 := HLN.out
  clear hgo HGS HP2 hpl hgs
  gi_wp2_with fail
  refine ⟨trivial, ?_⟩
  refine (callsIn_wide.2 (hist_own txs _ _ HE2.out (by omega) (fun t ht => by have := (HOP.out t ht).1; omega))).mono ?_
  rintro e w3 ⟨v3, p3, rfl, ho3, hp3, hb3⟩
  have HV3 := Lib.hid (HV2.out.later hb3)
  have HBK3 := Lib.hid (HBK2.out.below hb3)
  have HE3 := Lib.hid (HE2.out.below hb3)
  have HO3 := Lib.hid (ho3.mono (base' := w.heap.size + 6) (by have := HV2.out.ptr.lt; omega))
  have HPM := Lib.hid hp3
  obtain ⟨A3, n3, c3, rfl⟩ := own_any ho3.row
  have HPL := Lib.hid (Hi.hist_place txs)
  clear ho3 hp3 hb3 HV2 HBK2 HE2
  generalize So.histR txs = r at *
  obtain ⟨ts, at3, q3⟩ := r
  dsimp only at *
  have HB4 := Lib.hid (alloc_below w3 (.cells #[.slice A3 n3 c3] 24))
  have HV4 := Lib.hid (HV3.out.later HB4.out)
  have HBK4 := Lib.hid (HBK3.out.below HB4.out)
  have HE4 := Lib.hid (HE3.out.below HB4.out)
  have HO4 := Lib.hid (HO3.out.below HB4.out)
  have b4 := (Boxed.new w3 24 (.slice A3 n3 c3)).cell
  clear HV3 HBK3 HE3 HO3 HB4
  generalize hw4 : w3.alloc (.cells #[.slice A3 n3 c3] 24) = w4 at *
  by_cases h3 : q3 = 0
  · have hq3 : (q3 != 0) = false := by rw [bne_eq_false_iff_eq]; exact h3
    have HP := Lib.hid (HP4.out h3)
    have cp := HV4.out.ptr.cell
    have ch := HV4.out.h.cell
    have fh := HV4.out.h.frozen
    clear h3 HP3 HP4 HPL
    gi_wp2_with fail
    go_end0
    refine ⟨⟨_, rfl⟩, .inl ⟨⟨_, p3, HV4.out.put _, HO4.out.set (a := ⟨w.heap.size + 3, 0, none⟩) (by show w.heap.size + 3 < w.heap.size + 6; omega) _, ?_, ?_, ?_⟩, HBK4.out.set _ (by have := HN.out; omega) _⟩⟩
    · rw [HP.out]; exact HPM.out
    · rw [HP.out]
    · rw [HP.out]
  · have hq3 : (q3 != 0) = true := bne_iff_ne.2 h3
    have HP := Lib.hid (HP3.out h3)
    obtain ⟨k, hk, rfl⟩ := HPL.out h3
    obtain ⟨ad, u, rfl, _, hT⟩ := txs_at HE4.out k hk
    have hfk := (HOP.out _ (List.getElem_mem hk)).2
    rw [Hi.first_at txs k hk] at HP
    obtain ⟨_, _, k2, _⟩ := hT
    generalize txs[k].first = f at *
    obtain ⟨fn, tmps, assign, body, hy, hR⟩ := HY.out (f + 1, q3) w4 HV4.out HBK4.out
    dsimp only at hy
    have HR := Lib.hid hR
    have HH3 := Lib.hid h3
    clear hR HP3 HP4 HPL h3 HO4 HOP
    gi_wp2_with fail
    refine HR.out.mono ?_
    clear HR hy
    rintro e W4 (⟨rfl, hgo, rfl⟩ | ⟨rfl, hleft, hbk⟩)
    · exact absurd hgo HH3.out
    have HL := Lib.hid hleft
    have HBO := Lib.hid hbk
    clear hleft hbk
    gi_wp2_with fail
    refine bodyPost_ret (results_none rfl _ _ _) rfl ?_
    exact ⟨⟨_, rfl⟩, .inr ⟨_, HP.out, HL.out, HBO.out⟩⟩

theorem six_boxes (w : World) (o0 o1 o2 o3 o4 o5 : Obj) : (((((((w.alloc o0).alloc o1).alloc o2).alloc o3).alloc o4).alloc o5).heap.size = w.heap.size + 6) ∧ ((((((w.alloc o0).alloc o1).alloc o2).alloc o3).alloc o4).alloc o5).heap[w.heap.size + 1]? = some o1 := by
  have e : ((((((w.alloc o0).alloc o1).alloc o2).alloc o3).alloc o4).alloc o5).heap = (((((w.heap.push o0).push o1).push o2).push o3).push o4).push o5 := rfl
  rw [e]
  simp only [Array.getElem?_push, Array.size_push]
  refine ⟨trivial, ?_⟩
  repeat (first | rw [if_neg (by omega)] | rw [if_pos trivial] | rw [if_pos (by omega)])
theorem vars_start (w : World) (s : List UInt8) (W : World) (hW : ((((((w.alloc (.cells #[.slice none 0 0] 24)).alloc (.cells #[.int .i64 0] 3)).alloc (.cells #[.int .i64 0] 27)).alloc (.cells #[.slice none 0 0] 24)).alloc (.cells #[.string (Ln.bs s)] 9)).alloc (.cells #[.pointer (some ⟨w.heap.size + 3, 0, none⟩)] 44)) = W) :
    VarsAt w s (.slice none 0 0) W ∧ W.heap.size = w.heap.size + 6 := by
  obtain ⟨h6, b0, b2, b3, b4, b5⟩ := six_blocks w (.cells #[.slice none 0 0] 24) (.cells #[.int .i64 0] 3) (.cells #[.int .i64 0] 27) (.cells #[.slice none 0 0] 24) (.cells #[.string (Ln.bs s)] 9) (.cells #[.pointer (some ⟨w.heap.size + 3, 0, none⟩)] 44)
  obtain ⟨_, b1⟩ := six_boxes w (.cells #[.slice none 0 0] 24) (.cells #[.int .i64 0] 3) (.cells #[.int .i64 0] 27) (.cells #[.slice none 0 0] 24) (.cells #[.string (Ln.bs s)] 9) (.cells #[.pointer (some ⟨w.heap.size + 3, 0, none⟩)] 44)
  rw [hW] at h6 b0 b1 b2 b3 b4 b5
  refine ⟨⟨?_, b0, b1, b2, b3, b4, b5⟩, h6⟩
  rw [← hW]
  exact below_new (below_new (below_new (below_new (below_new (alloc_below _ _)))))

/-- Three results behind one another. -/
theorem res_set (W : World) (b : Nat) (u v x : Value) (D : Nat) (o : Obj) (h : W.heap[D]? = some o) (hD : b + 2 < D) : (((W.setCell ⟨b, 0, none⟩ u).setCell ⟨b + 1, 0, none⟩ v).setCell ⟨b + 2, 0, none⟩ x).heap[D]? = some o :=
  (Below.heap_setCell _ ⟨b + 2, 0, none⟩ x D (by show D ≠ b + 2; omega)).trans ((Below.heap_setCell _ ⟨b + 1, 0, none⟩ v D (by show D ≠ b + 1; omega)).trans ((Below.heap_setCell _ ⟨b, 0, none⟩ u D (by show D ≠ b; omega)).trans h))
theorem res_below {w W : World} (h : Below w.heap.size w W) (u v x : Value) : Below w.heap.size w (((W.setCell ⟨w.heap.size, 0, none⟩ u).setCell ⟨w.heap.size + 1, 0, none⟩ v).setCell ⟨w.heap.size + 2, 0, none⟩ x) :=
  ((h.setCell (p := ⟨w.heap.size, 0, none⟩) (Nat.le_refl _) u).setCell (p := ⟨w.heap.size + 1, 0, none⟩) (by simp) v).setCell (p := ⟨w.heap.size + 2, 0, none⟩) (by simp) x
theorem res_boxes {W : World} {b : Nat} {t0 t1 t2 : TypeId} {a0 a1 a2 : Value} (h0 : Boxed W b t0 a0) (h1 : Boxed W (b + 1) t1 a1) (h2 : Boxed W (b + 2) t2 a2) (u v x : Value) :
    Boxed (((W.setCell ⟨b, 0, none⟩ u).setCell ⟨b + 1, 0, none⟩ v).setCell ⟨b + 2, 0, none⟩ x) b t0 u ∧ Boxed (((W.setCell ⟨b, 0, none⟩ u).setCell ⟨b + 1, 0, none⟩ v).setCell ⟨b + 2, 0, none⟩ x) (b + 1) t1 v ∧ Boxed (((W.setCell ⟨b, 0, none⟩ u).setCell ⟨b + 1, 0, none⟩ v).setCell ⟨b + 2, 0, none⟩ x) (b + 2) t2 x :=
  ⟨Boxed.other (Boxed.other (Boxed.set u h0) (by omega) v) (by omega) x, Boxed.other (Boxed.set v (Boxed.other h1 (by omega) u)) (by omega) x, Boxed.set x (Boxed.other (Boxed.other h2 (by omega) u) (by omega) v)⟩
theorem results_parse (X : World) (b : Nat) (tmps : Array Value) (x : Value) (n q : Int) (hp : tmps.getD 2 undef = .pointer (some ⟨b, 0, none⟩)) (hn : tmps.getD 3 undef = .pointer (some ⟨b + 1, 0, none⟩)) (hq : tmps.getD 4 undef = .pointer (some ⟨b + 2, 0, none⟩))
    (h0 : X.cell? ⟨b, 0, none⟩ = some x) (h1 : X.cell? ⟨b + 1, 0, none⟩ = some (.int .i64 n)) (h2 : X.cell? ⟨b + 2, 0, none⟩ = some (.int .i64 q)) :
    (results Tryz.f6 tmps).run Tryz.prog X = .ok (.tuple #[.agg #[x], .int .i64 n, .int .i64 q]) X := by
  rw [Array.getD_eq_getD_getElem?] at hp hn hq
  simp [results, Tryz.results6, hp, hn, hq, asAddr, go_sem, h0, h1, h2]

set_option maxHeartbeats 1000000 in
set_option maxRecDepth 100000 in
theorem hParse_at (s : List UInt8) (w : World) (hs : s.length ≤ maxLen) (hK : KW w) : Calls Tryz.prog 6 #[.string (Ln.bs s)] w (RetHist w (Hi.parseR s)) := by
  refine (callsIn_wide (n := 3)).1 ?_
  refine callsIn_of_wp_marks Tryz.func6 rfl trivial ?_ rfl
  simp only [Tryz.ntmps6, List.size_toArray, List.length_cons, List.length_nil, Nat.reduceAdd, Nat.reduceSub, Array.replicate_succ, Array.replicate_zero, List.push_toArray, List.append_toArray, List.nil_append, List.cons_append]
  have HK := Lib.hid hK
  clear hK
  gi_wp2_with fail
  refine ⟨trivial, ?_⟩
  refine (callsIn_wide.2 (hSteps_at _ _ _ ⟨_, rfl⟩)).mono ?_
  rintro e w1 ⟨rfl, rfl⟩
  gi_wp2_with fail
  simp only [Nat.add_assoc, Nat.reduceAdd]
  generalize hW0 : ((((((w.alloc (.cells #[.slice none 0 0] 24)).alloc (.cells #[.int .i64 0] 3)).alloc (.cells #[.int .i64 0] 27)).alloc (.cells #[.slice none 0 0] 24)).alloc (.cells #[.string (Ln.bs s)] 9)).alloc (.cells #[.pointer (some ⟨w.heap.size + 3, 0, none⟩)] 44)) = W0
  obtain ⟨hV0, hsz⟩ := vars_start w s W0 hW0
  have HV0 := Lib.hid hV0
  have HSZ := Lib.hid hsz
  have HS := Lib.hid hs
  clear hV0 hsz hW0 hs
  refine wp_range rfl (by omega) (gf := 28) (lb := #[.pointer (some ⟨w.heap.size + 4, 0, none⟩), .pointer (some ⟨w.heap.size + 5, 0, none⟩)]) rfl trivial (enters_of Tryz.func28 (by kernel_rfl) rfl)
    (encs := fun x : Int × Int => #[.int .i64 x.1, .int .i64 x.2]) (fun _ => rfl) (VarsAt w s (.slice none 0 0)) (fun x => x.2 = 0) (LeftAt w) (fun x => Hi.parseR s = ([], x.1, x.2)) (FullAt w s)
    (vars_own w s _ _ (by rw [HSZ.out]; omega)) (left_own w _ (by rw [HSZ.out]; omega)) (full_own w s _ (by rw [HSZ.out]; omega)) HV0.out
    (fun x => { tmps := #[.string (Ln.bs s), undef, .pointer (some ⟨w.heap.size, 0, none⟩), .pointer (some ⟨w.heap.size + 1, 0, none⟩), .pointer (some ⟨w.heap.size + 2, 0, none⟩), .pointer (some ⟨w.heap.size + 3, 0, none⟩), .int .i64 x.1, .int .i64 x.2, .string (Ln.bs s), .func (.func 28) #[] #[.pointer (some ⟨w.heap.size + 4, 0, none⟩), .pointer (some ⟨w.heap.size + 5, 0, none⟩)], .int .i64 x.1, .int .i64 x.2, undef, undef, undef, undef, undef, undef], defers := [] }) ?assign ?body ?iter ?done ?stop
  case assign =>
    intro l x W K hK
    gi_wp2_with fail
    exact hK
  case body =>
    rintro l ⟨at1, q⟩ W hV
    have HV := Lib.hid hV
    have c0 := hV.r0.cell
    have f0 := hV.r0.frozen
    have c1 := hV.r1.cell
    have f1 := hV.r1.frozen
    have c2 := hV.r2.cell
    have f2 := hV.r2.frozen
    clear hV
    by_cases h : q = 0
    · subst h
      gi_wp2_with fail
      exact ⟨rfl, rfl⟩
    · have hq : (q != 0) = true := bne_iff_ne.2 h
      have HQ := Lib.hid h
      clear h
      gi_wp2_with fail
      obtain ⟨k0, k1, k2⟩ := res_boxes HV.out.r0 HV.out.r1 HV.out.r2 (.slice none 0 0) (.int .i64 at1) (.int .i64 q)
      exact ⟨(((KeepsOthers.setCell _ _ _).trans (KeepsOthers.setCell _ _ _)).trans (KeepsOthers.setCell _ _ _)).from _, HQ.out, res_below HV.out.below _ _ _, k0, k1, k2⟩
  case iter =>
    intro ready out W hY hV hb
    exact steps_in s w HS.out HK.out W0.heap.size ready out W hY hV hb (by rw [HSZ.out]; omega)
  case done =>
    rintro W ⟨v, p, hV, ho, hp, h1, h2⟩ hD
    obtain ⟨A3, n3, c3, rfl⟩ := own_any ho.row
    have HV := Lib.hid hV
    have HO := Lib.hid ho
    have HP := Lib.hid hp
    have HA := Lib.hid (And.intro h1 h2)
    have HD := Lib.hid hD
    have c0 := hV.r0.cell
    have f0 := hV.r0.frozen
    have c1 := hV.r1.cell
    have f1 := hV.r1.frozen
    have c2 := hV.r2.cell
    have f2 := hV.r2.frozen
    have ch := hV.h.cell
    clear hV ho hp h1 h2 hD
    gi_wp2_with fail
    have hD' := res_set W w.heap.size (.slice A3 n3 c3) (.int .i64 0) (.int .i64 0) W0.heap.size _ HD.out (by rw [HSZ.out]; omega)
    refine ⟨by simp, .inl ⟨_, _, rfl, run_takeDeferred hD', ?_⟩⟩
    obtain ⟨k0, k1, k2⟩ := res_boxes HV.out.r0 HV.out.r1 HV.out.r2 (.slice A3 n3 c3) (.int .i64 0) (.int .i64 0)
    have hB3 := res_below HV.out.below (.slice A3 n3 c3) (.int .i64 0) (.int .i64 0)
    have hO3 := ((HO.out.set (a := ⟨w.heap.size, 0, none⟩) (by show w.heap.size < w.heap.size + 6; omega) (.slice A3 n3 c3)).set (a := ⟨w.heap.size + 1, 0, none⟩) (by show w.heap.size + 1 < w.heap.size + 6; omega) (.int .i64 0)).set (a := ⟨w.heap.size + 2, 0, none⟩) (by show w.heap.size + 2 < w.heap.size + 6; omega) (.int .i64 0)
    generalize ((W.setCell ⟨w.heap.size, 0, none⟩ (.slice A3 n3 c3)).setCell ⟨w.heap.size + 1, 0, none⟩ (.int .i64 0)).setCell ⟨w.heap.size + 2, 0, none⟩ (.int .i64 0) = X at *
    have hg := grownBy_putObj' X W0.heap.size (.deferred none)
    have hr : ∀ r, some W0.heap.size = some r → W0.heap.size ≤ r ∧ ∃ o : Obj, X.heap[r]? = some o ∧ o.isCells = false := fun r e => by cases e; exact ⟨Nat.le_refl _, _, hD', rfl⟩
    refine ⟨_, results_parse _ w.heap.size _ _ 0 0 rfl rfl rfl (boxes_last hg hr k0).cell (boxes_last hg hr k1).cell (boxes_last hg hr k2).cell, .slice A3 n3 c3, ?_, ?_, below_last hg hr (Nat.le_refl _) (by rw [HSZ.out]; omega) hB3⟩
    · rw [HA.out.1, HA.out.2]
    · rw [← HP.out]
      exact (OwnTxns.mk (own_last hg hr hO3.row) (fun x hx => own_last hg hr (hO3.writes x hx)) (fun x hx => own_last hg hr (hO3.reads x hx))).txns
  case stop =>
    rintro ⟨at1, q⟩ W hx ⟨_, hB, k0, k1, k2⟩ hD
    have HX := Lib.hid hx
    clear hx
    gi_wp2_with fail
    refine ⟨by simp, .inl ⟨_, _, rfl, run_takeDeferred hD, ?_⟩⟩
    have hg := grownBy_putObj' W W0.heap.size (.deferred none)
    have hr : ∀ r, some W0.heap.size = some r → W0.heap.size ≤ r ∧ ∃ o : Obj, W.heap[r]? = some o ∧ o.isCells = false := fun r e => by cases e; exact ⟨Nat.le_refl _, _, hD, rfl⟩
    refine ⟨_, results_parse _ w.heap.size _ _ at1 q rfl rfl rfl (boxes_last hg hr k0).cell (boxes_last hg hr k1).cell (boxes_last hg hr k2).cell, .slice none 0 0, ?_, ?_, below_last hg hr (Nat.le_refl _) (by rw [HSZ.out]; omega) hB⟩
    · rw [HX.out]
    · rw [HX.out]
      exact Txns.nil _ _
end Go.Proofs.YtfjamdpgbbnmcaaGreatDoor
