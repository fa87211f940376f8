/-
  What hist's iterators hand out, one by one (slices.Values over a row of integers, keysOf over reads), and what areKeys answers over whatever hands out a row of integers: whether they are keys that rise.
  Conditions: a row has at most 2^32 elements.
-/
import Derived.Test.YtfjamdpgbbnmcaaGreatDoorSoAll
import Derived.RangeFuncNested
import Derived.RangeFuncCalls
import Derived.RangeFuncLeaves
import Derived.OwnWalkIn
import Derived.TacticsInMore
import Derived.LoopNIn
import Derived.LoopIn
set_option maxRecDepth 4000
namespace Go.Proofs.YtfjamdpgbbnmcaaGreatDoor
open Go.RowKit

attribute [local go_sem] Oper.semAt_some

/-! Keys that rise, one more each time. -/
namespace Hi
def lastOr (l : List Int) : Int := l.getLast?.getD (-1)
theorem lastOr_nil : lastOr [] = -1 := rfl
theorem lastOr_snoc (l : List Int) (x : Int) : lastOr (l ++ [x]) = x := by simp [lastOr]
theorem lastOr_top {l : List Int} (h : So.Rises l) : ∀ k ∈ l, k ≤ lastOr l := by
  rcases List.eq_nil_or_concat l with rfl | ⟨p, y, rfl⟩
  · intro k hk; cases hk
  · intro k hk
    rw [List.concat_eq_append] at hk h ⊢
    rw [lastOr_snoc]
    rcases List.mem_append.1 hk with q | q
    · exact Int.le_of_lt ((List.pairwise_append.1 h.2).2.2 k q y (by simp))
    · rw [List.mem_singleton.1 q]; exact Int.le_refl _
theorem lastOr_ge {l : List Int} (h : So.Rises l) : -1 ≤ lastOr l := by
  rcases List.eq_nil_or_concat l with rfl | ⟨p, y, rfl⟩
  · exact Int.le_refl _
  · rw [List.concat_eq_append] at h ⊢
    rw [lastOr_snoc]
    have := (h.1 y (by simp)).1
    omega
theorem rises_snoc {l : List Int} (h : So.Rises l) (x : Int) : So.Rises (l ++ [x]) ↔ lastOr l < x ∧ x < 16 := by
  constructor
  · intro q
    have hx := q.1 x (by simp)
    refine ⟨?_, hx.2⟩
    rcases List.eq_nil_or_concat l with rfl | ⟨p, y, rfl⟩
    · rw [lastOr_nil]; omega
    · rw [List.concat_eq_append] at q ⊢
      rw [lastOr_snoc]
      exact (List.pairwise_append.1 q.2).2.2 y (by simp) x (by simp)
  · rintro ⟨h1, h2⟩
    have h0 := lastOr_ge h
    refine ⟨fun k hk => ?_, List.pairwise_append.2 ⟨h.2, by simp, fun a ha b hb => ?_⟩⟩
    · rcases List.mem_append.1 hk with q | q
      · exact h.1 k q
      · rw [List.mem_singleton.1 q]; omega
    · rw [List.mem_singleton.1 hb]
      have := lastOr_top h a ha
      omega
theorem rises_front {l m : List Int} (h : So.Rises (l ++ m)) : So.Rises l := ⟨fun k hk => h.1 k (List.mem_append.2 (.inl hk)), (List.pairwise_append.1 h.2).1⟩
open Classical in
noncomputable def risesB (l : List Int) : Bool := decide (So.Rises l)
theorem risesB_yes {l : List Int} (h : So.Rises l) : risesB l = true := @decide_eq_true _ (Classical.propDecidable _) h
theorem risesB_no {l : List Int} (h : ¬ So.Rises l) : risesB l = false := @decide_eq_false _ (Classical.propDecidable _) h
theorem risesB_iff (l : List Int) : risesB l = true ↔ So.Rises l := @decide_eq_true_iff _ (Classical.propDecidable _)
end Hi

/-- The function value that is made of gf and lb hands out the integers l, to whatever keeps what lies below block m. -/
def Hands (gf : Nat) (lb : Array Value) (m : Nat) (l : List Int) (w : World) : Prop :=
  SeqStopsK Fence.wide 2 Tryz.prog gf lb (fun x : Int => #[.int .i64 x]) (Below m) (fun ys => ys = l) (fun pre => pre <+: l) l.length w

theorem none_row {P : Nat → Prop} : ∀ r, (none : Option Nat) = some r → P r := fun _ h => by cases h

theorem values_hands (l : List Int) (v : Value) (B : Nat) (w : World) (hv : Ns w v l) (hl : l.length ≤ 4294967296) (hB : B < w.heap.size) (hc : w.cell? ⟨B, 0, none⟩ = some v) :
    Hands 45 #[.pointer (some ⟨B, 0, none⟩)] w.heap.size l w := by
  intro lo J Jx W hW _ _ hY h0
  have hc' := (hW.cell (p := ⟨B, 0, none⟩) hB).trans hc
  obtain ⟨A, c, rfl, hform⟩ := hv.spelled
  have HF := Lib.hid hform
  have HY := Lib.hid hY
  have HW := Lib.hid hW
  clear hform hv hY hW hc
  show CallsIn Fence.wide 2 Tryz.prog 45 #[.func (.yield lo) #[] #[], .pointer (some ⟨B, 0, none⟩)] W _
  refine callsIn_of_wp Tryz.func45 rfl trivial ?_ rfl
  simp only [Tryz.ntmps45, List.size_toArray, List.length_cons, List.length_nil, Nat.reduceAdd, Nat.reduceSub, Array.replicate_succ, Array.replicate_zero, List.push_toArray, List.append_toArray, List.nil_append, List.cons_append]
  gi_wp2_with fail
  gi_loopw [7] (fun i wr => ∃ k : Nat, k ≤ l.length ∧ i = .int .i64 k ∧ Hid (J (l.take k) wr) ∧ Hid (Below w.heap.size w wr)) (fun i _ => l.length - (intOf i).toNat)
  case atStart => exact ⟨0, Nat.zero_le _, rfl, h0, HW.out⟩
  case round =>
    obtain ⟨k, hk, rfl, HJ, HB⟩ := hrel
    by_cases hlt : k < l.length
    · obtain ⟨ad, rfl, hblk, hE⟩ := HF.out k hlt
      obtain ⟨x, hx⟩ : ∃ x, x = l[k]'hlt := ⟨_, rfl⟩
      have HT : Hid (l.take (k + 1) = l.take k ++ [x]) := by rw [hx]; exact List.take_succ_eq_append_getElem hlt
      rw [← hx] at hE
      have hE' := (HB.out.cell (p := ad.add k) (by rw [add_block]; exact hblk)).trans hE
      obtain ⟨fn, tmps, assign, body, hy, hR⟩ := HY.out (l.take k) x wr HJ.out (by rw [List.length_take]; omega)
      have HR := Lib.hid hR
      clear hR hE hx
      gi_wp2_with fail
      refine HR.out.mono ?_
      rintro e W3 (⟨rfl, hJ3, hk3⟩ | ⟨rfl, hJx3⟩)
      · have HJ3 : Hid (J (l.take (k + 1)) W3) := by rw [Hid, HT.out]; exact hJ3
        have HB3 := Lib.hid (HB.out.trans hk3)
        clear hJ3 hk3 hy
        gi_wp2_with fail
        go_roundw
        case rel => exact ⟨k + 1, by omega, by go_num, HJ3, HB3⟩
        case measure => simp [intOf]; omega
      · have HX : Hid (Jx (l.take (k + 1)) W3) := by rw [Hid, HT.out]; exact hJx3
        clear hJx3 hy
        gi_wp2_with fail
        refine bodyPost_ret (results_none rfl _ _ _) rfl ?_
        exact ⟨⟨_, rfl⟩, .inr ⟨_, List.take_prefix _ _, HX.out⟩⟩
    · have HK : Hid (l.take k = l) := List.take_of_length_le (by omega)
      gi_wp2_with fail
      go_end0
      exact ⟨⟨_, rfl⟩, .inl ⟨_, rfl, by rw [← HK.out]; exact HJ.out⟩⟩

theorem keys_hands (l : List (Int × Int)) (v : Value) (B : Nat) (w : World) (hv : Its w v l) (hl : l.length ≤ 4294967296) (hB : B < w.heap.size) (hc : w.cell? ⟨B, 0, none⟩ = some v) :
    Hands 72 #[.pointer (some ⟨B, 0, none⟩)] w.heap.size (l.map (·.1)) w := by
  intro lo J Jx W hW hJ _ hY h0
  have hc' := (hW.cell (p := ⟨B, 0, none⟩) hB).trans hc
  obtain ⟨A, c, rfl, hform⟩ := hv.spelled
  have HF := Lib.hid hform
  have HY := Lib.hid hY
  have HW := Lib.hid hW
  have HA := Lib.hid hJ
  clear hform hv hY hW hc hJ
  show CallsIn Fence.wide 2 Tryz.prog 72 #[.func (.yield lo) #[] #[], .pointer (some ⟨B, 0, none⟩)] W _
  refine callsIn_of_wp Tryz.func72 rfl trivial ?_ rfl
  simp only [Tryz.ntmps72, List.size_toArray, List.length_cons, List.length_nil, Nat.reduceAdd, Nat.reduceSub, Array.replicate_succ, Array.replicate_zero, List.push_toArray, List.append_toArray, List.nil_append, List.cons_append]
  gi_wp2_with fail
  gi_loopw [7] (fun i wr => ∃ k : Nat, k ≤ l.length ∧ i = .int .i64 k ∧ Hid (J ((l.map (·.1)).take k) wr) ∧ Hid (Below w.heap.size w wr)) (fun i _ => l.length - (intOf i).toNat)
  case atStart => exact ⟨0, Nat.zero_le _, rfl, h0, HW.out⟩
  case round =>
    obtain ⟨k, hk, rfl, HJ, HB⟩ := hrel
    by_cases hlt : k < l.length
    · obtain ⟨ad, rfl, hblk, hE⟩ := HF.out k hlt
      obtain ⟨⟨x, y⟩, hx⟩ : ∃ x, x = l[k]'hlt := ⟨_, rfl⟩
      have HT : Hid ((l.map (·.1)).take (k + 1) = (l.map (·.1)).take k ++ [x]) := by
        rw [Hid, List.take_succ_eq_append_getElem (by rw [List.length_map]; exact hlt), List.getElem_map, ← hx]
      rw [← hx] at hE
      obtain ⟨c0, c1⟩ := hE
      have c0' := (HB.out.cell (p := ad.add (k * 2)) (by rw [add_block]; exact hblk)).trans c0
      have c1' := (HB.out.cell (p := ⟨(ad.add (k * 2)).block, (ad.add (k * 2)).off + 1, none⟩) (by rw [add_block]; exact hblk)).trans c1
      have HJ1 := Lib.hid (HA.out _ _ _ none HJ.out (World.grownBy_alloc wr (.cells #[.int .i64 x, .int .i64 y] 40) none) none_row)
      have HB1 := Lib.hid (HB.out.alloc HB.out.size (.cells #[.int .i64 x, .int .i64 y] 40))
      obtain ⟨fn, tmps, assign, body, hy, hR⟩ := HY.out _ x _ HJ1.out (by rw [List.length_take, List.length_map]; omega)
      have HR := Lib.hid hR
      clear hR c0 c1 hx
      gi_wp2_with fail
      refine HR.out.mono ?_
      rintro e W3 (⟨rfl, hJ3, hk3⟩ | ⟨rfl, hJx3⟩)
      · have HJ3 : Hid (J ((l.map (·.1)).take (k + 1)) W3) := by rw [Hid, HT.out]; exact hJ3
        have HB3 := Lib.hid (HB1.out.trans hk3)
        clear hJ3 hk3 hy
        gi_wp2_with fail
        go_roundw
        case rel => exact ⟨k + 1, by omega, by go_num, HJ3, HB3⟩
        case measure => simp [intOf]; omega
      · have HX : Hid (Jx ((l.map (·.1)).take (k + 1)) W3) := by rw [Hid, HT.out]; exact hJx3
        clear hJx3 hy
        gi_wp2_with fail
        refine bodyPost_ret (results_none rfl _ _ _) rfl ?_
        exact ⟨⟨_, rfl⟩, .inr ⟨_, List.take_prefix _ _, HX.out⟩⟩
    · have HK : Hid ((l.map (·.1)).take k = l.map (·.1)) := List.take_of_length_le (by rw [List.length_map]; omega)
      gi_wp2_with fail
      go_end0
      exact ⟨⟨_, rfl⟩, .inl (by rw [← HK.out]; exact HJ.out)⟩

/-- What areKeys holds between two rounds, and where one has left. -/
def KeysAt (w : World) (pre : List Int) (W : World) : Prop :=
  (Boxed W w.heap.size 4 (.bool false) ∧ Boxed W (w.heap.size + 1) 3 (.int .i64 (Hi.lastOr pre)) ∧ So.Rises pre) ∧ Below w.heap.size w W
def KeysOut (w : World) (c : Code) (pre : List Int) (W : World) : Prop :=
  (c = .ret ∧ Boxed W w.heap.size 4 (.bool false) ∧ ¬ So.Rises pre) ∧ Below w.heap.size w W
theorem boxes_last {B : Nat} {X Y : World} {row : Option Nat} (hg : X.grownBy Y row) (hr : ∀ r, row = some r → B ≤ r ∧ ∃ o : Obj, X.heap[r]? = some o ∧ o.isCells = false) {b : Nat} {t : TypeId} {v : Value} (h : Boxed X b t v) : Boxed Y b t v :=
  boxed_own b t (fun _ : Unit => v) () X Y row h hg (fun r e => (hr r e).2)
theorem below_last {n B : Nat} {w X Y : World} {row : Option Nat} (hg : X.grownBy Y row) (hr : ∀ r, row = some r → B ≤ r ∧ ∃ o : Obj, X.heap[r]? = some o ∧ o.isCells = false) (hn : n ≤ w.heap.size) (hB : n ≤ B) (h : Below n w X) : Below n w Y :=
  ownFrom_below (β := Unit) hn hB () X Y row h hg hr
theorem keysAt_own (w : World) (B : Nat) (hB : w.heap.size ≤ B) : OwnFrom B (KeysAt w) := fun _ _ _ _ hs hg hr =>
  ⟨⟨boxes_last hg hr hs.1.1, boxes_last hg hr hs.1.2.1, hs.1.2.2⟩, below_last hg hr (Nat.le_refl _) hB hs.2⟩
theorem keysOut_own (w : World) (B : Nat) (hB : w.heap.size ≤ B) (c : Code) : OwnFrom B (KeysOut w c) := fun _ _ _ _ hs hg hr =>
  ⟨⟨hs.1.1, boxes_last hg hr hs.1.2.1, hs.1.2.2⟩, below_last hg hr (Nat.le_refl _) hB hs.2⟩

set_option maxRecDepth 100000 in
theorem areKeys_at (gf : Nat) (lb : Array Value) (l : List Int) (w : World) (eg : ∀ args w, (callFunc gf args).run Tryz.prog w = .ok (.enter gf args) w) (h : Hands gf lb w.heap.size l w) :
    Calls Tryz.prog 24 #[.func (.func gf) #[] lb] w (RetBool w (Hi.risesB l)) := by
  refine (callsIn_wide (n := 3)).1 ?_
  refine callsIn_of_wp_marks Tryz.func24 rfl trivial ?_ rfl
  simp only [Tryz.ntmps24, List.size_toArray, List.length_cons, List.length_nil, Nat.reduceAdd, Nat.reduceSub, Array.replicate_succ, Array.replicate_zero, List.push_toArray, List.append_toArray, List.nil_append, List.cons_append]
  have HE := Lib.hid eg
  have HH := Lib.hid h
  clear eg h
  gi_wp2_with fail
  have hB0 : Below w.heap.size w ((w.alloc (.cells #[.bool false] 4)).alloc (.cells #[.int .i64 (-1)] 3)) := ((Below.refl _ w).alloc (Nat.le_refl _) _).alloc (by simp) _
  have b0 := (Boxed.new w 4 (.bool false)).alloc (.cells #[.int .i64 (-1)] 3)
  have b1 := Boxed.new (w.alloc (.cells #[.bool false] 4)) 3 (.int .i64 (-1))
  rw [World.size_alloc] at b1
  refine wpIn_rangeFunc_ownG rfl (by omega) (gf := gf) (lb := lb) rfl trivial HE.out HH.out belowK_t (belowK_b (by simp; omega)) hB0 (fun _ => rfl) (KeysAt w) (KeysOut w) (keysAt_own w _ (by simp; omega)) (keysOut_own w _ (by simp; omega))
    ⟨⟨b0, b1, ⟨(fun k hk => by cases hk), List.Pairwise.nil⟩⟩, hB0⟩
    (fun x => { tmps := #[.func (.func gf) #[] lb, undef, .pointer (some ⟨w.heap.size, 0, none⟩), .pointer (some ⟨w.heap.size + 1, 0, none⟩), .int .i64 x, .func (.func gf) #[] lb, .int .i64 x, undef, undef, undef, undef, undef, undef, undef, undef], defers := [] }) ?assign ?body ?done ?stop
  case assign =>
    intro lo x W K hK
    gi_wp2_with fail
    exact hK
  case body =>
    rintro lo pre x W ⟨⟨k0, k1, hr⟩, hB⟩ _
    have HB := Lib.hid hB
    have HI := Lib.hid (Hi.rises_snoc hr x)
    have K0 := Lib.hid k0
    have K1 := Lib.hid k1
    have c0 := k0.cell
    have f0 := k0.frozen
    have c1 := k1.cell
    have f1 := k1.frozen
    clear hB hr k0 k1
    generalize hz : Hi.lastOr pre = z at *
    by_cases h1 : x ≤ z
    · have d1 : decide (x ≤ z) = true := decide_eq_true h1
      have HN : Hid (¬ So.Rises (pre ++ [x])) := fun q => by have := (HI.out.1 q).1; omega
      clear h1
      gi_wp2_with fail
      exact ⟨(KeepsOthers.setCell _ _ _).from _, ⟨rfl, K0.out.set _, HN.out⟩, HB.out.setCell (p := ⟨w.heap.size, 0, none⟩) (Nat.le_refl _) _⟩
    · have d1 : decide (x ≤ z) = false := decide_eq_false h1
      by_cases h2 : (16 : Int) ≤ x
      · have d2 : decide ((16 : Int) ≤ x) = true := decide_eq_true h2
        have HN : Hid (¬ So.Rises (pre ++ [x])) := fun q => by have := (HI.out.1 q).2; omega
        clear h1 h2
        gi_wp2_with fail
        exact ⟨(KeepsOthers.setCell _ _ _).from _, ⟨rfl, K0.out.set _, HN.out⟩, HB.out.setCell (p := ⟨w.heap.size, 0, none⟩) (Nat.le_refl _) _⟩
      · have d2 : decide ((16 : Int) ≤ x) = false := decide_eq_false h2
        have HY : Hid (So.Rises (pre ++ [x])) := HI.out.2 ⟨by omega, by omega⟩
        clear h1 h2
        gi_wp2_with fail
        exact ⟨(KeepsOthers.setCell _ _ _).from _, (Below.refl w.heap.size W).setCell (p := ⟨w.heap.size + 1, 0, none⟩) (by simp) _, ⟨K0.out.other (by omega) _, by rw [Hi.lastOr_snoc]; exact K1.out.set _, HY.out⟩, HB.out.setCell (p := ⟨w.heap.size + 1, 0, none⟩) (by simp) _⟩
  case done =>
    rintro D ys W hD rfl ⟨⟨k0, k1, hr⟩, hB⟩ hK
    have c0 := k0.cell
    have f0 := k0.frozen
    have HR := Lib.hid (Hi.risesB_yes hr)
    have HB := Lib.hid hB
    have K0 := Lib.hid k0
    have HK := Lib.hid hK
    clear k1 hr hB k0 hK
    gi_wp2_with fail
    have hK' := (KeepsOthers.setCell W ⟨w.heap.size, 0, none⟩ (.bool true)).same D _ HK.out rfl
    refine ⟨by simp, .inl ⟨_, _, rfl, run_takeDeferred hK', ?_⟩⟩
    have hc5 := ((K0.out.set (.bool true)).kept (grownBy_putObj' _ D (.deferred none)) (fun e => by have := K0.out.lt; simp at hD; cases e; omega)).cell
    exact ⟨.bool true, by simp [results, Tryz.f24, go_sem, hc5], by rw [HR.out], (HB.out.setCell (p := ⟨w.heap.size, 0, none⟩) (Nat.le_refl _) _).trans (belowK_b (w := w) (Nat.le_refl _) _ D _ _ (by simp at hD; omega) hK' rfl rfl)⟩
  case stop =>
    rintro D c pre W hD ⟨q, rfl⟩ ⟨⟨rfl, k0, hr⟩, hB⟩ hK
    gi_wp2_with fail
    refine ⟨by simp, .inl ⟨_, _, rfl, run_takeDeferred hK, ?_⟩⟩
    have hc5 := (k0.kept (grownBy_putObj' _ D (.deferred none)) (fun e => by simp at hD; cases e; omega)).cell
    exact ⟨.bool false, by simp [results, Tryz.f24, go_sem, hc5], by rw [Hi.risesB_no (fun q => hr (Hi.rises_front q))], hB.trans (belowK_b (w := w) (Nat.le_refl _) _ D _ _ (by simp at hD; omega) hK rfl rfl)⟩
end Go.Proofs.YtfjamdpgbbnmcaaGreatDoor
