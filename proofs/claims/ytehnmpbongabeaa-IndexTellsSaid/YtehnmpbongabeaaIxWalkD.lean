/-
  What index's From answers: from whom a transaction reads a key.
  Conditions: a history's rows have at most 2^32 elements each.
-/
import Derived.Test.YtehnmpbongabeaaIxWalkC
set_option maxRecDepth 4000
namespace Go.Proofs.Ytehnmpbongabeaa
open Go.RowKit

attribute [local go_sem] Oper.semAt_some

/-- A number and whether there is one. -/
def RetFrom (w : World) (o : Option Int) (e : Ending) (w' : World) : Prop := e = .returned (.tuple #[.int .i64 (Ix.numOf o), .bool o.isSome]) ∧ Below w.heap.size w w'
/-- What From holds between two rounds, and where it has found the read. -/
def FrAt (w : World) (t key : Int) (n : Nat) (pre : List (Nat × Int × Int)) (W : World) : Prop :=
  Boxed W (w.heap.size + 1) 3 (.int .i64 t) ∧ Boxed W (w.heap.size + 2) 3 (.int .i64 key) ∧ Boxed W (w.heap.size + 3) 3 (.int .i64 0) ∧ Boxed W (w.heap.size + 4) 4 (.bool false) ∧ (∀ x ∈ pre, Ix.isAt t key x = false) ∧ n ≤ W.heap.size ∧ Below w.heap.size w W
def FrOut (w : World) (t key : Int) (c : Code) (pre : List (Nat × Int × Int)) (W : World) : Prop :=
  c = .ret ∧ ∃ x ∈ pre, Ix.isAt t key x = true ∧ Boxed W (w.heap.size + 3) 3 (.int .i64 x.2.2) ∧ Boxed W (w.heap.size + 4) 4 (.bool true) ∧ Below w.heap.size w W
theorem frAt_own (w : World) (t key : Int) (n B : Nat) (hB : w.heap.size ≤ B) : OwnFrom B (FrAt w t key n) := fun _ _ _ _ h hg hr =>
  ⟨boxes_last hg hr h.1, boxes_last hg hr h.2.1, boxes_last hg hr h.2.2.1, boxes_last hg hr h.2.2.2.1, h.2.2.2.2.1, Nat.le_trans h.2.2.2.2.2.1 hg.size, below_last hg hr (Nat.le_refl _) hB h.2.2.2.2.2.2⟩
theorem frOut_own (w : World) (t key : Int) (B : Nat) (hB : w.heap.size ≤ B) (c : Code) : OwnFrom B (FrOut w t key c) := fun _ _ _ _ h hg hr => by
  obtain ⟨hc, x, hx, hq, k3, k4, hb⟩ := h
  exact ⟨hc, x, hx, hq, boxes_last hg hr k3, boxes_last hg hr k4, below_last hg hr (Nat.le_refl _) hB hb⟩

theorem results_from (X : World) (b : Nat) (tmps : Array Value) (f : Int) (d : Bool) (h6 : tmps.getD 6 undef = .pointer (some ⟨b + 3, 0, none⟩)) (h7 : tmps.getD 7 undef = .pointer (some ⟨b + 4, 0, none⟩)) (k3 : Boxed X (b + 3) 3 (.int .i64 f)) (k4 : Boxed X (b + 4) 4 (.bool d)) :
    (results Try.f9 tmps).run Try.prog X = .ok (.tuple #[.int .i64 f, .bool d]) X := by
  have c3 := k3.cell
  have c4 := k4.cell
  simp only [Array.getD_eq_getD_getElem?] at h6 h7
  simp [results, Try.f9, go_sem, h6, h7, c3, c4]
/-- Both result variables are written. -/
theorem put_both {W : World} {b : Nat} {u v : Value} (k3 : Boxed W (b + 3) 3 u) (k4 : Boxed W (b + 4) 4 v) (x y : Value) : Boxed ((W.setCell ⟨b + 3, 0, none⟩ x).setCell ⟨b + 4, 0, none⟩ y) (b + 3) 3 x ∧ Boxed ((W.setCell ⟨b + 3, 0, none⟩ x).setCell ⟨b + 4, 0, none⟩ y) (b + 4) 4 y :=
  ⟨(k3.set x).other (by omega) y, (k4.other (by omega) x).set y⟩
theorem below_both {w W : World} (h : Below w.heap.size w W) (x y : Value) : Below w.heap.size w ((W.setCell ⟨w.heap.size + 3, 0, none⟩ x).setCell ⟨w.heap.size + 4, 0, none⟩ y) :=
  (h.setCell (p := ⟨w.heap.size + 3, 0, none⟩) (by simp) x).setCell (p := ⟨w.heap.size + 4, 0, none⟩) (by simp) y
theorem keeps_both (W : World) (b : Nat) (x y : Value) : KeepsOthers W ((W.setCell ⟨b + 3, 0, none⟩ x).setCell ⟨b + 4, 0, none⟩ y) := (KeepsOthers.setCell _ _ _).trans (KeepsOthers.setCell _ _ _)

set_option maxRecDepth 100000 in
set_option maxHeartbeats 1000000 in
theorem from9_at (h : List So.Txn) (u : Value) (t key : Int) (w : World) (hv : Txns w u h) (hs : Ix.Small h) : Calls Try.prog 9 #[.agg #[u], .int .i64 t, .int .i64 key] w (RetFrom w (Ix.fromA h t key)) := by
  refine (callsIn_wide (n := 3)).1 ?_
  refine callsIn_of_wp_marks Try.func9 rfl trivial ?_ rfl
  simp only [Try.ntmps9, List.size_toArray, List.length_cons, List.length_nil, Nat.reduceAdd, Nat.reduceSub, Array.replicate_succ, Array.replicate_zero, List.push_toArray, List.append_toArray, List.nil_append, List.cons_append]
  have HV := Lib.hid hv
  have HS := Lib.hid hs
  obtain ⟨A, c, rfl, _⟩ := hv.spelled
  clear hv hs
  have HY := Lib.hid (fun q => @Ix.fromA_yes h q t key)
  have HN := Lib.hid (fun q => @Ix.fromA_no h q t key)
  have HRG := Lib.hid (fun q => (Hi.rightB_iff h).1 q)
  generalize Ix.fromA h t key = ra at *
  gi_wp2_with fail
  simp only [Nat.add_assoc, Nat.reduceAdd]
  obtain ⟨W0, hW0⟩ : ∃ W0, ((((w.alloc (.cells #[.slice A h.length c] 24)).alloc (.cells #[.int .i64 t] 3)).alloc (.cells #[.int .i64 key] 3)).alloc (.cells #[.int .i64 0] 3)).alloc (.cells #[.bool false] 4) = W0 := ⟨_, rfl⟩
  have b0 : Boxed W0 w.heap.size 24 (.slice A h.length c) := by rw [← hW0]; exact ((((Boxed.new _ _ _).alloc _).alloc _).alloc _).alloc _
  have b1 : Boxed W0 (w.heap.size + 1) 3 (.int .i64 t) := by
    have := (((Boxed.new (w.alloc (.cells #[.slice A h.length c] 24)) 3 (.int .i64 t)).alloc (.cells #[.int .i64 key] 3)).alloc (.cells #[.int .i64 0] 3)).alloc (.cells #[.bool false] 4)
    rw [hW0] at this
    simpa using this
  have b2 : Boxed W0 (w.heap.size + 2) 3 (.int .i64 key) := by
    have := ((Boxed.new ((w.alloc (.cells #[.slice A h.length c] 24)).alloc (.cells #[.int .i64 t] 3)) 3 (.int .i64 key)).alloc (.cells #[.int .i64 0] 3)).alloc (.cells #[.bool false] 4)
    rw [hW0] at this
    simpa using this
  have b3 : Boxed W0 (w.heap.size + 3) 3 (.int .i64 0) := by
    have := (Boxed.new (((w.alloc (.cells #[.slice A h.length c] 24)).alloc (.cells #[.int .i64 t] 3)).alloc (.cells #[.int .i64 key] 3)) 3 (.int .i64 0)).alloc (.cells #[.bool false] 4)
    rw [hW0] at this
    simpa using this
  have b4 : Boxed W0 (w.heap.size + 4) 4 (.bool false) := by
    have := Boxed.new ((((w.alloc (.cells #[.slice A h.length c] 24)).alloc (.cells #[.int .i64 t] 3)).alloc (.cells #[.int .i64 key] 3)).alloc (.cells #[.int .i64 0] 3)) 4 (.bool false)
    rw [hW0] at this
    simpa using this
  have hb0 : Below w.heap.size w W0 := by rw [← hW0]; exact below_all (below_all (below_all (below_all (alloc_below _ _) (alloc_below _ _)) (alloc_below _ _)) (alloc_below _ _)) (alloc_below _ _)
  rw [hW0]
  clear hW0
  refine ⟨trivial, ?_⟩
  refine (callsIn_wide.2 (hRight_at h _ W0 (HV.out.below hb0) HS.out.2)).mono ?_
  rintro e w2 ⟨rfl, hb2⟩
  have HB2 := Lib.hid (below_all hb0 hb2)
  have K1 := Lib.hid (Boxed.later b1 hb2)
  have K2 := Lib.hid (Boxed.later b2 hb2)
  have K3 := Lib.hid (Boxed.later b3 hb2)
  have K4 := Lib.hid (Boxed.later b4 hb2)
  have B0 := Boxed.later b0 hb2
  have c0 := B0.cell
  have hsz : w.heap.size + 4 < w2.heap.size := K4.out.lt
  clear b0 b1 b2 b3 b4 hb0 hb2
  cases hr : Hi.rightB h with
  | false =>
    have HR := Lib.hid (HN.out hr)
    have c3 := K3.out.cell
    have f3 := K3.out.frozen
    have c4 := K4.out.cell
    have f4 := K4.out.frozen
    clear hr
    gi_wp2_with fail
    obtain ⟨b3, b4⟩ := put_both K3.out K4.out (.int .i64 0) (.bool false)
    exact ⟨_, results_from _ w.heap.size _ 0 false rfl rfl b3 b4, by rw [HR.out]; rfl, below_both HB2.out _ _⟩
  | true =>
    have HR := Lib.hid (HY.out hr)
    have HG := Lib.hid (HRG.out hr)
    clear hr
    gi_wp2_with fail
    refine ⟨trivial, ?_⟩
    refine (callsIn_wide.2 (ixReads_at A h.length c _)).mono ?_
    rintro e w4 ⟨rfl, rfl⟩
    gi_wp2_with fail
    have b8 := Boxed.new w2 24 (.slice A h.length c)
    have hb4 : Below w2.heap.size w2 (w2.alloc (.cells #[.slice A h.length c] 24)) := alloc_below _ _
    have hsz4 : (w2.alloc (.cells #[.slice A h.length c] 24)).heap.size = w2.heap.size + 1 := by simp
    generalize w2.alloc (.cells #[.slice A h.length c] 24) = W4 at *
    have HH := reads_hands h (.slice A h.length c) w2.heap.size w2 W4 (HV.out.below HB2.out) hb4 HS.out.1 (fun t ht => (HS.out.2 t ht).2) b8.lt b8.cell
    have h0 : FrAt w t key w2.heap.size [] W4 := ⟨Boxed.later K1.out hb4, Boxed.later K2.out hb4, Boxed.later K3.out hb4, Boxed.later K4.out hb4, (fun _ hx => by cases hx), by omega, below_all HB2.out hb4⟩
    clear b8 c0 B0
    refine wpIn_rangeFunc_ownH rfl (by omega) (gf := 29) (lb := #[.pointer (some ⟨w2.heap.size, 0, none⟩)]) rfl trivial (enters_of Try.func29 (by kernel_rfl) rfl) HH belowK_t (belowK_b (by omega)) (Below.refl _ _) (fun _ => rfl) (FrAt w t key w2.heap.size) (FrOut w t key) (frAt_own w t key _ _ (by omega)) (frOut_own w t key _ (by omega)) h0
      (fun x a' W => ∃ Bx, Boxed2 W Bx 46 x.2 ∧ a' = { tmps := #[.agg #[.slice A h.length c], .int .i64 t, .int .i64 key, .pointer (some ⟨w.heap.size, 0, none⟩), .pointer (some ⟨w.heap.size + 1, 0, none⟩), .pointer (some ⟨w.heap.size + 2, 0, none⟩), .pointer (some ⟨w.heap.size + 3, 0, none⟩), .pointer (some ⟨w.heap.size + 4, 0, none⟩), .int .i64 (x.1 : Int), .pointer (some ⟨Bx, 0, none⟩), .agg #[.slice A h.length c], .bool true, .bool false, .agg #[.slice A h.length c], .func (.func 29) #[] #[.pointer (some ⟨w2.heap.size, 0, none⟩)], .int .i64 (x.1 : Int), .agg #[.int .i64 x.2.1, .int .i64 x.2.2], undef, undef, undef, undef, undef, undef, undef, undef, undef, undef, undef], defers := [] })
      (fun x a' s X Y row hx hg hr => by obtain ⟨Bx, h2, h3⟩ := hx; exact ⟨Bx, Boxed2.last hg hr h2, h3⟩) ?assign ?body ?done ?stop
    case assign =>
      rintro lo pre ⟨n, k, fr⟩ W K hI hK
      have hle := hI.2.2.2.2.2.1
      gi_wp2_with fail
      exact hK _ _ ((KeepsOthers.alloc _ _).from _) ((Below.refl _ W).alloc hle _) (frAt_own w t key _ w.heap.size (Nat.le_refl _) pre W _ none hI (World.grownBy_alloc W _ none) none_row) ⟨W.heap.size, Boxed2.new W _ (k, fr), rfl⟩
    case body =>
      rintro lo pre ⟨n, k, fr⟩ a' W hlo ⟨r, hr⟩ ⟨k1, k2, k3, k4, hno, hle, hB⟩ ⟨Bx, bX, rfl⟩ hlen
      have ct := k1.cell
      have ck := k2.cell
      have x0 := bX.c0
      have x1 := bX.c1
      have c3 := k3.cell
      have f3 := k3.frozen
      have c4 := k4.cell
      have f4 := k4.frozen
      have HA := Lib.hid hno
      have HBB := Lib.hid hB
      have K1' := Lib.hid k1
      have K2' := Lib.hid k2
      have K3' := Lib.hid k3
      have K4' := Lib.hid k4
      clear k1 k2 k3 k4 hno hB bX hr
      dsimp only at x0 x1
      by_cases h1 : (n : Int) = t
      · have q1 : ((n : Int) == t) = true := beq_iff_eq.2 h1
        by_cases h2 : k = key
        · have q2 : (k == key) = true := beq_iff_eq.2 h2
          have HQ : Hid (Ix.isAt t key (n, k, fr) = true) := by simp [Ix.isAt, Hid, h1, h2]
          clear h1 h2
          gi_wp2_with fail
          obtain ⟨b3, b4⟩ := put_both K3'.out K4'.out (.int .i64 fr) (.bool true)
          exact ⟨(keeps_both W w.heap.size _ _).from _, rfl, (n, k, fr), by simp, HQ.out, b3, b4, below_both HBB.out _ _⟩
        · have q2 : (k == key) = false := beq_eq_false_iff_ne.2 h2
          have HQ : Hid (Ix.isAt t key (n, k, fr) = false) := by simp [Ix.isAt, Hid, h2]
          clear h1 h2
          gi_wp2_with fail
          exact ⟨(KeepsOthers.refl W).from _, Below.refl _ _, K1'.out, K2'.out, K3'.out, K4'.out, fun x hx => (List.mem_append.1 hx).elim (HA.out x) fun q => by rw [List.mem_singleton.1 q]; exact HQ.out, hle, HBB.out⟩
      · have q1 : ((n : Int) == t) = false := beq_eq_false_iff_ne.2 h1
        have HQ : Hid (Ix.isAt t key (n, k, fr) = false) := by simp [Ix.isAt, Hid, h1]
        clear h1
        gi_wp2_with fail
        exact ⟨(KeepsOthers.refl W).from _, Below.refl _ _, K1'.out, K2'.out, K3'.out, K4'.out, fun x hx => (List.mem_append.1 hx).elim (HA.out x) fun q => by rw [List.mem_singleton.1 q]; exact HQ.out, hle, HBB.out⟩
    case done =>
      rintro D ys W hD rfl ⟨k1, k2, k3, k4, hno, -, hB⟩ hK
      have c3 := k3.cell
      have f3 := k3.frozen
      have c4 := k4.cell
      have f4 := k4.frozen
      have HA := Lib.hid hno
      have HBB := Lib.hid hB
      have HK := Lib.hid hK
      have K3' := Lib.hid k3
      have K4' := Lib.hid k4
      clear k1 k2 k3 k4 hno hB hK
      gi_wp2_with fail
      obtain ⟨b3, b4⟩ := put_both K3'.out K4'.out (.int .i64 0) (.bool false)
      have hK' := (keeps_both W w.heap.size (.int .i64 0) (.bool false)).same D _ HK.out rfl
      refine ⟨by simp, .inl ⟨_, _, rfl, run_takeDeferred hK', ?_⟩⟩
      refine ⟨_, results_from _ w.heap.size _ 0 false rfl rfl (b3.kept (grownBy_putObj' _ D (.deferred none)) (fun e => by cases e; omega)) (b4.kept (grownBy_putObj' _ D (.deferred none)) (fun e => by cases e; omega)), ?_, (below_both HBB.out _ _).trans (belowK_b (w := w) (Nat.le_refl _) _ D _ _ (by omega) hK' rfl rfl)⟩
      rw [HR.out, Ix.from_none HG.out HA.out]
      rfl
    case stop =>
      rintro D c' pre W hD hp ⟨rfl, x, hx, hq, k3, k4, hB⟩ hK
      gi_wp2_with fail
      refine ⟨by simp, .inl ⟨_, _, rfl, run_takeDeferred hK, ?_⟩⟩
      refine ⟨_, results_from _ w.heap.size _ x.2.2 true rfl rfl (k3.kept (grownBy_putObj' _ D (.deferred none)) (fun e => by cases e; omega)) (k4.kept (grownBy_putObj' _ D (.deferred none)) (fun e => by cases e; omega)), ?_, hB.trans (belowK_b (w := w) (Nat.le_refl _) _ D _ _ (by omega) hK rfl rfl)⟩
      rw [HR.out, Ix.from_some HG.out (hp.subset hx) hq]
      rfl
end Go.Proofs.Ytehnmpbongabeaa
