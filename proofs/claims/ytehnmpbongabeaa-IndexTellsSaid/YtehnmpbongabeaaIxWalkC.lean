/-
  What index's Readers answers: who reads a key from somebody.
  Conditions: a history's rows have at most 2^32 elements each.
-/
import Derived.Test.YtehnmpbongabeaaIxWalkA
import Derived.RangeFuncNested
import Derived.RangeFuncCalls
import Derived.RangeFuncLeaves
import Derived.RangeFuncBox
import Derived.Shelf.Abstract
set_option maxRecDepth 4000
namespace Go.Proofs.Ytehnmpbongabeaa
open Go.RowKit

attribute [local go_sem] Oper.semAt_some

/-- A variable of two integers, in a block of its own. -/
def Boxed2 (W : World) (B : Nat) (t : TypeId) (x : Int × Int) : Prop := W.heap[B]? = some (.cells #[.int .i64 x.1, .int .i64 x.2] t (0, 0))
theorem Boxed2.lt {W : World} {B : Nat} {t : TypeId} {x : Int × Int} (h : Boxed2 W B t x) : B < W.heap.size := (Array.getElem?_eq_some_iff.1 h).1
theorem Boxed2.c0 {W : World} {B : Nat} {t : TypeId} {x : Int × Int} (h : Boxed2 W B t x) : W.cell? ⟨B, 0, none⟩ = some (.int .i64 x.1) := by simp [World.cell?, show W.heap[B]? = _ from h]
theorem Boxed2.c1 {W : World} {B : Nat} {t : TypeId} {x : Int × Int} (h : Boxed2 W B t x) : W.cell? ⟨B, 1, none⟩ = some (.int .i64 x.2) := by simp [World.cell?, show W.heap[B]? = _ from h]
theorem Boxed2.new (W : World) (t : TypeId) (x : Int × Int) : Boxed2 (W.alloc (.cells #[.int .i64 x.1, .int .i64 x.2] t)) W.heap.size t x := World.alloc_heap_new W _
theorem Boxed2.last {B : Nat} {X Y : World} {row : Option Nat} (hg : X.grownBy Y row) (hr : ∀ r, row = some r → B ≤ r ∧ ∃ o : Obj, X.heap[r]? = some o ∧ o.isCells = false) {b : Nat} {t : TypeId} {x : Int × Int} (h : Boxed2 X b t x) : Boxed2 Y b t x := by
  refine (hg.block b h.lt fun e => ?_).trans h
  obtain ⟨_, o, ho, hc⟩ := hr b e.symm
  rw [show X.heap[b]? = _ from h] at ho
  cases ho
  cases hc

/-- What Readers holds between two rounds: its row lies in a variable at block n. -/
def RdAt (w : World) (key f : Int) (n : Nat) (pre : List (Nat × Int × Int)) (W : World) : Prop :=
  (∃ v, Boxed W n 30 v ∧ W.ownsRow n 3 1 v (Ix.gathered key f pre).length ((ints (Ix.gathered key f pre)).flatMap nC) ∧ True) ∧ Boxed W (w.heap.size + 1) 3 (.int .i64 key) ∧ Boxed W (w.heap.size + 2) 3 (.int .i64 f) ∧ Below w.heap.size w W
theorem rdAt_own (w : World) (key f : Int) (n B : Nat) (hB : w.heap.size ≤ B) : OwnFrom B (RdAt w key f n) := fun s X Y row h hg hr =>
  ⟨holdsRow_own n n 30 3 1 (fun pre => (Ix.gathered key f pre).length) (fun pre => (ints (Ix.gathered key f pre)).flatMap nC) (fun _ _ => True) s X Y row h.1 hg (fun r e => (hr r e).2), boxes_last hg hr h.2.1, boxes_last hg hr h.2.2.1, below_last hg hr (Nat.le_refl _) hB h.2.2.2⟩
set_option maxRecDepth 100000 in
set_option maxHeartbeats 1000000 in
theorem readers9_at (h : List So.Txn) (u : Value) (key f : Int) (w : World) (hv : Txns w u h) (hs : Ix.Small h) : Calls Try.prog 14 #[.agg #[u], .int .i64 key, .int .i64 f] w (RetNums w (Ix.readersA h key f)) := by
  refine (callsIn_wide (n := 3)).1 ?_
  refine callsIn_of_wp_marks Try.func14 rfl trivial ?_ rfl
  simp only [Try.ntmps14, List.size_toArray, List.length_cons, List.length_nil, Nat.reduceAdd, Nat.reduceSub, Array.replicate_succ, Array.replicate_zero, List.push_toArray, List.append_toArray, List.nil_append, List.cons_append]
  obtain ⟨i0, hi0, hz0, hz1, hz2⟩ := info_parts int_info
  have I0 := Lib.hid hi0
  have I1 := Lib.hid hz0
  have I2 := Lib.hid hz1
  have I3 := Lib.hid hz2
  clear hi0 hz0 hz1 hz2
  have HV := Lib.hid hv
  have HS := Lib.hid hs
  obtain ⟨A, c, rfl, _⟩ := hv.spelled
  clear hv hs
  have HY := Lib.hid (fun q => @Ix.readersA_yes h q key f)
  have HN := Lib.hid (fun q => @Ix.readersA_no h q key f)
  have HRG := Lib.hid (fun q => (Hi.rightB_iff h).1 q)
  generalize Ix.readersA h key f = ra at *
  gi_wp2_with fail
  simp only [Nat.add_assoc, Nat.reduceAdd]
  have b0 := ((Boxed.new w 24 (.slice A h.length c)).alloc (.cells #[.int .i64 key] 3)).alloc (.cells #[.int .i64 f] 3)
  have b1 := (Boxed.new (w.alloc (.cells #[.slice A h.length c] 24)) 3 (.int .i64 key)).alloc (.cells #[.int .i64 f] 3)
  have b2 := Boxed.new ((w.alloc (.cells #[.slice A h.length c] 24)).alloc (.cells #[.int .i64 key] 3)) 3 (.int .i64 f)
  rw [World.size_alloc] at b1
  rw [World.size_alloc, World.size_alloc, Nat.add_assoc] at b2
  have hb0 : Below w.heap.size w (((w.alloc (.cells #[.slice A h.length c] 24)).alloc (.cells #[.int .i64 key] 3)).alloc (.cells #[.int .i64 f] 3)) := below_all (below_all (alloc_below _ _) (alloc_below _ _)) (alloc_below _ _)
  generalize (((w.alloc (.cells #[.slice A h.length c] 24)).alloc (.cells #[.int .i64 key] 3)).alloc (.cells #[.int .i64 f] 3)) = W0 at *
  refine ⟨trivial, ?_⟩
  refine (callsIn_wide.2 (hRight_at h _ W0 (HV.out.below hb0) HS.out.2)).mono ?_
  rintro e w2 ⟨rfl, hb2⟩
  have HB2 := Lib.hid (below_all hb0 hb2)
  have K1 := Lib.hid (Boxed.later b1 hb2)
  have K2 := Lib.hid (Boxed.later b2 hb2)
  have B0 := Boxed.later b0 hb2
  have c0 := B0.cell
  have c1 := (B0.alloc (.cells #[.slice none 0 0] 30)).cell
  have hsz : w.heap.size + 2 < w2.heap.size := K2.out.lt
  clear b0 b1 b2 hb0 hb2
  cases hr : Hi.rightB h with
  | false =>
    have HR := Lib.hid (HN.out hr)
    clear hr
    gi_wp2_with fail
    exact ⟨_, results_tmp rfl _ _ _, _, rfl, by rw [HR.out]; exact Ns.nil _ _, HB2.out⟩
  | true =>
    have HR := Lib.hid (HY.out hr)
    have HG := Lib.hid (HRG.out hr)
    clear hr
    gi_wp2_with fail
    refine ⟨trivial, ?_⟩
    refine (callsIn_wide.2 (ixReads_at A h.length c _)).mono ?_
    rintro e w4 ⟨rfl, rfl⟩
    gi_wp2_with fail
    have b7 := (Boxed.new w2 30 (.slice none 0 0)).alloc (.cells #[.slice A h.length c] 24)
    have b8 := Boxed.new (w2.alloc (.cells #[.slice none 0 0] 30)) 24 (.slice A h.length c)
    rw [World.size_alloc] at b8
    have hb4 : Below w2.heap.size w2 ((w2.alloc (.cells #[.slice none 0 0] 30)).alloc (.cells #[.slice A h.length c] 24)) := below_all (alloc_below _ _) (alloc_below _ _)
    have hsz4 : ((w2.alloc (.cells #[.slice none 0 0] 30)).alloc (.cells #[.slice A h.length c] 24)).heap.size = w2.heap.size + 2 := by simp
    generalize (w2.alloc (.cells #[.slice none 0 0] 30)).alloc (.cells #[.slice A h.length c] 24) = W4 at *
    have HH := reads_hands h (.slice A h.length c) (w2.heap.size + 1) w2 W4 (HV.out.below HB2.out) hb4 HS.out.1 (fun t ht => (HS.out.2 t ht).2) b8.lt b8.cell
    have h0 : RdAt w key f w2.heap.size [] W4 := ⟨⟨_, b7, World.ownsRow_nil _ _ _ _, trivial⟩, Boxed.later K1.out hb4, Boxed.later K2.out hb4, below_all HB2.out hb4⟩
    clear b7 b8 c0 c1 B0
    refine wpIn_rangeFunc_ownH rfl (by omega) (gf := 29) (lb := #[.pointer (some ⟨w2.heap.size + 1, 0, none⟩)]) rfl trivial (enters_of Try.func29 (by kernel_rfl) rfl) HH belowK_t (belowK_b (by omega)) (Below.refl _ _) (fun _ => rfl) (RdAt w key f w2.heap.size) (fun _ _ _ => False) (rdAt_own w key f _ _ (by omega)) (fun _ _ _ _ _ h _ _ => h) h0
      (fun x a' W => ∃ Bx, w2.heap.size < Bx ∧ Boxed2 W Bx 46 x.2 ∧ a' = { tmps := #[.agg #[.slice A h.length c], .int .i64 key, .int .i64 f, .pointer (some ⟨w.heap.size, 0, none⟩), .pointer (some ⟨w.heap.size + 1, 0, none⟩), .pointer (some ⟨w.heap.size + 2, 0, none⟩), .slice none 0 0, .pointer (some ⟨w2.heap.size, 0, none⟩), .int .i64 (x.1 : Int), .pointer (some ⟨Bx, 0, none⟩), .agg #[.slice A h.length c], .bool true, .bool false, .agg #[.slice A h.length c], .func (.func 29) #[] #[.pointer (some ⟨w2.heap.size + 1, 0, none⟩)], .int .i64 (x.1 : Int), .agg #[.int .i64 x.2.1, .int .i64 x.2.2], undef, undef, undef, undef, undef, undef, undef, undef, undef, undef, undef, undef, undef, undef, undef], defers := [] })
      (fun x a' s X Y row hx hg hr => by obtain ⟨Bx, h1, h2, h3⟩ := hx; exact ⟨Bx, h1, Boxed2.last hg hr h2, h3⟩) ?assign ?body ?done ?stop
    case assign =>
      rintro lo pre ⟨n, k, fr⟩ W K hI hK
      have hlt : w2.heap.size < W.heap.size := hI.1.elim fun v hv => hv.1.lt
      gi_wp2_with fail
      exact hK _ _ ((KeepsOthers.alloc _ _).from _) ((Below.refl _ W).alloc (by omega) _) (rdAt_own w key f _ w.heap.size (Nat.le_refl _) pre W _ none hI (World.grownBy_alloc W _ none) none_row) ⟨W.heap.size, hlt, Boxed2.new W _ (k, fr), rfl⟩
    case body =>
      rintro lo pre ⟨n, k, fr⟩ a' W hlo ⟨r, hr⟩ hI ⟨Bx, hBx, bX, rfl⟩ hlen
      have HI := Lib.hid hI
      obtain ⟨⟨v, hbx, hrow, -⟩, k1, k2, hB⟩ := hI
      have ck := k1.cell
      have cf := k2.cell
      have x0 := bX.c0
      have x1 := bX.c1
      have HSN := Lib.hid (Ix.gathered_snoc key f pre (n, k, fr))
      have hgl : (Ix.gathered key f pre).length ≤ 512 := by
        have h1 := Ix.all_len HG.out
        have h2 : (Ix.gathered key f pre).length ≤ pre.length := by
          unfold Ix.gathered
          rw [List.length_map]
          exact List.length_filter_le _ _
        omega
      dsimp only at x0 x1
      by_cases h1 : k = key
      · by_cases h2 : fr = f
        · subst h1
          subst h2
          have HGS : Hid (Ix.gathered k fr (pre ++ [(n, k, fr)]) = Ix.gathered k fr pre ++ [n]) := by rw [Hid, HSN.out, if_pos (by simp [Ix.isRead])]
          have HROW := Lib.hid hrow
          obtain ⟨A7, c7, rfl⟩ := own_form hrow
          have HBX := Lib.hid hbx
          have cb := hbx.cell
          have fb := hbx.frozen
          have hle : w2.heap.size ≤ W.heap.size := Nat.le_of_lt hbx.lt
          have K1' := Lib.hid k1
          have K2' := Lib.hid k2
          have HBB := Lib.hid hB
          clear hrow hbx k1 k2 hB bX hr
          gi_wp2_with (gi_at_builtin; refine wpListIn_append_own _ rfl _ _ 30 rfl w2.heap.size 3 i0 _ 1 8 Try.underlying30 I0.out I1.out I2.out I3.out rfl (by decide) _ _ _ rfl (HROW.out.alloc (.cells #[.int .i64 (n : Int)] 3)) ⟨W.heap.size, 0, none⟩ 1 1 (nC (n : Int)) rfl rfl (new_nC W (n : Int) 3) (one_nC _) (by simp only [maxLen]; omega) (by omega) (by simp; omega) ?_; intro v' w1 hown' hgrow _; obtain ⟨g', cap', rfl⟩ := ownsRow_succ hown'; obtain ⟨hv1, hv2, hr2, hk2, hb2⟩ := HBX.out.appended (by decide) HROW.out hle (Nat.le_refl _) hown' hgrow; have hc1 := hv1.cell; have hf1 := hv1.frozen)
          exact ⟨hk2.from _, hb2, ⟨_, hv2, by rw [HGS.out]; exact ns_snoc hr2, trivial⟩, (hb2.block _ (by omega)).trans K1'.out, (hb2.block _ (by omega)).trans K2'.out, HBB.out.trans (hb2.mono (by omega))⟩
        · have HGS : Hid (Ix.gathered key f (pre ++ [(n, k, fr)]) = Ix.gathered key f pre) := by rw [Hid, HSN.out, if_neg (by simp [Ix.isRead, h2])]
          have q2 : (fr == f) = false := beq_eq_false_iff_ne.2 h2
          subst h1
          clear hrow hbx k1 k2 hB bX hr h2
          gi_wp2_with fail
          exact ⟨(KeepsOthers.refl W).from _, Below.refl _ _, by rw [RdAt, HGS.out]; exact HI.out⟩
      · have HGS : Hid (Ix.gathered key f (pre ++ [(n, k, fr)]) = Ix.gathered key f pre) := by rw [Hid, HSN.out, if_neg (by simp [Ix.isRead, h1])]
        have q1 : (k == key) = false := beq_eq_false_iff_ne.2 h1
        clear hrow hbx k1 k2 hB bX hr h1
        gi_wp2_with fail
        exact ⟨(KeepsOthers.refl W).from _, Below.refl _ _, by rw [RdAt, HGS.out]; exact HI.out⟩
    case done =>
      rintro D ys W hD rfl ⟨⟨v, hbx, hrow, -⟩, k1, k2, hB⟩ hK
      have cb := hbx.cell
      have HROW := Lib.hid hrow
      have HBB := Lib.hid hB
      have HK := Lib.hid hK
      clear hrow hbx k1 k2 hB hK
      gi_wp2_with fail
      refine ⟨by simp, .inl ⟨_, _, rfl, run_takeDeferred HK.out, ?_⟩⟩
      refine ⟨_, results_tmp rfl _ _ _, v, rfl, ?_, HBB.out.trans (belowK_b (w := w) (Nat.le_refl _) W D _ _ (by omega) HK.out rfl rfl)⟩
      rw [HR.out, ← Ix.gathered_all HG.out]
      exact ns_own (ownsRow_putObj HROW.out _ HK.out rfl)
    case stop =>
      rintro D c pre W _ _ hF _
      exact hF.elim
end Go.Proofs.Ytehnmpbongabeaa
