/-
  What source.facesOf and source.writersOf answer: the first error of their kind with its place, else the faces of the committed ones, and the map of who wrote what; what was in memory stays as it was.
  Conditions: a row has at most 2^32 elements; writersOf: at most 32 transactions, whose ops may all be.
-/
import Derived.Test.YtodahdnooidmaaaSoWalkA
set_option maxRecDepth 4000
namespace Go.Proofs.Ytodahdnooidmaaa
open Go.RowKit

def midFaces (l : List Gr.Tx) (k : Nat) : List (List (Int × Int) × List (Int × Int)) := (l.take k).map faceT ++ List.replicate (l.length - k) ([], [])
theorem midFaces_set (l : List Gr.Tx) (k : Nat) (hk : k < l.length) : (midFaces l k).set k (faceT l[k]) = midFaces l (k + 1) := by
  have e : l.length - k = (l.length - (k + 1)) + 1 := by omega
  have hlen : ((l.take k).map faceT).length = k := by simp; omega
  rw [midFaces, midFaces, e, List.replicate_succ, List.set_append_right _ _ (by omega), hlen, Nat.sub_self, List.set_cons_zero, List.take_succ_eq_append_getElem hk, List.map_append, List.append_assoc]
  rfl
theorem midFaces_skip (l : List Gr.Tx) (k : Nat) (hk : k < l.length) (hd : l[k].done = false) : midFaces l (k + 1) = midFaces l k := by
  have e : l.length - k = (l.length - (k + 1)) + 1 := by omega
  have hf : faceT l[k] = ([], []) := by rw [faceT, hd]; rfl
  rw [midFaces, midFaces, e, List.replicate_succ, List.take_succ_eq_append_getElem hk, List.map_append, List.append_assoc, List.map_cons, List.map_nil, hf]
  rfl
theorem midFaces_end (l : List Gr.Tx) (k : Nat) (hk : l.length ≤ k) : midFaces l k = l.map faceT := by
  rw [midFaces, List.take_of_length_le hk, Nat.sub_eq_zero_of_le hk]
  simp
/-- Faces, a place and an error. -/
def RetFaces (w : World) (l : List Gr.Tx) (e : Ending) (w' : World) : Prop := ∃ A n c, e = .returned (.tuple #[.slice A n c, .int .i64 (So.firstR l 2).1, .int .i64 (So.firstR l 2).2]) ∧ (So.Clean l 2 → Faces w' (.slice A n c) (l.map faceT)) ∧ Below w.heap.size w w'
theorem RetFaces.mk {w w' : World} {l : List Gr.Tx} (A : Option Addr) (n c : Nat) (a b : Int) (h : So.firstR l 2 = (a, b)) (hf : So.Clean l 2 → Faces w' (.slice A n c) (l.map faceT)) (hb : Below w.heap.size w w') : RetFaces w l (.returned (.tuple #[.slice A n c, .int .i64 a, .int .i64 b])) w' :=
  ⟨A, n, c, by rw [h], hf, hb⟩
theorem good_of_zero (l : List Ev.Event) (h : (In.lookR l).2.2 = 0) : In.lookR l = ((In.readsTo l 16, In.writesTo l 16), 0, 0) := by
  rcases In.look_cases l with hg | ⟨j, hj, q1, q2⟩
  · rw [In.look_ok l hg]; rfl
  · rw [In.look_bad l j q2 q1] at h
    exact absurd h q1
theorem face_info : (Try.prog.info? 78).map (fun i => (i.zero, i.size, i.bytes)) = some (some (.agg #[.slice none 0 0, .slice none 0 0]), 2, 48) := by kernel_rfl
/-- What facesOf holds at the head of each round. -/
structure FacesMid (w wr : World) (l : List Gr.Tx) (k : Nat) (p : List ((List (Int × Int) × List (Int × Int)) × Value × Value)) : Prop where
  len : p.length = l.length
  own : OwnFaces 78 74 wr w.heap.size (.slice (some ⟨w.heap.size, 0, none⟩) p.length p.length) p
  same : p.map (·.1) = midFaces l k
  below : Below w.heap.size w wr
theorem FacesMid.later {w wr w' : World} {l : List Gr.Tx} {k : Nat} {p : List ((List (Int × Int) × List (Int × Int)) × Value × Value)} (h : FacesMid w wr l k p) (hb : Below wr.heap.size wr w') : FacesMid w w' l k p := ⟨h.len, h.own.below hb, h.same, below_all h.below hb⟩
theorem FacesMid.put {w wr : World} {l : List Gr.Tx} {k : Nat} {p : List ((List (Int × Int) × List (Int × Int)) × Value × Value)} (h : FacesMid w wr l k p) (hk : k < l.length) (y : (List (Int × Int) × List (Int × Int)) × Value × Value) (hy : y.1 = faceT l[k])
    (hr : wr.ownsRow w.heap.size 74 2 y.2.1 y.1.1.length (y.1.1.flatMap itC)) (hw : wr.ownsRow w.heap.size 74 2 y.2.2 y.1.2.length (y.1.2.flatMap itC)) :
    FacesMid w ((wr.setCell ⟨w.heap.size, k * 2, none⟩ y.2.1).setCell ⟨w.heap.size, k * 2 + 1, none⟩ y.2.2) l (k + 1) (p.set k y) := by
  refine ⟨by rw [List.length_set]; exact h.len, ?_, ?_, (h.below.setCell (Nat.le_refl _) _).setCell (Nat.le_refl _) _⟩
  · have := h.own.put k (by rw [h.len]; exact hk) (by decide) y hr hw
    rw [List.length_set]
    exact this
  · rw [List.map_set, h.same, hy, midFaces_set l k hk]

set_option maxHeartbeats 1000000 in
theorem facesOf_at (l : List Gr.Tx) (v : Value) (w : World) (hv : Txs w v l) (hl : l.length ≤ 4294967296) (ho : ∀ t ∈ l, t.ops.length ≤ 4294967296) : Calls Try.prog 16 #[v] w (RetFaces w l) := by
  obtain ⟨i0, hi0, hz0, hz1, hz2⟩ := info_parts face_info
  have I0 := Lib.hid hi0
  have I1 := Lib.hid hz0
  have I2 := Lib.hid hz1
  have I3 := Lib.hid hz2
  clear hi0 hz0 hz1 hz2
  obtain ⟨A, c, rfl, hform⟩ := hv.spelled
  have HF := Lib.hid hform
  have HO := Lib.hid ho
  clear hform hv ho
  go_enter Try.func16, Try.ntmps16
  go_wp2_with (at_make; refine wpList_make_full _ rfl _ _ 53 rfl w.heap.size 78 i0 _ 2 Try.underlying53 I0.out I1.out I2.out .i64 .i64 _ _ l.length rfl rfl rfl rfl (by rw [I3.out]; omega) (by simp only [maxLen]; omega) (Nat.le_refl _) ?_; intro w1 hown hgrow; have HO1 := Lib.hid hown; have HB1 := Lib.hid (show Below w.heap.size w w1 from (Below.refl _ w).grown hgrow (Nat.le_refl _) (by simp)); clear hown hgrow)
  go_loopw [16] (fun i wr => ∃ (k : Nat) (p : List ((List (Int × Int) × List (Int × Int)) × Value × Value)), k ≤ l.length ∧ i = .int .i64 k ∧ Hid (∀ j, j < k → So.phase l 2 j = 0) ∧ FacesMid w wr l k p) (fun i _ => l.length - (intOf i).toNat)
  case atStart =>
    refine ⟨0, List.replicate l.length (([], []), .slice none 0 0, .slice none 0 0), Nat.zero_le _, rfl, (fun j hj => absurd hj (by omega)), ⟨by simp, ?_, ?_, HB1.out⟩⟩
    · have h := HO1.out
      rw [show (Value.agg #[.slice none 0 0, .slice none 0 0]).cells = #[.slice none 0 0, .slice none 0 0] from rfl, made_two] at h
      refine ⟨?_, fun x hx => ?_, fun x hx => ?_⟩
      · rw [List.length_replicate]; exact h
      · rw [(List.mem_replicate.1 hx).2]; exact World.ownsRow_nil _ _ _ _
      · rw [(List.mem_replicate.1 hx).2]; exact World.ownsRow_nil _ _ _ _
    · simp [midFaces]
  case round =>
    clear HO1 HB1
    obtain ⟨k, p, hk, rfl, hno, hat⟩ := hrel
    have HM := Lib.hid hat
    have hpl := hat.len
    clear hat
    by_cases hlt : k < l.length
    · obtain ⟨ad, u, rfl, hblk, hT, hU⟩ := HF.out k hlt
      have HSK := Lib.hid (midFaces_skip l k hlt)
      have HPH := Lib.hid (So.phase_at l 2 k hlt)
      have HFT : Hid (∀ t, t = l[k]'hlt → faceT t = faceT (l[k]'hlt)) := fun t ht => by rw [ht]
      obtain ⟨t, ht⟩ : ∃ t, t = l[k]'hlt := ⟨_, rfl⟩
      have hol : t.ops.length ≤ 4294967296 := by rw [ht]; exact HO.out _ (List.getElem_mem _)
      have HT := Lib.hid ht
      rw [← ht] at hT hU HSK HPH
      obtain ⟨Au, cu, rfl, _⟩ := hU.form
      obtain ⟨hc0, hc1, hc2, hc3⟩ := hT.below hblk HM.out.below
      have HU := Lib.hid (hU.below (below_all HM.out.below (alloc_below wr (.cells #[.int .i64 t.session, .bool t.done, .int .i64 t.first, .slice Au t.ops.length cu] 37))))
      clear hT hU ht
      cases hd : t.done with
      | false =>
        rw [hd] at hc1
        have HPZ : Hid (So.phase l 2 k = 0) := by rw [Hid, HPH.out]; simp [So.phaseT, hd]
        have HN : Hid (∀ o, FacesMid w (wr.alloc o) l (k + 1) p) := fun o => by
          have h := HM.out.later (alloc_below wr o)
          exact ⟨h.len, h.own, by rw [h.same, HSK.out hd], h.below⟩
        go_wp2_with fail
        go_roundw
        case rel => exact ⟨k + 1, p, by omega, by go_num, So.next_zero hno.out HPZ.out, HN.out _⟩
        case measure => simp [intOf]; omega
      | true =>
        rw [hd] at hc1 HU
        have HPE : Hid (So.phase l 2 k = (In.lookR t.ops).2.2) := by rw [Hid, HPH.out]; simp [So.phaseT, hd]
        have HFA : Hid (faceT (l[k]'hlt) = (In.readsTo t.ops 16, In.writesTo t.ops 16)) := by rw [Hid, ← HT.out, faceT, hd]; rfl
        go_wp2_with fail
        refine (look_own t.ops _ _ _ _ _ HU.out hol).mono ?_
        rintro e w1 ⟨x, y, rfl, hx, hy, hb1⟩
        have HM1 := Lib.hid (HM.out.later (below_new hb1))
        by_cases hq : (In.lookR t.ops).2.2 = 0
        · have HPZ : Hid (So.phase l 2 k = 0) := by rw [Hid, HPE.out]; exact hq
          rw [good_of_zero _ hq] at hx hy ⊢
          dsimp only at hx hy ⊢
          obtain ⟨A1, c1, rfl⟩ := own_form hx
          obtain ⟨A2, c2, rfl⟩ := own_form hy
          have hbs : w.heap.size ≤ (wr.alloc (.cells #[.int .i64 t.session, .bool true, .int .i64 t.first, .slice Au t.ops.length cu] 37)).heap.size := Nat.le_trans HM.out.below.size (by simp)
          have HX := Lib.hid (hx.mono hbs)
          have HY := Lib.hid (hy.mono hbs)
          have hkp : k < p.length := by omega
          obtain ⟨g, cp, hve, d0, d1, f0, f1, _, hgs⟩ := HM1.out.own.form k hkp
          cases hve
          have hgw : w.heap.size < w1.heap.size := hgs
          have HNX := Lib.hid (HM1.out.put hlt ((In.readsTo t.ops 16, In.writesTo t.ops 16), .slice A1 (In.readsTo t.ops 16).length c1, .slice A2 (In.writesTo t.ops 16).length c2) HFA.out.symm HX.out HY.out)
          clear hx hy hb1 hbs hq HM
          go_wp2_with fail
          go_roundw
          case rel => exact ⟨k + 1, _, by omega, by go_num, So.next_zero hno.out HPZ.out, HNX.out.later (alloc_below _ _)⟩
          case measure => simp [intOf]; omega
        · have hqb : ((In.lookR t.ops).2.2 != 0) = true := by rw [bne_iff_ne]; exact hq
          have HR : Hid (So.firstR l 2 = ((k : Int), (In.lookR t.ops).2.2)) := by rw [Hid, So.first_bad l 2 k hlt hno.out (by rw [HPE.out]; exact hq), HPE.out]
          have HNC : Hid (¬ So.Clean l 2) := fun h => hq (by rw [← HPE.out]; exact h k hlt)
          obtain ⟨A1, c1, rfl⟩ := own_form hx
          obtain ⟨A2, c2, rfl⟩ := own_form hy
          generalize (In.lookR t.ops).2.2 = q at *
          clear hx hy hb1 hq
          go_wp2_with fail
          refine bodyPost_ret (results_tmp3 rfl _ _ _) rfl ?_
          exact RetFaces.mk none 0 0 _ _ HR.out (fun h => absurd h HNC.out) (below_all HM1.out.below (alloc_below _ _))
    · have HR : Hid (So.firstR l 2 = (0, 0)) := So.first_ok l 2 (fun j hj => hno.out j (by omega))
      go_wp2_with fail
      refine bodyPost_ret (results_tmp3 rfl _ _ _) rfl ?_
      refine RetFaces.mk (some ⟨w.heap.size, 0, none⟩) l.length l.length 0 0 HR.out (fun _ => ?_) HM.out.below
      have := HM.out.own.faces
      rw [HM.out.same, midFaces_end l k (by omega)] at this
      rw [hpl] at this
      exact this

/-! Who wrote what. -/
def RetWriters (w : World) (l : List Gr.Tx) (e : Ending) (w' : World) : Prop := ∃ o : Option Nat, e = .returned (.tuple #[.map o, .int .i64 (So.firstR l 1).1, .int .i64 (So.firstR l 1).2]) ∧ (So.Clean l 1 → ∃ b n D, o = some b ∧ w'.ownsMap Try.prog 74 (plainElem Try.prog 3) b n D ∧ Wrs D l l.length []) ∧ Below w.heap.size w w'
theorem RetWriters.mk {w w' : World} {l : List Gr.Tx} (o : Option Nat) (a b : Int) (h : So.firstR l 1 = (a, b)) (hf : So.Clean l 1 → ∃ b n D, o = some b ∧ w'.ownsMap Try.prog 74 (plainElem Try.prog 3) b n D ∧ Wrs D l l.length []) (hb : Below w.heap.size w w') : RetWriters w l (.returned (.tuple #[.map o, .int .i64 a, .int .i64 b])) w' :=
  ⟨o, by rw [h], hf, hb⟩
theorem Wrs.found {D : DataW Unit} {l : List Gr.Tx} {i : Nat} {c : List Ev.Event} (h : Wrs D l i c) (hi : i ≤ l.length) (k v : Int) (hk : okN k) (hv : okN v) (hw : So.wrote k v ((l.take i).flatMap (·.ops) ++ c) = true) : ∃ m : Nat, D.atKey (itemLit k v) (.lit (.int .i64 0)) = .lit (.int .i64 (m : Int)) := by
  rw [wrote_append] at hw
  cases hc : So.wrote k v c with
  | true => exact ⟨i, h.cur k v hk hv hc⟩
  | false =>
    rw [hc, Bool.or_false, So.wrote, List.any_eq_true] at hw
    obtain ⟨x, hx, hx2⟩ := hw
    obtain ⟨t, ht, hxt⟩ := List.mem_flatMap.1 hx
    obtain ⟨m, hm, rfl⟩ := List.mem_take_iff_getElem.1 ht
    exact ⟨m, h.old k v hk hv m (by omega) (by omega) (by rw [So.wrote, List.any_eq_true]; exact ⟨x, hxt, hx2⟩)⟩
/-- More entries than there can be. -/
def opsCap (k m : Nat) : Nat := k * 4294967296 + m
theorem opsCap_succ (k m : Nat) : opsCap k m + 1 = opsCap k (m + 1) := by unfold opsCap; omega
/-- What writersOf holds: the map in its block, at transaction k, behind the ops c of it. -/
structure WrMid (w wr : World) (l : List Gr.Tx) (k : Nat) (c : List Ev.Event) (n : Nat) (D : DataW Unit) : Prop where
  map : wr.ownsMap Try.prog 74 (plainElem Try.prog 3) w.heap.size n D
  wrs : Wrs D l k c
  below : Below w.heap.size w wr
theorem WrMid.later {w wr w' : World} {l : List Gr.Tx} {k : Nat} {c : List Ev.Event} {n : Nat} {D : DataW Unit} (h : WrMid w wr l k c n D) (hb : Below wr.heap.size wr w') : WrMid w w' l k c n D :=
  ⟨h.map.kept (row := none) ⟨hb.os, hb.tape, hb.output, hb.size, fun k hk _ => hb.block k hk⟩ (by simp), h.wrs, below_all h.below hb⟩
theorem op_ok {x : Ev.Event} (h : isOpB x = true) : okN x.key ∧ okN x.value := by
  rw [isOpB, Bool.and_eq_true] at h
  have hr := (Ev.right_iff x).1 h.1
  obtain ⟨_, _, _, _, h5⟩ := hr
  rw [if_pos h.2] at h5
  have hn := (Nm.isNum_iff _).1 h5.2.2
  exact ⟨okN_small h5.1 (by omega), okN_small hn.1 (by omega)⟩
set_option maxHeartbeats 2000000 in
theorem writersOf_at (l : List Gr.Tx) (v : Value) (w : World) (hv : Txs w v l) (hl : l.length ≤ 32) (ho : ∀ t ∈ l, t.ops.length ≤ 4294967296) (hc : So.Clean l 0) : Calls Try.prog 15 #[v] w (RetWriters w l) := by
  obtain ⟨A, c, rfl, hform⟩ := hv.spelled
  have HF := Lib.hid hform
  have HO := Lib.hid ho
  have HC := Lib.hid ((So.clean_may l).1 hc)
  clear hform hv ho hc
  have hmm := @run_makeMap Try.prog
  go_enter Try.func15, Try.ntmps15
  go_wp2
  go_loopw [16] (fun i wr => ∃ (k : Nat) (D : DataW Unit), k ≤ l.length ∧ i = .int .i64 k ∧ Hid (∀ j, j < k → So.phase l 1 j = 0) ∧ WrMid w wr l k [] (opsCap k 0) D) (fun i _ => l.length - (intOf i).toNat)
  case atStart => exact ⟨0, .map [], Nat.zero_le _, rfl, (fun j hj => absurd hj (by omega)), ⟨(World.ownsMap_made _ _ _ _).mono (Nat.zero_le _), Wrs.start l, (Below.refl _ _).alloc (Nat.le_refl _) _⟩⟩
  case round =>
    obtain ⟨k, D, hk, rfl, hno, hat⟩ := hrel
    have HM := Lib.hid hat
    clear hat
    by_cases hlt : k < l.length
    · obtain ⟨ad, u, rfl, hblk, hT, hU⟩ := HF.out k hlt
      obtain ⟨t, ht⟩ : ∃ t, t = l[k]'hlt := ⟨_, rfl⟩
      have hol : t.ops.length ≤ 4294967296 := by rw [ht]; exact HO.out _ (List.getElem_mem _)
      have HPH : Hid (So.phase l 1 k = So.unlikeR ((l.take k).flatMap (·.ops)) t.ops) := by rw [Hid, So.phase_at l 1 k hlt, ht]; simp [So.phaseT]
      have HNXT : Hid (∀ D, Wrs D l k t.ops → Wrs D l (k + 1) []) := fun D h => Wrs.next hlt (by rw [← ht]; exact h)
      have HMAY : Hid (∀ e ∈ t.ops, isOpB e = true) := by rw [ht]; exact ((So.mayT_iff _).1 (HC.out _ (List.getElem_mem _))).1
      rw [← ht] at hT hU
      obtain ⟨Au, cu, rfl, hev⟩ := hU.spelled
      have HEV := Lib.hid hev
      obtain ⟨hc0, hc1, hc2, hc3⟩ := hT.below hblk HM.out.below
      clear hT hU hev ht
      go_wp2_with fail
      generalize hW : wr.alloc (.cells #[.int .i64 t.session, .bool t.done, .int .i64 t.first, .slice Au t.ops.length cu] 37) = W
      have HMW : Hid (WrMid w W l k [] (opsCap k 0) D) := by rw [← hW]; exact HM.out.later (alloc_below _ _)
      clear hW HM hc0 hc1 hc2 hc3
      go_loopw [24] (fun i wx => ∃ (m : Nat) (D : DataW Unit), m ≤ t.ops.length ∧ i = .int .i64 m ∧ Hid (So.phase l 1 k = So.unlikeR ((l.take k).flatMap (·.ops) ++ t.ops.take m) (t.ops.drop m)) ∧ WrMid w wx l k (t.ops.take m) (opsCap k m) D) (fun i _ => t.ops.length - (intOf i).toNat)
      case atStart => exact ⟨0, D, Nat.zero_le _, rfl, by rw [Hid, HPH.out]; simp, HMW.out⟩
      case round =>
        clear HMW
        obtain ⟨m, D, hm, rfl, hun, hat⟩ := hrel
        have HM := Lib.hid hat
        clear hat
        by_cases hmt : m < t.ops.length
        · obtain ⟨ad2, rfl, hblk2, hE⟩ := HEV.out m hmt
          have HST := Lib.hid (So.unlike_step ((l.take k).flatMap (·.ops)) t.ops m hmt)
          have HTK := Lib.hid (List.take_succ_eq_append_getElem hmt)
          have HXM : Hid (isOpB (t.ops[m]'hmt) = true) := HMAY.out _ (List.getElem_mem _)
          obtain ⟨x, hx⟩ : ∃ x, x = t.ops[m]'hmt := ⟨_, rfl⟩
          rw [← hx] at hE HST HTK HXM
          obtain ⟨e0, e1, e2, e3⟩ := hE.below hblk2 HM.out.below
          clear hE hx
          obtain ⟨okk, okv⟩ := op_ok HXM.out
          have HOK := Lib.hid okk
          have HOV := Lib.hid okv
          clear okk okv
          have HHAS := Lib.hid (HM.out.wrs.has x.key x.value HOK.out HOV.out)
          rcases So.opBad_cases ((l.take k).flatMap (·.ops) ++ t.ops.take m) x with ⟨hk2, hb⟩ | ⟨hk2, ⟨hv0, hb⟩ | ⟨hv0, ⟨htm, hb⟩ | ⟨htm, hb⟩⟩⟩
          · have q2 : (x.kind != 2) = true := by rw [bne_iff_ne]; exact hk2
            have HN : Hid (So.phase l 1 k = So.unlikeR ((l.take k).flatMap (·.ops) ++ t.ops.take (m + 1)) (t.ops.drop (m + 1))) := by rw [Hid, hun.out, HST.out, if_neg (by rw [hb]; decide)]
            have HMN : Hid (∀ o, WrMid w (wr.alloc o) l k (t.ops.take (m + 1)) (opsCap k (m + 1)) D) := fun o => by
              have h := HM.out.later (alloc_below wr o)
              exact ⟨h.map.mono (by simp only [opsCap]; omega), by rw [HTK.out]; exact h.wrs.pass x hk2, h.below⟩
            clear hk2 hb
            go_wp2_with fail
            go_roundw
            case rel => exact ⟨m + 1, D, by omega, by go_num, HN, HMN.out _⟩
            case measure => simp [intOf]; omega
          · have q2 : (x.kind != 2) = false := by rw [hk2]; rfl
            have q0 : (x.value == 0) = true := by rw [hv0]; rfl
            have HP : Hid (So.phase l 1 k = 7) := by rw [Hid, hun.out, HST.out, if_pos (by rw [hb]; decide), hb]
            have HR : Hid (So.firstR l 1 = ((k : Int), 7)) := by rw [Hid, So.first_bad l 1 k hlt hno.out (by rw [HP.out]; decide), HP.out]
            have HNC : Hid (¬ So.Clean l 1) := fun h => by have := h k hlt; rw [HP.out] at this; cases this
            clear hk2 hb hv0
            go_wp2_with fail
            refine bodyPost_ret (results_tmp3 rfl _ _ _) rfl ?_
            exact RetWriters.mk none _ _ HR.out (fun h => absurd h HNC.out) (below_all HM.out.below (alloc_below _ _))
          · have q2 : (x.kind != 2) = false := by rw [hk2]; rfl
            have q0 : (x.value == 0) = false := by rw [beq_eq_false_iff_ne]; exact hv0
            have HNW : Hid (So.wrote x.key x.value ((l.take k).flatMap (·.ops) ++ t.ops.take m) = false) := (So.times_zero _ _ _).1 htm
            rw [HNW.out] at HHAS
            have HAT : Hid (D.atKey (itemLit x.key x.value) (.lit (.int .i64 0)) = .lit (.int .i64 0)) := Maps.atKey_of_not_has HHAS.out _
            have HN : Hid (So.phase l 1 k = So.unlikeR ((l.take k).flatMap (·.ops) ++ t.ops.take (m + 1)) (t.ops.drop (m + 1))) := by rw [Hid, hun.out, HST.out, if_neg (by rw [hb]; decide)]
            have HPUT : Hid (Wrs (D.put (itemLit x.key x.value) (.lit (.int .i64 (k : Int)))) l k (t.ops.take (m + 1))) := by rw [Hid, HTK.out]; exact HM.out.wrs.put HM.out.map.isMap x hk2 HOK.out HOV.out HNW.out
            have HM2 := Lib.hid ((HM.out.later (alloc_below wr (.cells #[.int .i64 x.kind, .int .i64 x.session, .int .i64 x.key, .int .i64 x.value] 45))).later (alloc_below _ (.cells #[.int .i64 x.key, .int .i64 x.value] 74)))
            have hnm : opsCap k m < maxLen := by simp only [maxLen, opsCap]; omega
            clear hk2 hb hv0 htm
            go_wp2_with (first
              | (at_lookup; refine wpList_look _ rfl _ _ 50 rfl 74 3 item_law Try.underlying50 Try.underlying3 (int_zero _) w.heap.size (opsCap k m) D rfl HM2.out.map _ _ rfl (item_key HOK.out HOV.out) 0 false HAT.out HHAS.out ?_)
              | (at_mapUpdate; refine wpList_mapUpdate_own _ rfl _ _ _ 50 rfl 74 3 item_law Try.underlying50 _ w.heap.size (opsCap k m) D rfl HM2.out.map hnm _ _ _ rfl rfl (item_key HOK.out HOV.out) _ [] (int_elem (by omega)) ?_; intro w2 hm2 hg2; have HMAP := Lib.hid (opsCap_succ k m ▸ hm2); have HB2 := Lib.hid (HM2.out.below.grown hg2 HM2.out.below.size (fun j hj => by cases hj; omega)); clear hm2 hg2))
            go_roundw
            case rel => exact ⟨m + 1, _, by omega, by go_num, HN, ⟨HMAP.out, HPUT.out, HB2.out⟩⟩
            case measure => simp [intOf]; omega
          · have q2 : (x.kind != 2) = false := by rw [hk2]; rfl
            have q0 : (x.value == 0) = false := by rw [beq_eq_false_iff_ne]; exact hv0
            have HNW : Hid (So.wrote x.key x.value ((l.take k).flatMap (·.ops) ++ t.ops.take m) = true) := by
              cases hq : So.wrote x.key x.value ((l.take k).flatMap (·.ops) ++ t.ops.take m) with
              | true => rfl
              | false => rw [(So.times_zero _ _ _).2 hq] at htm; omega
            rw [HNW.out] at HHAS
            obtain ⟨j, hj⟩ := HM.out.wrs.found (by omega) x.key x.value HOK.out HOV.out HNW.out
            have HAT := Lib.hid hj
            have HP : Hid (So.phase l 1 k = 8) := by rw [Hid, hun.out, HST.out, if_pos (by rw [hb]; decide), hb]
            have HR : Hid (So.firstR l 1 = ((k : Int), 8)) := by rw [Hid, So.first_bad l 1 k hlt hno.out (by rw [HP.out]; decide), HP.out]
            have HNC : Hid (¬ So.Clean l 1) := fun h => by have := h k hlt; rw [HP.out] at this; cases this
            have HM2 := Lib.hid ((HM.out.later (alloc_below wr (.cells #[.int .i64 x.kind, .int .i64 x.session, .int .i64 x.key, .int .i64 x.value] 45))).later (alloc_below _ (.cells #[.int .i64 x.key, .int .i64 x.value] 74)))
            clear hk2 hb hv0 htm hj
            go_wp2_with (at_lookup; refine wpList_look _ rfl _ _ 50 rfl 74 3 item_law Try.underlying50 Try.underlying3 (int_zero _) w.heap.size (opsCap k m) D rfl HM2.out.map _ _ rfl (item_key HOK.out HOV.out) (j : Int) true HAT.out HHAS.out ?_)
            refine bodyPost_ret (results_tmp3 rfl _ _ _) rfl ?_
            exact RetWriters.mk none _ _ HR.out (fun h => absurd h HNC.out) HM2.out.below
        · have HZ : Hid (So.phase l 1 k = 0) := by rw [Hid, hun.out, So.unlike_end _ _ _ (by omega)]
          have HMN : Hid (WrMid w wr l (k + 1) [] (opsCap (k + 1) 0) D) := by
            have h := HM.out.wrs
            rw [List.take_of_length_le (by omega)] at h
            exact ⟨HM.out.map.mono (by simp only [opsCap]; omega), HNXT.out D h, HM.out.below⟩
          go_wp2_with fail
          go_roundw
          case rel => exact ⟨k + 1, D, by omega, by go_num, So.next_zero hno.out HZ.out, HMN.out⟩
          case measure => simp [intOf]; omega
    · have HR : Hid (So.firstR l 1 = (0, 0)) := So.first_ok l 1 (fun j hj => hno.out j (by omega))
      go_wp2_with fail
      refine bodyPost_ret (results_tmp3 rfl _ _ _) rfl ?_
      refine RetWriters.mk (some w.heap.size) 0 0 HR.out (fun _ => ⟨w.heap.size, _, D, rfl, HM.out.map, ?_⟩) HM.out.below
      obtain rfl : k = l.length := by omega
      exact HM.out.wrs
end Go.Proofs.Ytodahdnooidmaaa
