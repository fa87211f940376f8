/-
  What graph's Compose answers.
  Conditions: rows hold sets below 2^64.
-/
import Derived.Test.YtcpiaddohiokkaaGfWalkD
set_option maxRecDepth 4000
namespace Go.Proofs.Ytcpiaddohiokkaa
open Go.RowKit

namespace Gf
/-- A composition's row behind the first k nodes in between. -/
def accTo (b : List Nat) (L : List Nat) (k : Nat) : Nat := Bi.join ((L.take k).map fun y => b.getD y 0)
theorem accTo_zero (b L : List Nat) : accTo b L 0 = 0 := rfl
theorem accTo_next {b L : List Nat} {k : Nat} (hk : k < L.length) (hy : L[k] < b.length) : Bi.join [accTo b L k, b[L[k]]] = accTo b L (k + 1) := by
  unfold accTo
  rw [List.take_succ_eq_append_getElem hk, List.map_append, List.map_cons, List.map_nil, Bi.join_snoc, Bi.join_two, List.getD_eq_getElem?_getD, List.getElem?_eq_getElem hy]
  rfl
theorem accTo_lt {n : Nat} {b : List Nat} (hb : Ok n b) (L : List Nat) (k : Nat) : accTo b L k < 2 ^ 64 := by
  refine Bi.join_lt fun s hs => ?_
  obtain ⟨y, _, rfl⟩ := List.mem_map.1 hs
  rcases Nat.lt_or_ge y b.length with h | h
  · rw [List.getD_eq_getElem?_getD, List.getElem?_eq_getElem h]; exact hb.small (List.getElem_mem h)
  · rw [List.getD_eq_getElem?_getD, List.getElem?_eq_none h]; exact Nat.two_pow_pos 64
theorem accTo_all {n : Nat} {a b : List Nat} (ha : Ok n a) (hb : Ok n b) {x : Nat} (hx : x < a.length) : accTo b (Bi.list a[x]) (Bi.list a[x]).length = setTo (fun z => (List.range n).any fun y => bit a x y && bit b y z) n := by
  rw [accTo, List.take_length, compose_row ha hb (by rw [← ha.2.1]; exact hx), List.getD_eq_getElem?_getD, List.getElem?_eq_getElem hx]
  rfl
theorem list_node {n : Nat} {a : List Nat} (ha : Ok n a) {x : Nat} (hx : x < a.length) {k : Nat} (hk : k < (Bi.list a[x]).length) : (Bi.list a[x])[k] < n := by
  have h := (Bi.mem_list.1 (List.getElem_mem hk)).2
  rw [← bit_at hx] at h
  exact (ha.node h).2
end Gf

set_option maxHeartbeats 1000000 in
theorem gfCompose_no (n m : Int) (u v : Value) (a b : List Nat) (w : World) (hu : Us w u a) (hv : Us w v b) (ha : ∀ x ∈ a, x < 18446744073709551616) (hb : ∀ x ∈ b, x < 18446744073709551616) (hno : Gf.matchR n m a b = false) : Calls Try.prog 21 #[.agg #[.int .i64 n, u], .agg #[.int .i64 m, v]] w (RetNoG w) := by
  have HU := Lib.hid hu
  have HV := Lib.hid hv
  obtain ⟨A, c, rfl, -⟩ := hu.spelled
  obtain ⟨A', c', rfl, -⟩ := hv.spelled
  have F1 := Lib.hid (fun w h1 h2 => gfMatch_at n m (.slice A a.length c) (.slice A' b.length c') a b w h1 h2 ha hb)
  rw [hno] at F1
  clear ha hb hu hv hno
  go_enter Try.func21, Try.ntmps21
  go_wp2_with fail
  obtain ⟨t0, t1, t2, bw⟩ := gf_two w n m (.slice A a.length c) (.slice A' b.length c') rfl
  have T2 := Lib.hid t2
  have BW := Lib.hid bw
  clear t0 t1 t2 bw
  generalize ((w.alloc (.cells #[.int .i64 n, .slice A a.length c] 24)).alloc (.cells #[.int .i64 m, .slice A' b.length c'] 24)).alloc (.cells #[.int .i64 0, .slice none 0 0] 24) = W at *
  refine (F1.out _ (HU.out.below BW.out) (HV.out.below BW.out)).mono ?_
  rintro e w1 ⟨rfl, hb1⟩
  have B1 := Lib.hid (below_all BW.out hb1)
  have TR := Lib.hid (T2.out.later hb1)
  obtain ⟨r0, r1⟩ := TR.out.cells
  have f0 := TR.out.frozen 0
  have f1 := TR.out.frozen 1
  clear hb1
  go_wp2_with fail
  exact end_no (p := 4) (u := 5) rfl TR.out B1.out (by omega) _ rfl rfl

set_option maxHeartbeats 2000000 in
theorem gfCompose_at (n : Nat) (u v : Value) (a b : List Nat) (w : World) (hu : Us w u a) (hv : Us w v b) (ha : Gf.Ok n a) (hb : Gf.Ok n b) : Calls Try.prog 21 #[.agg #[.int .i64 n, u], .agg #[.int .i64 n, v]] w (RetG w n (Gf.composeR n a b)) := by
  have HU := Lib.hid hu
  have HV := Lib.hid hv
  obtain ⟨A, c, rfl, hfa⟩ := hu.spelled
  obtain ⟨A', c', rfl, hfb⟩ := hv.spelled
  have HFA := Lib.hid hfa
  have HFB := Lib.hid hfb
  have F1 := Lib.hid (fun w h1 h2 => gfMatch_at n n (.slice A a.length c) (.slice A' b.length c') a b w h1 h2 (fun x hx => ha.small hx) (fun x hx => hb.small hx))
  rw [Gf.match_iff.2 ⟨n, rfl, rfl, ha, hb⟩] at F1
  have HLA := Lib.hid ha.2.1
  have HLB := Lib.hid hb.2.1
  have HSA := Lib.hid (fun x (h : x < a.length) => ha.small (List.getElem_mem h))
  have HSB := Lib.hid (fun x (h : x < b.length) => hb.small (List.getElem_mem h))
  have HJ := Lib.hid (fun x h1 => @Gf.accTo_all n a b ha hb x h1)
  have HND := Lib.hid (fun x (h1 : x < a.length) k (h2 : k < (Bi.list a[x]).length) => Gf.list_node ha h1 h2)
  have HAC := Lib.hid (fun L k => Gf.accTo_lt hb L k)
  have HAN := Lib.hid (fun L k h1 h2 => @Gf.accTo_next b L k h1 h2)
  have HAZ := Lib.hid (fun L => Gf.accTo_zero b L)
  have hn64 := ha.1
  have hmk := fun w => gf_make w n (Nat.le_trans ha.1 (by decide))
  have HLL := Lib.hid (fun s => Bi.list_len s)
  obtain ⟨f, hf⟩ : ∃ f : Nat → Nat → Bool, f = fun x z => (List.range n).any fun y => Gf.bit a x y && Gf.bit b y z := ⟨_, rfl⟩
  have HJ' : Hid (∀ x (h : x < a.length), Gf.accTo b (Bi.list a[x]) (Bi.list a[x]).length = Gf.setTo (f x) n) := fun x h => by rw [hf]; exact HJ.out x h
  have HE : Hid (Gf.rowsAt n f n 0 = Gf.composeR n a b) := by rw [hf]; exact Gf.rowsAt_all n _ 0
  have HZ := Lib.hid (Gf.rowsAt_zero n f)
  have HN : Hid (∀ x, Gf.rowsAt n f x (Gf.setTo (f x) n) = Gf.rowsAt n f (x + 1) 0) := fun x => Gf.rowsAt_next f x
  have HST := Lib.hid (fun x s t => @Gf.rowsAt_set n f x s t)
  have HRL := Lib.hid (fun x s => Gf.rowsAt_len n f x s)
  have HRH := Lib.hid (fun x (h : x < n) s => Gf.rowsAt_here f h s)
  clear hu hv hfa hfb ha hb hf HJ
  go_enter Try.func21, Try.ntmps21
  go_wp2_with fail
  obtain ⟨t0, t1, t2, bw⟩ := gf_two w n n (.slice A a.length c) (.slice A' b.length c') rfl
  have T0 := Lib.hid t0
  have T1 := Lib.hid t1
  have T2 := Lib.hid t2
  have BW := Lib.hid bw
  clear t0 t1 t2 bw
  generalize ((w.alloc (.cells #[.int .i64 n, .slice A a.length c] 24)).alloc (.cells #[.int .i64 n, .slice A' b.length c'] 24)).alloc (.cells #[.int .i64 0, .slice none 0 0] 24) = W at *
  refine (F1.out _ (HU.out.below BW.out) (HV.out.below BW.out)).mono ?_
  rintro e w1 ⟨rfl, hb1⟩
  have B1 := Lib.hid (below_all BW.out hb1)
  have T10 := Lib.hid (T0.out.later hb1)
  have T11 := Lib.hid (T1.out.later hb1)
  have T12 := Lib.hid (T2.out.later hb1)
  obtain ⟨c0, c1⟩ := T10.out.cells
  clear hb1 T0 T1 T2
  go_upto_region 4 with fail
  have HB : Hid (Both w (w1.alloc (.cells (madeCells #[.int .u64 0] n) 49)) w1.heap.size n (.slice A a.length c) (.slice A' b.length c') (Gf.rowsAt n f 0 0)) := by
    have b2 := alloc_below w1 (.cells (madeCells #[.int .u64 0] n) 49)
    exact ⟨T10.out.later b2, T11.out.later b2, T12.out.later b2, by rw [HZ.out]; exact RowU.made w1 n, T12.out.lt, below_all B1.out b2⟩
  generalize w1.alloc (.cells (madeCells #[.int .u64 0] n) 49) = w2 at *
  generalize w1.heap.size = g at *
  clear c0 c1 T10 T11 T12
  obtain ⟨c0, c1⟩ := HB.out.one.cells
  go_wp2_with fail
  clear c0 c1
  go_loopw [22] (fun i wr => ∃ x : Nat, x ≤ n ∧ i = .int .i64 x ∧ Hid (Both w wr g n (.slice A a.length c) (.slice A' b.length c') (Gf.rowsAt n f x 0))) (fun i _ => n - (intOf i).toNat)
  case atStart => exact ⟨0, Nat.zero_le _, rfl, HB.out⟩
  case round =>
    clear HB
    obtain ⟨x, hx, rfl, HB⟩ := hrel
    by_cases hlt : x < n
    · have hxa : x < a.length := by have := HLA.out; omega
      obtain ⟨ada, rfl, hba, ha0⟩ := HFA.out x hxa
      have ha1 := (HB.out.below.cell (by rw [add_block]; exact hba)).trans ha0
      have sa := HSA.out x hxa
      have HJ2 := Lib.hid (HJ'.out x hxa)
      have HND2 := Lib.hid (HND.out x hxa)
      have hga := Lib.hid HB.out.row.lt
      generalize a[x]'hxa = p at *
      clear ha0
      go_wp2_with fail
      refine (biList_at p wr sa).mono ?_
      rintro e w3 ⟨v3, rfl, ho3, hb3⟩
      obtain ⟨AL, cL, rfl⟩ := own_form ho3
      have HB3 := Lib.hid (HB.out.later hb3)
      have HO3 := Lib.hid ho3
      have hl64 := HLL.out p
      clear ho3 hb3 HB ha1
      rw [← HAZ.out (Bi.list p)] at HB3
      generalize Bi.list p = L at *
      generalize wr.heap.size = base at *
      go_wp2_with fail
      go_loopw [30] (fun i wq => ∃ k : Nat, k ≤ L.length ∧ i = .int .i64 k ∧ Hid (Both w wq g n (.slice (some ada) a.length c) (.slice A' b.length c') (Gf.rowsAt n f x (Gf.accTo b L k))) ∧ Hid (wq.ownsRow base 3 1 (.slice AL L.length cL) L.length ((Bi.nums L).flatMap nC))) (fun i _ => L.length - (intOf i).toNat)
      case atStart => exact ⟨0, Nat.zero_le _, rfl, HB3.out, HO3.out⟩
      case round =>
        clear HB3 HO3
        obtain ⟨k, hk, rfl, HB, HO⟩ := hrel
        by_cases hkl : k < L.length
        · obtain ⟨AL', cL', hv4, hfl⟩ := (nums_own HO.out).nums
          cases hv4
          obtain ⟨adl, rfl, hbl, hl0⟩ := hfl k hkl
          have hyn := HND2.out k hkl
          have hyb : L[k]'hkl < b.length := by have := HLB.out; omega
          obtain ⟨adb, rfl, hbb, hb0⟩ := HFB.out _ hyb
          have hb1 := (HB.out.below.cell (by rw [add_block]; exact hbb)).trans hb0
          have sb := HSB.out _ hyb
          have sacc := HAC.out L k
          have HA2 := Lib.hid (HAN.out L k hkl hyb)
          generalize L[k]'hkl = y at *
          have hxr : x < (Gf.rowsAt n f x (Gf.accTo b L k)).length := by rw [HRL.out]; exact hlt
          have hold := HB.out.row.cell x hxr
          rw [HRH.out x hlt] at hold
          obtain ⟨d0, d1⟩ := HB.out.other.cells
          generalize b[y]'hyb = q at *
          have HB3 := Lib.hid ((HB.out.later (alloc_below wr (.cells #[.int .u64 (Gf.accTo b L k : Int), .int .u64 (q : Int)] 49))).drew)
          have L3 := Lib.hid (show Us (wr.alloc (.cells #[.int .u64 (Gf.accTo b L k : Int), .int .u64 (q : Int)] 49)).drew (.slice (some ⟨wr.heap.size, 0, none⟩) 2 2) [Gf.accTo b L k, q] from (lit_rows uC_len wr 49 [Gf.accTo b L k, q] (by simp [maxLen])).below (Below.refl _ _).drew)
          have HO3 := Lib.hid (own_below HO.out (below_all (alloc_below wr (.cells #[.int .u64 (Gf.accTo b L k : Int), .int .u64 (q : Int)] 49)) (Below.refl _ _).drew))
          have e3 := HB3.out.row.cell x hxr
          have f3 := HB3.out.row.frozen x
          have HB4 := Lib.hid (HB3.out.put x hxr (Bi.join [Gf.accTo b L k, q]))
          have HO4 := Lib.hid (own_setCell HO3.out hga.out (o := x) (x := .int .u64 (Bi.join [Gf.accTo b L k, q] : Int)))
          rw [HST.out] at HB4
          have F3 := Lib.hid (fun w h => biJoin_at [Gf.accTo b L k, q] (.slice (some ⟨wr.heap.size, 0, none⟩) 2 2) w h (by simp) (by
            intro y hy
            simp only [List.mem_cons, List.not_mem_nil, or_false] at hy
            rcases hy with rfl | rfl
            · exact sacc
            · exact sb))
          clear hfl hb0
          generalize Bi.join [Gf.accTo b L k, q] = t at *
          generalize Gf.accTo b L k = z at *
          go_wp2_with fail
          go_region_law (go_simp; go_at_call 36; refine (F3.out _ L3.out).mono ?_; rintro e w4 ⟨rfl, rfl⟩)
          all_goals
            go_wp2_with fail
            go_roundw
            case rel => exact ⟨k + 1, by omega, by go_num, by rw [Hid, ← HA2.out]; exact HB4.out, HO4.out⟩
            case measure => simp [intOf]; omega
        · have hkn : k = L.length := by omega
          subst hkn
          have HB5 := HB
          rw [HJ2.out, HN.out] at HB5
          go_wp2_with fail
          go_roundw
          case rel => exact ⟨x + 1, by omega, by go_num, HB5.out⟩
          case measure => simp [intOf]; omega
    · have hna : ¬ x < a.length := by have := HLA.out; omega
      have hxn : x = n := by omega
      subst hxn
      obtain ⟨c0, c1⟩ := HB.out.one.cells
      obtain ⟨r0, r1⟩ := HB.out.res.cells
      have f0 := HB.out.res.frozen 0
      have f1 := HB.out.res.frozen 1
      go_wp2_with fail
      rw [← HE.out]
      exact HB.out.done (p := 4) (q := 5) rfl (by rw [HRL.out]; simp only [maxLen]; omega) _ (HRL.out _ _).symm _ rfl rfl
end Go.Proofs.Ytcpiaddohiokkaa
