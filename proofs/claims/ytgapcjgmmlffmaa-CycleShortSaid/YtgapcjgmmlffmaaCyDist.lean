/-
  What cycle's distancesTo answers: of each node how many edges the shortest way to a certain one has.
  Conditions: a graph that is given turned, and one of its nodes.
-/
import Derived.Test.YtgapcjgmmlffmaaCyFar
import Derived.Test.YtgapcjgmmlffmaaGfAll
import Derived.Test.YtgapcjgmmlffmaaBiAll
import Derived.Laws.Rows
import Derived.Laws.Tables
set_option maxRecDepth 4000
namespace Go.Proofs.Ytgapcjgmmlffmaa
open Go.RowKit

/-! A row of numbers in an array's block. -/
def arrL (d : List Nat) : List Value := d.map fun (k : Nat) => .int .i64 (k : Int)
def arrC (d : List Nat) : Array Value := (arrL d).toArray
theorem arrL_len (d : List Nat) : (arrL d).length = d.length := List.length_map _
theorem arrC_size (d : List Nat) : (arrC d).size = d.length := by rw [arrC, List.size_toArray, arrL_len]
theorem arrC_one (d : List Nat) : (arrC d).all (·.oneCell') = true := by
  rw [arrC, List.all_toArray, List.all_eq_true]
  intro x hx
  obtain ⟨k, _, rfl⟩ := List.mem_map.1 hx
  rfl
theorem arrL_at (d : List Nat) (k : Nat) (hk : k < d.length) : (arrL d)[k]? = some (.int .i64 (d[k] : Int)) := by
  rw [arrL, List.getElem?_map, List.getElem?_eq_getElem hk]
  rfl
theorem arrL_set (d : List Nat) (k x : Nat) : (arrL d).set k (.int .i64 (x : Int)) = arrL (d.set k x) := by
  rw [arrL, arrL, List.map_set]
def ArrI (W : World) (g : Nat) (t : TypeId) (d : List Nat) : Prop := W.heap[g]? = some (.cells (arrC d) t (0, 0))
section
variable {W W' : World} {g : Nat} {t : TypeId} {d : List Nat}
theorem ArrI.cell (h : ArrI W g t d) (k : Nat) (hk : k < d.length) : W.cell? ⟨g, k, none⟩ = some (.int .i64 (d[k] : Int)) := by
  rw [cell_of_row W g k _ _ (0, 0) h, arrC, List.getElem?_toArray, arrL_at d k hk]
theorem ArrI.frozen (h : ArrI W g t d) (k : Nat) : W.frozen? ⟨g, k, none⟩ = false := frozen_of_row W g k _ _ h
theorem ArrI.lt (h : ArrI W g t d) : g < W.heap.size := (Array.getElem?_eq_some_iff.1 h).1
theorem ArrI.put (h : ArrI W g t d) (k x : Nat) : ArrI (W.setCell ⟨g, k, none⟩ (.int .i64 (x : Int))) g t (d.set k x) := by
  have := heap_setCell_same W g k _ _ (.int .i64 (x : Int)) h
  rw [arrC, List.setIfInBounds_toArray, arrL_set d k x] at this
  exact this
theorem ArrI.later (h : ArrI W g t d) (hb : Below W.heap.size W W') : ArrI W' g t d := (hb.block g h.lt).trans h
theorem ArrI.keep {B : Nat} (h : ArrI W g t d) (hb : Below B W W') (hg : g < B) : ArrI W' g t d := (hb.block g hg).trans h
theorem ArrI.far (h : ArrI W g t d) (p : Addr) (hp : p.block ≠ g) (x : Value) : ArrI (W.setCell p x) g t d := (Below.heap_setCell W p x g (fun e => hp e.symm)).trans h
end
def RetArr (w : World) (d : List Nat) (e : Ending) (w' : World) : Prop := e = .returned (.agg (arrC d)) ∧ Below w.heap.size w w'

/-- Sixty-four zeros, as the walk spells them. -/
theorem arr_zeros : (Value.int .i64 0 :: Value.int .i64 0 :: Value.int .i64 0 :: Value.int .i64 0 :: Value.int .i64 0 :: Value.int .i64 0 :: Value.int .i64 0 :: Value.int .i64 0 :: Value.int .i64 0 :: Value.int .i64 0 :: Value.int .i64 0 :: Value.int .i64 0 :: Value.int .i64 0 :: Value.int .i64 0 :: Value.int .i64 0 :: Value.int .i64 0 :: Value.int .i64 0 :: Value.int .i64 0 :: Value.int .i64 0 :: Value.int .i64 0 :: Value.int .i64 0 :: Value.int .i64 0 :: Value.int .i64 0 :: Value.int .i64 0 :: Value.int .i64 0 :: Value.int .i64 0 :: Value.int .i64 0 :: Value.int .i64 0 :: Value.int .i64 0 :: Value.int .i64 0 :: Value.int .i64 0 :: Value.int .i64 0 :: Value.int .i64 0 :: Value.int .i64 0 :: Value.int .i64 0 :: Value.int .i64 0 :: Value.int .i64 0 :: Value.int .i64 0 :: Value.int .i64 0 :: Value.int .i64 0 :: Value.int .i64 0 :: Value.int .i64 0 :: Value.int .i64 0 :: Value.int .i64 0 :: Value.int .i64 0 :: Value.int .i64 0 :: Value.int .i64 0 :: Value.int .i64 0 :: Value.int .i64 0 :: Value.int .i64 0 :: Value.int .i64 0 :: Value.int .i64 0 :: Value.int .i64 0 :: Value.int .i64 0 :: Value.int .i64 0 :: Value.int .i64 0 :: Value.int .i64 0 :: Value.int .i64 0 :: Value.int .i64 0 :: Value.int .i64 0 :: Value.int .i64 0 :: Value.int .i64 0 :: Value.int .i64 0 :: Value.int .i64 0 :: []).toArray = arrC (Gf.zeros 64) := rfl

/-- The call's memory: the graph, the result, the numbers. -/
structure Dst (w W : World) (n : Nat) (u : Value) (r d : List Nat) : Prop where
  arg : Two W w.heap.size 24 (.int .i64 (n : Int)) u
  res : ArrI W (w.heap.size + 1) 48 r
  num : ArrI W (w.heap.size + 1 + 1) 48 d
  below : Below w.heap.size w W
theorem Dst.later {w W W' : World} {n : Nat} {u : Value} {r d : List Nat} (h : Dst w W n u r d) (hb : Below W.heap.size W W') : Dst w W' n u r d := ⟨h.arg.later hb, h.res.later hb, h.num.later hb, below_all h.below hb⟩
theorem Dst.put {w W : World} {n : Nat} {u : Value} {r d : List Nat} (h : Dst w W n u r d) (k x : Nat) : Dst w (W.setCell ⟨w.heap.size + 1 + 1, k, none⟩ (.int .i64 (x : Int))) n u r (d.set k x) :=
  ⟨two_far h.arg _ (by show w.heap.size + 1 + 1 ≠ w.heap.size; omega) _, h.res.far _ (by show w.heap.size + 1 + 1 ≠ w.heap.size + 1; omega) _, h.num.put k x, h.below.setCell (p := ⟨w.heap.size + 1 + 1, k, none⟩) (by show w.heap.size ≤ w.heap.size + 1 + 1; omega) _⟩
theorem Dst.start (w : World) (n : Nat) (u : Value) (r d : List Nat) : Dst w (((w.alloc (.cells #[.int .i64 (n : Int), u] 24)).alloc (.cells (arrC r) 48)).alloc (.cells (arrC d) 48)) n u r d := by
  have s1 := World.size_alloc w (.cells #[.int .i64 (n : Int), u] 24)
  have b1 := alloc_below w (.cells #[.int .i64 (n : Int), u] 24)
  have t0 := Two.new w 24 (.int .i64 (n : Int)) u
  generalize w.alloc (.cells #[.int .i64 (n : Int), u] 24) = w1 at *
  have s2 := World.size_alloc w1 (.cells (arrC r) 48)
  have b2 := alloc_below w1 (.cells (arrC r) 48)
  have t1 : ArrI (w1.alloc (.cells (arrC r) 48)) w1.heap.size 48 r := World.alloc_heap_new w1 _
  generalize w1.alloc (.cells (arrC r) 48) = w2 at *
  have b3 := alloc_below w2 (.cells (arrC d) 48)
  have t2 : ArrI (w2.alloc (.cells (arrC d) 48)) w2.heap.size 48 d := World.alloc_heap_new w2 _
  rw [s2, s1] at t2
  rw [s1] at t1
  exact ⟨t0.later (below_all b2 b3), t1.later b3, t2, below_all b1 (below_all b2 b3)⟩
theorem dist_size {d : List Nat} (h : d.length = 64) : (Try.prog.info? 48).map (·.size) = some (arrC d).size := by
  rw [arrC_size, h]
  kernel_rfl
/-- The call's end: the numbers are laid into the result. -/
theorem Dst.done {fn : Func} {p : Tmp} (hfn : fn.results = #[.cell p 48]) {w W : World} {n : Nat} {u : Value} {r d : List Nat} (h : Dst w W n u r d) (hd : d.length = 64) (tmps : Array Value) (hp : tmps.getD p undef = .pointer (some ⟨w.heap.size + 1, 0, none⟩)) :
    bodyPost Try.prog fn (RetArr w d) Exit.ret { tmps := tmps, defers := [] } (W.setRow (w.heap.size + 1) (arrC d)) :=
  bodyPost_ret (results_cell_row hfn tmps _ (w.heap.size + 1) 48 (arrC d) (0, 0) _ hp (setRow_heap W _ (arrC r) (arrC d) _ _ h.res) Try.underlying48 rfl (dist_size hd)) rfl ⟨rfl, below_setRow h.below (by omega) _⟩

set_option maxHeartbeats 4000000 in
theorem cyDist_at (n : Nat) (u : Value) (g : List Nat) (v : Nat) (w : World) (hu : Us w u (Gf.turnR n g)) (hg : Gf.Ok n g) (hv : v < n) : Calls Try.prog 22 #[.agg #[.int .i64 n, u], .int .i64 v] w (RetArr w (Cy.fars n g v n)) := by
  have ht : Gf.Ok n (Gf.turnR n g) := Gf.build_ok hg.1 _
  have hn64 := hg.1
  have hvl : v < (Gf.turnR n g).length := by rw [ht.2.1]; exact hv
  have HM := Lib.hid (Cy.Bfs.start hg hv)
  have HNX := Lib.hid (fun k done round (m : Cy.Bfs n g v k done round) => m.next hg)
  have HEND := Lib.hid (fun k done (m : Cy.Bfs n g v k done 0) => m.ends hg)
  have HLESS := Lib.hid (fun k done round (m : Cy.Bfs n g v k done round) => m.less hg)
  have HND := Lib.hid (fun k done round (m : Cy.Bfs n g v k done round) => m.nodes hg)
  have HNL := Lib.hid (fun l i => Cy.nextTo_lt ht l i)
  have HRS := Lib.hid (fun x (h : x ∈ Gf.turnR n g) => ht.small h)
  have HTL := Lib.hid (show (Gf.turnR n g).length = n from ht.2.1)
  have FJ := Lib.hid (fun (a b : Nat) (w : World) (ha : a < 18446744073709551616) (hb : b < 18446744073709551616) => biJoin_at [a, b] (.slice (some ⟨w.heap.size, 0, none⟩) 2 2) (w.alloc (.cells #[.int .u64 (a : Int), .int .u64 (b : Int)] 40)) (show Us (w.alloc (.cells #[.int .u64 (a : Int), .int .u64 (b : Int)] 40)) (.slice (some ⟨w.heap.size, 0, none⟩) 2 2) [a, b] from lit_rows uC_len w 40 [a, b] (by simp [maxLen])) (by simp) (by
        intro y hy
        simp only [List.mem_cons, List.not_mem_nil, or_false] at hy
        rcases hy with rfl | rfl
        · exact ha
        · exact hb))
  have HF0 := Lib.hid (Cy.fars_zero n g v)
  obtain ⟨res, hres⟩ : ∃ res, res = Cy.fars n g v n := ⟨_, rfl⟩
  rw [← hres] at HEND ⊢
  have HRL : Hid (res.length = 64) := by rw [hres]; exact Cy.fars_len n g v n
  clear hres ht
  obtain ⟨t, htt⟩ : ∃ t, t = Gf.turnR n g := ⟨_, rfl⟩
  have hr0 : ∀ h : v < t.length, t[v] = (Gf.turnR n g).getD v 0 := fun h => by
    subst htt
    rw [List.getD_eq_getElem?_getD, List.getElem?_eq_getElem h]
    rfl
  generalize (Gf.turnR n g).getD v 0 = row0 at *
  rw [← htt] at hu hvl HNX HNL HTL HRS
  clear htt
  obtain ⟨A, c, rfl, hf⟩ := hu.spelled
  have HF := Lib.hid hf
  obtain ⟨ad, rfl, hblk, h0⟩ := hf v hvl
  rw [hr0 hvl] at h0
  clear hf hu hg hr0
  go_enter Try.func22, Try.ntmps22
  go_upto_region 3 with fail
  rw [arr_zeros]
  have HD := Lib.hid (Dst.start w n (.slice (some ad) t.length c) (Gf.zeros 64) (Gf.zeros 64))
  have HZL := Lib.hid (show (Gf.zeros 64).length = 64 from List.length_replicate)
  generalize Gf.zeros 64 = zz at *
  generalize ((w.alloc (.cells #[.int .i64 (n : Int), .slice (some ad) t.length c] 24)).alloc (.cells (arrC zz) 48)).alloc (.cells (arrC zz) 48) = W at *
  obtain ⟨a0, a1⟩ := HD.out.arg.cells
  have h1 := (HD.out.below.cell (by rw [add_block]; exact hblk)).trans h0
  go_wp2_with fail
  clear a0 a1 h0 h1
  go_loopw [6, 7, 8] (fun dn rd ct wr => ∃ (k cn done round : Nat), cn = k + 1 ∧ k ≤ n ∧ dn = .int .u64 (done : Int) ∧ rd = .int .u64 (round : Int) ∧ ct = .int .i64 (cn : Int) ∧ Hid (Cy.Bfs n g v k done round) ∧ Hid (Dst w wr n (.slice (some ad) t.length c) zz (Cy.fars n g v k))) (fun _ _ ct _ => n + 1 - (intOf ct).toNat)
  case atStart => exact ⟨0, 1, 0, row0, rfl, Nat.zero_le _, rfl, rfl, rfl, HM.out, by rw [HF0.out]; exact HD.out⟩
  case round =>
    obtain ⟨k, cn, done, round, hck, hk, rfl, rfl, rfl, HM1, HD1⟩ := hrel
    have HCK := Lib.hid hck
    have hds := HM1.out.dsmall
    have hrs := HM1.out.rsmall
    by_cases hr : round = 0
    · subst hr
      have hq : (((0 : Nat) : Int) != 0) = false := rfl
      have HE := Lib.hid (HEND.out k done HM1.out)
      rw [HE.out] at HD1
      have HSZ := Lib.hid (dist_size HRL.out)
      have HOL : Hid ((arrC zz).size = (arrC res).size) := by rw [Hid, arrC_size, arrC_size, HZL.out, HRL.out]
      have HON := Lib.hid (arrC_one res)
      go_wp2_with (first | refine wpList_load_row rfl 48 (.tmp 5) rfl (w.heap.size + 1 + 1) rfl 48 (arrC res) (0, 0) _ HD1.out.num Try.underlying48 rfl HSZ.out ?_ | refine wpList_store_row rfl 48 (.tmp 4) (.tmp 47) rfl (w.heap.size + 1) (arrC res) rfl rfl 48 (arrC zz) HD1.out.res HSZ.out HOL.out HON.out ?_)
      exact HD1.out.done (p := 4) rfl HRL.out _ rfl
    · have hq : ((round : Int) != 0) = true := by rw [bne_iff_ne]; omega
      have hq2 : (round != 0) = true := by rw [bne_iff_ne]; exact hr
      have hkn := HLESS.out k done round HM1.out hr
      have hcn : cn ≤ n := by omega
      clear hck
      have HN1 := Lib.hid (HNX.out k done round HM1.out)
      have HLN := Lib.hid (HND.out k done round HM1.out)
      have HMK := Lib.hid HM1.out.marked
      have HDS := Lib.hid (HNX.out k done round HM1.out).dsmall
      have b2 := alloc_below wr (.cells #[.int .u64 (done : Int), .int .u64 (round : Int)] 40)
      have HD2 := Lib.hid (HD1.out.later b2)
      have F1 := Lib.hid (FJ.out done round wr hds hrs)
      generalize Bi.join [done, round] = dn2 at *
      go_wp2_with fail
      generalize wr.alloc (.cells #[.int .u64 (done : Int), .int .u64 (round : Int)] 40) = w2 at *
      clear b2 HD1
      refine F1.out.mono ?_
      rintro e w3 ⟨rfl, rfl⟩
      go_wp2_with fail
      refine (biList_at round _ hrs).mono ?_
      rintro e w4 ⟨vl, rfl, ho4, hb4⟩
      have HD4 := Lib.hid (HD2.out.later hb4)
      have HB4 : w.heap.size + 1 + 1 < w3.heap.size := HD2.out.num.lt
      have hll := Bi.list_len round
      generalize Bi.list round = L at *
      generalize w3.heap.size = base at *
      obtain ⟨AL, cL, hvl⟩ := own_form ho4
      subst hvl
      have HO4 := Lib.hid ho4
      clear ho4 hb4 hq hq2
      go_wp2_with fail
      go_loopw [9, 28] (fun nx ix wr => ∃ i : Nat, i ≤ L.length ∧ nx = .int .u64 (Cy.nextTo t L i : Nat) ∧ ix = .int .i64 i ∧ Hid (Dst w wr n (.slice (some ad) t.length c) zz (Cy.markTo (Cy.far n g v k) (k + 1) L i)) ∧ Hid (wr.ownsRow base 3 1 (.slice AL L.length cL) L.length ((Bi.nums L).flatMap nC))) (fun _ ix _ => L.length - (intOf ix).toNat)
      case atStart => exact ⟨0, Nat.zero_le _, rfl, rfl, by rw [Cy.markTo_zero]; exact HD4.out, HO4.out⟩
      case round =>
        clear HD4 HO4
        obtain ⟨i, hi, rfl, rfl, HD5, HO5⟩ := hrel
        by_cases hlt : i < L.length
        · obtain ⟨A5, c5, e5, hh5⟩ := (nums_own HO5.out).nums
          cases e5
          obtain ⟨adl, rfl, hbl, e5⟩ := hh5 i hlt
          clear hh5
          have hzn : L[i] < n := HLN.out _ (List.getElem_mem hlt)
          have HMN : Hid ((Cy.markTo (Cy.far n g v k) (k + 1) L i).set L[i] cn = Cy.markTo (Cy.far n g v k) (k + 1) L (i + 1)) := by rw [HCK.out]; exact Cy.markTo_next (Cy.far n g v k) (k + 1) hlt
          have HNN := Lib.hid (Cy.nextTo_next t hlt)
          generalize L[i]'hlt = z at *
          have hz64 : z < 64 := by omega
          have hzl : z < (Cy.markTo (Cy.far n g v k) (k + 1) L i).length := by rw [Cy.markTo_len]; exact hz64
          have e6 := HD5.out.num.cell z hzl
          have f6 := HD5.out.num.frozen z
          generalize (Cy.markTo (Cy.far n g v k) (k + 1) L i)[z]'hzl = old at *
          clear hzl
          go_upto_region 13 with fail
          have HD6 := Lib.hid (HD5.out.put z cn)
          rw [HMN.out] at HD6
          have HO6 := Lib.hid (own_setCell HO5.out HB4 (o := z) (x := .int .i64 (cn : Int)))
          generalize wr.setCell ⟨w.heap.size + 1 + 1, z, none⟩ (.int .i64 (cn : Int)) = w6 at *
          clear HD5 HO5 e5 e6 f6
          obtain ⟨a0, a1⟩ := HD6.out.arg.cells
          have hzt : z < t.length := by rw [HTL.out]; exact hzn
          obtain ⟨adt, had, hbt, ht0⟩ := HF.out z hzt
          cases had
          have e7 := (HD6.out.below.cell (by rw [add_block]; exact hbt)).trans ht0
          have hrz := HRS.out _ (List.getElem_mem hzt)
          have hgz : t.getD z 0 = t[z] := by
            rw [List.getD_eq_getElem?_getD, List.getElem?_eq_getElem hzt]
            rfl
          rw [hgz] at HNN
          clear hgz ht0 HMN
          generalize t[z]'hzt = rz at *
          have hnl := HNL.out L i
          generalize Cy.nextTo t L i = nx at *
          have F2 := Lib.hid (FJ.out nx rz w6 hnl hrz)
          rw [HNN.out] at F2
          have b7 := alloc_below w6 (.cells #[.int .u64 (nx : Int), .int .u64 (rz : Int)] 40)
          have HD7 := Lib.hid (HD6.out.later b7)
          have HO7 := Lib.hid (own_below HO6.out b7)
          clear b7 HD6 HO6
          go_wp2_with fail
          generalize w6.alloc (.cells #[.int .u64 (nx : Int), .int .u64 (rz : Int)] 40) = w7 at *
          refine F2.out.mono ?_
          rintro e w8 ⟨rfl, rfl⟩
          clear a0 a1 e7
          go_wp2_with fail
          go_roundw
          case rel => exact ⟨i + 1, by omega, rfl, by go_num, HD7.out, HO7.out⟩
          case measure => simp [intOf]; omega
        · obtain rfl : i = L.length := by omega
          rw [HMK.out] at HD5
          have hnl := HNL.out L L.length
          have hds2 := HDS.out
          have hand : bits .andNot .u64 (Cy.nextTo t L L.length : Int) (dn2 : Int) = ((Rc.fresh (Cy.nextTo t L L.length) dn2 : Nat) : Int) := u64_andNot_nat _ _ hnl hds2
          have hfr : Rc.fresh (Cy.nextTo t L L.length) dn2 < 18446744073709551616 := Rc.fresh_lt hnl
          generalize Rc.fresh (Cy.nextTo t L L.length) dn2 = fr at *
          generalize Cy.nextTo t L L.length = nx at *
          go_wp2_with fail
          go_roundw
          case rel => exact ⟨k + 1, cn + 1, dn2, fr, by rw [HCK.out], hkn, rfl, rfl, by go_num, HN1.out, HD5.out⟩
          case measure => simp [intOf]; omega
end Go.Proofs.Ytgapcjgmmlffmaa
