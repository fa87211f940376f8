/-
  What graph's Turn answers; words for a call on one graph that fills a row of its own.
  Conditions: rows hold sets below 2^64.
-/
import Derived.Test.YtcpiaddohiokkaaGfWalkE
set_option maxRecDepth 4000
namespace Go.Proofs.Ytcpiaddohiokkaa
open Go.RowKit

namespace Gf
/-- The rows of a turned graph behind x rows, and the nodes d of row x. -/
def turnTo (n : Nat) (l : List Nat) (x : Nat) (d : List Nat) : List Nat := (List.range n).map fun y => if y ∈ d then Bi.withN (setTo (fun u => bit l u y) x) (x : Int) else setTo (fun u => bit l u y) x
theorem turnTo_len (n : Nat) (l : List Nat) (x : Nat) (d : List Nat) : (turnTo n l x d).length = n := by rw [turnTo, List.length_map, List.length_range]
theorem turnTo_get {n : Nat} (l : List Nat) (x : Nat) (d : List Nat) {y : Nat} (hy : y < (turnTo n l x d).length) : (turnTo n l x d)[y] = if y ∈ d then Bi.withN (setTo (fun u => bit l u y) x) (x : Int) else setTo (fun u => bit l u y) x := by simp [turnTo]
theorem turnTo_zero (n : Nat) (l : List Nat) : turnTo n l 0 [] = zeros n := by
  apply List.ext_getElem
  · rw [turnTo_len, zeros, List.length_replicate]
  · intro u h1 h2
    have e : (zeros n)[u] = 0 := List.getElem_replicate _
    rw [turnTo_get, e, if_neg List.not_mem_nil, setTo_zero]
theorem turnTo_set {n : Nat} (l : List Nat) (x : Nat) (d : List Nat) {y : Nat} (hy : y < (turnTo n l x d).length) (hd : y ∉ d) : (turnTo n l x d).set y (Bi.withN ((turnTo n l x d)[y]) (x : Int)) = turnTo n l x (d ++ [y]) := by
  have hz : Bi.withN ((turnTo n l x d)[y]) (x : Int) = Bi.withN (setTo (fun u => bit l u y) x) (x : Int) := by rw [turnTo_get, if_neg hd]
  rw [hz]
  apply List.ext_getElem
  · rw [List.length_set, turnTo_len, turnTo_len]
  · intro u h1 h2
    rw [List.getElem_set, turnTo_get, turnTo_get]
    by_cases e : y = u
    · subst e
      rw [if_pos rfl, if_pos (List.mem_append.2 (.inr List.mem_cons_self))]
    · rw [if_neg e]
      have : u ∈ d ++ [y] ↔ u ∈ d := by
        rw [List.mem_append, List.mem_singleton]
        exact ⟨fun h => h.elim id (fun h => absurd h.symm e), .inl⟩
      by_cases q : u ∈ d
      · rw [if_pos q, if_pos (this.2 q)]
      · rw [if_neg q, if_neg (fun h => q (this.1 h))]
theorem turnTo_next {n : Nat} {l : List Nat} (h : Ok n l) {x : Nat} (hx : x < l.length) : turnTo n l x (Bi.list l[x]) = turnTo n l (x + 1) [] := by
  apply List.ext_getElem
  · rw [turnTo_len, turnTo_len]
  · intro y h1 h2
    rw [turnTo_len] at h1
    rw [turnTo_get, turnTo_get, if_neg List.not_mem_nil, setTo_next]
    have : y ∈ Bi.list l[x] ↔ bit l x y = true := by
      rw [Bi.mem_list, bit_at hx]
      exact ⟨fun q => q.2, fun q => ⟨Nat.lt_of_lt_of_le h1 h.1, q⟩⟩
    by_cases q : y ∈ Bi.list l[x]
    · rw [if_pos q, if_pos (this.1 q)]
    · rw [if_neg q, if_neg (fun z => q (this.2 z))]
theorem turnTo_all (n : Nat) (l : List Nat) : turnTo n l n [] = turnR n l := by
  apply List.ext_getElem
  · rw [turnTo_len, turnR, build_len]
  · intro y h1 h2
    rw [turnTo_get, if_neg List.not_mem_nil]
    exact (build_at (fun x y => bit l y x) (x := y) (by rw [turnTo_len] at h1; rw [build_len]; exact h1)).symm
theorem turnTo_lt {n : Nat} (l : List Nat) (x : Nat) (d : List Nat) {y : Nat} (hy : y < (turnTo n l x d).length) : (turnTo n l x d)[y] < 2 ^ 64 := by
  rw [turnTo_get]
  split
  · exact Bi.with_lt (setTo_lt64 _ _) _
  · exact setTo_lt64 _ _
theorem rise_take {L : List Nat} (h : L.Pairwise (· < ·)) {k : Nat} (hk : k < L.length) : L[k] ∉ L.take k := by
  intro hm
  obtain ⟨i, hi, e⟩ := List.getElem_of_mem hm
  rw [List.length_take] at hi
  rw [List.getElem_take] at e
  have := List.pairwise_iff_getElem.1 h i k (by omega) hk (by omega)
  omega
end Gf

/-- A call on one graph: its variable, the result's, and the row that is filled. -/
structure Lone (w W : World) (g : Nat) (n : Nat) (u : Value) (r : List Nat) : Prop where
  one : Two W w.heap.size 24 (.int .i64 (n : Int)) u
  res : Two W (w.heap.size + 1) 24 (.int .i64 0) (.slice none 0 0)
  row : RowU W g r
  far : w.heap.size + 1 < g
  below : Below w.heap.size w W
section
variable {w W W' : World} {g n : Nat} {u : Value} {r : List Nat}
theorem Lone.later (h : Lone w W g n u r) (hb : Below W.heap.size W W') : Lone w W' g n u r :=
  ⟨h.one.later hb, h.res.later hb, h.row.later hb, h.far, below_all h.below hb⟩
theorem Lone.put (h : Lone w W g n u r) (k : Nat) (hk : k < r.length) (x : Nat) : Lone w (W.setCell ⟨g, k, none⟩ (.int .u64 (x : Int))) g n u (r.set k x) :=
  ⟨two_far h.one _ (by have := h.far; show g ≠ _; omega) _, two_far h.res _ (by have := h.far; show g ≠ _; omega) _, h.row.put k hk x, h.far, h.below.setCell (p := ⟨g, k, none⟩) (by have := h.far; show w.heap.size ≤ g; omega) _⟩
theorem Lone.done {fn : Func} {p q : Tmp} (hf : fn.results = #[.cell p 24, .tmp q]) (h : Lone w W g n u r) (hl : r.length ≤ maxLen) (m : Nat) (hm : m = r.length) (tmps : Array Value) (hp : tmps.getD p undef = .pointer (some ⟨w.heap.size + 1, 0, none⟩)) (hq : tmps.getD q undef = .int .i64 0) :
    bodyPost Try.prog fn (RetG w n r) Exit.ret { tmps := tmps, defers := [] } ((W.setCell ⟨w.heap.size + 1, 0, none⟩ (.int .i64 n)).setCell ⟨w.heap.size + 1, 1, none⟩ (.slice (some ⟨g, 0, none⟩) m m)) :=
  end_g hf h.res h.row h.below (by omega) h.far hl m hm tmps hp hq
end
/-- The world at the first call: the graph and the result lie in variables. -/
theorem gf_one (w : World) (n : Int) (u : Value) {W : World} (h : W = (w.alloc (.cells #[.int .i64 n, u] 24)).alloc (.cells #[.int .i64 0, .slice none 0 0] 24)) :
    Two W w.heap.size 24 (.int .i64 n) u ∧ Two W (w.heap.size + 1) 24 (.int .i64 0) (.slice none 0 0) ∧ Below w.heap.size w W := by
  subst h
  have b1 := alloc_below w (.cells #[.int .i64 n, u] 24)
  have b2 := alloc_below (w.alloc (.cells #[.int .i64 n, u] 24)) (.cells #[.int .i64 0, .slice none 0 0] 24)
  have t1 := Two.new (w.alloc (.cells #[.int .i64 n, u] 24)) 24 (.int .i64 0) (.slice none 0 0)
  rw [World.size_alloc] at t1
  exact ⟨(Two.new w 24 (.int .i64 n) u).later b2, t1, below_all b1 b2⟩

set_option maxHeartbeats 1000000 in
theorem gfTurn_no (n : Int) (u : Value) (a : List Nat) (w : World) (hu : Us w u a) (ha : ∀ x ∈ a, x < 18446744073709551616) (hno : Gf.okB n a = false) : Calls Try.prog 11 #[.agg #[.int .i64 n, u]] w (RetNoG w) := by
  have HU := Lib.hid hu
  obtain ⟨A, c, rfl, -⟩ := hu.spelled
  have F1 := Lib.hid (fun w h1 => gfRight_at n (.slice A a.length c) a w h1 ha)
  rw [hno] at F1
  clear ha hu hno
  go_enter Try.func11, Try.ntmps11
  go_wp2_with fail
  obtain ⟨t0, t1, bw⟩ := gf_one w n (.slice A a.length c) rfl
  have T2 := Lib.hid t1
  have BW := Lib.hid bw
  clear t0 t1 bw
  generalize (w.alloc (.cells #[.int .i64 n, .slice A a.length c] 24)).alloc (.cells #[.int .i64 0, .slice none 0 0] 24) = W at *
  refine (F1.out _ (HU.out.below BW.out)).mono ?_
  rintro e w1 ⟨rfl, hb1⟩
  have B1 := Lib.hid (below_all BW.out hb1)
  have TR := Lib.hid (T2.out.later hb1)
  obtain ⟨r0, r1⟩ := TR.out.cells
  have f0 := TR.out.frozen 0
  have f1 := TR.out.frozen 1
  clear hb1
  go_wp2_with fail
  exact end_no (p := 2) (u := 3) rfl TR.out B1.out (by omega) _ rfl rfl

set_option maxHeartbeats 2000000 in
theorem gfTurn_at (n : Nat) (u : Value) (a : List Nat) (w : World) (hu : Us w u a) (ha : Gf.Ok n a) : Calls Try.prog 11 #[.agg #[.int .i64 n, u]] w (RetG w n (Gf.turnR n a)) := by
  have HU := Lib.hid hu
  obtain ⟨A, c, rfl, hfa⟩ := hu.spelled
  have HFA := Lib.hid hfa
  have F1 := Lib.hid (fun w h1 => gfRight_at n (.slice A a.length c) a w h1 (fun x hx => ha.small hx))
  rw [(Gf.okB_nat n a).2 ha] at F1
  have HLA := Lib.hid ha.2.1
  have HSA := Lib.hid (fun x (h : x < a.length) => ha.small (List.getElem_mem h))
  have HND := Lib.hid (fun x (h1 : x < a.length) k (h2 : k < (Bi.list a[x]).length) => Gf.list_node ha h1 h2)
  have HN : Hid (∀ x (h : x < a.length), Gf.turnTo n a x (Bi.list a[x]) = Gf.turnTo n a (x + 1) []) := fun x h => Gf.turnTo_next ha h
  have HRT := Lib.hid (fun s k (h : k < (Bi.list s).length) => Gf.rise_take (Bi.list_rise s) h)
  have hn64 := ha.1
  have hmk := fun w => gf_make w n (Nat.le_trans ha.1 (by decide))
  have HZ := Lib.hid (Gf.turnTo_zero n a)
  have HE := Lib.hid (Gf.turnTo_all n a)
  have HST := Lib.hid (fun x d y h1 h2 => @Gf.turnTo_set n a x d y h1 h2)
  have HRL := Lib.hid (fun x d => Gf.turnTo_len n a x d)
  have HLT := Lib.hid (fun x d y h => @Gf.turnTo_lt n a x d y h)
  have HLL := Lib.hid (fun s => Bi.list_len s)
  clear hu hfa ha
  go_enter Try.func11, Try.ntmps11
  go_wp2_with fail
  obtain ⟨t0, t1, bw⟩ := gf_one w n (.slice A a.length c) rfl
  have T0 := Lib.hid t0
  have T1 := Lib.hid t1
  have BW := Lib.hid bw
  clear t0 t1 bw
  generalize (w.alloc (.cells #[.int .i64 n, .slice A a.length c] 24)).alloc (.cells #[.int .i64 0, .slice none 0 0] 24) = W at *
  refine (F1.out _ (HU.out.below BW.out)).mono ?_
  rintro e w1 ⟨rfl, hb1⟩
  have B1 := Lib.hid (below_all BW.out hb1)
  have T10 := Lib.hid (T0.out.later hb1)
  have T11 := Lib.hid (T1.out.later hb1)
  obtain ⟨c0, c1⟩ := T10.out.cells
  clear hb1 T0 T1
  go_upto_region 4 with fail
  have HB : Hid (Lone w (w1.alloc (.cells (madeCells #[.int .u64 0] n) 49)) w1.heap.size n (.slice A a.length c) (Gf.turnTo n a 0 [])) := by
    have b2 := alloc_below w1 (.cells (madeCells #[.int .u64 0] n) 49)
    exact ⟨T10.out.later b2, T11.out.later b2, by rw [HZ.out]; exact RowU.made w1 n, T11.out.lt, below_all B1.out b2⟩
  generalize w1.alloc (.cells (madeCells #[.int .u64 0] n) 49) = w2 at *
  generalize w1.heap.size = g at *
  clear c0 c1 T10 T11
  obtain ⟨c0, c1⟩ := HB.out.one.cells
  go_wp2_with fail
  clear c0 c1
  go_loopw [19] (fun i wr => ∃ x : Nat, x ≤ n ∧ i = .int .i64 x ∧ Hid (Lone w wr g n (.slice A a.length c) (Gf.turnTo n a x []))) (fun i _ => n - (intOf i).toNat)
  case atStart => exact ⟨0, Nat.zero_le _, rfl, HB.out⟩
  case round =>
    clear HB
    obtain ⟨x, hx, rfl, HB⟩ := hrel
    by_cases hlt : x < n
    · have hxa : x < a.length := by have := HLA.out; omega
      obtain ⟨ada, rfl, hba, ha0⟩ := HFA.out x hxa
      have ha1 := (HB.out.below.cell (by rw [add_block]; exact hba)).trans ha0
      have sa := HSA.out x hxa
      have HN2 := Lib.hid (HN.out x hxa)
      have HND2 := Lib.hid (HND.out x hxa)
      have hga := Lib.hid HB.out.row.lt
      generalize a[x]'hxa = p at *
      have HRT2 := Lib.hid (HRT.out p)
      clear ha0
      go_wp2_with fail
      refine (biList_at p wr sa).mono ?_
      rintro e w3 ⟨v3, rfl, ho3, hb3⟩
      obtain ⟨AL, cL, rfl⟩ := own_form ho3
      have HB3 := Lib.hid (HB.out.later hb3)
      have HO3 := Lib.hid ho3
      have hl64 := HLL.out p
      clear ho3 hb3 HB ha1 sa
      generalize Bi.list p = L at *
      rw [← List.take_zero (l := L)] at HB3
      generalize wr.heap.size = base at *
      go_wp2_with fail
      go_loopw [27] (fun i wq => ∃ k : Nat, k ≤ L.length ∧ i = .int .i64 k ∧ Hid (Lone w wq g n (.slice (some ada) a.length c) (Gf.turnTo n a x (L.take k))) ∧ Hid (wq.ownsRow base 3 1 (.slice AL L.length cL) L.length ((Bi.nums L).flatMap nC))) (fun i _ => L.length - (intOf i).toNat)
      case atStart => exact ⟨0, Nat.zero_le _, rfl, HB3.out, HO3.out⟩
      case round =>
        clear HB3 HO3
        obtain ⟨k, hk, rfl, HB, HO⟩ := hrel
        by_cases hkl : k < L.length
        · obtain ⟨AL', cL', hv4, hfl⟩ := (nums_own HO.out).nums
          cases hv4
          obtain ⟨adl, rfl, hbl, hl0⟩ := hfl k hkl
          have hyn := HND2.out k hkl
          have hyr : L[k]'hkl < (Gf.turnTo n a x (L.take k)).length := by rw [HRL.out]; exact hyn
          have HA2 : Hid ((Gf.turnTo n a x (L.take k)).set (L[k]'hkl) (Bi.withN ((Gf.turnTo n a x (L.take k))[L[k]'hkl]'hyr) (x : Int)) = Gf.turnTo n a x (L.take (k + 1))) := by
            rw [Hid, HST.out x (L.take k) (L[k]'hkl) hyr (HRT2.out k hkl), List.take_succ_eq_append_getElem hkl]
          generalize L[k]'hkl = y at *
          have hold := HB.out.row.cell y hyr
          have hfro := HB.out.row.frozen y
          have hsm := HLT.out x _ y hyr
          have HB4 := Lib.hid (HB.out.put y hyr (Bi.withN ((Gf.turnTo n a x (L.take k))[y]'hyr) (x : Int)))
          have HO4 := Lib.hid (own_setCell HO.out hga.out (o := y) (x := .int .u64 (Bi.withN ((Gf.turnTo n a x (L.take k))[y]'hyr) (x : Int) : Nat)))
          rw [HA2.out] at HB4
          generalize (Gf.turnTo n a x (L.take k))[y]'hyr = z at *
          clear hfl
          go_wp2_with fail
          refine (biWith_at z x wr hsm).mono ?_
          rintro e w4 ⟨rfl, rfl⟩
          go_wp2_with fail
          go_roundw
          case rel => exact ⟨k + 1, by omega, by go_num, HB4.out, HO4.out⟩
          case measure => simp [intOf]; omega
        · have hkn : k = L.length := by omega
          subst hkn
          have HB5 := HB
          rw [List.take_length, HN2.out] at HB5
          go_wp2_with fail
          go_roundw
          case rel => exact ⟨x + 1, by omega, by go_num, HB5.out⟩
          case measure => simp [intOf]; omega
    · have hna : ¬ x < a.length := by have := HLA.out; omega
      have hxn : x = n := by omega
      subst hxn
      obtain ⟨c0, c1⟩ := HB.out.one.cells
      obtain ⟨r0, r1⟩ := HB.out.res.cells
      have f0 := HB.out.res.frozen 0
      have f1 := HB.out.res.frozen 1
      go_wp2_with fail
      rw [← HE.out]
      exact HB.out.done (p := 2) (q := 3) rfl (by rw [HRL.out]; simp only [maxLen]; omega) _ (HRL.out _ _).symm _ rfl rfl
end Go.Proofs.Ytcpiaddohiokkaa
