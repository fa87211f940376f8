/-
  Plain facts on the program's search for the shortest ways to a node, round by round, and on the way back along them.
  Conditions: none beyond those that each theorem states.
-/
import Derived.Test.YtgapcjgmmlffmaaCyAns
import Derived.Test.YtgapcjgmmlffmaaRcAll
set_option maxRecDepth 4000
namespace Go.Proofs.Ytgapcjgmmlffmaa
namespace Cy
open Gf Rc To

/-- Numbers of all 64: those of a row's first i get c, the others keep f's. -/
def markTo (f : Nat → Nat) (c : Nat) (l : List Nat) (i : Nat) : List Nat := (List.range 64).map fun x => if x ∈ l.take i then c else f x
theorem markTo_len (f : Nat → Nat) (c : Nat) (l : List Nat) (i : Nat) : (markTo f c l i).length = 64 := by rw [markTo, List.length_map, List.length_range]
theorem markTo_at (f : Nat → Nat) (c : Nat) (l : List Nat) (i : Nat) {x : Nat} (hx : x < (markTo f c l i).length) : (markTo f c l i)[x] = if x ∈ l.take i then c else f x := by simp [markTo]
theorem markTo_zero (f : Nat → Nat) (c : Nat) (l : List Nat) : markTo f c l 0 = (List.range 64).map f := by simp [markTo]
theorem markTo_next (f : Nat → Nat) (c : Nat) {l : List Nat} {i : Nat} (hi : i < l.length) : (markTo f c l i).set l[i] c = markTo f c l (i + 1) := by
  refine List.ext_getElem (by rw [List.length_set, markTo_len, markTo_len]) fun x h1 h2 => ?_
  rw [List.getElem_set, markTo_at, markTo_at, List.take_succ_eq_append_getElem hi]
  by_cases h : l[i] = x
  · rw [if_pos h, if_pos (by rw [List.mem_append, List.mem_singleton]; exact .inr h.symm)]
  · rw [if_neg h]
    by_cases hm : x ∈ l.take i
    · rw [if_pos hm, if_pos (List.mem_append_left _ hm)]
    · rw [if_neg hm, if_neg (by rw [List.mem_append, List.mem_singleton]; rintro (q | q); exact hm q; exact h q.symm)]

/-- What the rows of a row's first i nodes have. -/
def nextTo (t l : List Nat) (i : Nat) : Nat := Bi.join ((l.take i).map fun y => t.getD y 0)
theorem nextTo_zero (t l : List Nat) : nextTo t l 0 = 0 := rfl
theorem nextTo_next (t : List Nat) {l : List Nat} {i : Nat} (hi : i < l.length) : Bi.join [nextTo t l i, t.getD l[i] 0] = nextTo t l (i + 1) := by
  rw [nextTo, nextTo, List.take_succ_eq_append_getElem hi, List.map_append, Bi.join_two]
  exact (Bi.join_snoc _ _).symm
theorem nextTo_bit (t l : List Nat) (y : Nat) : (nextTo t l l.length).testBit y = l.any fun x => bit t x y := by
  rw [nextTo, List.take_length, Bi.join_at, List.any_map]
  rfl
theorem nextTo_lt {n : Nat} {t : List Nat} (ht : Ok n t) (l : List Nat) (i : Nat) : nextTo t l i < 18446744073709551616 := by
  refine Bi.join_lt fun x hx => ?_
  obtain ⟨y, _, rfl⟩ := List.mem_map.1 hx
  rcases Nat.lt_or_ge y t.length with h | h
  · rw [List.getD_eq_getElem?_getD, List.getElem?_eq_getElem h]; exact ht.small (List.getElem_mem h)
  · rw [List.getD_eq_getElem?_getD, List.getElem?_eq_none h]; decide

section
variable {n : Nat} {g : List Nat} {v k : Nat}
theorem st_node (hg : Ok n g) : ∀ {j x : Nat}, st n g v j x = true → x < n
  | 0, _, h => (hg.node h).1
  | _ + 1, _, h => by
    obtain ⟨y, h1, _⟩ := (st_next hg).1 h
    exact (hg.node h1).1
theorem far_zero (n : Nat) (g : List Nat) (v x : Nat) : far n g v 0 x = 0 := far_none.2 fun j hj => absurd hj (Nat.not_lt_zero j)
theorem far_either (x : Nat) : far n g v (k + 1) x = far n g v k x ∨ (far n g v k x = 0 ∧ far n g v (k + 1) x = k + 1) := by
  by_cases h0 : far n g v k x = 0
  · cases h1 : far n g v (k + 1) x with
    | zero => exact .inl h0.symm
    | succ j =>
      obtain ⟨a, b, c⟩ := far_some.1 h1
      have hn := far_none.1 h0
      rcases Nat.lt_or_ge j k with q | q
      · rw [hn j q] at b; cases b
      · exact .inr ⟨h0, by omega⟩
  · exact .inl (far_stays h0)
/-- A round in which nothing is new is the last one. -/
theorem far_still (hg : Ok n g) (h : ∀ x, far n g v (k + 1) x ≠ k + 1) (x : Nat) : ∀ j, far n g v (k + j) x = far n g v k x := by
  have key : ∀ j, (∀ x, far n g v (k + j + 1) x ≠ k + j + 1) ∧ ∀ x, far n g v (k + j) x = far n g v k x := fun j => by
    induction j with
    | zero => exact ⟨h, fun _ => rfl⟩
    | succ j ih =>
      obtain ⟨i1, i2⟩ := ih
      have e : ∀ x, far n g v (k + j + 1) x = far n g v (k + j) x := fun x => (far_either x).elim id fun q => absurd q.2 (i1 x)
      refine ⟨fun x hx => ?_, fun x => (e x).trans (i2 x)⟩
      obtain ⟨y, h1, h2⟩ := far_next hg (show far n g v (k + j + 1 + 1) x = (k + j) + 2 from hx)
      rcases far_either (n := n) (g := g) (v := v) (k := k + j + 1) y with q | q
      · exact i1 y (q.symm.trans h2)
      · exact absurd (q.2.symm.trans h2) (by omega)
  exact fun j => (key j).2 x
theorem far_past (hg : Ok n g) (h : n ≤ k) (x : Nat) : far n g v k x = far n g v n x := by
  obtain ⟨j, rfl⟩ : ∃ j, k = n + j := ⟨k - n, by omega⟩
  exact far_still hg (fun y e => absurd (far_bound hg e) (Nat.lt_irrefl n)) x j
theorem far_last (hg : Ok n g) (h : ∀ x, far n g v (k + 1) x ≠ k + 1) (x : Nat) : far n g v k x = far n g v n x := by
  rcases Nat.le_total n k with q | q
  · exact far_past hg q x
  · obtain ⟨j, rfl⟩ : ∃ j, n = k + j := ⟨n - k, by omega⟩
    exact (far_still hg h x j).symm

/-- The numbers of all 64. -/
def fars (n : Nat) (g : List Nat) (v k : Nat) : List Nat := (List.range 64).map (far n g v k)
theorem fars_len (n : Nat) (g : List Nat) (v k : Nat) : (fars n g v k).length = 64 := by rw [fars, List.length_map, List.length_range]
theorem fars_at (n : Nat) (g : List Nat) (v k : Nat) {x : Nat} (hx : x < (fars n g v k).length) : (fars n g v k)[x] = far n g v k x := by simp [fars]
theorem fars_zero (n : Nat) (g : List Nat) (v : Nat) : fars n g v 0 = zeros 64 := by
  refine List.ext_getElem (by rw [fars_len, zeros, List.length_replicate]) fun x h1 h2 => ?_
  rw [fars_at, far_zero]
  exact (List.getElem_replicate (n := 64) (a := 0) h2).symm
/-- Behind k rounds: done has all that have a number, round those that get the next one. -/
structure Bfs (n : Nat) (g : List Nat) (v k done round : Nat) : Prop where
  dsmall : done < 18446744073709551616
  rsmall : round < 18446744073709551616
  has : ∀ x, done.testBit x = decide (far n g v k x ≠ 0)
  new : ∀ x, round.testBit x = decide (far n g v (k + 1) x = k + 1)
theorem Bfs.start (hg : Ok n g) (hv : v < n) : Bfs n g v 0 0 ((turnR n g).getD v 0) := by
  have ht : Ok n (turnR n g) := build_ok hg.1 _
  have hl : v < (turnR n g).length := by rw [ht.2.1]; exact hv
  refine ⟨by decide, ?_, fun x => ?_, fun x => ?_⟩
  · rw [List.getD_eq_getElem?_getD, List.getElem?_eq_getElem hl]; exact ht.small (List.getElem_mem hl)
  · rw [far_zero, Nat.zero_testBit]; rfl
  · have : ((turnR n g).getD v 0).testBit x = bit g x v := turn_bit hg v x
    rw [this, far_one]
    cases bit g x v <;> rfl
theorem Bfs.next {done round : Nat} (m : Bfs n g v k done round) (hg : Ok n g) :
    Bfs n g v (k + 1) (Bi.join [done, round]) (fresh (nextTo (turnR n g) (Bi.list round) (Bi.list round).length) (Bi.join [done, round])) := by
  have ht : Ok n (turnR n g) := build_ok hg.1 _
  have hd : Bi.join [done, round] < 18446744073709551616 := by rw [Bi.join_two]; exact Nat.or_lt_two_pow (n := 64) m.dsmall m.rsmall
  have hn := nextTo_lt ht (Bi.list round) (Bi.list round).length
  have hb : ∀ x, (Bi.join [done, round]).testBit x = decide (far n g v (k + 1) x ≠ 0) := fun x => by
    rw [Bi.join_two, Nat.testBit_or, m.has, m.new]
    rcases far_either (n := n) (g := g) (v := v) (k := k) x with q | ⟨q1, q2⟩
    · rw [q]
      have := far_le n g v k x
      rw [decide_eq_false (p := far n g v k x = k + 1) (by omega), Bool.or_false]
    · rw [q2, decide_eq_true (p := k + 1 = k + 1) rfl, Bool.or_true, decide_eq_true (by omega)]
  refine ⟨hd, fresh_lt hn, hb, fun x => ?_⟩
  rw [fresh_bit hn hd, hb, nextTo_bit]
  by_cases h0 : far n g v (k + 1) x = 0
  · rw [decide_eq_false (p := far n g v (k + 1) x ≠ 0) (fun q => q h0), Bool.not_false, Bool.and_true]
    cases ha : (Bi.list round).any fun y => bit (turnR n g) y x with
    | true =>
      obtain ⟨y, hy, hyx⟩ := List.any_eq_true.1 ha
      have h1 := (Bi.mem_list.1 hy).2
      rw [m.new, decide_eq_true_iff] at h1
      rw [turn_bit hg] at hyx
      rw [far_new hg (Nat.succ_pos k) h0 hyx h1, decide_eq_true rfl]
    | false =>
      have := far_not hg (Nat.succ_pos k) h0 fun y hy e => by
        have hy64 : y < 64 := Nat.lt_of_lt_of_le (hg.node hy).2 hg.1
        have hin : y ∈ Bi.list round := Bi.mem_list.2 ⟨hy64, by rw [m.new, decide_eq_true_iff]; exact e⟩
        have := List.any_eq_false.1 ha y hin
        rw [turn_bit hg] at this
        exact this hy
      rw [this, decide_eq_false (by omega)]
  · rw [decide_eq_true h0, Bool.not_true, Bool.and_false, far_stays h0, decide_eq_false (by have := far_le n g v (k + 1) x; omega)]
theorem Bfs.marked {done round : Nat} (m : Bfs n g v k done round) : markTo (far n g v k) (k + 1) (Bi.list round) (Bi.list round).length = fars n g v (k + 1) := by
  rw [fars, markTo, List.take_length]
  refine List.map_congr_left fun x hx => ?_
  by_cases h : x ∈ Bi.list round
  · have := (Bi.mem_list.1 h).2
    rw [m.new, decide_eq_true_iff] at this
    rw [if_pos h, this]
  · rw [if_neg h]
    rcases far_either (n := n) (g := g) (v := v) (k := k) x with q | ⟨q1, q2⟩
    · exact q.symm
    · exact absurd (Bi.mem_list.2 ⟨List.mem_range.1 hx, by rw [m.new, decide_eq_true_iff]; exact q2⟩) h
/-- A round of nothing ends it: the numbers are the whole's. -/
theorem Bfs.ends {done : Nat} (m : Bfs n g v k done 0) (hg : Ok n g) : fars n g v k = fars n g v n :=
  List.map_congr_left fun x _ => far_last hg (fun y e => by have := m.new y; rw [Nat.zero_testBit, decide_eq_true e] at this; cases this) x
/-- A round of something: there are nodes left. -/
theorem Bfs.less {done round : Nat} (m : Bfs n g v k done round) (hg : Ok n g) (h : round ≠ 0) : k < n := by
  have : ∃ x, round.testBit x = true := Nat.exists_testBit_of_ne_zero h
  obtain ⟨x, hx⟩ := this
  rw [m.new, decide_eq_true_iff] at hx
  exact far_bound hg hx
theorem Bfs.nodes {done round : Nat} (m : Bfs n g v k done round) (hg : Ok n g) : ∀ x ∈ Bi.list round, x < n := fun x hx => by
  have := (Bi.mem_list.1 hx).2
  rw [m.new, decide_eq_true_iff] at this
  exact st_node hg (far_some.1 this).2.1
end
end Cy
end Go.Proofs.Ytgapcjgmmlffmaa
