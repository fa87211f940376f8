/-
  Words for graphs in memory: a row of sets of the call's own, made and filled; what calls on graphs hand back.
  Conditions: none beyond those that each theorem states.
-/
import Derived.Test.YtcpiaddohiokkaaGfAll
import Derived.Test.YtcpiaddohiokkaaBiAll
import Derived.Test.YtcpiaddohiokkaaStAll
import Derived.Laws.ResultCell
set_option maxRecDepth 4000
namespace Go.Proofs.Ytcpiaddohiokkaa
open Go.RowKit

theorem gf_info : (Try.prog.info? 49).map (fun i => (i.zero, i.size, i.bytes)) = some (some (.int .u64 0), 1, 8) := by kernel_rfl
theorem gf_new (w : World) (n : Nat) (e : TypeId) : ∀ j u, (uC n)[j]? = some u → (w.alloc (.cells #[.int .u64 (n : Int)] e)).cell? ((⟨w.heap.size, 0, none⟩ : Addr).add j) = some u := new_row w (uC n) e
theorem gf_ones (l : List Nat) : ∀ u ∈ l.flatMap uC, u.oneCell' = true := by
  intro u hu
  obtain ⟨y, _, hy⟩ := List.mem_flatMap.1 hu
  exact one_uC y u hy
theorem uC_flat (l : List Nat) : (l.flatMap uC).length = l.length := by rw [flat_len uC_len, Nat.mul_one]
theorem uC_at (l : List Nat) (k : Nat) (hk : k < l.length) : (l.flatMap uC)[k]? = some (.int .u64 (l[k] : Int)) := by
  have := flat_at uC_len l k hk 0 (by omega)
  rw [Nat.mul_one, Nat.add_zero] at this
  rw [this]
  rfl
theorem uC_set (l : List Nat) (k : Nat) (hk : k < l.length) (x : Nat) : (l.flatMap uC).set k (.int .u64 (x : Int)) = (l.set k x).flatMap uC := by
  have := flat_set uC_len l k hk 0 (by omega) x (.int .u64 (x : Int)) rfl
  rw [Nat.mul_one, Nat.add_zero] at this
  exact this
theorem uC_zeros (n : Nat) : (Gf.zeros n).flatMap uC = List.replicate n (.int .u64 0) := by
  induction n with
  | zero => rfl
  | succ n ih =>
    rw [show Gf.zeros (n + 1) = 0 :: Gf.zeros n from List.replicate_succ, List.flatMap_cons, ih, List.replicate_succ]
    rfl

/-- A row of sets of the call's own. -/
def OwnU (w : World) (base : Nat) (v : Value) (l : List Nat) : Prop := w.ownsRow base 49 1 v l.length (l.flatMap uC)
section
variable {w w' : World} {base g c : Nat} {v : Value} {l : List Nat}
theorem OwnU.us (h : OwnU w base v l) : Us w v l := Rows'.own h
theorem OwnU.below (h : OwnU w base v l) (hb : Below w.heap.size w w') : OwnU w' base v l := own_below h hb
theorem OwnU.nil (w : World) (base : Nat) : OwnU w base (.slice none 0 0) [] := World.ownsRow_nil _ _ _ _
theorem OwnU.form (h : OwnU w base v l) : ∃ A c, v = .slice A l.length c := own_form h
theorem OwnU.cell (h : OwnU w base (.slice (some ⟨g, 0, none⟩) l.length c) l) (k : Nat) (hk : k < l.length) : w.cell? ⟨g, k, none⟩ = some (.int .u64 (l[k] : Int)) := by
  rw [World.ownsRow.cellAt h k (by omega), uC_at l k hk]
theorem OwnU.frozen (h : OwnU w base (.slice (some ⟨g, 0, none⟩) l.length c) l) (k : Nat) : w.frozen? ⟨g, k, none⟩ = false := by
  rcases h.2 with ⟨h', _⟩ | ⟨g', cap', cur, h', _, hg, _⟩
  · cases h'
  · cases h'
    exact frozen_of_row w g k cur _ hg
theorem OwnU.lt (h : OwnU w base (.slice (some ⟨g, 0, none⟩) l.length c) l) : base ≤ g ∧ g < w.heap.size := World.ownsRow.lt h g rfl
theorem OwnU.put (h : OwnU w base (.slice (some ⟨g, 0, none⟩) l.length c) l) (k : Nat) (hk : k < l.length) (x : Nat) : OwnU (w.setCell ⟨g, k, none⟩ (.int .u64 (x : Int))) base (.slice (some ⟨g, 0, none⟩) l.length c) (l.set k x) := by
  have := (World.ownsRow.stored h k (.int .u64 (x : Int))).1
  rw [uC_set l k hk x] at this
  unfold OwnU
  rw [List.length_set]
  exact this
/-- A row that is made. -/
theorem OwnU.made (w : World) (n : Nat) (hn : n ≤ maxLen) (hb : base ≤ w.heap.size) : OwnU (w.alloc (.cells (madeCells #[.int .u64 0] n) 49)) base (.slice (some ⟨w.heap.size, 0, none⟩) n n) (Gf.zeros n) := by
  have := World.ownsRow_lit (base := base) (e := 49) (size := 1) w (madeCells #[.int .u64 0] n) n hb hn (by rw [size_madeCells, Nat.mul_one])
  rw [toList_madeCells_one, ← uC_zeros] at this
  unfold OwnU
  rw [show (Gf.zeros n).length = n from List.length_replicate]
  exact this
end
/-- A row of sets that fills its block, at its head. -/
def RowU (W : World) (g : Nat) (l : List Nat) : Prop := W.heap[g]? = some (.cells (l.flatMap uC).toArray 49 (0, 0))
section
variable {W W' : World} {base g : Nat} {l : List Nat}
theorem RowU.own (h : RowU W g l) (hb : base ≤ g) (hl : l.length ≤ maxLen) : OwnU W base (.slice (some ⟨g, 0, none⟩) l.length l.length) l :=
  ⟨by rw [uC_flat, Nat.mul_one], .inr ⟨g, l.length, (l.flatMap uC).toArray, rfl, hb, h, Nat.le_refl _, hl, by rw [List.size_toArray, uC_flat, Nat.mul_one], by rw [Nat.mul_one]; exact List.take_of_length_le (by rw [uC_flat]; exact Nat.le_refl _)⟩⟩
theorem RowU.cell (h : RowU W g l) (k : Nat) (hk : k < l.length) : W.cell? ⟨g, k, none⟩ = some (.int .u64 (l[k] : Int)) := by
  rw [cell_of_row W g k _ _ (0, 0) h, List.getElem?_toArray, uC_at l k hk]
theorem RowU.frozen (h : RowU W g l) (k : Nat) : W.frozen? ⟨g, k, none⟩ = false := frozen_of_row W g k _ _ h
theorem RowU.lt (h : RowU W g l) : g < W.heap.size := (Array.getElem?_eq_some_iff.1 h).1
theorem RowU.put (h : RowU W g l) (k : Nat) (hk : k < l.length) (x : Nat) : RowU (W.setCell ⟨g, k, none⟩ (.int .u64 (x : Int))) g (l.set k x) := by
  have := heap_setCell_same W g k _ _ (.int .u64 (x : Int)) h
  rw [List.setIfInBounds_toArray, uC_set l k hk x] at this
  exact this
theorem RowU.later (h : RowU W g l) (hb : Below W.heap.size W W') : RowU W' g l := (hb.block g h.lt).trans h
theorem RowU.far (h : RowU W g l) (p : Addr) (hp : p.block ≠ g) (x : Value) : RowU (W.setCell p x) g l := (Below.heap_setCell W p x g (fun e => hp e.symm)).trans h
theorem RowU.made (W : World) (n : Nat) : RowU (W.alloc (.cells (madeCells #[.int .u64 0] n) 49)) W.heap.size (Gf.zeros n) := by
  have e : madeCells #[.int .u64 0] n = ((Gf.zeros n).flatMap uC).toArray := by
    apply Array.ext'
    rw [toList_madeCells_one, uC_zeros]
  rw [RowU, ← e]
  exact World.alloc_heap_new W _
end
theorem two_far {W : World} {b : Nat} {t : TypeId} {u0 u1 : Value} (h : Two W b t u0 u1) (p : Addr) (hp : p.block ≠ b) (x : Value) : Two (W.setCell p x) b t u0 u1 := (Below.heap_setCell W p x b (fun e => hp e.symm)).trans h
theorem two_put1 {W : World} {b : Nat} {t : TypeId} {u0 u1 x : Value} (h : Two W b t u0 u1) : Two (W.setCell ⟨b, 1, none⟩ x) b t u0 x := heap_setCell_same W b 1 _ t x h
theorem two_at {W W' : World} {b g : Nat} {t : TypeId} {u0 u1 : Value} (h : Two W b t u0 u1) (hb : Below g W W') (hg : b < g) : Two W' b t u0 u1 := (hb.block b hg).trans h
/-- 'make' of a row of sets. -/
theorem gf_make (w : World) (n : Nat) (hn : n ≤ 4294967296) : (Instr.makeSlice 22 (.int .i64 (n : Int)) (.int .i64 (n : Int))).run Try.prog w = .ok (.slice (some ⟨w.heap.size, 0, none⟩) n n) (w.alloc (.cells (madeCells #[.int .u64 0] n) 49)) := by
  obtain ⟨i, hi, hz, hs, hb⟩ := info_parts gf_info
  have := run_make (P := Try.prog) w 22 49 i _ Try.underlying22 hi hz .i64 .i64 (n : Int) (n : Int) (by omega) (Int.le_refl _) (by rw [hb]; omega) (by omega)
  rw [hs, Int.toNat_natCast, Nat.mul_one] at this
  exact this
/-- A graph and no error: its row is the call's own. -/
def RetG (w : World) (n : Int) (l : List Nat) (e : Ending) (w' : World) : Prop := ∃ v, e = .returned (.tuple #[.agg #[.int .i64 n, v], .int .i64 0]) ∧ OwnU w' w.heap.size v l ∧ Below w.heap.size w w'
/-- The zero graph and ErrArg. -/
def RetNoG (w : World) (e : Ending) (w' : World) : Prop := e = .returned (.tuple #[.agg #[.int .i64 0, .slice none 0 0], .int .i64 1]) ∧ Below w.heap.size w w'
/-- A graph alone, as the reference hands it back. -/
def RetR (w : World) (n : Int) (l : List Nat) (e : Ending) (w' : World) : Prop := ∃ v, e = .returned (.agg #[.int .i64 n, v]) ∧ OwnU w' w.heap.size v l ∧ Below w.heap.size w w'

theorem res_g {fn : Func} {p u : Tmp} (h : fn.results = #[.cell p 24, .tmp u]) (X : World) (b : Nat) (tmps : Array Value) (n q : Int) (A : Option Addr) (m c : Nat) (hp : tmps.getD p undef = .pointer (some ⟨b, 0, none⟩)) (hq : tmps.getD u undef = .int .i64 q) (h0 : X.cell? ⟨b, 0, none⟩ = some (.int .i64 n)) (h1 : X.cell? ⟨b, 1, none⟩ = some (.slice A m c)) :
    (results fn tmps).run Try.prog X = .ok (.tuple #[.agg #[.int .i64 n, .slice A m c], .int .i64 q]) X := by
  rw [results_cell_tmp h, hp, hq]
  simp [asAddr, go_sem, h0, h1]
theorem res_r {fn : Func} {p : Tmp} (h : fn.results = #[.cell p 26]) (X : World) (b : Nat) (tmps : Array Value) (n : Int) (A : Option Addr) (m c : Nat) (hp : tmps.getD p undef = .pointer (some ⟨b, 0, none⟩)) (h0 : X.cell? ⟨b, 0, none⟩ = some (.int .i64 n)) (h1 : X.cell? ⟨b, 1, none⟩ = some (.slice A m c)) :
    (results fn tmps).run Try.prog X = .ok (.agg #[.int .i64 n, .slice A m c]) X := by
  rw [Array.getD_eq_getD_getElem?] at hp
  simp [results, h, hp, asAddr, go_sem, h0, h1]

/-- The end of a call that hands back a graph: it is stored into the result's block. -/
theorem end_g {fn : Func} {p u : Tmp} (h : fn.results = #[.cell p 24, .tmp u]) {w X : World} {b g : Nat} {n : Int} {l : List Nat} {u0 u1 : Value} (hT : Two X b 24 u0 u1) (hR : RowU X g l) (hB : Below w.heap.size w X) (hb : w.heap.size ≤ b) (hbg : b < g) (hl : l.length ≤ maxLen) (m : Nat) (hm : m = l.length)
    (tmps : Array Value) (hp : tmps.getD p undef = .pointer (some ⟨b, 0, none⟩)) (hq : tmps.getD u undef = .int .i64 0) :
    bodyPost Try.prog fn (RetG w n l) Exit.ret { tmps := tmps, defers := [] } ((X.setCell ⟨b, 0, none⟩ (.int .i64 n)).setCell ⟨b, 1, none⟩ (.slice (some ⟨g, 0, none⟩) m m)) := by
  subst hm
  obtain ⟨p0, p1⟩ := (hT.put (x := .int .i64 n) (y := .slice (some ⟨g, 0, none⟩) l.length l.length)).cells
  exact bodyPost_ret (res_g h _ b _ n 0 _ _ _ hp hq p0 p1) rfl ⟨_, rfl, (((hR.far ⟨b, 0, none⟩ (Nat.ne_of_lt hbg) _).far ⟨b, 1, none⟩ (Nat.ne_of_lt hbg) _)).own (by omega) hl, (hB.setCell (p := ⟨b, 0, none⟩) hb _).setCell (p := ⟨b, 1, none⟩) hb _⟩
/-- The end of a call that says ErrArg. -/
theorem end_no {fn : Func} {p u : Tmp} (h : fn.results = #[.cell p 24, .tmp u]) {w X : World} {b : Nat} {u0 u1 : Value} (hT : Two X b 24 u0 u1) (hB : Below w.heap.size w X) (hb : w.heap.size ≤ b)
    (tmps : Array Value) (hp : tmps.getD p undef = .pointer (some ⟨b, 0, none⟩)) (hq : tmps.getD u undef = .int .i64 1) :
    bodyPost Try.prog fn (RetNoG w) Exit.ret { tmps := tmps, defers := [] } ((X.setCell ⟨b, 0, none⟩ (.int .i64 0)).setCell ⟨b, 1, none⟩ (.slice none 0 0)) := by
  obtain ⟨p0, p1⟩ := (hT.put (x := .int .i64 0) (y := .slice none 0 0)).cells
  exact bodyPost_ret (res_g h _ b _ 0 1 none 0 0 hp hq p0 p1) rfl ⟨rfl, (hB.setCell (p := ⟨b, 0, none⟩) hb _).setCell (p := ⟨b, 1, none⟩) hb _⟩

namespace Gf
/-- The set of the first n numbers. -/
theorem full_bit (n k : Nat) : (2 ^ n - 1).testBit k = decide (k < n) := Nat.testBit_two_pow_sub_one n k
theorem full_lt {n : Nat} (h : n ≤ 64) : 2 ^ n - 1 < 2 ^ 64 := Nat.lt_of_lt_of_le (Nat.sub_lt (Nat.two_pow_pos n) (by decide)) (Nat.pow_le_pow_right (by decide) h)
theorem sub_full {n s : Nat} (hs : s < 2 ^ 64) : Bi.sub s (2 ^ n - 1) = decide (s < 2 ^ n) := by
  rw [Bool.eq_iff_iff, decide_eq_true_iff, row_lt hs]
  show (Bi.list s).all (2 ^ n - 1).testBit = true ↔ _
  rw [List.all_eq_true]
  constructor
  · intro h k hk h64
    cases hb : s.testBit k with
    | false => rfl
    | true =>
      have := h k (Bi.mem_list.2 ⟨h64, hb⟩)
      rw [full_bit, decide_eq_true_iff] at this
      omega
  · intro h k hk
    obtain ⟨h64, hb⟩ := Bi.mem_list.1 hk
    rw [full_bit, decide_eq_true_iff]
    rcases Nat.lt_or_ge k n with q | q
    · exact q
    · rw [h k q h64] at hb
      cases hb
/-- Whether a number of whatever sign is a node. -/
def isN (n a : Int) : Bool := decide (0 ≤ a) && decide (a < n)
theorem isN_nat {n : Nat} {a : Int} (h : isN (n : Int) a = true) : ∃ k : Nat, a = (k : Int) ∧ k < n := by
  rw [isN, Bool.and_eq_true, decide_eq_true_iff, decide_eq_true_iff] at h
  exact ⟨a.toNat, by omega, by omega⟩
theorem isN_yes {n k : Nat} (h : k < n) : isN (n : Int) (k : Int) = true := by
  rw [isN, decide_eq_true (by omega), decide_eq_true (by omega)]
  rfl
theorem setTo_lt64 (p : Nat → Bool) (k : Nat) : setTo p k < 2 ^ 64 := by
  rw [setTo_put]
  exact putTo_lt _ _ (Nat.two_pow_pos 64)
/-- Whether a graph has an edge. -/
def hasR (n : Int) (l : List Nat) (a b : Int) : Bool := okB n l && (isN n a && (isN n b && bit l a.toNat b.toNat))
end Gf
end Go.Proofs.Ytcpiaddohiokkaa
