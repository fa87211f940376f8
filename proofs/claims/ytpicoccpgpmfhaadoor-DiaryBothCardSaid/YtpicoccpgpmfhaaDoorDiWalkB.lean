/-
  What diary.Parse's deferred function does: of a call that ends well, nothing; of one that panics with a fault, it lays the fault's line and error into the result variables, and the panic is over.
  Conditions: the three result variables may be written.
-/
import Derived.Test.YtpicoccpgpmfhaaDoorDiWalkA
import Derived.Defers
import Derived.Recover
namespace Go.Proofs.YtpicoccpgpmfhaaDoor
open Go.RowKit

/-- A variable of one cell that may be written. -/
structure One (w : World) (b : Nat) (v : Value) : Prop where
  c : w.cell? ⟨b, 0, none⟩ = some v
  f : w.frozen? ⟨b, 0, none⟩ = false

theorem One.alloc {w : World} {b : Nat} {v : Value} (h : One w b v) (o : Obj) : One (w.alloc o) b v := by
  have hlt : b < w.heap.size := World.block_lt_of_cell? w ⟨b, 0, none⟩ h.c
  have hb := (Below.refl w.heap.size w).alloc (Nat.le_refl _) o
  have hh : (w.alloc o).heap[b]? = w.heap[b]? := hb.block b hlt
  refine ⟨(hb.cell hlt).trans h.c, ?_⟩
  have := h.f
  simp only [World.frozen?, hh] at this ⊢
  exact this

theorem assert_fault (n q : Int) (w : World) : (Instr.typeAssert (.iface 40 (.agg #[.int .i64 n, .int .i64 q])) 20 40 true).run Tryd.prog w = .ok (.tuple #[.agg #[.int .i64 n, .int .i64 q], .bool true]) w := by kernel_rfl

theorem catch_idle (a b c : Value) (w : World) : CallsD Tryd.prog 15 #[a, b, c] .returning w fun e u' w' => e = .returned (.tuple #[]) ∧ u' = .returning ∧ w = w' := by
  refine callsD_of_wpS Tryd.func15 rfl fun c₀ cs hu => ?_
  simp only [Tryd.ntmps15, List.size_toArray, List.length_cons, List.length_nil, Nat.reduceAdd, Nat.reduceSub, Array.replicate_succ, Array.replicate_zero, List.push_toArray, List.append_toArray, List.nil_append, List.cons_append]
  apply wpS_seq
  apply wpS_region
  simp [wpOpsS, go_sem, recoverD, hu, Exit.thenS]
  refine wpS_of_wp ?_
  go_wp2
  exact ⟨rfl, .returning, by rw [← hu], _, results_none rfl _ _ _, rfl, rfl, rfl⟩

/-- What the deferred function leaves behind: the three result variables turned, nothing else below. -/
def Caught (w : World) (b : Nat) (n q : Int) (w' : World) : Prop := w'.cell? ⟨b, 0, none⟩ = some (.slice none 0 0) ∧ w'.cell? ⟨b + 1, 0, none⟩ = some (.int .i64 n) ∧ w'.cell? ⟨b + 2, 0, none⟩ = some (.int .i64 q) ∧ Below b w w'

theorem caught_of {w W : World} {b : Nat} {x y z : Value} {n q : Int} (hb : Below b w W) (h0 : W.cell? ⟨b, 0, none⟩ = some x) (h1 : W.cell? ⟨b + 1, 0, none⟩ = some y) (h2 : W.cell? ⟨b + 2, 0, none⟩ = some z) :
    Caught w b n q (((W.setCell ⟨b, 0, none⟩ (.slice none 0 0)).setCell ⟨b + 1, 0, none⟩ (.int .i64 n)).setCell ⟨b + 2, 0, none⟩ (.int .i64 q)).drew := by
  refine ⟨?_, ?_, ?_, (((hb.setCell (Nat.le_refl _) _).setCell (Nat.le_add_right _ _) _).setCell (Nat.le_add_right _ _) _).drew⟩
  all_goals simp [go_sem, h0, h1, h2]

set_option maxHeartbeats 1000000 in
theorem catch_fault (b : Nat) (x y z : Value) (n q : Int) (older : List PanicEntry) (w : World) (hb : One w b x) (hc : One w (b + 1) y) (hd : One w (b + 2) z) :
    CallsD Tryd.prog 15 #[.pointer (some ⟨b, 0, none⟩), .pointer (some ⟨b + 1, 0, none⟩), .pointer (some ⟨b + 2, 0, none⟩)] (.panicking ({ v := faultV n q, recovered := false } :: older)) w fun e u' w' => e = .returned (.tuple #[]) ∧ u' = .panicking ({ v := faultV n q, recovered := true } :: older) ∧ Caught w b n q w' := by
  have hta := assert_fault n q w
  have hlt : b + 2 < w.heap.size := World.block_lt_of_cell? w ⟨b + 2, 0, none⟩ hd.c
  unfold faultV
  have b1 := (hb.alloc (.cells #[.int .i64 n, .int .i64 q] 40)).c
  have b2 := (hb.alloc (.cells #[.int .i64 n, .int .i64 q] 40)).f
  have c1 := (hc.alloc (.cells #[.int .i64 n, .int .i64 q] 40)).c
  have c2 := (hc.alloc (.cells #[.int .i64 n, .int .i64 q] 40)).f
  have d1 := (hd.alloc (.cells #[.int .i64 n, .int .i64 q] 40)).c
  have d2 := (hd.alloc (.cells #[.int .i64 n, .int .i64 q] 40)).f
  have e1 : (w.alloc (.cells #[.int .i64 n, .int .i64 q] 40)).cell? ⟨w.heap.size, 0, none⟩ = some (.int .i64 n) := new_cell w _ _ 0 _ rfl
  have e2 : (w.alloc (.cells #[.int .i64 n, .int .i64 q] 40)).cell? ⟨w.heap.size, 1, none⟩ = some (.int .i64 q) := new_cell w _ _ 1 _ rfl
  have HBW := Lib.hid (show Below b w (w.alloc (.cells #[.int .i64 n, .int .i64 q] 40)) from (Below.refl _ w).alloc (by omega) _)
  clear hb hc hd
  refine callsD_of_wpS Tryd.func15 rfl fun c₀ cs hu => ?_
  simp only [Tryd.ntmps15, List.size_toArray, List.length_cons, List.length_nil, Nat.reduceAdd, Nat.reduceSub, Array.replicate_succ, Array.replicate_zero, List.push_toArray, List.append_toArray, List.nil_append, List.cons_append]
  apply wpS_seq
  apply wpS_region
  simp [wpOpsS, go_sem, recoverD, hu, Exit.thenS]
  refine wpS_of_wp ?_
  go_wp2
  have n0 : ¬ b = w.heap.size := by omega
  have n1 : ¬ b + 1 = w.heap.size := by omega
  have n2 : ¬ b + 2 = w.heap.size := by omega
  generalize w.alloc (.cells #[.int .i64 n, .int .i64 q] 40) = W at *
  generalize w.heap.size = f at *
  clear hta hlt
  go_region
  go_wp2
  exact ⟨rfl, _, rfl, _, results_none rfl _ _ _, rfl, rfl, caught_of HBW.out b1 c1 d1⟩
end Go.Proofs.YtpicoccpgpmfhaaDoor
