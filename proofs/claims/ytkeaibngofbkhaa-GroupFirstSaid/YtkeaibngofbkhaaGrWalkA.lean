/-
  What group.errorOf and group.lastKind answer, for every input: Gr.errR, and the kind of the event that closes a transaction; what was in memory stays as it was.
  Conditions: none.
-/
import Derived.Test.YtkeaibngofbkhaaGrMem
import Derived.Test.YtkeaibngofbkhaaEvWalkB
namespace Go.Proofs.Ytkeaibngofbkhaa
open Go.RowKit

namespace Gr
/-- What is wrong with an event whose session has an open transaction or none, behind so many that have begun. -/
def errR (e : Ev.Event) (o : Bool) (n : Nat) : Int :=
  if Ev.right e = false then 1
  else if e.kind = 0 then (if o = true then 5 else if 32 ≤ n then 4 else 0)
  else if o = true then 0 else 6
theorem errR_fault (st : List (Tx × Bool)) (e : Ev.Event) (h : st.length ≤ 32) : errR e (hasOpen st e.session) st.length = fault st e := by
  unfold errR fault
  have : (32 ≤ st.length) ↔ (st.length = 32) := by omega
  simp only [this]
end Gr

/-- A number, in whatever memory was made. -/
def RetInt (w : World) (n : Int) (e : Ending) (w' : World) : Prop := e = .returned (.int .i64 n) ∧ Below w.heap.size w w'

set_option maxHeartbeats 1000000 in
theorem errorOf_at (x : Ev.Event) (o : Bool) (n : Nat) (w : World) : Calls Try.prog 16 #[evV x, .bool o, .int .i64 (n : Int)] w (RetInt w (Gr.errR x o n)) := by
  unfold evV
  have HN := Lib.hid (new_cell w #[.int .i64 x.kind, .int .i64 x.session, .int .i64 x.key, .int .i64 x.value] 44)
  go_enter Try.func16, Try.ntmps16
  go_wp2_with fail
  refine (evRight_at x _).mono ?_
  rintro e w1 ⟨rfl, hb1⟩
  have B1 := Lib.hid (below_new hb1)
  have hc0 : w1.cell? ⟨w.heap.size, 0, none⟩ = some (.int .i64 x.kind) := (hb1.cell (by simp)).trans (HN.out 0 _ rfl)
  clear hb1 HN
  cases hr : Ev.right x with
  | false =>
    have HR : Hid (Gr.errR x o n = 1) := by rw [Hid, Gr.errR, if_pos hr]
    clear hr
    go_wp2_with fail
    go_ret
    exact ⟨ret_int (by rw [HR.out]), B1.out⟩
  | true =>
    by_cases hk : x.kind = 0
    · have hk2 : (x.kind == 0) = true := by rw [beq_iff_eq]; exact hk
      have hk3 : (x.kind != 0) = false := by simp [hk]
      cases o with
      | true =>
        have HR : Hid (Gr.errR x true n = 5) := by rw [Hid, Gr.errR, if_neg (by rw [hr]; simp), if_pos hk, if_pos rfl]
        clear hr hk
        go_wp2_with fail
        go_ret
        exact ⟨ret_int (by rw [HR.out]), B1.out⟩
      | false =>
        by_cases hn : 32 ≤ n
        · have HR : Hid (Gr.errR x false n = 4) := by rw [Hid, Gr.errR, if_neg (by rw [hr]; simp), if_pos hk, if_neg (by simp), if_pos hn]
          have hd : decide ((32 : Int) ≤ (n : Int)) = true := by simp; omega
          clear hr hk
          go_wp2_with fail
          go_ret
          exact ⟨ret_int (by rw [HR.out]), B1.out⟩
        · have HR : Hid (Gr.errR x false n = 0) := by rw [Hid, Gr.errR, if_neg (by rw [hr]; simp), if_pos hk, if_neg (by simp), if_neg hn]
          have hd : decide ((32 : Int) ≤ (n : Int)) = false := by simp; omega
          clear hr hk
          go_wp2_with fail
          go_ret
          exact ⟨ret_int (by rw [HR.out]), B1.out⟩
    · have hk2 : (x.kind == 0) = false := by rw [beq_eq_false_iff_ne]; exact hk
      have hk3 : (x.kind != 0) = true := by rw [bne_iff_ne]; exact hk
      cases o with
      | true =>
        have HR : Hid (Gr.errR x true n = 0) := by rw [Hid, Gr.errR, if_neg (by rw [hr]; simp), if_neg hk, if_pos rfl]
        clear hr hk
        go_wp2_with fail
        go_ret
        exact ⟨ret_int (by rw [HR.out]), B1.out⟩
      | false =>
        have HR : Hid (Gr.errR x false n = 6) := by rw [Hid, Gr.errR, if_neg (by rw [hr]; simp), if_neg hk, if_neg (by simp)]
        clear hr hk
        go_wp2_with fail
        go_ret
        exact ⟨ret_int (by rw [HR.out]), B1.out⟩

/-- The kind of the event that closes a transaction. -/
theorem lastKind_at (t : Gr.Tx) (u : Value) (w : World) : Calls Try.prog 19 #[.agg #[.int .i64 t.session, .bool t.done, .int .i64 t.first, u]] w (RetInt w (Gr.endOf t).kind) := by
  cases hd : t.done with
  | true =>
    have HR : Hid ((Gr.endOf t).kind = 3) := by rw [Hid, Gr.endOf, hd, if_pos rfl]
    clear hd
    go_enter Try.func19, Try.ntmps19
    go_wp2
    go_ret
    exact ⟨ret_int (by rw [HR.out]), alloc_below _ _⟩
  | false =>
    have HR : Hid ((Gr.endOf t).kind = 4) := by rw [Hid, Gr.endOf, hd, if_neg (by simp)]
    clear hd
    go_enter Try.func19, Try.ntmps19
    go_wp2
    go_ret
    exact ⟨ret_int (by rw [HR.out]), alloc_below _ _⟩
end Go.Proofs.Ytkeaibngofbkhaa
