/-
  What Few answers, of any number: whether there are few transactions, with few reads and writes.
  Conditions: none.
-/
import Derived.Test.YtahacjfeopjbaaaHiAll
import Derived.Test.YtahacjfeopjbaaaIxAll
set_option maxRecDepth 4000
namespace Go.Proofs.Ytahacjfeopjbaaa
open Go.RowKit

namespace Hi
def fewM (m : Nat) (h : List So.Txn) : Bool := decide (h.length ≤ m) && h.all (fun t => decide (t.writes.length ≤ 20) && decide (t.reads.length ≤ 20))
theorem fewM_iff (m : Nat) (h : List So.Txn) : fewM m h = true ↔ h.length ≤ m ∧ ∀ t ∈ h, t.writes.length ≤ 20 ∧ t.reads.length ≤ 20 := by
  rw [fewM, Bool.and_eq_true, decide_eq_true_eq, List.all_eq_true]
  simp
theorem fewM_no {m : Nat} {h : List So.Txn} (q : ¬ (h.length ≤ m ∧ ∀ t ∈ h, t.writes.length ≤ 20 ∧ t.reads.length ≤ 20)) : fewM m h = false := by
  rw [← Bool.not_eq_true, fewM_iff]
  exact q
theorem fewM_small {m : Nat} {h : List So.Txn} (hm : m ≤ 4294967296) (q : fewM m h = true) : h.length ≤ m ∧ Ix.Small h := by
  obtain ⟨h1, h2⟩ := (fewM_iff m h).1 q
  refine ⟨h1, by omega, fun t ht => ?_⟩
  have := h2 t ht
  omega
end Hi

set_option maxHeartbeats 1000000 in
theorem fewM8_at (m : Nat) (h : List So.Txn) (u : Value) (w : World) (hv : Txns w u h) (hm : m ≤ 4294967296) : Calls Try.prog 8 #[.agg #[u], .int .i64 (m : Int)] w (RetBool w (Hi.fewM m h)) := by
  have HB0 := Lib.hid (alloc_below w (.cells #[u] 24))
  obtain ⟨A, c, rfl, hform⟩ := (hv.below HB0.out).spelled
  have HF := Lib.hid hform
  have c0 := (Boxed.new w 24 (.slice A h.length c)).cell
  clear hform hv
  go_enter Try.func8, Try.ntmps8
  by_cases h4 : m < h.length
  · have hd : decide ((m : Int) < (h.length : Int)) = true := by simp; omega
    have HR : Hid (Hi.fewM m h = false) := Hi.fewM_no (fun q => by omega)
    go_wp2_with fail
    go_ret
    exact ⟨ret_bool HR.out.symm, HB0.out⟩
  have hd : decide ((m : Int) < (h.length : Int)) = false := by simp; omega
  have h40 : h.length ≤ m := by omega
  clear h4
  go_wp2_with fail
  generalize w.alloc (.cells #[.slice A h.length c] 24) = w1 at *
  go_loop [5] (fun i => ∃ k : Nat, k ≤ h.length ∧ i = .int .i64 k ∧ Hid (∀ t ∈ h.take k, t.writes.length ≤ 20 ∧ t.reads.length ≤ 20)) (fun i => h.length - (intOf i).toNat)
  case atStart => exact ⟨0, Nat.zero_le _, rfl, fun t ht => by cases ht⟩
  case round =>
    obtain ⟨k, hk, rfl, hall⟩ := hrel
    by_cases hlt : k < h.length
    · obtain ⟨ad, x, y, rfl, hblk, hT, hx, hy⟩ := HF.out k hlt
      have HM := Lib.hid (List.getElem_mem hlt)
      have HTK := Lib.hid (List.take_succ_eq_append_getElem hlt)
      obtain ⟨_, e1, e2⟩ := hT
      generalize h[k] = t at *
      obtain ⟨A1, c1, rfl, _⟩ := hx.spelled
      obtain ⟨A2, c2, rfl, _⟩ := hy.spelled
      clear hx hy
      by_cases q1 : 20 < t.writes.length
      · have d1 : decide ((20 : Int) < (t.writes.length : Int)) = true := by simp; omega
        have HR : Hid (Hi.fewM m h = false) := Hi.fewM_no (fun q => by have := q.2 t HM.out; omega)
        clear q1
        go_wp2_with fail
        go_ret
        exact ⟨ret_bool HR.out.symm, HB0.out⟩
      have d1 : decide ((20 : Int) < (t.writes.length : Int)) = false := by simp; omega
      by_cases q2 : 20 < t.reads.length
      · have d2 : decide ((20 : Int) < (t.reads.length : Int)) = true := by simp; omega
        have HR : Hid (Hi.fewM m h = false) := Hi.fewM_no (fun q => by have := q.2 t HM.out; omega)
        clear q1 q2
        go_wp2_with fail
        go_ret
        exact ⟨ret_bool HR.out.symm, HB0.out⟩
      have d2 : decide ((20 : Int) < (t.reads.length : Int)) = false := by simp; omega
      have HN : Hid (∀ t ∈ h.take (k + 1), t.writes.length ≤ 20 ∧ t.reads.length ≤ 20) := fun z hz => by
        rw [HTK.out] at hz
        rcases List.mem_append.1 hz with hz | hz
        · exact hall.out z hz
        · rw [List.mem_singleton.1 hz]; omega
      clear q1 q2
      go_wp2_with fail
      go_round
      case rel => exact ⟨k + 1, by omega, by go_num, HN⟩
      case measure => simp [intOf]; omega
    · have HR : Hid (Hi.fewM m h = true) := (Hi.fewM_iff m h).2 ⟨h40, fun t ht => hall.out t (by rw [List.take_of_length_le (by omega)]; exact ht)⟩
      go_wp2_with fail
      go_ret
      exact ⟨ret_bool HR.out.symm, HB0.out⟩
theorem few8_5 (h : List So.Txn) (u : Value) (w : World) (hv : Txns w u h) : Calls Try.prog 8 #[.agg #[u], .int .i64 5] w (RetBool w (Hi.fewM 5 h)) := fewM8_at 5 h u w hv (by decide)
theorem few8_8 (h : List So.Txn) (u : Value) (w : World) (hv : Txns w u h) : Calls Try.prog 8 #[.agg #[u], .int .i64 8] w (RetBool w (Hi.fewM 8 h)) := fewM8_at 8 h u w hv (by decide)
theorem few8_10 (h : List So.Txn) (u : Value) (w : World) (hv : Txns w u h) : Calls Try.prog 8 #[.agg #[u], .int .i64 10] w (RetBool w (Hi.fewM 10 h)) := fewM8_at 10 h u w hv (by decide)
theorem few8_12 (h : List So.Txn) (u : Value) (w : World) (hv : Txns w u h) : Calls Try.prog 8 #[.agg #[u], .int .i64 12] w (RetBool w (Hi.fewM 12 h)) := fewM8_at 12 h u w hv (by decide)
theorem few8_16 (h : List So.Txn) (u : Value) (w : World) (hv : Txns w u h) : Calls Try.prog 8 #[.agg #[u], .int .i64 16] w (RetBool w (Hi.fewM 16 h)) := fewM8_at 16 h u w hv (by decide)
theorem few8_20 (h : List So.Txn) (u : Value) (w : World) (hv : Txns w u h) : Calls Try.prog 8 #[.agg #[u], .int .i64 20] w (RetBool w (Hi.fewM 20 h)) := fewM8_at 20 h u w hv (by decide)
theorem few8_30 (h : List So.Txn) (u : Value) (w : World) (hv : Txns w u h) : Calls Try.prog 8 #[.agg #[u], .int .i64 30] w (RetBool w (Hi.fewM 30 h)) := fewM8_at 30 h u w hv (by decide)
end Go.Proofs.Ytahacjfeopjbaaa
