/-
  What event.kindOf and event.Show answer, for every input: Ev.kindI and Ev.showR; what was in memory stays as it was.
  Conditions: the variable that lists the kinds' words holds them.
-/
import Derived.Test.YtpicoccpgpmfhaaDoorEvWalkA
namespace Go.Proofs.YtpicoccpgpmfhaaDoor
open Go.RowKit

/-- The array of the kinds' words, as a value. -/
def wordsV : Value := .agg #[.string (Ln.bs (Ev.word 0)), .string (Ln.bs (Ev.word 1)), .string (Ln.bs (Ev.word 2)), .string (Ln.bs (Ev.word 3)), .string (Ln.bs (Ev.word 4))]
theorem index_words (k : Nat) (hk : k < 5) (w : World) : (Instr.index 60 wordsV (.int .i64 (k : Int))).run Tryd.prog w = .ok (.string (Ln.bs (Ev.word k))) w := by
  obtain rfl | rfl | rfl | rfl | rfl : k = 0 ∨ k = 1 ∨ k = 2 ∨ k = 3 ∨ k = 4 := by omega
  all_goals kernel_rfl

theorem kindOf_at (x : List UInt8) (w : World) (hK : KW w) :
    Calls Tryd.prog 28 #[.string (Ln.bs x)] w fun e w' => e = .returned (.tuple #[.int .i64 (Ev.kindN x), .bool (Ev.kindB x)]) ∧ w = w' := by
  have c0 := hK 0 (by omega)
  have c1 := hK 1 (by omega)
  have c2 := hK 2 (by omega)
  have c3 := hK 3 (by omega)
  have c4 := hK 4 (by omega)
  have H5 := Lib.hid (Ev.kindI_le x)
  clear hK
  go_enter Tryd.func28, Tryd.ntmps28
  go_wp2
  go_loop [7] (fun i => ∃ k : Nat, k ≤ 5 ∧ i = .int .i64 k ∧ Hid (k ≤ Ev.kindI x)) (fun i => 5 - (intOf i).toNat)
  case atStart => exact ⟨0, Nat.zero_le _, rfl, Nat.zero_le _⟩
  case round =>
    obtain ⟨k, hk, rfl, hx⟩ := hrel
    by_cases hlt : k < 5
    · have hrun := index_words k hlt w
      unfold wordsV at hrun
      by_cases he : Ev.word k = x
      · have HR : Hid (Ev.kindI x = k) := (Ev.word_iff x k hlt).1 he
        have hq : ((Ln.bs (Ev.word k)).toList == (Ln.bs x).toList) = true := by rw [bs_eqb]; simp [he]
        clear he
        go_wp2
        go_ret2
        exact ⟨by rw [Ev.kindN, Ev.kindB, HR.out, if_pos hlt, decide_eq_true hlt]; rfl, rfl⟩
      · have HR : Hid (k + 1 ≤ Ev.kindI x) := by
          have h1 := hx.out
          have h2 : Ev.kindI x ≠ k := fun h => he ((Ev.word_iff x k hlt).2 h)
          rw [Hid]
          omega
        have hq : ((Ln.bs (Ev.word k)).toList == (Ln.bs x).toList) = false := by rw [bs_eqb]; simp [he]
        clear he
        go_wp2
        go_round
        case rel => exact ⟨k + 1, by omega, by go_num, HR⟩
        case measure => simp [intOf]; omega
    · have HR : Hid (¬ Ev.kindI x < 5) := by
        have h1 := hx.out
        rw [Hid]
        omega
      go_wp2
      go_ret2
      exact ⟨by rw [Ev.kindN, Ev.kindB, if_neg HR.out, decide_eq_false HR.out]; rfl, rfl⟩

/-- The cells of a new block. -/
theorem new_cell (w : World) (cs : Array Value) (t : TypeId) (k : Nat) (v : Value) (h : cs[k]? = some v) : (w.alloc (.cells cs t)).cell? ⟨w.heap.size, k, none⟩ = some v := by
  rw [cell_of_row _ _ _ cs t (0, 0) (heap_alloc_new w _)]
  exact h
theorem alloc_below (w : World) (o : Obj) : Below w.heap.size w (w.alloc o) := (Below.refl _ w).alloc (Nat.le_refl _) o
theorem below_new {w w1 : World} {o : Obj} (h : Below (w.alloc o).heap.size (w.alloc o) w1) : Below w.heap.size w w1 := below_all ((Below.refl _ w).alloc (Nat.le_refl _) o) h
theorem size_new (w : World) (o : Obj) : (w.alloc o).heap.size = w.heap.size + 1 := by simp

theorem evShow_at (x : Ev.Event) (w : World) (hK : KW w) : Calls Tryd.prog 20 #[evV x] w (RetStr w (Ev.showR x)) := by
  have HK := Lib.hid (KW.below hK ((Below.refl _ w).alloc (Nat.le_refl _) (.cells #[.int .i64 x.kind, .int .i64 x.session, .int .i64 x.key, .int .i64 x.value] 35)))
  clear hK
  unfold evV
  go_enter Tryd.func20, Tryd.ntmps20
  go_wp2_with fail
  refine (evRight_at x _).mono ?_
  rintro e w1 ⟨rfl, hb1⟩
  have hx0 : w1.cell? ⟨w.heap.size, 0, none⟩ = some (.int .i64 x.kind) := (hb1.cell (by simp)).trans (new_cell w _ _ 0 _ rfl)
  have hx1 : w1.cell? ⟨w.heap.size, 1, none⟩ = some (.int .i64 x.session) := (hb1.cell (by simp)).trans (new_cell w _ _ 1 _ rfl)
  have hx2 : w1.cell? ⟨w.heap.size, 2, none⟩ = some (.int .i64 x.key) := (hb1.cell (by simp)).trans (new_cell w _ _ 2 _ rfl)
  have hx3 : w1.cell? ⟨w.heap.size, 3, none⟩ = some (.int .i64 x.value) := (hb1.cell (by simp)).trans (new_cell w _ _ 3 _ rfl)
  have HK1 := Lib.hid (HK.out.below hb1)
  have HB1 := Lib.hid (below_new hb1)
  clear hb1 HK
  cases hr : Ev.right x with
  | false =>
    have HR : Hid (Ev.showR x = ([], 1)) := by rw [Hid, Ev.showR, if_neg (by rw [hr]; simp)]
    clear hr
    go_wp2_with fail
    go_ret2
    exact RetStr.mk _ _ (by rw [HR.out]) (by rw [HR.out]; rfl) HB1.out
  | true =>
    have HR : Hid (Ev.showR x = (Ln.spaced (Ev.parts x), 0)) := by rw [Hid, Ev.showR, if_pos hr]
    obtain ⟨a1, a2, _⟩ := (Ev.right_iff x).1 hr
    obtain ⟨n, hn⟩ := Int.eq_ofNat_of_zero_le a1
    have hn5 : n < 5 := by omega
    have hw := HK1.out n hn5
    rw [hn] at hx0
    have hy0 : ∀ o, (w1.alloc o).cell? ⟨w.heap.size, 0, none⟩ = some (.int .i64 (n : Int)) := fun o => (((Below.refl _ w1).alloc (Nat.le_refl _) o).cell (World.block_lt_of_cell? w1 _ hx0)).trans hx0
    have HN := Lib.hid hn
    have hm1 := Ev.many_pos (n : Int)
    have hm3 := Ev.many_le (n : Int)
    clear hr a1 a2 hn
    go_wp2_with fail
    refine (numbersOf_at _ _).mono ?_
    rintro e w' ⟨rfl, rfl⟩
    have HC : Hid (∀ k, k < 3 → (w1.alloc (.cells #[.int .i64 x.session, .int .i64 x.key, .int .i64 x.value] 53)).cell? ⟨w1.heap.size, k, none⟩ = some (.int .i64 (Ev.arr x k))) := fun k hk => by
      obtain rfl | rfl | rfl : k = 0 ∨ k = 1 ∨ k = 2 := by omega
      all_goals exact new_cell w1 _ _ _ _ rfl
    have HZ : Hid (∀ k, (Ln.spaced ((Ev.parts x).take k)).length ≤ 40) := fun k => by
      have h1 := Ev.showR_len x
      rw [HR.out] at h1
      exact Nat.le_trans (Ln.spaced_take_le _ k) h1
    have HM : Hid (Ev.many x.kind = Ev.many (n : Int)) := by rw [Hid, HN.out]
    have HB2 := Lib.hid (below_all HB1.out ((Below.refl _ w1).alloc (Nat.le_refl _) (.cells #[.int .i64 x.session, .int .i64 x.key, .int .i64 x.value] 53)))
    have hsz : w1.heap.size < (w1.alloc (.cells #[.int .i64 x.session, .int .i64 x.key, .int .i64 x.value] 53)).heap.size := by simp
    generalize Ev.many (n : Int) = m at *
    generalize hW2 : w1.alloc (.cells #[.int .i64 x.session, .int .i64 x.key, .int .i64 x.value] 53) = w2 at *
    clear hx0 hx1 hx2 hx3 hy0 hw hW2
    go_wp2_with fail
    go_loopw [4, 26] (fun t i wr => ∃ k : Nat, k ≤ m ∧ i = .int .i64 k ∧ t = .string (Ln.bs (Ln.spaced ((Ev.parts x).take (k + 1)))) ∧ Below w2.heap.size w2 wr) (fun _ i _ => m - (intOf i).toNat)
    case atStart => exact ⟨0, Nat.zero_le _, rfl, by rw [Ev.parts_zero, HN.out]; rfl, Below.refl _ _⟩
    case round =>
      obtain ⟨k, hk, rfl, rfl, hb⟩ := hrel
      have HB := Lib.hid hb
      by_cases hlt : k < m
      · have hc : wr.cell? ⟨w1.heap.size, k, none⟩ = some (.int .i64 (Ev.arr x k)) := (hb.cell hsz).trans (HC.out k (by omega))
        have hk3 : (k : Int) < 3 := by omega
        clear hb
        have HNX := Lib.hid (Ev.parts_next x k (by rw [HM.out]; exact hlt))
        have hz1 := HZ.out (k + 1)
        have hz2 := HZ.out (k + 2)
        rw [HNX.out, List.length_append, List.length_append] at hz2
        generalize Ln.spaced ((Ev.parts x).take (k + 1)) = t at *
        go_wp2_with fail
        refine (show_any _ _).mono ?_
        rintro e w3 ⟨rfl, hb3⟩
        have HB3 := Lib.hid (HB.out.trans (hb3.mono HB.out.size))
        rw [show (⟨(Nm.showS (Ev.arr x k)).toArray⟩ : ByteArray) = Ln.bs (Nm.showS (Ev.arr x k)) from rfl]
        generalize Nm.showS (Ev.arr x k) = d at *
        generalize Nm.showE (Ev.arr x k) = q
        rw [List.length_singleton] at hz2
        have hs1 : (Ln.bs t).size = t.length := Ln.bs_size t
        have hs2 : (Ln.bs d).size = d.length := Ln.bs_size d
        have hv1 : ¬ 9223372036854775807 < 1 + (Ln.bs d).size := by omega
        have hv2 : ¬ 9223372036854775807 < (Ln.bs t).size + (1 + (Ln.bs d).size) := by omega
        clear hb3 hs1 hs2
        go_wp2_with fail
        go_roundw
        case rel =>
          refine ⟨k + 1, by omega, by go_num, ?_, HB3.out⟩
          rw [show k + 1 + 1 = k + 2 from rfl, HNX.out, ← bs_add, ← bs_add]
          rfl
        case measure => simp [intOf]; omega
      · obtain rfl : k = m := by omega
        have HE : Hid (Ln.spaced ((Ev.parts x).take (k + 1)) = (Ev.showR x).1) := by rw [Hid, HR.out, ← HM.out, Ev.parts_all]
        clear hb
        go_wp2_with fail
        go_ret2
        exact RetStr.mk _ _ (by rw [HR.out]) (by rw [HE.out]) (below_all HB2.out HB.out)
end Go.Proofs.YtpicoccpgpmfhaaDoor
