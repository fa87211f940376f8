/-
  What the reference's word, digits, Right and Show of layer 3 answer: Ev.word, Nm.showS, Ev.right, Ev.showR; what was in memory stays as it was.
  Conditions: word: a kind from 0 to 4.
-/
import Derived.Test.YtpicoccpgpmfhaaDoorEvWalkB
import Derived.Test.YtpicoccpgpmfhaaDoorNumRefB
import Derived.Deep.RegionHeld3
namespace Go.Proofs.YtpicoccpgpmfhaaDoor
open Go.RowKit

theorem rWord_at (k : Nat) (hk : k < 5) (w : World) :
    Calls Tryd.prog 33 #[.int .i64 (k : Int)] w fun e w' => e = .returned (.string (Ln.bs (Ev.word k))) ∧ w = w' := by
  obtain rfl | rfl | rfl | rfl | rfl : k = 0 ∨ k = 1 ∨ k = 2 ∨ k = 3 ∨ k = 4 := by omega
  all_goals
    go_enter Tryd.func33, Tryd.ntmps33
    go_wp2
    go_ret
    exact ⟨rfl, rfl⟩

theorem rDigs_at (n : Int) (w : World) :
    Calls Tryd.prog 39 #[.int .i64 n] w fun e w' => e = .returned (.string (Ln.bs (Nm.showS n))) ∧ Below w.heap.size w w' := by
  go_enter Tryd.func39, Tryd.ntmps39
  go_wp2_with fail
  refine (rShow_at n w).mono ?_
  rintro e w1 ⟨rfl, hb⟩
  have HB := Lib.hid hb
  clear hb
  rw [show (⟨(Nm.showS n).toArray⟩ : ByteArray) = Ln.bs (Nm.showS n) from rfl]
  generalize hd : Ln.bs (Nm.showS n) = d
  have HD := Lib.hid hd
  clear hd
  generalize Nm.showE n = q
  go_wp2_with fail
  go_ret
  exact ⟨ret_str (by rw [HD.out]), HB.out⟩

theorem rEvRight_at (x : Ev.Event) (w : World) : Calls Tryd.prog 38 #[evV x] w (RetBool w (Ev.right x)) := by
  obtain ⟨a, b, c, d⟩ := x
  unfold evV
  dsimp only
  by_cases h1 : 0 ≤ a ∧ a < 5 ∧ 0 ≤ b ∧ b < 8
  · obtain ⟨h1, h2, h3, h4⟩ := h1
    have q1 : decide (a < 0) = false := by simp; omega
    have q2 : decide (4 < a) = false := by simp; omega
    have q3 : decide (b < 0) = false := by simp; omega
    have q4 : decide (7 < b) = false := by simp; omega
    have HR : Hid (Ev.right ⟨a, b, c, d⟩ = decide (if Ev.hasKey a = true then 0 ≤ c ∧ c < 16 ∧ Nm.isNum d = true else c = 0 ∧ d = 0)) := by
      rw [Hid, Ev.right]
      simp only [h1, h2, h3, h4, true_and]
    clear h1 h2 h3 h4
    by_cases hk : a = 1 ∨ a = 2
    · have HR2 : Hid (Ev.right ⟨a, b, c, d⟩ = decide (0 ≤ c ∧ c < 16 ∧ Nm.isNum d = true)) := by rw [Hid, HR.out]; simp only [(Ev.hasKey_iff a).2 hk, if_true]
      have key : (a == 1) = true ∨ (a == 1) = false ∧ (a == 2) = true := by
        rcases hk with h | h
        · exact .inl (by rw [beq_iff_eq]; exact h)
        · exact .inr ⟨by rw [beq_eq_false_iff_ne]; omega, by rw [beq_iff_eq]; exact h⟩
      clear HR hk
      by_cases hc : 0 ≤ c ∧ c < 16
      · have q5 : decide (0 ≤ c) = true := by simp; omega
        have q6 : decide (c ≤ 15) = true := by simp; omega
        have HR3 : Hid (Ev.right ⟨a, b, c, d⟩ = Nm.isNum d) := by rw [Hid, HR2.out]; simp [hc.1, hc.2]
        clear HR2 hc
        rcases key with k1 | ⟨k1, k2⟩
        all_goals
          go_enter Tryd.func38, Tryd.ntmps38
          go_wp2_with fail
          refine (rIs_at _ _).mono ?_
          rintro e w1 ⟨rfl, rfl⟩
          go_wp2_with fail
          go_ret
          exact ⟨ret_bool (by rw [HR3.out]), (Below.refl _ w).alloc (Nat.le_refl _) _⟩
      · have HR3 : Hid (Ev.right ⟨a, b, c, d⟩ = false) := by
          rw [Hid, HR2.out, decide_eq_false_iff_not]
          exact fun h => hc ⟨h.1, h.2.1⟩
        have kc : decide (0 ≤ c) = false ∨ decide (0 ≤ c) = true ∧ decide (c ≤ 15) = false := by
          simp only [decide_eq_true_eq, decide_eq_false_iff_not]; omega
        clear HR2 hc
        rcases key with k1 | ⟨k1, k2⟩ <;> rcases kc with q5 | ⟨q5, q6⟩
        all_goals
          go_enter Tryd.func38, Tryd.ntmps38
          go_wp2_with fail
          refine (rIs_at _ _).mono ?_
          rintro e w1 ⟨rfl, rfl⟩
          go_wp2_with fail
          go_ret
          exact ⟨ret_bool (by rw [HR3.out]), (Below.refl _ w).alloc (Nat.le_refl _) _⟩
    · have HR2 : Hid (Ev.right ⟨a, b, c, d⟩ = decide (c = 0 ∧ d = 0)) := by
        rw [Hid, HR.out]
        have : ¬ Ev.hasKey a = true := fun h => hk ((Ev.hasKey_iff a).1 h)
        simp only [this, if_false, Bool.false_eq_true]
      have k1 : (a == 1) = false := by rw [beq_eq_false_iff_ne]; omega
      have k2 : (a == 2) = false := by rw [beq_eq_false_iff_ne]; omega
      clear HR hk
      by_cases hc : c = 0
      · have q5 : (c == 0) = true := by rw [beq_iff_eq]; exact hc
        have HR3 : Hid (Ev.right ⟨a, b, c, d⟩ = (d == 0)) := by rw [Hid, HR2.out]; simp only [hc, true_and]; rfl
        clear HR2 hc
        go_enter Tryd.func38, Tryd.ntmps38
        go_wp2_with fail
        go_ret
        exact ⟨ret_bool (by rw [HR3.out]), (Below.refl _ w).alloc (Nat.le_refl _) _⟩
      · have q5 : (c == 0) = false := by rw [beq_eq_false_iff_ne]; exact hc
        have HR3 : Hid (Ev.right ⟨a, b, c, d⟩ = false) := by rw [Hid, HR2.out]; simp [hc]
        clear HR2 hc
        go_enter Tryd.func38, Tryd.ntmps38
        go_wp2_with fail
        go_ret
        exact ⟨ret_bool (by rw [HR3.out]), (Below.refl _ w).alloc (Nat.le_refl _) _⟩
  · have HR : Hid (Ev.right ⟨a, b, c, d⟩ = false) := by
      rw [Hid, Ev.right, decide_eq_false_iff_not]
      exact fun h => h1 ⟨h.1, h.2.1, h.2.2.1, h.2.2.2.1⟩
    have key : decide (a < 0) = true ∨ decide (a < 0) = false ∧ (decide (4 < a) = true ∨ decide (4 < a) = false ∧ (decide (b < 0) = true ∨ decide (b < 0) = false ∧ decide (7 < b) = true)) := by
      simp only [decide_eq_true_eq, decide_eq_false_iff_not]; omega
    clear h1
    rcases key with q1 | ⟨q1, q2 | ⟨q2, q3 | ⟨q3, q4⟩⟩⟩
    all_goals
      go_enter Tryd.func38, Tryd.ntmps38
      go_wp2_with fail
      go_ret
      exact ⟨ret_bool (by rw [HR.out]), (Below.refl _ w).alloc (Nat.le_refl _) _⟩

theorem cell_on {w w' : World} {a : Addr} {v : Value} (hb : Below w.heap.size w w') (h : w.cell? a = some v) : w'.cell? a = some v := (hb.cell (World.block_lt_of_cell? w a h)).trans h
theorem hid_below {w w1 w2 : World} (h : Hid (Below w.heap.size w w1)) (hb : Below w1.heap.size w1 w2) : Hid (Below w.heap.size w w2) := below_all h.out hb
theorem hid_drew (w : World) : Hid (Below w.heap.size w w.drew) := (Below.refl _ _).drew

theorem held_two {w W w3 : World} {p q : Addr} {u v : Value} (h : W.cell? p = some u ∧ W.cell? q = some v ∧ Hid (Below w.heap.size w W)) (hb : Below W.heap.size W w3) : w3.cell? p = some u ∧ w3.cell? q = some v ∧ Hid (Below w.heap.size w w3) :=
  ⟨cell_on hb h.1, cell_on hb h.2.1, hid_below h.2.2 hb⟩

set_option maxHeartbeats 1000000 in
theorem rEvShow_at (x : Ev.Event) (w : World) : Calls Tryd.prog 22 #[evV x] w (RetStr w (Ev.showR x)) := by
  unfold evV
  go_enter Tryd.func22, Tryd.ntmps22
  go_wp2_with fail
  refine (rEvRight_at x _).mono ?_
  rintro e w1 ⟨rfl, hb1⟩
  have hx0 : w1.cell? ⟨w.heap.size, 0, none⟩ = some (.int .i64 x.kind) := (hb1.cell (by simp)).trans (new_cell w _ _ 0 _ rfl)
  have hx1 : w1.cell? ⟨w.heap.size, 1, none⟩ = some (.int .i64 x.session) := (hb1.cell (by simp)).trans (new_cell w _ _ 1 _ rfl)
  have hx2 : w1.cell? ⟨w.heap.size, 2, none⟩ = some (.int .i64 x.key) := (hb1.cell (by simp)).trans (new_cell w _ _ 2 _ rfl)
  have hx3 : w1.cell? ⟨w.heap.size, 3, none⟩ = some (.int .i64 x.value) := (hb1.cell (by simp)).trans (new_cell w _ _ 3 _ rfl)
  have HB1 := Lib.hid (below_new hb1)
  clear hb1
  cases hr : Ev.right x with
  | false =>
    have HR : Hid (Ev.showR x = ([], 1)) := by rw [Hid, Ev.showR, if_neg (by rw [hr]; simp)]
    clear hr
    go_wp2_with fail
    go_ret2
    exact RetStr.mk _ _ (by rw [HR.out]) (by rw [HR.out]; rfl) HB1.out
  | true =>
    have HR : Hid (Ev.showR x = (Ln.spaced (Ev.parts x), 0)) := by rw [Hid, Ev.showR, if_pos hr]
    obtain ⟨a1, a2, _⟩ := (Ev.right_iff x).1 hr
    obtain ⟨n, hn⟩ := Int.eq_ofNat_of_zero_le a1
    have hn5 : n < 5 := by omega
    rw [hn] at hx0
    have HN := Lib.hid hn
    clear hr a1 a2 hn
    obtain ⟨b, hb⟩ : ∃ b, b = w.heap.size := ⟨_, rfl⟩
    rw [← hb] at hx0 hx1 hx2 hx3 ⊢
    clear hb
    have HZ1 : Hid ((Ln.bs (Ev.word n)).size ≤ 6) := by rw [Hid, Ln.bs_size]; exact Ev.word_len n hn5
    have HZ2 : ∀ i : Int, Hid ((Ln.bs (Nm.showS i)).size ≤ 10) := fun i => by rw [Hid, Ln.bs_size]; exact Ev.showS_len i
    have z1 : ¬ 9223372036854775807 < (Ln.bs (Ev.word n)).size + 1 := by have := HZ1.out; omega
    have z2 : ¬ 9223372036854775807 < (Ln.bs (Ev.word n)).size + 1 + (Ln.bs (Nm.showS x.session)).size := by have := HZ1.out; have := (HZ2 x.session).out; omega
    go_wp2_with fail
    go_region_held3 (fun w' => w'.cell? ⟨b, 0, none⟩ = some (.int .i64 (n : Int)) ∧ w'.cell? ⟨b, 1, none⟩ = some (.int .i64 x.session) ∧ w'.cell? ⟨b, 2, none⟩ = some (.int .i64 x.key) ∧ w'.cell? ⟨b, 3, none⟩ = some (.int .i64 x.value) ∧ Hid (Below w1.heap.size w1 w'))
      (first | (exact ⟨hx0, hx1, hx2, hx3, hid_drew w1⟩) | (exact ⟨cell_on hb2 hx0, cell_on hb2 hx1, cell_on hb2 hx2, cell_on hb2 hx3, hid_below (hid_drew w1) hb2⟩))
      (first | (go_at_call 33; refine (rWord_at n hn5 _).mono ?_; rintro e w' ⟨rfl, rfl⟩) | (go_at_call 39; refine (rDigs_at _ _).mono ?_; rintro e w2 ⟨rfl, hb2⟩))
    obtain ⟨y0, y1, y2, y3, HB2⟩ : w2.cell? ⟨b, 0, none⟩ = some (.int .i64 (n : Int)) ∧ w2.cell? ⟨b, 1, none⟩ = some (.int .i64 x.session) ∧ w2.cell? ⟨b, 2, none⟩ = some (.int .i64 x.key) ∧ w2.cell? ⟨b, 3, none⟩ = some (.int .i64 x.value) ∧ Hid (Below w1.heap.size w1 w2) := by assumption
    rename_i hHeld
    clear hHeld hb2 hx0 hx1 hx2 hx3
    by_cases hk : Ev.hasKey (n : Int) = true
    · have key : ((n : Int) == 1) = true ∨ ((n : Int) == 1) = false ∧ ((n : Int) == 2) = true := by
        rcases (Ev.hasKey_iff _).1 hk with h | h
        · exact .inl (by rw [beq_iff_eq]; exact h)
        · exact .inr ⟨by rw [beq_eq_false_iff_ne]; omega, by rw [beq_iff_eq]; exact h⟩
      have HE : Hid (Ln.bs (Ev.word n) ++ ⟨#[32]⟩ ++ Ln.bs (Nm.showS x.session) ++ ⟨#[32]⟩ ++ Ln.bs (Nm.showS x.key) ++ ⟨#[32]⟩ ++ Ln.bs (Nm.showS x.value) = Ln.bs (Ev.showR x).1) := by
        rw [Hid, HR.out]
        show Ln.bs (Ev.word n) ++ Ln.bs [32] ++ Ln.bs (Nm.showS x.session) ++ Ln.bs [32] ++ Ln.bs (Nm.showS x.key) ++ Ln.bs [32] ++ Ln.bs (Nm.showS x.value) = _
        rw [bs_add, bs_add, bs_add, bs_add, bs_add, bs_add, Ev.parts, Ev.nums, HN.out, if_pos hk]
        simp only [List.append_assoc]
        exact congrArg Ln.bs (Ev.spaced4 _ _ _ _).symm
      have HT : Hid ((Ln.bs (Ev.word n) ++ ⟨#[32]⟩ ++ Ln.bs (Nm.showS x.session)).size ≤ 17) := by
        have h1 := HZ1.out
        have h2 := (HZ2 x.session).out
        rw [Ln.bs_size] at h1 h2
        show (Ln.bs (Ev.word n) ++ Ln.bs [32] ++ Ln.bs (Nm.showS x.session)).size ≤ 17
        rw [bs_add, bs_add, Ln.bs_size, List.length_append, List.length_append, List.length_singleton]
        omega
      generalize hT : Ln.bs (Ev.word n) ++ ⟨#[32]⟩ ++ Ln.bs (Nm.showS x.session) = T at HT HE ⊢
      have e1 := HT.out
      have e2 := (HZ2 x.key).out
      have e3 := (HZ2 x.value).out
      have v1 : ¬ 9223372036854775807 < T.size + 1 := by omega
      have v2 : ¬ 9223372036854775807 < T.size + 1 + (Ln.bs (Nm.showS x.key)).size := by omega
      have v3 : ¬ 9223372036854775807 < T.size + 1 + (Ln.bs (Nm.showS x.key)).size + 1 := by omega
      have v4 : ¬ 9223372036854775807 < T.size + 1 + (Ln.bs (Nm.showS x.key)).size + 1 + (Ln.bs (Nm.showS x.value)).size := by omega
      clear hk hT e1 e2 e3 z1 z2
      rcases key with k1 | ⟨k1, k2⟩
      all_goals
        go_wp2_with fail
        go_region_held3 (fun w' => w'.cell? ⟨b, 2, none⟩ = some (.int .i64 x.key) ∧ w'.cell? ⟨b, 3, none⟩ = some (.int .i64 x.value) ∧ Hid (Below w2.heap.size w2 w'))
          (first | (exact ⟨y2, y3, hid_drew w2⟩) | (exact held_two (by assumption) hb3) | (exact held_two ⟨y2, y3, hid_drew w2⟩ hb3))
          (first | (go_at_call 39; refine (rDigs_at _ _).mono ?_; rintro e w3 ⟨rfl, hb3⟩))
        obtain ⟨_, _, HB4⟩ : w3.cell? ⟨b, 2, none⟩ = some (.int .i64 x.key) ∧ w3.cell? ⟨b, 3, none⟩ = some (.int .i64 x.value) ∧ Hid (Below w2.heap.size w2 w3) := by assumption
        clear hb3
        go_wp2_with fail
        go_ret2
        exact RetStr.mk _ _ (by rw [HR.out]) (by rw [← HE.out]) (below_all HB1.out (below_all HB2.out HB4.out))
    · have k1 : ((n : Int) == 1) = false := by rw [beq_eq_false_iff_ne]; exact fun h => hk ((Ev.hasKey_iff _).2 (.inl h))
      have k2 : ((n : Int) == 2) = false := by rw [beq_eq_false_iff_ne]; exact fun h => hk ((Ev.hasKey_iff _).2 (.inr h))
      have HE : Hid (Ln.bs (Ev.word n) ++ ⟨#[32]⟩ ++ Ln.bs (Nm.showS x.session) = Ln.bs (Ev.showR x).1) := by
        rw [Hid, HR.out]
        show Ln.bs (Ev.word n) ++ Ln.bs [32] ++ Ln.bs (Nm.showS x.session) = _
        rw [bs_add, bs_add, Ev.parts, Ev.nums, HN.out, if_neg hk, List.append_assoc]
        exact congrArg Ln.bs (Ev.spaced2 _ _).symm
      clear hk
      go_wp2_with fail
      go_ret2
      exact RetStr.mk _ _ (by rw [HR.out]) (by rw [HE.out]) (below_all HB1.out HB2.out)
end Go.Proofs.YtpicoccpgpmfhaaDoor
