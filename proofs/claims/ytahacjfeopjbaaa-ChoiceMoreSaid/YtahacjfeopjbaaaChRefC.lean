/-
  What the reference's place, Perm and Back of layer 18 answer.
  Conditions: rows of at most 4294967296.
-/
import Derived.Test.YtahacjfeopjbaaaChRow
import Derived.Test.YtahacjfeopjbaaaStAll
import Derived.Laws.Rows
set_option maxRecDepth 4000
namespace Go.Proofs.Ytahacjfeopjbaaa
open Go.RowKit

namespace Ch
theorem not_before {n : Int} : ∀ {l : List Int} {i : Nat} (hi : i < l.length), i < l.idxOf n → l[i] ≠ n
  | a :: l, 0, _, h => by
    rw [List.idxOf_cons] at h
    intro e
    have e' : a = n := e
    rw [e'] at h
    simp at h
  | a :: l, i + 1, hi, h => by
    rw [List.idxOf_cons] at h
    have h2 : i < l.idxOf n := by
      cases q : a == n with
      | true => rw [q] at h; simp at h
      | false => rw [q] at h; simp at h; exact h
    exact not_before (l := l) (by simpa using hi) h2
/-- A row of so many that has so many different ones has no other, and none twice. -/
theorem int_len {l m : List Int} (hl : l.Nodup) (h : ∀ x ∈ l, x ∈ m) : l.length ≤ m.length := by
  induction l generalizing m with
  | nil => exact Nat.zero_le _
  | cons a l ih =>
    obtain ⟨h1, h2⟩ := List.nodup_cons.1 hl
    have ha : a ∈ m := h a List.mem_cons_self
    have := ih (m := m.erase a) h2 fun x hx => (List.mem_erase_of_ne (fun e => h1 (by rw [← e]; exact hx))).2 (h x (List.mem_cons_of_mem _ hx))
    rw [List.length_erase_of_mem ha] at this
    have := List.length_pos_of_mem ha
    rw [List.length_cons]
    omega
/-- Where a number stands first; below 0: nowhere. -/
def placeI (l : List Int) (n : Int) : Int := if n ∈ l then (l.idxOf n : Int) else -1
theorem placeI_yes {l : List Int} {n : Int} {i : Nat} (hi : i < l.length) (e : l[i] = n) (hn : ∀ j (hj : j < l.length), j < i → l[j] ≠ n) : placeI l n = (i : Int) := by
  have hm : n ∈ l := by rw [← e]; exact List.getElem_mem hi
  have h1 := List.idxOf_lt_length_of_mem hm
  have h2 : l[l.idxOf n] = n := List.getElem_idxOf h1
  rw [placeI, if_pos hm]
  have : l.idxOf n = i := by
    rcases Nat.lt_trichotomy (l.idxOf n) i with q | q | q
    · exact absurd h2 (hn _ h1 q)
    · exact q
    · exact absurd e (not_before hi q)
  rw [this]
theorem placeI_no {l : List Int} {n : Int} (hn : ∀ j (hj : j < l.length), l[j] ≠ n) : placeI l n = -1 := by
  rw [placeI, if_neg]
  intro hm
  obtain ⟨j, hj, e⟩ := List.getElem_of_mem hm
  exact hn j hj e
theorem placeI_low {l : List Int} {n : Int} : placeI l n < 0 ↔ n ∉ l := by
  unfold placeI
  split
  · rename_i h
    exact ⟨fun q => by omega, fun q => absurd h q⟩
  · rename_i h
    exact ⟨fun _ => h, fun _ => by omega⟩
def permB (l : List Int) (n : Nat) : Bool := decide (l.length = n) && (List.range n).all fun i => decide ((i : Int) ∈ l)
theorem permB_iff {l : List Int} {n : Nat} : permB l n = true ↔ ∃ o, l = Bi.nums o ∧ Perm o n := by
  unfold permB
  rw [Bool.and_eq_true, decide_eq_true_iff, List.all_eq_true]
  constructor
  · rintro ⟨hl, ha⟩
    have hsub : ∀ x ∈ Bi.nums (List.range n), x ∈ l := fun x hx => by
      obtain ⟨i, hi, rfl⟩ := List.mem_map.1 hx
      exact of_decide_eq_true (ha i hi)
    have hnd : (Bi.nums (List.range n)).Nodup := by
      rw [List.Nodup, Bi.nums, List.pairwise_map]
      exact List.nodup_range.imp fun {a b} q e => q (by omega)
    have hN : ∀ m : List Int, (∀ x ∈ Bi.nums (List.range n), x ∈ m) → n ≤ m.length := fun m hm => by
      have := int_len hnd hm
      rw [Bi.nums_len, List.length_range] at this
      exact this
    have hall : ∀ x ∈ l, ∃ i : Nat, i < n ∧ x = (i : Int) := fun x hx => Classical.byContradiction fun hno => by
      have := hN (l.erase x) fun y hy => (List.mem_erase_of_ne (fun e => by
        obtain ⟨i, hi, e2⟩ := List.mem_map.1 hy
        exact hno ⟨i, List.mem_range.1 hi, e.symm.trans e2.symm⟩)).2 (hsub y hy)
      rw [List.length_erase_of_mem hx] at this
      have := List.length_pos_of_mem hx
      omega
    have h2 : l.Nodup := List.pairwise_iff_getElem.2 fun i j hi hj hij e => by
      have := hN (l.eraseIdx j) fun y hy => by
        obtain ⟨k, hk, rfl⟩ := List.getElem_of_mem (hsub y hy)
        rw [List.mem_eraseIdx_iff_getElem]
        by_cases q : k = j
        · subst q
          exact ⟨i, hi, by omega, e⟩
        · exact ⟨k, hk, q, rfl⟩
      rw [List.length_eraseIdx_of_lt hj] at this
      omega
    refine ⟨l.map Int.toNat, ?_, ?_, ?_, ?_⟩
    · rw [Bi.nums, List.map_map]
      refine (List.map_id l).symm.trans (List.map_congr_left fun x hx => ?_)
      obtain ⟨i, _, rfl⟩ := hall x hx
      simp
    · rw [List.length_map, hl]
    · rw [List.Nodup, List.pairwise_map]
      refine List.Pairwise.imp_of_mem (fun {a b} ha hb q e => ?_) h2
      obtain ⟨i, _, rfl⟩ := hall a ha
      obtain ⟨j, _, rfl⟩ := hall b hb
      exact q (by simp at e; omega)
    · intro x hx
      obtain ⟨y, hy, rfl⟩ := List.mem_map.1 hx
      obtain ⟨i, hi, rfl⟩ := hall y hy
      simpa using hi
  · rintro ⟨o, rfl, p⟩
    refine ⟨by rw [Bi.nums_len]; exact p.len, fun i hi => decide_eq_true ?_⟩
    exact List.mem_map.2 ⟨i, p.all (List.mem_range.1 hi), rfl⟩
end Ch

set_option maxHeartbeats 1000000 in
theorem rPlace18_any (l : List Int) (v : Value) (n : Int) (w : World) (hv : Ns w v l) (hl : l.length ≤ 9223372036854775807) : Calls Try.prog 52 #[v, .int .i64 n] w fun e w' => e = .returned (.int .i64 (Ch.placeI l n)) ∧ w' = w := by
  obtain ⟨A, c, rfl, hf⟩ := hv.spelled
  have HF := Lib.hid hf
  clear hf hv
  have HY := Lib.hid (fun i (hi : i < l.length) e hn => Ch.placeI_yes (n := n) hi e hn)
  have HN := Lib.hid (fun hn => Ch.placeI_no (l := l) (n := n) hn)
  generalize Ch.placeI l n = r at *
  go_enter Try.func52, Try.ntmps52
  go_wp2_with fail
  go_loopw [5] (fun ix wr => ∃ i : Nat, i ≤ l.length ∧ ix = .int .i64 i ∧ Hid (∀ j (hj : j < l.length), j < i → l[j] ≠ n) ∧ wr = w) (fun ix _ => l.length - (intOf ix).toNat)
  case atStart => exact ⟨0, Nat.zero_le _, rfl, fun j _ q => absurd q (Nat.not_lt_zero j), rfl⟩
  case round =>
    obtain ⟨i, hi, rfl, HI, rfl⟩ := hrel
    by_cases hlt : i < l.length
    · obtain ⟨ad, rfl, -, e0⟩ := HF.out i hlt
      have HY1 := Lib.hid (fun e => HY.out i hlt e (fun j hj q => HI.out j hj q))
      obtain ⟨z, hz⟩ : ∃ z, z = l[i]'hlt := ⟨_, rfl⟩
      have HZ := Lib.hid hz
      rw [← hz] at e0
      clear hz
      by_cases hzn : z = n
      · have q1 : (z == n) = true := by rw [beq_iff_eq]; exact hzn
        have HR := Lib.hid (HY1.out (by rw [← HZ.out]; exact hzn))
        clear hzn
        go_wp2_with fail
        go_ret
        exact ⟨by rw [HR.out]; rfl, rfl⟩
      · have q1 : (z == n) = false := by rw [beq_eq_false_iff_ne]; exact hzn
        have HI2 : Hid (∀ j (hj : j < l.length), j < i + 1 → l[j] ≠ n) := fun j hj hji => by
          rcases Nat.lt_succ_iff_lt_or_eq.1 hji with q | q
          · exact HI.out j hj q
          · subst q; rw [← HZ.out]; exact hzn
        clear hzn
        go_wp2_with fail
        go_roundw
        case rel => exact ⟨i + 1, by omega, by go_num, HI2.out, trivial⟩
        case measure => simp [intOf]; omega
    · have HR := Lib.hid (HN.out fun j hj => HI.out j hj (by omega))
      go_wp2_with fail
      go_ret
      exact ⟨by rw [HR.out]; rfl, rfl⟩

theorem rPlace18_at (l : List Int) (v : Value) (n : Int) (w : World) (hv : Ns w v l) (hl : l.length ≤ 4294967296) : Calls Try.prog 52 #[v, .int .i64 n] w fun e w' => e = .returned (.int .i64 (Ch.placeI l n)) ∧ w' = w := rPlace18_any l v n w hv (Nat.le_trans hl (by decide))
set_option maxHeartbeats 1000000 in
theorem rPerm18_any (l : List Int) (v : Value) (n : Nat) (w : World) (hv : Ns w v l) (hl : l.length ≤ 9223372036854775807) (hn : n ≤ 9223372036854775807) : Calls Try.prog 25 #[v, .int .i64 n] w fun e w' => e = .returned (.bool (Ch.permB l n)) ∧ w' = w := by
  have HV := Lib.hid hv
  obtain ⟨A, c, rfl, -⟩ := hv.spelled
  have F1 := Lib.hid (fun i => rPlace18_any l (.slice A l.length c) i w HV.out hl)
  have HC : Hid (Ch.permB l n = (decide (l.length = n) && (List.range n).all fun i => decide ((i : Int) ∈ l))) := rfl
  generalize Ch.permB l n = res at *
  clear hv
  by_cases hln : l.length = n
  · have q1 : ((l.length : Int) != (n : Int)) = false := by rw [bne_eq_false_iff_eq]; omega
    have HC2 : Hid (res = (List.range n).all fun i => decide ((i : Int) ∈ l)) := by rw [Hid, HC.out, decide_eq_true hln, Bool.true_and]
    have HLN := Lib.hid hln
    clear hln
    go_enter Try.func25, Try.ntmps25
    go_wp2_with fail
    clear q1
    go_loopw [5] (fun ix wr => ∃ i : Nat, i ≤ n ∧ ix = .int .i64 i ∧ Hid (∀ j, j < i → (j : Int) ∈ l) ∧ wr = w) (fun ix _ => n - (intOf ix).toNat)
    case atStart => exact ⟨0, Nat.zero_le _, rfl, fun j q => absurd q (Nat.not_lt_zero j), rfl⟩
    case round =>
      obtain ⟨i, hi, rfl, HI, rfl⟩ := hrel
      by_cases hlt : i < n
      · have HP := Lib.hid (Ch.placeI_low (l := l) (n := (i : Int)))
        have FX := Lib.hid (F1.out i)
        generalize Ch.placeI l (i : Int) = z at *
        go_wp2_with fail
        refine FX.out.mono ?_
        rintro e w1 ⟨rfl, rfl⟩
        by_cases hz : z < 0
        · obtain rfl : res = false := HC2.out.trans (List.all_eq_false.2 ⟨i, List.mem_range.2 hlt, by simpa using HP.out.1 hz⟩)
          go_wp2_with fail
          go_ret
          exact ⟨rfl, rfl⟩
        · have HI2 : Hid (∀ j, j < i + 1 → (j : Int) ∈ l) := fun j hji => by
            rcases Nat.lt_succ_iff_lt_or_eq.1 hji with q | q
            · exact HI.out j q
            · subst q
              exact Classical.byContradiction fun h => hz (HP.out.2 h)
          go_wp2_with fail
          go_roundw
          case rel => exact ⟨i + 1, by omega, by go_num, HI2.out, trivial⟩
          case measure => simp [intOf]; omega
      · obtain rfl : i = n := by omega
        obtain rfl : res = true := HC2.out.trans (List.all_eq_true.2 fun j hj => decide_eq_true (HI.out j (List.mem_range.1 hj)))
        go_wp2_with fail
        go_ret
        exact ⟨rfl, rfl⟩
  · have q1 : ((l.length : Int) != (n : Int)) = true := by rw [bne_iff_ne]; omega
    have q2 : (l.length != n) = true := by rw [bne_iff_ne]; exact hln
    obtain rfl : res = false := by rw [HC.out, decide_eq_false hln, Bool.false_and]
    clear hln
    go_enter Try.func25, Try.ntmps25
    go_wp2_with fail
    go_ret
    exact ⟨rfl, rfl⟩

theorem rPerm18_at (l : List Int) (v : Value) (n : Nat) (w : World) (hv : Ns w v l) (hl : l.length ≤ 4294967296) (hn : n ≤ 4294967296) : Calls Try.prog 25 #[v, .int .i64 n] w fun e w' => e = .returned (.bool (Ch.permB l n)) ∧ w' = w := rPerm18_any l v n w hv (Nat.le_trans hl (by decide)) (Nat.le_trans hn (by decide))

set_option maxHeartbeats 1000000 in
theorem rBack18_at (k a b : Int) (w : World) : Calls Try.prog 29 #[.agg #[.int .i64 k, .int .i64 a, .int .i64 b]] w fun e w' => e = .returned (.agg #[.int .i64 k, .int .i64 b, .int .i64 a]) ∧ Below w.heap.size w w' := by
  have b0 := alloc_below w (.cells #[.int .i64 k, .int .i64 a, .int .i64 b] 38)
  have b1 := alloc_below (w.alloc (.cells #[.int .i64 k, .int .i64 a, .int .i64 b] 38)) (.cells #[.int .i64 0, .int .i64 0, .int .i64 0] 38)
  have T0 := Lib.hid ((Three.new w 38 (.int .i64 k) (.int .i64 a) (.int .i64 b)).later b1)
  have t1 := Three.new (w.alloc (.cells #[.int .i64 k, .int .i64 a, .int .i64 b] 38)) 38 (.int .i64 0) (.int .i64 0) (.int .i64 0)
  rw [World.size_alloc] at t1
  have T1 := Lib.hid t1
  have BW := Lib.hid (below_all b0 b1)
  clear b0 b1 t1
  go_enter Try.func29, Try.ntmps29
  go_upto_region 1 with fail
  generalize (w.alloc (.cells #[.int .i64 k, .int .i64 a, .int .i64 b] 38)).alloc (.cells #[.int .i64 0, .int .i64 0, .int .i64 0] 38) = W at *
  obtain ⟨q0, q1, q2⟩ := T0.out.cells
  obtain ⟨r0, r1, r2⟩ := T1.out.cells
  have f0 := T1.out.frozen 0
  have f1 := T1.out.frozen 1
  have f2 := T1.out.frozen 2
  go_wp2_with fail
  have hp := T1.out.put (x := .int .i64 k) (y := .int .i64 b) (z := .int .i64 a)
  exact bodyPost_ret (results_cell_row (p := 2) rfl _ _ (w.heap.size + 1) 38 #[.int .i64 k, .int .i64 b, .int .i64 a] (0, 0) _ rfl hp Try.underlying38 rfl (by kernel_rfl)) rfl ⟨rfl, ((BW.out.setCell (p := ⟨w.heap.size + 1, 0, none⟩) (Nat.le_succ _) _).setCell (p := ⟨w.heap.size + 1, 1, none⟩) (Nat.le_succ _) _).setCell (p := ⟨w.heap.size + 1, 2, none⟩) (Nat.le_succ _) _⟩
end Go.Proofs.Ytahacjfeopjbaaa
