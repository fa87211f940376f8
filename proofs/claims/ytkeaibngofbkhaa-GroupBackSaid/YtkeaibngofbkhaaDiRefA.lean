/-
  What the reference's Same of layer 3 answers: whether two rows of events are one; what was in memory stays as it was.
  Conditions: a row has at most 2^32 elements.
-/
import Derived.Test.YtkeaibngofbkhaaDiPlain
import Derived.Test.YtkeaibngofbkhaaDiMem
import Derived.Test.YtkeaibngofbkhaaEvRefB
import Derived.Test.YtkeaibngofbkhaaLnRefS
namespace Go.Proofs.Ytkeaibngofbkhaa
open Go.RowKit

theorem take_succ_eq {α : Type} (l m : List α) (k : Nat) (hl : k < l.length) (hm : k < m.length) (h : l.take k = m.take k) (he : l[k] = m[k]) : l.take (k + 1) = m.take (k + 1) := by
  rw [List.take_succ_eq_append_getElem hl, List.take_succ_eq_append_getElem hm, h, he]

/-- Two events are one, or the first number in which they are not. -/
theorem ev_key (x y : Ev.Event) : x = y ∨ x ≠ y ∧ ((x.kind == y.kind) = false ∨ (x.kind == y.kind) = true ∧ ((x.session == y.session) = false ∨ (x.session == y.session) = true ∧ ((x.key == y.key) = false ∨ (x.key == y.key) = true ∧ (x.value == y.value) = false))) := by
  obtain ⟨a, b, c, d⟩ := x
  obtain ⟨a', b', c', d'⟩ := y
  simp only [Ev.Event.mk.injEq, ne_eq, beq_eq_false_iff_ne, beq_iff_eq]
  omega

set_option maxHeartbeats 1000000 in
theorem rEvSame_at (l m : List Ev.Event) (u v : Value) (w : World) (hu : Evs w u l) (hv : Evs w v m) (hl : l.length ≤ 4294967296) (hm : m.length ≤ 4294967296) : Calls Try.prog 12 #[u, v] w (RetBool w (decide (l = m))) := by
  obtain ⟨A, c, rfl, hf⟩ := hu.spelled
  obtain ⟨B, c', rfl, hg⟩ := hv.spelled
  have HF := Lib.hid hf
  have HG := Lib.hid hg
  clear hf hg hu hv
  by_cases hn : l.length = m.length
  · have hb : (((l.length : Nat) : Int) != ((m.length : Nat) : Int)) = false := by rw [hn]; simp
    have HN := Lib.hid hn
    have hle : m.length ≤ l.length := by omega
    clear hn
    go_enter Try.func12, Try.ntmps12
    go_wp2
    go_loopw [5] (fun i wr => ∃ k : Nat, k ≤ l.length ∧ i = .int .i64 k ∧ l.take k = m.take k ∧ Below w.heap.size w wr) (fun i _ => l.length - (intOf i).toNat)
    case atStart => exact ⟨0, Nat.zero_le _, rfl, rfl, Below.refl _ _⟩
    case round =>
      obtain ⟨k, hk, rfl, ht, hB⟩ := hrel
      have HT := Lib.hid ht
      have HB := Lib.hid hB
      clear ht hB
      by_cases hlt : k < l.length
      · have hlt2 : k < m.length := by have := HN.out; omega
        obtain ⟨ad, rfl, hblk, hE⟩ := HF.out k hlt
        obtain ⟨ad', rfl, hblk', hE'⟩ := HG.out k hlt2
        have HE := Lib.hid (hE.below hblk HB.out)
        have HE' := Lib.hid (hE'.below hblk' HB.out)
        have HX := Lib.hid (take_succ_eq l m k hlt hlt2 HT.out)
        have HX2 : Hid (l[k]'hlt ≠ m[k]'hlt2 → l ≠ m) := fun h h' => h (by subst h'; rfl)
        generalize l[k]'hlt = x at *
        generalize m[k]'hlt2 = y at *
        have hc0 := HE.out.c0
        have hc1 := HE.out.c1
        have hc2 := HE.out.c2
        have hc3 := HE.out.c3
        have hd0 := HE'.out.c0
        have hd1 := HE'.out.c1
        have hd2 := HE'.out.c2
        have hd3 := HE'.out.c3
        clear hE hE'
        rcases ev_key x y with rfl | ⟨hne, q0 | ⟨q0, q1 | ⟨q1, q2 | ⟨q2, q3⟩⟩⟩⟩
        · have HX3 := Lib.hid (HX.out rfl)
          clear HX HX2
          go_wp2
          go_quiet (fail)
          go_wp2
          go_roundw
          case rel => exact ⟨k + 1, by omega, by go_num, HX3.out, below_drewN HB.out _⟩
          case measure => simp [intOf]; omega
        all_goals
          have HNE := Lib.hid (HX2.out hne)
          clear hne
          go_wp2
          go_quiet (fail)
          go_wp2
          go_ret
          exact ⟨ret_bool (by rw [decide_eq_false HNE.out]), below_drewN HB.out _⟩
      · have HK : Hid (l = m) := by
          have h1 := HT.out
          have h2 : k = l.length := by omega
          have h3 := HN.out
          rw [h2, List.take_length, h3, List.take_length] at h1
          exact h1
        go_wp2
        go_ret
        exact ⟨ret_bool (by rw [HK.out]; simp), HB.out⟩
  · have hb : (((l.length : Nat) : Int) != ((m.length : Nat) : Int)) = true := by simp; omega
    have HN : Hid (decide (l = m) = false) := by
      rw [Hid, decide_eq_false_iff_not]
      rintro rfl
      exact hn rfl
    clear hn
    go_enter Try.func12, Try.ntmps12
    go_wp2
    go_ret
    exact ⟨ret_bool HN.out.symm, Below.refl _ _⟩
end Go.Proofs.Ytkeaibngofbkhaa
