/-
  What the reference's last, One and Same of layer 5 answer, and the laws' Plain: the last transaction of a session; that two are the same, where they are; the same transactions, in a row of its own. What was in memory stays as it was.
  Conditions: a row has at most 2^32 elements.
-/
import Derived.Test.YtkeaibngofbkhaaGrWalkC
import Derived.Test.YtkeaibngofbkhaaDiRefA
import Derived.Deep.RegionHeld3
namespace Go.Proofs.Ytkeaibngofbkhaa
open Go.RowKit

/-- r tells the last transaction of a session; below 0: there is none. -/
def LastAt (l : List Gr.Tx) (s r : Int) : Prop :=
  (r = -1 ∧ ∀ j (h : j < l.length), l[j].session ≠ s) ∨ ∃ k : Nat, ∃ hk : k < l.length, r = (k : Int) ∧ l[k].session = s ∧ ∀ j (h : j < l.length), k < j → l[j].session ≠ s

set_option maxHeartbeats 1000000 in
theorem rLast_at (l : List Gr.Tx) (v : Value) (s : Int) (w : World) (hv : Txs w v l) (hl : l.length ≤ 4294967296) : Calls Try.prog 18 #[v, .int .i64 s] w fun e w' => ∃ r, e = .returned (.int .i64 r) ∧ LastAt l s r ∧ w = w' := by
  obtain ⟨A, c, rfl, hform⟩ := hv.spelled
  have HF := Lib.hid hform
  clear hform hv
  go_enter Try.func18, Try.ntmps18
  go_wp2
  go_loop [5] (fun i => ∃ n : Nat, n ≤ l.length ∧ i = .int .i64 ((n : Int) - 1) ∧ ∀ j (h : j < l.length), n ≤ j → l[j].session ≠ s) (fun i => (intOf i + 1).toNat)
  case atStart => exact ⟨l.length, Nat.le_refl _, rfl, fun j h h' => by omega⟩
  case round =>
    obtain ⟨n, hn, rfl, hall⟩ := hrel
    have HA := Lib.hid hall
    clear hall
    cases n with
    | zero =>
      have hd : decide (0 ≤ ((0 : Nat) : Int) - 1) = false := by simp
      go_wp2_with fail
      go_ret
      exact ⟨-1, rfl, .inl ⟨rfl, fun j h => HA.out j h (Nat.zero_le _)⟩, rfl⟩
    | succ m =>
      have e1 : ((m + 1 : Nat) : Int) - 1 = (m : Int) := by omega
      rw [e1]
      have hd : decide (0 ≤ (m : Int)) = true := by simp
      have hm : m < l.length := by omega
      obtain ⟨ad, u, rfl, hblk, hT, _⟩ := HF.out m hm
      have hc0 := hT.c0
      by_cases hs : (l[m]'hm).session = s
      · have hb : ((l[m]'hm).session == s) = true := by rw [beq_iff_eq]; exact hs
        have HR : Hid (LastAt l s (m : Int)) := .inr ⟨m, hm, rfl, hs, fun j h h' => HA.out j h (by omega)⟩
        generalize (l[m]'hm).session = z at *
        clear hs hT
        go_wp2_with fail
        go_ret
        exact ⟨_, rfl, HR.out, rfl⟩
      · have hb : ((l[m]'hm).session == s) = false := by rw [beq_eq_false_iff_ne]; exact hs
        have HN : Hid (∀ j (h : j < l.length), m ≤ j → l[j].session ≠ s) := fun j h h' => by
          rcases Nat.lt_or_ge m j with h2 | h2
          · exact HA.out j h (by omega)
          · obtain rfl : j = m := by omega
            exact hs
        generalize (l[m]'hm).session = z at *
        clear hs hT HA
        go_wp2_with fail
        go_round
        case rel => exact ⟨m, by omega, by go_num, HN.out⟩
        case measure => simp [intOf]

def txV (t : Gr.Tx) (u : Value) : Value := .agg #[.int .i64 t.session, .bool t.done, .int .i64 t.first, u]

/-- Two that are the same, but perhaps for where they begin. -/
theorem rOne_at (a b : Gr.Tx) (u v : Value) (w : World) (hu : Evs w u a.ops) (hv : Evs w v b.ops) (hl : a.ops.length ≤ 4294967296) (h : Gr.core a = Gr.core b) : Calls Try.prog 15 #[txV a u, txV b v] w (RetBool w true) := by
  obtain ⟨s, d, f, o⟩ := a
  obtain ⟨s', d', f', o'⟩ := b
  simp only [Gr.core, Prod.mk.injEq] at h
  obtain ⟨rfl, rfl, rfl⟩ := h
  obtain ⟨A, c, rfl, _⟩ := hu.form
  obtain ⟨A', c', rfl, _⟩ := hv.form
  unfold txV
  dsimp only at *
  have HU := Lib.hid ((hu.below (alloc_below w (.cells #[.int .i64 s, .bool d, .int .i64 f, .slice A o.length c] 40))).below (alloc_below _ (.cells #[.int .i64 s, .bool d, .int .i64 f', .slice A' o.length c'] 40)))
  have HV := Lib.hid ((hv.below (alloc_below w (.cells #[.int .i64 s, .bool d, .int .i64 f, .slice A o.length c] 40))).below (alloc_below _ (.cells #[.int .i64 s, .bool d, .int .i64 f', .slice A' o.length c'] 40)))
  have HL := Lib.hid hl
  clear hu hv hl
  have T0 := Lib.hid ((TxVar.new w ⟨s, d, f, o⟩ (.slice A o.length c) 40).below (alloc_below _ (.cells #[.int .i64 s, .bool d, .int .i64 f', .slice A' o.length c'] 40)))
  have T1 := Lib.hid (TxVar.new (w.alloc (.cells #[.int .i64 s, .bool d, .int .i64 f, .slice A o.length c] 40)) ⟨s, d, f', o⟩ (.slice A' o.length c') 40)
  rw [size_new] at T1
  go_enter Try.func15, Try.ntmps15
  go_wp2_with fail
  refine (rEvSame_at o o _ _ _ HU.out HV.out HL.out HL.out).mono ?_
  rintro e w1 ⟨rfl, hb1⟩
  rw [decide_eq_true rfl]
  have B1 := Lib.hid (below_new (below_new hb1))
  have R0 := Lib.hid (T0.out.below hb1)
  have R1 := Lib.hid (T1.out.below hb1)
  have c0 := R0.out.c0
  have c1 := R0.out.c1
  have d0 := R1.out.c0
  have d1 := R1.out.c1
  dsimp only at c0 c1 d0 d1
  have e0 : (s == s) = true := by simp
  have e1 : (d == d) = true := by simp
  clear hb1 HU HV T0 T1 R0 R1
  go_wp2_with fail
  go_ret
  exact ⟨rfl, B1.out⟩
end Go.Proofs.Ytkeaibngofbkhaa
