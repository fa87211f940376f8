/-
  The law KnownReads: an edge of Wr is a read, and one of Init a read of what was there at first, of a key that the other one writes.
  Conditions: the first argument reads as a history.
-/
import Derived.Test.YtlhinlfgmfenoaaKnAwake
import Derived.Test.YtlhinlfgmfenoaaHiAll
import Derived.Test.YtlhinlfgmfenoaaIxAll
set_option maxRecDepth 4000
namespace Go.Proofs.Ytlhinlfgmfenoaa
open Go.RowKit

namespace Kn
open Gf So
def fromTo (h : List Txn) (a b k : Nat) : Bool := (List.range k).any fun key => Ix.fromO h b (key : Int) == some (a : Int)
theorem fromTo_next (h : List Txn) (a b k : Nat) : fromTo h a b (k + 1) = (fromTo h a b k || (Ix.fromO h b (k : Int) == some (a : Int))) := by
  rw [fromTo, List.range_succ, List.any_append]
  simp [fromTo]
theorem from_reads {h : List Txn} (hr : Hi.Right h) {t : Nat} {key f : Int} : Ix.fromO h t key = some f ↔ Ch.Reads h t key f := Ix.from_iff hr
theorem key_small {h : List Txn} (hr : Hi.Right h) {t : Nat} {k f : Int} (q : Ch.Reads h t k f) : ∃ n : Nat, k = (n : Int) ∧ n < 16 := by
  have := (from_reads hr).2 q
  by_cases hk : 0 ≤ k ∧ k < 16
  · exact ⟨k.toNat, by omega, by omega⟩
  · obtain ⟨ht, hm⟩ := (Ix.from_iff hr).1 this
    have hm' : k ∈ h[t].reads.map (·.1) := List.mem_map.2 ⟨_, hm, rfl⟩
    exact absurd ((hr.2 t ht).reads.1 k hm') (by omega)
theorem fromTo_all {h : List Txn} (hr : Hi.Right h) (a b : Nat) : fromTo h a b 16 = bit (wrR h) a b := by
  rw [Bool.eq_iff_iff, wr_bit hr, fromTo, List.any_eq_true]
  constructor
  · rintro ⟨k, _, hk⟩
    exact ⟨k, (from_reads hr).1 (beq_iff_eq.1 hk)⟩
  · rintro ⟨k, hk⟩
    obtain ⟨n, rfl, hn⟩ := key_small hr hk
    exact ⟨n, List.mem_range.2 hn, beq_iff_eq.2 ((from_reads hr).2 hk)⟩
def overIn (h : List Txn) (a b key i : Nat) : Bool := (Ix.fromO h a (key : Int) == some (-1)) && (decide (b ∈ (Ix.writers h (key : Int)).take i) && decide (a ≠ b))
def overTo (h : List Txn) (a b k : Nat) : Bool := (List.range k).any fun key => overIn h a b key (Ix.writers h (key : Int)).length
theorem overTo_next (h : List Txn) (a b k : Nat) : overTo h a b (k + 1) = (overTo h a b k || overIn h a b k (Ix.writers h (k : Int)).length) := by
  rw [overTo, List.range_succ, List.any_append]
  simp [overTo]
theorem overIn_zero (h : List Txn) (a b key : Nat) : overIn h a b key 0 = false := by simp [overIn]
theorem overIn_next {h : List Txn} {a b key i : Nat} (hi : i < (Ix.writers h (key : Int)).length) : overIn h a b key (i + 1) = (overIn h a b key i || ((Ix.fromO h a (key : Int) == some (-1)) && (decide ((Ix.writers h (key : Int))[i] = b) && decide (a ≠ b)))) := by
  rw [overIn, overIn, List.take_succ_eq_append_getElem hi]
  rw [Bool.eq_iff_iff]
  simp only [Bool.and_eq_true, Bool.or_eq_true, decide_eq_true_iff, List.mem_append, List.mem_singleton]
  constructor
  · rintro ⟨h1, h2 | h2, h3⟩
    · exact .inl ⟨h1, h2, h3⟩
    · exact .inr ⟨h1, h2.symm, h3⟩
  · rintro (⟨h1, h2, h3⟩ | ⟨h1, h2, h3⟩)
    · exact ⟨h1, .inl h2, h3⟩
    · exact ⟨h1, .inr h2.symm, h3⟩
theorem overTo_all {h : List Txn} (hr : Hi.Right h) (a b : Nat) : overTo h a b 16 = bit (initR h) a b := by
  rw [Bool.eq_iff_iff, init_bit hr, overTo, List.any_eq_true]
  have hw : ∀ k : Int, b ∈ Ix.writers h k ↔ Ch.Wr h k b := fun k => by rw [Ix.mem_writers]; exact (Ix.writes_iff h k b).symm
  constructor
  · rintro ⟨k, _, hk⟩
    rw [overIn, List.take_length] at hk
    simp only [Bool.and_eq_true, decide_eq_true_iff, beq_iff_eq] at hk
    exact ⟨hk.2.2, k, (from_reads hr).1 hk.1, (hw _).1 hk.2.1⟩
  · rintro ⟨hne, k, h1, h2⟩
    obtain ⟨n, rfl, hn⟩ := key_small hr h1
    refine ⟨n, List.mem_range.2 hn, ?_⟩
    rw [overIn, List.take_length]
    simp only [Bool.and_eq_true, decide_eq_true_iff, beq_iff_eq]
    exact ⟨(from_reads hr).2 h1, (hw _).2 h2, hne⟩
theorem opt_cases (o : Option Int) (z : Int) : (o = none ∧ o.isSome = false) ∨ (o.isSome = true ∧ Ix.numOf o = z ∧ o = some z) ∨ (o.isSome = true ∧ Ix.numOf o ≠ z ∧ ∃ f, o = some f ∧ f ≠ z) := by
  cases o with
  | none => exact .inl ⟨rfl, rfl⟩
  | some f =>
    by_cases hf : f = z
    · exact .inr (.inl ⟨rfl, hf, by rw [hf]⟩)
    · exact .inr (.inr ⟨rfl, hf, f, rfl, hf⟩)
end Kn

set_option maxHeartbeats 8000000 in
theorem lawKnownReads (h : List So.Txn) (u : Value) (a b : Int) (w : World) (hv : Txns w u h) : Calls Try.prog 4 #[.agg #[u], .int .i64 a, .int .i64 b] w (RetBool w true) := by
  have HV := Lib.hid hv
  obtain ⟨A, c, rfl, -⟩ := hv.spelled
  have N_h := Lib.hid (Boxed.new w 24 (.slice A h.length c))
  have BW := Lib.hid (alloc_below w (.cells #[.slice A h.length c] 24))
  have V_h := Lib.hid (HV.out.below BW.out)
  clear hv
  go_enter Try.func4, Try.ntmps4
  go_wp2_with fail
  generalize w.alloc (.cells #[.slice A h.length c] 24) = W0 at *
  go_wp2_with fail
  refine (knAwake_at _).mono ?_
  rintro e W1 ⟨rfl, hb⟩
  have S1 := Lib.hid hb
  clear hb
  have h0 := (Boxed.later N_h.out S1.out).cell
  go_wp2_with fail
  refine (few8_at h _ _ (V_h.out.below S1.out)).mono ?_
  rintro e W2 ⟨rfl, hb⟩
  have S2 := Lib.hid hb
  clear hb
  clear h0
  cases hf : Hi.fewB h with
  | false =>
    clear hf
    have h0 := (Boxed.later N_h.out (below_all S1.out S2.out)).cell
    go_wp2_with fail
    go_ret
    exact ⟨rfl, (below_all BW.out (below_all S1.out S2.out))⟩
  | true =>
  have HSM := Lib.hid (Hi.few_small hf).2
  have h40 := (Hi.few_small hf).1
  clear hf
  have FRI := Lib.hid (fun w hw => hRight_at h (.slice A h.length c) w hw HSM.out.2)
  cases hrb : Hi.rightB h with
  | false =>
    rw [hrb] at FRI
    clear hrb
    have h0 := (Boxed.later N_h.out (below_all S1.out S2.out)).cell
    go_wp2_with fail
    refine (FRI.out _ (V_h.out.below (below_all S1.out S2.out))).mono ?_
    rintro e W3 ⟨rfl, hb⟩
    have S3 := Lib.hid hb
    clear hb
    clear h0
    have h0 := (Boxed.later N_h.out (below_all (below_all S1.out S2.out) S3.out)).cell
    go_wp2_with fail
    go_ret
    exact ⟨rfl, (below_all BW.out (below_all (below_all S1.out S2.out) S3.out))⟩
  | true =>
  rw [hrb] at FRI
  obtain ⟨en, es, ew, ei, ep⟩ := Kn.all_yes hrb
  have HR := Lib.hid ((Hi.rightB_iff _).1 hrb)
  have h32 : h.length ≤ 32 := HR.out.1
  have F_s := Lib.hid (fun w hw => knSo_at h (.slice A h.length c) w hw HSM.out)
  rw [en, es] at F_s
  have F_x := Lib.hid (fun w hw => knWr_at h (.slice A h.length c) w hw HSM.out)
  rw [en, ew] at F_x
  have F_t := Lib.hid (fun w hw => knInit_at h (.slice A h.length c) w hw HSM.out)
  rw [en, ei] at F_t
  have F_p := Lib.hid (fun w hw => knPast_at h (.slice A h.length c) w hw HSM.out)
  rw [en, ep] at F_p
  clear hrb en es ew ei ep
  have HFO : Hid (∀ (t k : Nat), Ix.fromA h (t : Int) (k : Int) = Ix.fromO h t (k : Int)) := fun t k => by rw [Ix.fromA_yes ((Hi.rightB_iff _).2 HR.out), Ix.fromI_nat]
  have HWO : Hid (∀ k : Nat, Ix.writersA h (k : Int) = Ix.writers h (k : Int)) := fun k => Ix.writersA_yes ((Hi.rightB_iff _).2 HR.out) _
  have h0 := (Boxed.later N_h.out (below_all S1.out S2.out)).cell
  go_wp2_with fail
  refine (FRI.out _ (V_h.out.below (below_all S1.out S2.out))).mono ?_
  rintro e W3 ⟨rfl, hb⟩
  have S3 := Lib.hid hb
  clear hb
  clear h0
  by_cases ha0 : a < 0
  ·
    have h0 := (Boxed.later N_h.out (below_all (below_all S1.out S2.out) S3.out)).cell
    go_wp2_with fail
    go_ret
    exact ⟨rfl, (below_all BW.out (below_all (below_all S1.out S2.out) S3.out))⟩
  by_cases ha1 : (h.length : Int) ≤ a
  ·
    have h0 := (Boxed.later N_h.out (below_all (below_all S1.out S2.out) S3.out)).cell
    go_wp2_with fail
    go_ret
    exact ⟨rfl, (below_all BW.out (below_all (below_all S1.out S2.out) S3.out))⟩
  by_cases hb0 : b < 0
  ·
    have h0 := (Boxed.later N_h.out (below_all (below_all S1.out S2.out) S3.out)).cell
    go_wp2_with fail
    go_ret
    exact ⟨rfl, (below_all BW.out (below_all (below_all S1.out S2.out) S3.out))⟩
  by_cases hb1 : (h.length : Int) ≤ b
  ·
    have h0 := (Boxed.later N_h.out (below_all (below_all S1.out S2.out) S3.out)).cell
    go_wp2_with fail
    go_ret
    exact ⟨rfl, (below_all BW.out (below_all (below_all S1.out S2.out) S3.out))⟩
  obtain ⟨x, rfl⟩ : ∃ x : Nat, a = (x : Int) := ⟨a.toNat, by omega⟩
  obtain ⟨y, rfl⟩ : ∃ y : Nat, b = (y : Int) := ⟨b.toNat, by omega⟩
  have hxh : x < h.length := by omega
  have hyh : y < h.length := by omega
  have d1 : decide ((x : Int) < 0) = false := decide_eq_false (by omega)
  have d2 : decide ((h.length : Int) ≤ (x : Int)) = false := decide_eq_false (by omega)
  have d3 : decide (h.length ≤ x) = false := decide_eq_false (by omega)
  have d4 : decide ((y : Int) < 0) = false := decide_eq_false (by omega)
  have d5 : decide ((h.length : Int) ≤ (y : Int)) = false := decide_eq_false (by omega)
  have d6 : decide (h.length ≤ y) = false := decide_eq_false (by omega)
  have h0 := (Boxed.later N_h.out (below_all (below_all S1.out S2.out) S3.out)).cell
  go_wp2_with fail
  clear h0
  clear ha0 ha1 hb0 hb1 d1 d2 d3 d4 d5 d6
  go_loopw [9, 10, 11] (fun fr ov ky wr => ∃ k : Nat, k ≤ 16 ∧ fr = .bool (Kn.fromTo h x y k) ∧ ov = .bool (Kn.overTo h x y k) ∧ ky = .int .i64 k ∧ Hid (Below W3.heap.size W3 wr)) (fun _ _ ky _ => 16 - (intOf ky).toNat)
  case atStart => exact ⟨0, Nat.zero_le _, rfl, rfl, rfl, Below.refl _ _⟩
  case round =>
    obtain ⟨k, hk, rfl, rfl, rfl, HB⟩ := hrel
    have S4 := HB
    by_cases hlt : k < 16
    ·
      have FA := Lib.hid (fun t w hw => from9_at h (.slice A h.length c) (t : Nat) (k : Nat) w hw HSM.out)
      have FB : Hid (∀ (t : Nat) (w : World), Txns w (.slice A h.length c) h → Calls Try.prog 20 #[.agg #[.slice A h.length c], .int .i64 t, .int .i64 k] w (RetFrom w (Ix.fromO h t (k : Int)))) := fun t w hw => by
        have := FA.out t w hw
        rw [HFO.out t k] at this
        exact this
      have FW := Lib.hid (fun w hw => writers9_at h (.slice A h.length c) (k : Nat) w hw HSM.out)
      rw [HWO.out k] at FW
      clear FA
      have HFN := Lib.hid (Kn.fromTo_next h x y k)
      have HON := Lib.hid (Kn.overTo_next h x y k)
      have HIZ := Lib.hid (Kn.overIn_zero h x y k)
      have HIN := Lib.hid (fun i (hi : i < (Ix.writers h (k : Int)).length) => Kn.overIn_next (a := x) (b := y) hi)
      generalize Kn.fromTo h x y k = fk at *
      generalize Kn.overTo h x y k = ok at *
      have F1 := Lib.hid (FB.out y)
      have F2 := Lib.hid (FB.out x)
      have HC := Lib.hid (Kn.opt_cases (Ix.fromO h y (k : Int)) (x : Int))
      have HD := Lib.hid (Kn.opt_cases (Ix.fromO h x (k : Int)) (-1))
      generalize Ix.fromO h y (k : Int) = oy at *
      generalize Ix.fromO h x (k : Int) = ox at *
      clear FB
      have h0 := (Boxed.later N_h.out (below_all (below_all (below_all S1.out S2.out) S3.out) S4.out)).cell
      go_wp2_with fail
      refine (F1.out _ (V_h.out.below (below_all (below_all (below_all S1.out S2.out) S3.out) S4.out))).mono ?_
      rintro e W5 ⟨rfl, hb⟩
      have S5 := Lib.hid hb
      clear hb
      clear h0
      obtain ⟨fk2, hfk2, hrun⟩ : ∃ fk2, Kn.fromTo h x y (k + 1) = fk2 ∧ ((fk = true ∧ fk2 = true) ∨ (fk = false ∧ oy.isSome = false ∧ fk2 = false) ∨ (fk = false ∧ oy.isSome = true ∧ (Ix.numOf oy == (x : Int)) = true ∧ fk2 = true) ∨ (fk = false ∧ oy.isSome = true ∧ (Ix.numOf oy == (x : Int)) = false ∧ fk2 = false)) := by
        refine ⟨_, rfl, ?_⟩
        rw [HFN.out]
        cases fk with
        | true => exact .inl ⟨rfl, rfl⟩
        | false =>
          rcases HC.out with ⟨rfl, h1⟩ | ⟨h1, h2, rfl⟩ | ⟨h1, h2, f, rfl, h3⟩
          · exact .inr (.inl ⟨rfl, h1, rfl⟩)
          · exact .inr (.inr (.inl ⟨rfl, h1, by rw [h2]; exact beq_self_eq_true _, by simp⟩))
          · exact .inr (.inr (.inr ⟨rfl, h1, by rw [beq_eq_false_iff_ne]; exact h2, by simpa using h3⟩))
      have HF2 := Lib.hid hfk2
      clear hfk2 HC HFN
      generalize oy.isSome = iy at *
      generalize Ix.numOf oy = ny at *
      rcases hrun with ⟨rfl, rfl⟩ | ⟨rfl, rfl, rfl⟩ | ⟨rfl, rfl, hny, rfl⟩ | ⟨rfl, rfl, hny, rfl⟩
      all_goals
        have h0 := (Boxed.later N_h.out (below_all (below_all (below_all (below_all S1.out S2.out) S3.out) S4.out) S5.out)).cell
        go_wp2_with fail
        refine (F2.out _ (V_h.out.below (below_all (below_all (below_all (below_all S1.out S2.out) S3.out) S4.out) S5.out))).mono ?_
        rintro e W6 ⟨rfl, hb⟩
        have S6 := Lib.hid hb
        clear hb
        clear h0
        have h0 := (Boxed.later N_h.out (below_all (below_all (below_all (below_all (below_all S1.out S2.out) S3.out) S4.out) S5.out) S6.out)).cell
        go_wp2_with fail
        refine (FW.out _ (V_h.out.below (below_all (below_all (below_all (below_all (below_all S1.out S2.out) S3.out) S4.out) S5.out) S6.out))).mono ?_
        rintro e W7 ⟨v, rfl, hn, hb⟩
        have S7 := Lib.hid hb
        clear hb
        clear h0
        have HN := Lib.hid hn
        obtain ⟨Aw, cw, rfl, -⟩ := hn.spelled
        clear hn
        have hwl : (ints (Ix.writers h (k : Int))).length = (Ix.writers h (k : Int)).length := ints_len _
        rw [hwl]
        clear hwl
        have hwle : (Ix.writers h (k : Int)).length ≤ 32 := Nat.le_trans (Ix.writers_len h _) h32
        generalize hwk : W7 = WK at *
        clear hwk
        go_wp2_with fail
        go_loopw [10, 17] (fun ov ix wr => ∃ i : Nat, i ≤ (Ix.writers h (k : Int)).length ∧ ov = .bool (ok || Kn.overIn h x y k i) ∧ ix = .int .i64 i ∧ Hid (Below WK.heap.size WK wr)) (fun _ ix _ => (Ix.writers h (k : Int)).length - (intOf ix).toNat)
        case atStart => exact ⟨0, Nat.zero_le _, by rw [HIZ.out, Bool.or_false], rfl, Below.refl _ _⟩
        case round =>
          obtain ⟨i, hi, rfl, rfl, HBI⟩ := hrel
          by_cases hil : i < (Ix.writers h (k : Int)).length
          ·
            obtain ⟨Ar, cr, er, hr⟩ := (HN.out.below HBI.out).spelled
            obtain ⟨adr, hadr, -, e0⟩ := hr i (by rw [ints_len]; exact hil)
            rw [ints_nth _ _ hil] at e0
            cases er
            subst hadr
            clear hr
            have hz := HIN.out i hil
            obtain ⟨cur, hcur⟩ : ∃ cur, cur = (ok || Kn.overIn h x y k i) := ⟨_, rfl⟩
            rw [← hcur]
            obtain ⟨o2, ho2, hrun⟩ : ∃ o2, (ok || Kn.overIn h x y k (i + 1)) = o2 ∧ ((cur = true ∧ o2 = true) ∨ (cur = false ∧ ox.isSome = false ∧ o2 = false) ∨ (cur = false ∧ ox.isSome = true ∧ (Ix.numOf ox == -1) = false ∧ o2 = false) ∨ (cur = false ∧ ox.isSome = true ∧ (Ix.numOf ox == -1) = true ∧ (Ix.writers h (k : Int))[i] ≠ y ∧ o2 = false) ∨ (cur = false ∧ ox.isSome = true ∧ (Ix.numOf ox == -1) = true ∧ (Ix.writers h (k : Int))[i] = y ∧ x = y ∧ o2 = false) ∨ (cur = false ∧ ox.isSome = true ∧ (Ix.numOf ox == -1) = true ∧ (Ix.writers h (k : Int))[i] = y ∧ x ≠ y ∧ o2 = true)) := by
              refine ⟨_, rfl, ?_⟩
              rw [hz, ← Bool.or_assoc, ← hcur]
              cases cur with
              | true => exact .inl ⟨rfl, rfl⟩
              | false =>
                rcases HD.out with ⟨rfl, h1⟩ | ⟨h1, h2, h3⟩ | ⟨h1, h2, f, h3, h4⟩
                · exact .inr (.inl ⟨rfl, h1, rfl⟩)
                · have h2' : (Ix.numOf ox == -1) = true := by rw [h2]; rfl
                  by_cases hw : (Ix.writers h (k : Int))[i] = y
                  · by_cases hxy : x = y
                    · exact .inr (.inr (.inr (.inr (.inl ⟨rfl, h1, h2', hw, hxy, by simp [hxy]⟩))))
                    · exact .inr (.inr (.inr (.inr (.inr ⟨rfl, h1, h2', hw, hxy, by simp [hxy, hw, h3]⟩))))
                  · exact .inr (.inr (.inr (.inl ⟨rfl, h1, h2', hw, by simp [hw]⟩)))
                · exact .inr (.inr (.inl ⟨rfl, h1, by rw [beq_eq_false_iff_ne]; exact h2, by simp [h3, h4]⟩))
            have HO2 := Lib.hid ho2
            clear ho2 hz hcur
            generalize (Ix.writers h (k : Int))[i]'hil = z at *
            generalize ox.isSome = ix at *
            generalize Ix.numOf ox = nx at *
            have hi1 : (0 : Int) ≤ (i : Int) := Int.natCast_nonneg _
            have hi2 : (i : Int) < ((Ix.writers h (k : Int)).length : Int) := by omega
            rcases hrun with ⟨rfl, rfl⟩ | ⟨rfl, rfl, rfl⟩ | ⟨rfl, rfl, hnx, rfl⟩ | ⟨rfl, rfl, hnx, hzy, rfl⟩ | ⟨rfl, rfl, hnx, rfl, hxy, rfl⟩ | ⟨rfl, rfl, hnx, rfl, hxy, rfl⟩
            ·
              go_wp2_with fail
              go_roundw
              case rel => exact ⟨i + 1, by omega, by rw [HO2.out], by go_num, HBI.out⟩
              case measure => simp [intOf]; omega
            ·
              go_wp2_with fail
              go_roundw
              case rel => exact ⟨i + 1, by omega, by rw [HO2.out], by go_num, HBI.out⟩
              case measure => simp [intOf]; omega
            ·
              go_wp2_with fail
              go_roundw
              case rel => exact ⟨i + 1, by omega, by rw [HO2.out], by go_num, HBI.out⟩
              case measure => simp [intOf]; omega
            ·
              have q1 : ((z : Int) == (y : Int)) = false := by rw [beq_eq_false_iff_ne]; omega
              have q2 : (z == y) = false := by rw [beq_eq_false_iff_ne]; exact hzy
              clear hzy
              go_wp2_with fail
              go_roundw
              case rel => exact ⟨i + 1, by omega, by rw [HO2.out], by go_num, HBI.out⟩
              case measure => simp [intOf]; omega
            ·
              have q1 : ((z : Int) == (z : Int)) = true := by simp
              have q2 : ((x : Int) != (z : Int)) = false := by rw [bne_eq_false_iff_eq]; omega
              have q3 : (x != z) = false := by rw [bne_eq_false_iff_eq]; omega
              clear hxy
              go_wp2_with fail
              go_roundw
              case rel => exact ⟨i + 1, by omega, by rw [HO2.out], by go_num, HBI.out⟩
              case measure => simp [intOf]; omega
            ·
              have q1 : ((z : Int) == (z : Int)) = true := by simp
              have q2 : ((x : Int) != (z : Int)) = true := by rw [bne_iff_ne]; omega
              have q3 : (x != z) = true := by rw [bne_iff_ne]; exact hxy
              clear hxy
              go_wp2_with fail
              go_roundw
              case rel => exact ⟨i + 1, by omega, by rw [HO2.out], by go_num, HBI.out⟩
              case measure => simp [intOf]; omega
          ·
            obtain rfl : i = (Ix.writers h (k : Int)).length := by omega
            go_wp2_with fail
            go_roundw
            case rel => exact ⟨k + 1, by omega, by rw [HF2.out], by rw [HON.out], by go_num, below_all (below_all (below_all (below_all S4.out S5.out) S6.out) S7.out) HBI.out⟩
            case measure => simp [intOf]; omega
    ·
      obtain rfl : k = 16 := by omega
      clear hk hlt
      rw [Kn.fromTo_all HR.out, Kn.overTo_all HR.out]
      have Fs : Hid (∀ (v : Value) (w : World), Us w v (Kn.soR h) → Calls Try.prog 22 #[.agg #[.int .i64 h.length, v], .int .i64 x, .int .i64 y] w (RetBool w (Gf.bit (Kn.soR h) x y))) := fun v w hv => by
        have := gfHas_at h.length v (Kn.soR h) x y w hv (fun s hs => (Kn.so_ok HR.out).small hs)
        rw [Gf.hasR_nat (Kn.so_ok HR.out) hxh hyh] at this
        exact this
      have Fx : Hid (∀ (v : Value) (w : World), Us w v (Kn.wrR h) → Calls Try.prog 22 #[.agg #[.int .i64 h.length, v], .int .i64 x, .int .i64 y] w (RetBool w (Gf.bit (Kn.wrR h) x y))) := fun v w hv => by
        have := gfHas_at h.length v (Kn.wrR h) x y w hv (fun s hs => (Kn.wr_ok HR.out).small hs)
        rw [Gf.hasR_nat (Kn.wr_ok HR.out) hxh hyh] at this
        exact this
      have Ft : Hid (∀ (v : Value) (w : World), Us w v (Kn.initR h) → Calls Try.prog 22 #[.agg #[.int .i64 h.length, v], .int .i64 x, .int .i64 y] w (RetBool w (Gf.bit (Kn.initR h) x y))) := fun v w hv => by
        have := gfHas_at h.length v (Kn.initR h) x y w hv (fun s hs => (Kn.init_ok HR.out).small hs)
        rw [Gf.hasR_nat (Kn.init_ok HR.out) hxh hyh] at this
        exact this
      have Fp : Hid (∀ (v : Value) (w : World), Us w v (Kn.pastR h) → Calls Try.prog 22 #[.agg #[.int .i64 h.length, v], .int .i64 x, .int .i64 y] w (RetBool w (Gf.bit (Kn.pastR h) x y))) := fun v w hv => by
        have := gfHas_at h.length v (Kn.pastR h) x y w hv (fun s hs => (Kn.past_ok HR.out).small hs)
        rw [Gf.hasR_nat (Kn.past_ok HR.out) hxh hyh] at this
        exact this
      have hpb := Kn.past_bit HR.out x y
      have HPB := Lib.hid hpb
      clear hpb
      generalize Gf.bit (Kn.wrR h) x y = bw at *
      generalize Gf.bit (Kn.initR h) x y = bi at *
      generalize Gf.bit (Kn.soR h) x y = bs at *
      generalize Gf.bit (Kn.pastR h) x y = bp at *
      have q1 : (bw == bw) = true := by simp
      have q2 : (bi == bi) = true := by simp
      cases bw with
      | true =>
        obtain rfl : bp = true := by rw [HPB.out, Bool.or_true]
        clear HPB
        have h0 := (Boxed.later N_h.out (below_all (below_all (below_all S1.out S2.out) S3.out) S4.out)).cell
        go_wp2_with fail
        refine (F_x.out _ (V_h.out.below (below_all (below_all (below_all S1.out S2.out) S3.out) S4.out))).mono ?_
        rintro e W5 ⟨v, rfl, ho, hb⟩
        have S5 := Lib.hid hb
        clear hb
        clear h0
        have Ux := Lib.hid ho.us
        clear ho
        go_wp2_with fail
        refine (Fx.out _ _ Ux.out).mono ?_
        rintro e W6 ⟨rfl, hb⟩
        have S6 := Lib.hid hb
        clear hb
        have h0 := (Boxed.later N_h.out (below_all (below_all (below_all (below_all (below_all S1.out S2.out) S3.out) S4.out) S5.out) S6.out)).cell
        go_wp2_with fail
        refine (F_t.out _ (V_h.out.below (below_all (below_all (below_all (below_all (below_all S1.out S2.out) S3.out) S4.out) S5.out) S6.out))).mono ?_
        rintro e W7 ⟨v, rfl, ho, hb⟩
        have S7 := Lib.hid hb
        clear hb
        clear h0
        have Ut := Lib.hid ho.us
        clear ho
        go_wp2_with fail
        refine (Ft.out _ _ Ut.out).mono ?_
        rintro e W8 ⟨rfl, hb⟩
        have S8 := Lib.hid hb
        clear hb
        have h0 := (Boxed.later N_h.out (below_all (below_all (below_all (below_all (below_all (below_all (below_all S1.out S2.out) S3.out) S4.out) S5.out) S6.out) S7.out) S8.out)).cell
        go_wp2_with fail
        refine (F_p.out _ (V_h.out.below (below_all (below_all (below_all (below_all (below_all (below_all (below_all S1.out S2.out) S3.out) S4.out) S5.out) S6.out) S7.out) S8.out))).mono ?_
        rintro e W9 ⟨v, rfl, ho, hb⟩
        have S9 := Lib.hid hb
        clear hb
        clear h0
        have Up := Lib.hid ho.us
        clear ho
        go_wp2_with fail
        refine (Fp.out _ _ Up.out).mono ?_
        rintro e W10 ⟨rfl, hb⟩
        have S10 := Lib.hid hb
        clear hb
        go_wp2_with fail
        go_ret
        exact ⟨rfl, (below_all BW.out (below_all (below_all (below_all (below_all (below_all (below_all (below_all (below_all (below_all S1.out S2.out) S3.out) S4.out) S5.out) S6.out) S7.out) S8.out) S9.out) S10.out))⟩
      | false =>
        obtain rfl : bp = bs := by rw [HPB.out, Bool.or_false]
        have q3 : (bp == bp) = true := by simp
        clear HPB
        have h0 := (Boxed.later N_h.out (below_all (below_all (below_all S1.out S2.out) S3.out) S4.out)).cell
        go_wp2_with fail
        refine (F_x.out _ (V_h.out.below (below_all (below_all (below_all S1.out S2.out) S3.out) S4.out))).mono ?_
        rintro e W5 ⟨v, rfl, ho, hb⟩
        have S5 := Lib.hid hb
        clear hb
        clear h0
        have Ux := Lib.hid ho.us
        clear ho
        go_wp2_with fail
        refine (Fx.out _ _ Ux.out).mono ?_
        rintro e W6 ⟨rfl, hb⟩
        have S6 := Lib.hid hb
        clear hb
        have h0 := (Boxed.later N_h.out (below_all (below_all (below_all (below_all (below_all S1.out S2.out) S3.out) S4.out) S5.out) S6.out)).cell
        go_wp2_with fail
        refine (F_t.out _ (V_h.out.below (below_all (below_all (below_all (below_all (below_all S1.out S2.out) S3.out) S4.out) S5.out) S6.out))).mono ?_
        rintro e W7 ⟨v, rfl, ho, hb⟩
        have S7 := Lib.hid hb
        clear hb
        clear h0
        have Ut := Lib.hid ho.us
        clear ho
        go_wp2_with fail
        refine (Ft.out _ _ Ut.out).mono ?_
        rintro e W8 ⟨rfl, hb⟩
        have S8 := Lib.hid hb
        clear hb
        have h0 := (Boxed.later N_h.out (below_all (below_all (below_all (below_all (below_all (below_all (below_all S1.out S2.out) S3.out) S4.out) S5.out) S6.out) S7.out) S8.out)).cell
        go_wp2_with fail
        refine (F_p.out _ (V_h.out.below (below_all (below_all (below_all (below_all (below_all (below_all (below_all S1.out S2.out) S3.out) S4.out) S5.out) S6.out) S7.out) S8.out))).mono ?_
        rintro e W9 ⟨v, rfl, ho, hb⟩
        have S9 := Lib.hid hb
        clear hb
        clear h0
        have Up := Lib.hid ho.us
        clear ho
        go_wp2_with fail
        refine (Fp.out _ _ Up.out).mono ?_
        rintro e W10 ⟨rfl, hb⟩
        have S10 := Lib.hid hb
        clear hb
        have h0 := (Boxed.later N_h.out (below_all (below_all (below_all (below_all (below_all (below_all (below_all (below_all (below_all S1.out S2.out) S3.out) S4.out) S5.out) S6.out) S7.out) S8.out) S9.out) S10.out)).cell
        go_wp2_with fail
        refine (F_s.out _ (V_h.out.below (below_all (below_all (below_all (below_all (below_all (below_all (below_all (below_all (below_all S1.out S2.out) S3.out) S4.out) S5.out) S6.out) S7.out) S8.out) S9.out) S10.out))).mono ?_
        rintro e W11 ⟨v, rfl, ho, hb⟩
        have S11 := Lib.hid hb
        clear hb
        clear h0
        have Us := Lib.hid ho.us
        clear ho
        go_wp2_with fail
        refine (Fs.out _ _ Us.out).mono ?_
        rintro e W12 ⟨rfl, hb⟩
        have S12 := Lib.hid hb
        clear hb
        go_wp2_with fail
        go_ret
        exact ⟨rfl, (below_all BW.out (below_all (below_all (below_all (below_all (below_all (below_all (below_all (below_all (below_all (below_all (below_all S1.out S2.out) S3.out) S4.out) S5.out) S6.out) S7.out) S8.out) S9.out) S10.out) S11.out) S12.out))⟩
end Go.Proofs.Ytlhinlfgmfenoaa
