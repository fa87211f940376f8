/-
  Several texts in one, each with its own first words: HiRefA, HiRefB, HiRefC.
  Conditions: as each says.
-/
import Derived.Test.YtahacjfeopjbaaaHiAll
import Derived.Test.YtahacjfeopjbaaaSoRef
import Derived.Test.YtahacjfeopjbaaaGrAll
import Derived.Test.YtahacjfeopjbaaaDiAll
/-
  What the reference's Writes, one and Right of layer 8 answer: whether a transaction writes a key, whether a transaction of a history may be, and whether a history may be.
  Conditions: a row has at most 2^32 elements.
-/
set_option maxRecDepth 4000
namespace Go.Proofs.Ytahacjfeopjbaaa
open Go.RowKit

namespace Hi
theorem key_step {l : List Int} {k : Nat} (hk : k < l.length) (h : So.Rises (l.take k)) : So.Rises (l.take (k + 1)) ↔ 0 ≤ l[k] ∧ l[k] ≤ 15 ∧ ∀ m (hm : m + 1 = k), l[m] < l[k] := by
  rw [List.take_succ_eq_append_getElem hk, rises_snoc h]
  cases k with
  | zero =>
    rw [List.take_zero, lastOr_nil]
    constructor
    · rintro ⟨h1, h2⟩
      exact ⟨by omega, by omega, fun m hm => by omega⟩
    · rintro ⟨h1, h2, _⟩
      omega
  | succ m =>
    have e : lastOr (l.take (m + 1)) = l[m] := by rw [List.take_succ_eq_append_getElem (by omega), lastOr_snoc]
    have h0 : 0 ≤ l[m] := (h.1 _ (List.mem_take_iff_getElem.2 ⟨m, by omega, rfl⟩)).1
    rw [e]
    constructor
    · rintro ⟨h1, h2⟩
      refine ⟨by omega, by omega, fun m' hm => ?_⟩
      have e2 : m' = m := by omega
      subst e2
      exact h1
    · rintro ⟨h1, h2, h3⟩
      exact ⟨h3 m rfl, by omega⟩
theorem rises_none : So.Rises [] := ⟨(fun k hk => by cases hk), List.Pairwise.nil⟩
theorem key_bad {l : List Int} {k : Nat} (h : ¬ So.Rises (l.take k)) : risesB l = false := risesB_no fun q => h (by
  rw [← List.take_append_drop k l] at q
  exact rises_front q)
/-- The ways that the next key may go: below 0, above 15, not above the one ahead of it; the first one, and right; a later one, and right. -/
theorem key_ways {l : List Int} {k : Nat} (hk : k < l.length) (h : So.Rises (l.take k)) :
    (decide (l[k] < (0 : Int)) = true ∧ Hid (¬ So.Rises (l.take (k + 1)))) ∨ (decide (l[k] < (0 : Int)) = false ∧ decide ((15 : Int) < l[k]) = true ∧ Hid (¬ So.Rises (l.take (k + 1)))) ∨
    (decide (l[k] < (0 : Int)) = false ∧ decide ((15 : Int) < l[k]) = false ∧ ∃ m, ∃ hm : m < l.length, k = m + 1 ∧ decide (l[k] ≤ l[m]) = true ∧ Hid (¬ So.Rises (l.take (k + 1)))) ∨
    (decide (l[k] < (0 : Int)) = false ∧ decide ((15 : Int) < l[k]) = false ∧ k = 0 ∧ Hid (So.Rises (l.take (k + 1)))) ∨
    (decide (l[k] < (0 : Int)) = false ∧ decide ((15 : Int) < l[k]) = false ∧ ∃ m, ∃ hm : m < l.length, k = m + 1 ∧ decide (l[k] ≤ l[m]) = false ∧ Hid (So.Rises (l.take (k + 1)))) := by
  have key := key_step hk h
  unfold Hid
  by_cases h1 : l[k] < 0
  · exact .inl ⟨decide_eq_true h1, fun q => by have := (key.1 q).1; omega⟩
  by_cases h2 : 15 < l[k]
  · exact .inr (.inl ⟨decide_eq_false h1, decide_eq_true h2, fun q => by have := (key.1 q).2.1; omega⟩)
  by_cases h0 : k = 0
  · exact .inr (.inr (.inr (.inl ⟨decide_eq_false h1, decide_eq_false h2, h0, key.2 ⟨by omega, by omega, fun m hm => by omega⟩⟩)))
  obtain ⟨m, rfl⟩ : ∃ m, k = m + 1 := ⟨k - 1, by omega⟩
  by_cases h3 : l[m + 1] ≤ l[m]
  · exact .inr (.inr (.inl ⟨decide_eq_false h1, decide_eq_false h2, m, by omega, rfl, decide_eq_true h3, fun q => by have := (key.1 q).2.2 m rfl; omega⟩))
  · refine .inr (.inr (.inr (.inr ⟨decide_eq_false h1, decide_eq_false h2, m, by omega, rfl, decide_eq_false h3, key.2 ⟨by omega, by omega, fun m' hm => ?_⟩⟩)))
    have e2 : m' = m := by omega
    subst e2
    omega
theorem from_low {h : List So.Txn} {n : Nat} {a f : Int} (q : f < -1) : fromB h n (a, f) = false := by
  rw [fromB, writerB_neg h f a (by omega), beq_eq_false_iff_ne.2 (show f ≠ -1 by omega)]
  simp
theorem from_high {h : List So.Txn} {n : Nat} {a f : Int} (q : (h.length : Int) ≤ f) : fromB h n (a, f) = false := by
  rw [fromB, writerB_out h f a q, beq_eq_false_iff_ne.2 (show f ≠ -1 by omega)]
  simp
theorem from_self {h : List So.Txn} {n : Nat} {a f : Int} (q : f = (n : Int)) : fromB h n (a, f) = false := by
  rw [fromB, beq_iff_eq.2 q, beq_eq_false_iff_ne.2 (show f ≠ -1 by omega)]
  simp
theorem from_init {h : List So.Txn} {n : Nat} {a f : Int} (q : f = -1) : fromB h n (a, f) = true := by rw [fromB, beq_iff_eq.2 q]; rfl
theorem from_at {h : List So.Txn} {n : Nat} {a : Int} (j : Nat) (hj : j < h.length) (q : (j : Int) ≠ (n : Int)) : fromB h n (a, (j : Int)) = decide (a ∈ h[j].writes) := by
  rw [fromB, writerB_at h j hj, beq_eq_false_iff_ne.2 (show (j : Int) ≠ -1 by omega), beq_eq_false_iff_ne.2 q]
  simp
theorem txn_writes_bad {h : List So.Txn} {n : Nat} {t : So.Txn} (q : risesB t.writes = false) : txnB h n t = false := by unfold txnB; rw [q]; simp
theorem txn_reads_bad {h : List So.Txn} {n : Nat} {t : So.Txn} (q : readsB h n t.reads = false) : txnB h n t = false := by unfold txnB; rw [q]; simp
theorem txn_session_bad {h : List So.Txn} {n : Nat} {t : So.Txn} (q : t.session < 0 ∨ 7 < t.session) : txnB h n t = false := by
  unfold txnB
  rcases q with q | q
  · rw [decide_eq_false (show ¬ 0 ≤ t.session by omega)]; rfl
  · rw [decide_eq_false (show ¬ t.session < 8 by omega)]; simp
theorem txn_good {h : List So.Txn} {n : Nat} {t : So.Txn} (q1 : 0 ≤ t.session) (q2 : t.session ≤ 7) (q3 : risesB t.writes = true) (q4 : readsB h n t.reads = true) : txnB h n t = true := by
  unfold txnB
  rw [q3, q4, decide_eq_true q1, decide_eq_true (show t.session < 8 by omega)]
  rfl
end Hi

theorem cell_later {W W' : World} (hb : Below W.heap.size W W') {p : Addr} {v : Value} (h : W.cell? p = some v) : W'.cell? p = some v := (hb.cell (World.block_lt_of_cell? W p h)).trans h
theorem rWrites8_at (t : So.Txn) (x y : Value) (key : Int) (w : World) (hx : Ns w x t.writes) (hy : ∃ A n c, y = .slice A n c) (hl : t.writes.length ≤ 4294967296) : Calls Try.prog 74 #[.agg #[.int .i64 t.session, x, y], .int .i64 key] w (RetBool w (decide (key ∈ t.writes))) := by
  obtain ⟨A', n', c', rfl⟩ := hy
  obtain ⟨A, c, rfl, hform⟩ := hx.spelled
  have HF := Lib.hid hform
  have HB0 := Lib.hid (alloc_below w (.cells #[.int .i64 t.session, .slice A t.writes.length c, .slice A' n' c'] 65))
  have c1 := new_cell w #[.int .i64 t.session, .slice A t.writes.length c, .slice A' n' c'] 65 1 _ rfl
  clear hx hform
  go_enter Try.func74, Try.ntmps74
  go_wp2_with fail
  generalize w.alloc (.cells #[.int .i64 t.session, .slice A t.writes.length c, .slice A' n' c'] 65) = w1 at *
  go_loop [5] (fun i => ∃ k : Nat, k ≤ t.writes.length ∧ i = .int .i64 k ∧ Hid (∀ j (hj : j < t.writes.length), j < k → t.writes[j] ≠ key)) (fun i => t.writes.length - (intOf i).toNat)
  case atStart => exact ⟨0, Nat.zero_le _, rfl, fun j _ hj => absurd hj (by omega)⟩
  case round =>
    obtain ⟨k, hk, rfl, hno⟩ := hrel
    by_cases hlt : k < t.writes.length
    · obtain ⟨ad, rfl, hblk, hE⟩ := HF.out k hlt
      obtain ⟨z, hz⟩ : ∃ z, z = t.writes[k]'hlt := ⟨_, rfl⟩
      rw [← hz] at hE
      have HZ := Lib.hid hz
      have e0 := (HB0.out.cell (p := ad.add k) (by rw [add_block]; exact hblk)).trans hE
      clear hz hE
      by_cases he : z = key
      · have HM : Hid (key ∈ t.writes) := by rw [← he, HZ.out]; exact List.getElem_mem hlt
        subst he
        go_wp2_with fail
        go_ret
        exact ⟨ret_bool (decide_eq_true HM.out).symm, HB0.out⟩
      · have hq : (z == key) = false := beq_eq_false_iff_ne.2 he
        have HN : Hid (∀ j (hj : j < t.writes.length), j < k + 1 → t.writes[j] ≠ key) := fun j hj hjk => by
          by_cases e : j = k
          · subst e; rw [← HZ.out]; exact he
          · exact hno.out j hj (by omega)
        clear he
        go_wp2_with fail
        go_round
        case rel => exact ⟨k + 1, by omega, by go_num, HN⟩
        case measure => simp [intOf]; omega
    · have HM : Hid (key ∉ t.writes) := fun q => by
        obtain ⟨j, hj, e⟩ := List.getElem_of_mem q
        exact hno.out j hj (by omega) e
      go_wp2_with fail
      go_ret
      exact ⟨ret_bool (decide_eq_false HM.out).symm, HB0.out⟩

set_option maxHeartbeats 4000000 in
theorem rOne8_at (h : List So.Txn) (u : Value) (n : Nat) (w : World) (hv : Txns w u h) (hn : n < h.length) (ho : ∀ t ∈ h, t.writes.length ≤ 4294967296 ∧ t.reads.length ≤ 4294967296) :
    Calls Try.prog 53 #[.agg #[u], .int .i64 (n : Int)] w (RetBool w (Hi.txnB h n h[n])) := by
  have HV := Lib.hid hv
  have HO := Lib.hid ho
  obtain ⟨A, c, rfl, hform⟩ := hv.spelled
  have HF := Lib.hid hform
  obtain ⟨ad, x, y, rfl, hblk, hE, hx, hy⟩ := hform n hn
  have HB0 := Lib.hid (alloc_below w (.cells #[.slice (some ad) h.length c] 24))
  obtain ⟨k0, k1, k2⟩ := hE.below hblk HB0.out
  have HLW := Lib.hid (HO.out _ (List.getElem_mem hn))
  generalize h[n] = t at *
  obtain ⟨A1, c1, rfl, hrow1⟩ := hx.spelled
  obtain ⟨A2, c2, rfl, hrow2⟩ := hy.spelled
  have HX := Lib.hid hrow1
  have HY := Lib.hid hrow2
  have HW1 := Lib.hid (below_all HB0.out (alloc_below (w.alloc (.cells #[.slice (some ad) h.length c] 24)) (.cells #[.int .i64 t.session, .slice A1 t.writes.length c1, .slice A2 t.reads.length c2] 65)))
  have b0 := ((Boxed.new w 24 (.slice (some ad) h.length c)).alloc (.cells #[.int .i64 t.session, .slice A1 t.writes.length c1, .slice A2 t.reads.length c2] 65)).cell
  have s0 := new_cell (w.alloc (.cells #[.slice (some ad) h.length c] 24)) #[.int .i64 t.session, .slice A1 t.writes.length c1, .slice A2 t.reads.length c2] 65 0 _ rfl
  have s1 := new_cell (w.alloc (.cells #[.slice (some ad) h.length c] 24)) #[.int .i64 t.session, .slice A1 t.writes.length c1, .slice A2 t.reads.length c2] 65 1 _ rfl
  have s2 := new_cell (w.alloc (.cells #[.slice (some ad) h.length c] 24)) #[.int .i64 t.session, .slice A1 t.writes.length c1, .slice A2 t.reads.length c2] 65 2 _ rfl
  rw [World.size_alloc] at s0 s1 s2
  have hsz : ((w.alloc (.cells #[.slice (some ad) h.length c] 24)).alloc (.cells #[.int .i64 t.session, .slice A1 t.writes.length c1, .slice A2 t.reads.length c2] 65)).heap.size = w.heap.size + 2 := by simp
  have HSZ := Lib.hid hsz
  clear hv ho hform hE hx hy hrow1 hrow2 hsz
  go_enter Try.func53, Try.ntmps53
  by_cases q1 : t.session < 0
  · have d1 : decide (t.session < (0 : Int)) = true := decide_eq_true q1
    have HR := Lib.hid (Hi.txn_session_bad (h := h) (n := n) (t := t) (.inl q1))
    clear q1
    go_wp2_with fail
    go_ret
    exact ⟨ret_bool HR.out.symm, HW1.out⟩
  have d1 : decide (t.session < (0 : Int)) = false := decide_eq_false q1
  by_cases q2 : 7 < t.session
  · have d2 : decide ((7 : Int) < t.session) = true := decide_eq_true q2
    have HR := Lib.hid (Hi.txn_session_bad (h := h) (n := n) (t := t) (.inr q2))
    clear q1 q2
    go_wp2_with fail
    go_ret
    exact ⟨ret_bool HR.out.symm, HW1.out⟩
  have d2 : decide ((7 : Int) < t.session) = false := decide_eq_false q2
  have HSE : Hid (0 ≤ t.session ∧ t.session ≤ 7) := ⟨by omega, by omega⟩
  clear q1 q2
  go_wp2_with fail
  generalize (w.alloc (.cells #[.slice (some ad) h.length c] 24)).alloc (.cells #[.int .i64 t.session, .slice A1 t.writes.length c1, .slice A2 t.reads.length c2] 65) = W at *
  have HS1 := Lib.hid s1
  have HS2 := Lib.hid s2
  have HBX := Lib.hid b0
  clear d1 d2 k0 k1 k2 s0 s1 s2 b0 HB0
  go_loopw [6] (fun i wx => ∃ k : Nat, k ≤ t.writes.length ∧ i = .int .i64 k ∧ Hid (So.Rises (t.writes.take k)) ∧ Hid (Below W.heap.size W wx)) (fun i _ => t.writes.length - (intOf i).toNat)
  case atStart => exact ⟨0, Nat.zero_le _, rfl, Hi.rises_none, Below.refl _ _⟩
  case round =>
    obtain ⟨k, hk, rfl, HK, HB⟩ := hrel
    have e1 := (HB.out.cell (p := ⟨w.heap.size + 1, 1, none⟩) (by rw [HSZ.out]; exact Nat.lt_succ_self _)).trans HS1.out
    have hwl := HLW.out.1
    by_cases hlt : k < t.writes.length
    · obtain ⟨ad2, rfl, hblk2, hc⟩ := HX.out k hlt
      have f0 := (HB.out.cell (p := ad2.add k) (by rw [add_block, HSZ.out]; omega)).trans ((HW1.out.cell (p := ad2.add k) (by rw [add_block]; exact hblk2)).trans hc)
      have HBAD : Hid (¬ So.Rises (t.writes.take (k + 1)) → Hi.txnB h n t = false) := fun q => Hi.txn_writes_bad (Hi.key_bad q)
      have HOUT := Lib.hid (below_all HW1.out HB.out)
      rcases Hi.key_ways hlt HK.out with ⟨p0, hq⟩ | ⟨p0, p1, hq⟩ | ⟨p0, p1, m, hm, hkm, p2, hq⟩ | ⟨p0, p1, hk0, hq⟩ | ⟨p0, p1, m, hm, hkm, p2, hq⟩
      · generalize t.writes[k]'hlt = z at *
        clear hc
        go_wp2_with fail
        go_quiet (fail)
        go_wp2_with fail
        go_ret
        exact ⟨ret_bool (HBAD.out hq.out).symm, below_drewN HOUT.out _⟩
      · generalize t.writes[k]'hlt = z at *
        clear hc
        go_wp2_with fail
        go_quiet (fail)
        go_wp2_with fail
        go_ret
        exact ⟨ret_bool (HBAD.out hq.out).symm, below_drewN HOUT.out _⟩
      · obtain ⟨_, e9, _, hc2⟩ := HX.out m hm
        cases e9
        have g0 := (HB.out.cell (p := ad2.add m) (by rw [add_block, HSZ.out]; omega)).trans ((HW1.out.cell (p := ad2.add m) (by rw [add_block]; exact hblk2)).trans hc2)
        have p3 : decide ((0 : Int) < (k : Int)) = true := by simp; omega
        have p4 : decide (0 < k) = true := by simp; omega
        have hs1 : IntKind.i64.wrap ((k : Int) - 1) = (m : Int) := by rw [IntWalk.i64_in _ (by omega)]; omega
        have hs2 : (k : Int) - 1 = (m : Int) := by omega
        generalize t.writes[k]'hlt = z at *
        generalize t.writes[m]'hm = z' at *
        clear hc hc2 hkm
        go_wp2_with fail
        go_quiet (fail)
        go_wp2_with fail
        go_ret
        exact ⟨ret_bool (HBAD.out hq.out).symm, below_drewN HOUT.out _⟩
      · have p3 : decide ((0 : Int) < (k : Int)) = false := by simp; omega
        have p4 : decide (0 < k) = false := by simp; omega
        generalize t.writes[k]'hlt = z at *
        clear hc hk0
        go_wp2_with fail
        go_quiet (fail)
        go_wp2_with fail
        go_roundw
        case rel => exact ⟨k + 1, by omega, by go_num, hq, below_drewN HB.out _⟩
        case measure => simp [intOf]; omega
      · obtain ⟨_, e9, _, hc2⟩ := HX.out m hm
        cases e9
        have g0 := (HB.out.cell (p := ad2.add m) (by rw [add_block, HSZ.out]; omega)).trans ((HW1.out.cell (p := ad2.add m) (by rw [add_block]; exact hblk2)).trans hc2)
        have p3 : decide ((0 : Int) < (k : Int)) = true := by simp; omega
        have p4 : decide (0 < k) = true := by simp; omega
        have hs1 : IntKind.i64.wrap ((k : Int) - 1) = (m : Int) := by rw [IntWalk.i64_in _ (by omega)]; omega
        have hs2 : (k : Int) - 1 = (m : Int) := by omega
        generalize t.writes[k]'hlt = z at *
        generalize t.writes[m]'hm = z' at *
        clear hc hc2 hkm
        go_wp2_with fail
        go_quiet (fail)
        go_wp2_with fail
        go_roundw
        case rel => exact ⟨k + 1, by omega, by go_num, hq, below_drewN HB.out _⟩
        case measure => simp [intOf]; omega
    · have HRW : Hid (Hi.risesB t.writes = true) := by
        have q := HK.out
        rw [List.take_of_length_le (by omega)] at q
        exact Hi.risesB_yes q
      go_wp2_with fail
      clear hk hlt e1 HK
      obtain ⟨wy, hwy⟩ : ∃ wy, wy = wr := ⟨_, rfl⟩
      rw [← hwy] at HB ⊢
      clear hwy
      go_loopw [7] (fun i wx => ∃ k : Nat, k ≤ t.reads.length ∧ i = .int .i64 k ∧ Hid (So.Rises ((t.reads.map (·.1)).take k)) ∧ Hid (∀ j (hj : j < t.reads.length), j < k → Hi.fromB h n t.reads[j] = true) ∧ Hid (Below W.heap.size W wx)) (fun i _ => t.reads.length - (intOf i).toNat)
      case atStart => exact ⟨0, Nat.zero_le _, rfl, Hi.rises_none, fun j _ hj => absurd hj (by omega), HB.out⟩
      case round =>
        clear HB
        obtain ⟨k, hk, rfl, HK, HFR, HB⟩ := hrel
        have e2 := (HB.out.cell (p := ⟨w.heap.size + 1, 2, none⟩) (by rw [HSZ.out]; exact Nat.lt_succ_self _)).trans HS2.out
        have hrl := HLW.out.2
        by_cases hlt : k < t.reads.length
        · obtain ⟨ad2, rfl, hblk2, hI⟩ := HY.out k hlt
          have hkl : k < (t.reads.map (·.1)).length := by rw [List.length_map]; exact hlt
          have HNX : Hid (Hi.fromB h n t.reads[k] = true → ∀ j (hj : j < t.reads.length), j < k + 1 → Hi.fromB h n t.reads[j] = true) := fun q j hj hjk => by
            by_cases e : j = k
            · subst e; exact q
            · exact HFR.out j hj (by omega)
          have HBF : Hid (Hi.fromB h n t.reads[k] = false → Hi.txnB h n t = false) := fun q => Hi.txn_reads_bad (Hi.readsB_bad k hlt q)
          have HBAD : Hid (¬ So.Rises ((t.reads.map (·.1)).take (k + 1)) → Hi.txnB h n t = false) := fun q => Hi.txn_reads_bad (Hi.readsB_no (Hi.key_bad q))
          have HWAY := Hi.key_ways hkl HK.out
          have hel : (t.reads.map (·.1))[k] = (t.reads[k]).1 := List.getElem_map _
          rw [hel] at HWAY
          obtain ⟨i0, i1⟩ := (hI.below hblk2 HW1.out).below (by rw [HSZ.out]; omega) HB.out
          obtain ⟨⟨a, f⟩, hz⟩ : ∃ z, z = t.reads[k]'hlt := ⟨_, rfl⟩
          rw [← hz] at i0 i1 HNX HBF HWAY
          dsimp only at i0 i1 HWAY
          have HBA := Lib.hid (below_all HB.out (alloc_below wr (.cells #[.int .i64 a, .int .i64 f] 62)))
          have HOUT := Lib.hid (below_all HW1.out HBA.out)
          have a0 := new_cell wr #[.int .i64 a, .int .i64 f] 62 0 _ rfl
          have a1 := new_cell wr #[.int .i64 a, .int .i64 f] 62 1 _ rfl
          have e2a := (HBA.out.cell (p := ⟨w.heap.size + 1, 2, none⟩) (by rw [HSZ.out]; exact Nat.lt_succ_self _)).trans HS2.out
          have b0a := (HBA.out.cell (p := ⟨w.heap.size, 0, none⟩) (by rw [HSZ.out]; exact Nat.lt_succ_of_lt (Nat.lt_succ_self _))).trans HBX.out
          clear hI hz hel hkl HFR HK
          rcases HWAY with ⟨p0, hq⟩ | ⟨p0, p1, hq⟩ | ⟨p0, p1, m, hm, hkm, p2, hq⟩ | ⟨p0, p1, hk0, hq⟩ | ⟨p0, p1, m, hm, hkm, p2, hq⟩
          · go_wp2_with fail
            go_quiet (fail)
            go_wp2_with fail
            go_ret
            exact ⟨ret_bool (HBAD.out hq.out).symm, below_drewN HOUT.out _⟩
          · go_wp2_with fail
            go_quiet (fail)
            go_wp2_with fail
            go_ret
            exact ⟨ret_bool (HBAD.out hq.out).symm, below_drewN HOUT.out _⟩
          · have hmr : m < t.reads.length := by rw [List.length_map] at hm; exact hm
            obtain ⟨_, e9, _, hI2⟩ := HY.out m hmr
            cases e9
            have g0 := (HOUT.out.cell (p := ad2.add (m * 2)) (by rw [add_block]; exact hblk2)).trans hI2.c0
            have p3 : decide ((0 : Int) < (k : Int)) = true := by simp; omega
            have p4 : decide (0 < k) = true := by simp; omega
            have hs1 : IntKind.i64.wrap ((k : Int) - 1) = (m : Int) := by rw [IntWalk.i64_in _ (by omega)]; omega
            have hs2 : (k : Int) - 1 = (m : Int) := by omega
            rw [List.getElem_map] at p2
            generalize (t.reads[m]'hmr).1 = z' at *
            clear hI2 hkm
            go_wp2_with fail
            go_quiet (fail)
            go_wp2_with fail
            go_ret
            exact ⟨ret_bool (HBAD.out hq.out).symm, below_drewN HOUT.out _⟩
          all_goals
            first
              | (have p3 : decide ((0 : Int) < (k : Int)) = false := by simp; omega
                 have p4 : decide (0 < k) = false := by simp; omega
                 clear hk0)
              | (have hmr : m < t.reads.length := by rw [List.length_map] at hm; exact hm
                 obtain ⟨_, e9, _, hI2⟩ := HY.out m hmr
                 cases e9
                 have g0 := (HOUT.out.cell (p := ad2.add (m * 2)) (by rw [add_block]; exact hblk2)).trans hI2.c0
                 have p3 : decide ((0 : Int) < (k : Int)) = true := by simp; omega
                 have p4 : decide (0 < k) = true := by simp; omega
                 have hs1 : IntKind.i64.wrap ((k : Int) - 1) = (m : Int) := by rw [IntWalk.i64_in _ (by omega)]; omega
                 have hs2 : (k : Int) - 1 = (m : Int) := by omega
                 rw [List.getElem_map] at p2
                 generalize (t.reads[m]'hmr).1 = z' at *
                 clear hI2 hkm)
            by_cases r1 : f < -1
            · have d1 : decide (f < (-1 : Int)) = true := decide_eq_true r1
              have HG := Lib.hid (Hi.from_low (h := h) (n := n) (a := a) r1)
              clear r1
              go_wp2_with fail
              go_quiet (fail)
              go_wp2_with fail
              go_ret
              exact ⟨ret_bool (HBF.out HG.out).symm, below_drewN HOUT.out _⟩
            have d1 : decide (f < (-1 : Int)) = false := decide_eq_false r1
            by_cases r2 : (h.length : Int) ≤ f
            · have d2 : decide ((h.length : Int) ≤ f) = true := decide_eq_true r2
              have HG := Lib.hid (Hi.from_high (h := h) (n := n) (a := a) r2)
              clear r1 r2
              go_wp2_with fail
              go_quiet (fail)
              go_wp2_with fail
              go_ret
              exact ⟨ret_bool (HBF.out HG.out).symm, below_drewN HOUT.out _⟩
            have d2 : decide ((h.length : Int) ≤ f) = false := decide_eq_false r2
            by_cases r3 : f = (n : Int)
            · have d3 : (f == (n : Int)) = true := beq_iff_eq.2 r3
              have HG := Lib.hid (Hi.from_self (h := h) (n := n) (a := a) r3)
              clear r1 r2 r3
              go_wp2_with fail
              go_quiet (fail)
              go_wp2_with fail
              go_ret
              exact ⟨ret_bool (HBF.out HG.out).symm, below_drewN HOUT.out _⟩
            have d3 : (f == (n : Int)) = false := beq_eq_false_iff_ne.2 r3
            by_cases r4 : f < 0
            · have d4 : decide (f < (0 : Int)) = true := decide_eq_true r4
              have HG := Lib.hid (Hi.from_init (h := h) (n := n) (a := a) (show f = -1 by omega))
              clear r1 r2 r3 r4
              go_wp2_with fail
              go_quiet (fail)
              go_wp2_with fail
              go_roundw
              case rel => exact ⟨k + 1, by omega, by go_num, hq, HNX.out HG.out, below_drewN HBA.out _⟩
              case measure => simp [intOf]; omega
            have d4 : decide (f < (0 : Int)) = false := decide_eq_false r4
            obtain ⟨j, hfj⟩ := Int.eq_ofNat_of_zero_le (show 0 ≤ f by omega)
            have HJ := Lib.hid (show j < h.length by omega)
            have HFJ := Lib.hid hfj
            have HNE := Lib.hid r3
            clear r1 r2 r3 r4 hfj
            go_wp2_with fail
            go_quiet (fail)
            go_wp2_with fail
            obtain rfl := HFJ.out
            have hj := HJ.out
            obtain ⟨ad3, x3, y3, e3, hblk3, hT3, hx3, hy3⟩ := HF.out j hj
            cases e3
            have HG := Lib.hid (Hi.from_at (h := h) (n := n) (a := a) j hj HNE.out)
            have HLJ := Lib.hid (HO.out _ (List.getElem_mem hj)).1
            generalize h[j] = t3 at *
            obtain ⟨Ax, cx, rfl, _⟩ := hx3.spelled
            obtain ⟨Ay, cy, rfl, _⟩ := hy3.spelled
            obtain ⟨o0, o1, o2⟩ := hT3.below hblk3 HOUT.out
            have HX3 := Lib.hid (hx3.below HOUT.out)
            clear hx3 hy3 hT3 d1 d2 d3 d4 p0 p1 p3 p4 HFJ HNE
            generalize hwa : wr.alloc (.cells #[.int .i64 a, .int .i64 (j : Int)] 62) = wa at *
            have HBD := Lib.hid (below_all (drewN_below wa nq) (Below.refl _ (wa.drewN nq)).drew)
            go_region_held3 (fun w' => w'.cell? ⟨w.heap.size, 0, none⟩ = some (.slice (some ad) h.length c) ∧ (w'.cell? ⟨wr.heap.size, 0, none⟩ = some (.int .i64 a) ∧ w'.cell? ⟨wr.heap.size, 1, none⟩ = some (.int .i64 (j : Int))) ∧ w'.cell? (ad.add (j * 3)) = some (.int .i64 t3.session) ∧ w'.cell? ⟨(ad.add (j * 3)).block, (ad.add (j * 3)).off + 1, none⟩ = some (.slice Ax t3.writes.length cx) ∧ w'.cell? ⟨(ad.add (j * 3)).block, (ad.add (j * 3)).off + 2, none⟩ = some (.slice Ay t3.reads.length cy))
              (first | (exact ⟨b0a, ⟨a0, a1⟩, o0, o1, o2⟩) | (exact ⟨cell_later HB7.out b0a, ⟨cell_later HB7.out a0, cell_later HB7.out a1⟩, cell_later HB7.out o0, cell_later HB7.out o1, cell_later HB7.out o2⟩))
              (first | (go_at_call 74; (refine (rWrites8_at t3 _ _ a _ (HX3.out.below HBD.out) ⟨_, _, _, rfl⟩ HLJ.out).mono ?_); rintro e w7 ⟨rfl, hb7⟩; rw [← HG.out]; have HB7 := Lib.hid (below_all HBD.out hb7); clear hb7))
            all_goals
              cases hg : Hi.fromB h n (a, (j : Int)) with
              | true =>
                have HGT := Lib.hid hg
                clear hg
                go_wp2_with fail
                go_roundw
                case rel => exact ⟨k + 1, by omega, by go_num, hq, HNX.out HGT.out, below_all HBA.out HB7.out⟩
                case measure => simp [intOf]; omega
              | false =>
                have HGT := Lib.hid hg
                clear hg
                go_wp2_with fail
                go_ret
                exact ⟨ret_bool (HBF.out HGT.out).symm, below_all HOUT.out HB7.out⟩
        · have HRR : Hid (Hi.risesB (t.reads.map (·.1)) = true) := by
            have q := HK.out
            rw [List.take_of_length_le (by rw [List.length_map]; omega)] at q
            exact Hi.risesB_yes q
          have HE := Lib.hid (Hi.txn_good (h := h) (n := n) HSE.out.1 HSE.out.2 HRW.out (Hi.readsB_yes HRR.out (fun j hj => HFR.out j hj (by omega))))
          go_wp2_with fail
          go_ret
          exact ⟨ret_bool HE.out.symm, below_all HW1.out HB.out⟩

theorem rRight8_at (h : List So.Txn) (u : Value) (w : World) (hv : Txns w u h) (ho : ∀ t ∈ h, t.writes.length ≤ 4294967296 ∧ t.reads.length ≤ 4294967296) : Calls Try.prog 24 #[.agg #[u]] w (RetBool w (Hi.rightB h)) := by
  have HB0 := Lib.hid (alloc_below w (.cells #[u] 24))
  have HV := Lib.hid (hv.below HB0.out)
  obtain ⟨A, c, rfl, _⟩ := hv.spelled
  have HO := Lib.hid ho
  have c0 := (Boxed.new w 24 (.slice A h.length c)).cell
  have HC0 := Lib.hid c0
  clear hv ho
  go_enter Try.func24, Try.ntmps24
  by_cases h32 : 32 < h.length
  · have hd : decide ((32 : Int) < (h.length : Int)) = true := by simp; omega
    have HR := Lib.hid (Hi.may_many h32)
    go_wp2_with fail
    go_ret
    exact ⟨ret_bool HR.out.symm, HB0.out⟩
  have hd : decide ((32 : Int) < (h.length : Int)) = false := by simp; omega
  have hl32 : h.length ≤ 32 := by omega
  clear h32
  go_wp2_with fail
  generalize w.alloc (.cells #[.slice A h.length c] 24) = w1 at *
  clear c0
  go_loopw [3] (fun i wr => ∃ k : Nat, k ≤ h.length ∧ i = .int .i64 k ∧ Hid (∀ j (hj : j < h.length), j < k → Hi.txnB h j h[j] = true) ∧ Hid (Below w1.heap.size w1 wr)) (fun i _ => h.length - (intOf i).toNat)
  case atStart => exact ⟨0, Nat.zero_le _, rfl, fun j _ hj => absurd hj (by omega), Below.refl _ _⟩
  case round =>
    obtain ⟨k, hk, rfl, hno, HB⟩ := hrel
    have cb := cell_later HB.out HC0.out
    by_cases hlt : k < h.length
    · have HN : Hid (Hi.txnB h k h[k] = true → ∀ j (hj : j < h.length), j < k + 1 → Hi.txnB h j h[j] = true) := fun q j hj hjk => by
        by_cases e : j = k
        · subst e; exact q
        · exact hno.out j hj (by omega)
      have HX := Lib.hid (Hi.may_bad k hlt)
      have HRD := Lib.hid (fun wx hvx => rOne8_at h (.slice A h.length c) k wx hvx hlt HO.out)
      generalize Hi.txnB h k h[k] = b at *
      go_wp2_with fail
      refine (HRD.out _ (HV.out.below HB.out)).mono ?_
      rintro e w2 ⟨rfl, hb2⟩
      have HB2 := Lib.hid (below_all HB.out hb2)
      clear hb2
      cases b with
      | true =>
        go_wp2_with fail
        go_roundw
        case rel => exact ⟨k + 1, by omega, by go_num, HN.out (by trivial), HB2⟩
        case measure => simp [intOf]; omega
      | false =>
        go_wp2_with fail
        go_ret
        exact ⟨ret_bool (HX.out (by trivial)).symm, below_all HB0.out HB2.out⟩
    · have HE := Lib.hid (Hi.may_all hl32 (fun j hj => hno.out j hj (by omega)))
      go_wp2_with fail
      go_ret
      exact ⟨ret_bool HE.out.symm, below_all HB0.out HB.out⟩
end Go.Proofs.Ytahacjfeopjbaaa
/-
  What the reference's events, Show and Parse of layer 8 answer: a transaction's events, the text of a history, and the history of a text, or where it is wrong.
  Conditions: a row has at most 2^32 elements.
  (This program has not all of these functions: rEvents8_at is left out here.)
-/
set_option maxRecDepth 4000
namespace Go.Proofs.Ytahacjfeopjbaaa
open Go.RowKit

end Go.Proofs.Ytahacjfeopjbaaa
/-
  What the reference's Parse and Show of layer 8 answer: the history of a text, or where it is wrong, and the text of a history.
  Conditions: a text has at most 2^32 bytes, a row at most 2^32 elements.
  (This program has not all of these functions: rresults_parse, rend_parse, rparse_no, rParse8_at, rShow8_at are left out here.)
-/
set_option maxRecDepth 4000
namespace Go.Proofs.Ytahacjfeopjbaaa
open Go.RowKit

/-- A variable that holds a slice is no part of a row that begins with an integer: it may be written. -/
theorem sl_put {w : World} {b size n m c : Nat} {t : TypeId} {A : Option Addr} {v : Value} {xs : List Value} (hb : Boxed w b t (.slice A m c)) (h : Sl w size v n xs) (hx : ∀ u, xs[0]? = some u → ∃ k i, u = .int k i) (x : Value) : Sl (w.setCell ⟨b, 0, none⟩ x) size v n xs := by
  obtain ⟨h1, A', c', e, hc, hz, hh⟩ := h
  refine ⟨h1, A', c', e, hc, hz, fun h0 => ?_⟩
  obtain ⟨ad, e2, hlt, hcell⟩ := hh h0
  cases xs with
  | nil => exact ⟨ad, e2, by simpa using hlt, fun j u hu => by simp at hu⟩
  | cons u0 r =>
    obtain ⟨k, i, rfl⟩ := hx _ rfl
    have hc0 := hcell 0 _ rfl
    rw [add_zero'] at hc0
    have hne : ad.block ≠ b := fun e => by
      have hb' : w.heap[ad.block]? = some (.cells #[.slice A m c] t (0, 0)) := by rw [e]; exact hb
      simp only [World.cell?, hb'] at hc0
      split at hc0
      · cases hc0
      · have : ad.off = 0 ∨ 0 < ad.off := by omega
        rcases this with q | q
        · simp [q] at hc0
        · rw [Array.getElem?_eq_none (show #[Value.slice A m c].size ≤ ad.off from q)] at hc0
          cases hc0
    exact ⟨ad, e2, by simpa using hlt, fun j u hu => (set_far (by rw [add_block]; exact hne)).trans (hcell j u hu)⟩
theorem txns_put {w : World} {b m c : Nat} {t : TypeId} {A : Option Addr} {v : Value} {l : List So.Txn} (hb : Boxed w b t (.slice A m c)) (h : Txns w v l) (x : Value) : Txns (w.setCell ⟨b, 0, none⟩ x) v l := by
  obtain ⟨p, h1, h2, h3⟩ := h
  refine ⟨p, h1, sl_put hb h2 (fun u hu => ?_) x, fun y hy => ⟨sl_put hb (h3 y hy).1 (fun u hu => ?_) x, sl_put hb (h3 y hy).2 (fun u hu => ?_) x⟩⟩
  · cases p with
    | nil => simp at hu
    | cons y r => simp [txnC] at hu; exact ⟨_, _, hu.symm⟩
  · cases hw : y.1.writes with
    | nil => rw [hw] at hu; simp at hu
    | cons z r => rw [hw] at hu; simp [nC] at hu; exact ⟨_, _, hu.symm⟩
  · cases hw : y.1.reads with
    | nil => rw [hw] at hu; simp at hu
    | cons z r => rw [hw] at hu; simp [itC] at hu; exact ⟨_, _, hu.symm⟩

end Go.Proofs.Ytahacjfeopjbaaa
