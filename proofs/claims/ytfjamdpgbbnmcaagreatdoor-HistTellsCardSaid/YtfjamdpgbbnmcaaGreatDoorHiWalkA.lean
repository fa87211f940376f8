/-
  What hist.Right answers, and the functions that it calls: whether a history may be.
  Conditions: a row has at most 2^32 elements.
-/
import Derived.Test.YtfjamdpgbbnmcaaGreatDoorHiIter
import Derived.Test.YtfjamdpgbbnmcaaGreatDoorHiParse
import Derived.Shelf.Abstract
set_option maxRecDepth 4000
namespace Go.Proofs.YtfjamdpgbbnmcaaGreatDoor
open Go.RowKit

namespace Hi
open So (Txn)
/-! The answers, as the program puts them together. -/
def writerB (h : List Txn) (n key : Int) : Bool := decide (0 ≤ n) && (match h[n.toNat]? with
  | some t => decide (key ∈ t.writes)
  | none => false)
theorem writerB_neg (h : List Txn) (n key : Int) (hn : n < 0) : writerB h n key = false := by rw [writerB, decide_eq_false (by omega)]; rfl
theorem writerB_out (h : List Txn) (n key : Int) (hn : (h.length : Int) ≤ n) : writerB h n key = false := by
  rw [writerB, List.getElem?_eq_none (by omega)]
  simp
theorem writerB_at (h : List Txn) (j : Nat) (hj : j < h.length) (key : Int) : writerB h (j : Int) key = decide (key ∈ h[j].writes) := by
  rw [writerB, decide_eq_true (by omega), Int.toNat_natCast, List.getElem?_eq_getElem hj]
  rfl
theorem writerB_iff (h : List Txn) (n key : Int) : writerB h n key = true ↔ ∃ j, ∃ hj : j < h.length, n = (j : Int) ∧ key ∈ h[j].writes := by
  constructor
  · intro q
    rcases Int.lt_or_le n 0 with h0 | h0
    · rw [writerB_neg h n key h0] at q; cases q
    rcases Int.lt_or_le n h.length with h1 | h1
    · obtain ⟨j, rfl⟩ := Int.eq_ofNat_of_zero_le h0
      have hj : j < h.length := by omega
      rw [writerB_at h j hj] at q
      exact ⟨j, hj, rfl, of_decide_eq_true q⟩
    · rw [writerB_out h n key h1] at q; cases q
  · rintro ⟨j, hj, rfl, hm⟩
    rw [writerB_at h j hj]
    exact decide_eq_true hm
def fromB (h : List Txn) (n : Nat) (y : Int × Int) : Bool := y.2 == -1 || (!(y.2 == (n : Int)) && writerB h y.2 y.1)
theorem fromB_iff (h : List Txn) (n : Nat) (y : Int × Int) : fromB h n y = true ↔ (y.2 = -1 ∨ ∃ j, ∃ hj : j < h.length, y.2 = (j : Int) ∧ j ≠ n ∧ y.1 ∈ h[j].writes) := by
  unfold fromB
  rw [Bool.or_eq_true, Bool.and_eq_true, Bool.not_eq_true', beq_iff_eq, beq_eq_false_iff_ne, writerB_iff]
  constructor
  · rintro (q | ⟨q, j, hj, e, hm⟩)
    · exact .inl q
    · exact .inr ⟨j, hj, e, by omega, hm⟩
  · rintro (q | ⟨j, hj, e, hne, hm⟩)
    · exact .inl q
    · exact .inr ⟨by omega, j, hj, e, hm⟩
noncomputable def readsB (h : List Txn) (n : Nat) (l : List (Int × Int)) : Bool := risesB (l.map (·.1)) && l.all (fromB h n)
theorem readsB_no {h : List Txn} {n : Nat} {l : List (Int × Int)} (q : risesB (l.map (·.1)) = false) : readsB h n l = false := by rw [readsB, q]; rfl
theorem readsB_bad {h : List Txn} {n : Nat} {l : List (Int × Int)} (k : Nat) (hk : k < l.length) (q : fromB h n l[k] = false) : readsB h n l = false := by
  rw [readsB, Bool.and_eq_false_iff]
  right
  rw [← Bool.not_eq_true, List.all_eq_true]
  intro h2
  rw [h2 _ (List.getElem_mem hk)] at q
  cases q
theorem readsB_yes {h : List Txn} {n : Nat} {l : List (Int × Int)} (q : risesB (l.map (·.1)) = true) (h2 : ∀ k (hk : k < l.length), fromB h n l[k] = true) : readsB h n l = true := by
  rw [readsB, q, Bool.true_and, List.all_eq_true]
  intro y hy
  obtain ⟨k, hk, rfl⟩ := List.getElem_of_mem hy
  exact h2 k hk
noncomputable def txnB (h : List Txn) (n : Nat) (t : Txn) : Bool := (decide (0 ≤ t.session) && decide (t.session < 8)) && risesB t.writes && readsB h n t.reads
theorem txnB_iff (h : List Txn) (n : Nat) (t : Txn) : txnB h n t = true ↔ OkTxn h n t := by
  unfold txnB readsB
  rw [Bool.and_eq_true, Bool.and_eq_true, Bool.and_eq_true, Bool.and_eq_true, decide_eq_true_eq, decide_eq_true_eq, risesB_iff, risesB_iff, List.all_eq_true]
  constructor
  · rintro ⟨⟨h1, h2⟩, h3, h4⟩
    exact ⟨h1, h2, h3, fun y hy => (fromB_iff h n y).1 (h4 y hy)⟩
  · intro q
    exact ⟨⟨q.session, q.writes⟩, q.reads, fun y hy => (fromB_iff h n y).2 (q.froms y hy)⟩
theorem rightB_yes {h : List Txn} (q : Right h) : rightB h = true := (rightB_iff h).2 q
theorem rightB_no {h : List Txn} (q : ¬ Right h) : rightB h = false := by rw [← Bool.not_eq_true, rightB_iff]; exact q
theorem may_many {h : List Txn} (q : 32 < h.length) : rightB h = false := rightB_no fun r => by have := r.1; omega
theorem may_bad {h : List Txn} (k : Nat) (hk : k < h.length) (q : txnB h k h[k] = false) : rightB h = false := rightB_no fun r => by
  rw [(txnB_iff h k _).2 (r.2 k hk)] at q
  cases q
theorem may_all {h : List Txn} (h1 : h.length ≤ 32) (h2 : ∀ k (hk : k < h.length), txnB h k h[k] = true) : rightB h = true := rightB_yes ⟨h1, fun k hk => (txnB_iff h k _).1 (h2 k hk)⟩
end Hi

/-! slices.Index and slices.Contains, at rows of integers. -/
theorem intIndex_at (l : List Int) (x : Int) (v : Value) (w : World) (hv : Ns w v l) (hl : l.length ≤ 4294967296) : Calls Tryz.prog 88 #[v, .int .i64 x] w fun e w' => ∃ r : Int, e = .returned (.int .i64 r) ∧ decide (r ≥ 0) = decide (x ∈ l) ∧ w = w' := by
  obtain ⟨A, c, rfl, hform⟩ := hv.spelled
  have HF := Lib.hid hform
  clear hform hv
  go_enter Tryz.func88, Tryz.ntmps88
  go_wp2
  go_loopw [8] (fun i wr => ∃ k : Nat, k ≤ l.length ∧ i = .int .i64 k ∧ Hid (∀ j (hj : j < l.length), j < k → l[j] ≠ x) ∧ w = wr) (fun i _ => l.length - (intOf i).toNat)
  case atStart => exact ⟨0, Nat.zero_le _, rfl, fun j _ hj => absurd hj (by omega), rfl⟩
  case round =>
    obtain ⟨k, hk, rfl, hno, rfl⟩ := hrel
    by_cases hlt : k < l.length
    · obtain ⟨ad, rfl, hblk, hE⟩ := HF.out k hlt
      obtain ⟨z, hz⟩ : ∃ z, z = l[k]'hlt := ⟨_, rfl⟩
      rw [← hz] at hE
      have HZ := Lib.hid hz
      clear hz
      by_cases he : x = z
      · have HM : Hid (x ∈ l) := by rw [he, HZ.out]; exact List.getElem_mem hlt
        subst he
        go_wp2_with fail
        go_ret
        exact ⟨_, rfl, by rw [decide_eq_true HM.out]; exact decide_eq_true (by omega), rfl⟩
      · have hq : (x == z) = false := beq_eq_false_iff_ne.2 he
        have HN : Hid (∀ j (hj : j < l.length), j < k + 1 → l[j] ≠ x) := fun j hj hjk => by
          by_cases e : j = k
          · subst e; rw [← HZ.out]; exact fun q => he q.symm
          · exact hno.out j hj (by omega)
        clear he
        go_wp2_with fail
        go_roundw
        case rel => exact ⟨k + 1, by omega, by go_num, HN, trivial⟩
        case measure => simp [intOf]; omega
    · have HM : Hid (x ∉ l) := fun q => by
        obtain ⟨j, hj, e⟩ := List.getElem_of_mem q
        exact hno.out j hj (by omega) e
      go_wp2_with fail
      go_ret
      exact ⟨_, rfl, by rw [decide_eq_false HM.out]; exact decide_eq_false (by omega), rfl⟩
theorem intContains_at (l : List Int) (x : Int) (v : Value) (w : World) (hv : Ns w v l) (hl : l.length ≤ 4294967296) : Calls Tryz.prog 73 #[v, .int .i64 x] w fun e w' => e = .returned (.bool (decide (x ∈ l))) ∧ w = w' := by
  have HV := Lib.hid hv
  obtain ⟨A, c, rfl, _⟩ := hv.spelled
  clear hv
  go_enter Tryz.func73, Tryz.ntmps73
  go_wp2_with fail
  refine (intIndex_at l x _ _ HV.out hl).mono ?_
  rintro e w1 ⟨r, rfl, hr, rfl⟩
  have HR := Lib.hid hr
  clear hr
  go_wp2_with fail
  go_ret
  exact ⟨ret_bool HR.out, rfl⟩

theorem isWriter_at (h : List So.Txn) (u : Value) (n key : Int) (w : World) (hv : Txns w u h) (ho : ∀ t ∈ h, t.writes.length ≤ 4294967296) :
    Calls Tryz.prog 47 #[.agg #[u], .int .i64 n, .int .i64 key] w (RetBool w (Hi.writerB h n key)) := by
  have HB := Lib.hid (alloc_below w (.cells #[u] 24))
  obtain ⟨A, c, rfl, hform⟩ := (hv.below HB.out).spelled
  have HF := Lib.hid hform
  have HO := Lib.hid ho
  clear hform hv ho
  by_cases h0 : n < 0
  · have d0 : decide ((0 : Int) ≤ n) = false := decide_eq_false (by omega)
    have HR := Lib.hid (Hi.writerB_neg h n key h0)
    clear h0
    go_enter Tryz.func47, Tryz.ntmps47
    go_wp2_with fail
    go_ret
    exact ⟨ret_bool HR.out.symm, HB.out⟩
  · have d0 : decide ((0 : Int) ≤ n) = true := decide_eq_true (by omega)
    by_cases h1 : n < (h.length : Int)
    · obtain ⟨j, rfl⟩ := Int.eq_ofNat_of_zero_le (show 0 ≤ n by omega)
      have hlt : j < h.length := by omega
      have d1 : decide ((j : Int) < (h.length : Int)) = true := decide_eq_true h1
      obtain ⟨ad, x, y, rfl, hblk, hE, hx, _⟩ := HF.out j hlt
      have HR := Lib.hid (Hi.writerB_at h j hlt key)
      have HX := Lib.hid hx
      have HL := Lib.hid (HO.out _ (List.getElem_mem hlt))
      obtain ⟨_, c1, _⟩ := hE
      obtain ⟨A', c', rfl, _⟩ := hx.spelled
      clear hx h0 h1
      go_enter Tryz.func47, Tryz.ntmps47
      go_wp2_with fail
      refine (intContains_at _ key _ _ HX.out HL.out).mono ?_
      rintro e w1 ⟨rfl, rfl⟩
      go_wp2_with fail
      go_ret
      exact ⟨ret_bool HR.out.symm, HB.out⟩
    · have d1 : decide (n < (h.length : Int)) = false := decide_eq_false h1
      have HR := Lib.hid (Hi.writerB_out h n key (by omega))
      clear h0 h1
      go_enter Tryz.func47, Tryz.ntmps47
      go_wp2_with fail
      go_ret
      exact ⟨ret_bool HR.out.symm, HB.out⟩

theorem hKeysOf_at (A : Option Addr) (n c : Nat) (w : World) : Calls Tryz.prog 46 #[.slice A n c] w fun e w' => e = .returned (.func (.func 72) #[] #[.pointer (some ⟨w.heap.size, 0, none⟩)]) ∧ w' = w.alloc (.cells #[.slice A n c] 36) := by
  have hmf : ∀ (fn : Fn) (first cap : Array Value) (w : World), (Instr.makeFunc fn first cap).run Tryz.prog w = .ok (.func fn first cap) w := fun _ _ _ _ => rfl
  go_enter Tryz.func46, Tryz.ntmps46
  go_wp2_with fail
  go_ret
  exact ⟨rfl, rfl⟩
theorem sValues_at (A : Option Addr) (n c : Nat) (w : World) : Calls Tryz.prog 25 #[.slice A n c] w fun e w' => e = .returned (.func (.func 45) #[] #[.pointer (some ⟨w.heap.size, 0, none⟩)]) ∧ w' = w.alloc (.cells #[.slice A n c] 35) := by
  have hmf : ∀ (fn : Fn) (first cap : Array Value) (w : World), (Instr.makeFunc fn first cap).run Tryz.prog w = .ok (.func fn first cap) w := fun _ _ _ _ => rfl
  go_enter Tryz.func25, Tryz.ntmps25
  go_wp2_with fail
  go_ret
  exact ⟨rfl, rfl⟩
/-- areKeys over the keys of reads, and over a row of integers, behind the call that made the iterator. -/
theorem overKeys_at (l : List (Int × Int)) (A : Option Addr) (n c B : Nat) (w : World) (hv : Its w (.slice A n c) l) (hl : l.length ≤ 4294967296) (hB : w.heap.size = B) :
    Calls Tryz.prog 24 #[.func (.func 72) #[] #[.pointer (some ⟨B, 0, none⟩)]] (w.alloc (.cells #[.slice A n c] 36)) (RetBool (w.alloc (.cells #[.slice A n c] 36)) (Hi.risesB (l.map (·.1)))) := by
  subst hB
  exact areKeys_at _ _ _ _ (enters_of Tryz.func72 (by kernel_rfl) rfl) (keys_hands l _ _ _ (hv.below (alloc_below _ _)) hl (by simp) (Boxed.new w _ _).cell)
theorem overInts_at (l : List Int) (A : Option Addr) (n c B : Nat) (w : World) (hv : Ns w (.slice A n c) l) (hl : l.length ≤ 4294967296) (hB : w.heap.size = B) :
    Calls Tryz.prog 24 #[.func (.func 45) #[] #[.pointer (some ⟨B, 0, none⟩)]] (w.alloc (.cells #[.slice A n c] 35)) (RetBool (w.alloc (.cells #[.slice A n c] 35)) (Hi.risesB l)) := by
  subst hB
  exact areKeys_at _ _ _ _ (enters_of Tryz.func45 (by kernel_rfl) rfl) (values_hands l _ _ _ (hv.below (alloc_below _ _)) hl (by simp) (Boxed.new w _ _).cell)

set_option maxHeartbeats 1000000 in
theorem areReads_at (h : List So.Txn) (u : Value) (n : Nat) (w : World) (hv : Txns w u h) (hn : n < h.length) (ho : ∀ t ∈ h, t.writes.length ≤ 4294967296 ∧ t.reads.length ≤ 4294967296) :
    Calls Tryz.prog 26 #[.agg #[u], .int .i64 (n : Int)] w (RetBool w (Hi.readsB h n h[n].reads)) := by
  have HB0 := Lib.hid (alloc_below w (.cells #[u] 24))
  have HV := Lib.hid hv
  obtain ⟨A, c, rfl, hform⟩ := hv.spelled
  obtain ⟨ad, x, y, rfl, hblk, hE, _, hy⟩ := hform n hn
  have HO := Lib.hid ho
  obtain ⟨_, _, c2⟩ := hE.below hblk HB0.out
  have HL := Lib.hid (HO.out _ (List.getElem_mem hn)).2
  generalize h[n].reads = l at *
  obtain ⟨A', c', rfl, hrow⟩ := hy.spelled
  have HF := Lib.hid hrow
  have HY := Lib.hid (hy.below HB0.out)
  have c0 := (Boxed.new w 24 (.slice (some ad) h.length c)).cell
  have HC0 := Lib.hid c0
  have hs1 : (w.alloc (.cells #[.slice (some ad) h.length c] 24)).heap.size = w.heap.size + 1 := by simp
  have HS1 := Lib.hid hs1
  clear hs1
  clear hform hv ho hE hy hrow
  go_enter Tryz.func26, Tryz.ntmps26
  go_wp2_with fail
  generalize w.alloc (.cells #[.slice (some ad) h.length c] 24) = w1 at *
  refine (hKeysOf_at _ _ _ _).mono ?_
  rintro e w2 ⟨rfl, rfl⟩
  go_wp2_with fail
  (with_reducible refine (overKeys_at l _ _ _ _ w1 HY.out HL.out rfl).mono ?_)
  rintro e w3 ⟨rfl, hb3⟩
  have HB3 := Lib.hid (below_all (alloc_below w1 _) hb3)
  clear hb3
  cases hr : Hi.risesB (l.map (·.1)) with
  | false =>
    have HR := Lib.hid (Hi.readsB_no (h := h) (n := n) hr)
    clear hr
    go_wp2_with fail
    go_ret
    exact ⟨ret_bool HR.out.symm, below_all HB0.out HB3.out⟩
  | true =>
    have HR := Lib.hid hr
    clear hr
    go_wp2_with fail
    go_loopw [20] (fun i wr => ∃ k : Nat, k ≤ l.length ∧ i = .int .i64 k ∧ Hid (∀ j (hj : j < l.length), j < k → Hi.fromB h n l[j] = true) ∧ Hid (Below w1.heap.size w1 wr)) (fun i _ => l.length - (intOf i).toNat)
    case atStart => exact ⟨0, Nat.zero_le _, rfl, fun j _ hj => absurd hj (by omega), HB3.out⟩
    case round =>
      obtain ⟨k, hk, rfl, hno, HB⟩ := hrel
      have hll := HL.out
      by_cases hlt : k < l.length
      · obtain ⟨ad2, rfl, hblk2, hE⟩ := HF.out k hlt
        obtain ⟨⟨a, b⟩, hz⟩ : ∃ z, z = l[k]'hlt := ⟨_, rfl⟩
        have HBW := Lib.hid (below_all HB0.out HB.out)
        rw [← hz] at hE
        obtain ⟨e0, e1⟩ := hE.below hblk2 HBW.out
        have HZ := Lib.hid hz
        have HN : Hid (Hi.fromB h n (a, b) = true → ∀ j (hj : j < l.length), j < k + 1 → Hi.fromB h n l[j] = true) := fun q j hj hjk => by
          by_cases e : j = k
          · subst e; rw [← HZ.out]; exact q
          · exact hno.out j hj (by omega)
        have HX : Hid (Hi.fromB h n (a, b) = false → Hi.readsB h n l = false) := fun q => Hi.readsB_bad k hlt (by rw [← HZ.out]; exact q)
        have HA := Lib.hid (below_all HB.out (alloc_below wr (.cells #[.int .i64 a, .int .i64 b] 40)))
        have cb := (HA.out.cell (p := ⟨w.heap.size, 0, none⟩) (by rw [HS1.out]; exact Nat.lt_succ_self _)).trans HC0.out
        have HVA := Lib.hid ((HV.out.below HB0.out).below HA.out)
        clear hE hz HZ hno
        by_cases h1 : b = -1
        · have q1 : (b != -1) = false := by rw [bne_eq_false_iff_eq]; exact h1
          have HG : Hid (Hi.fromB h n (a, b) = true) := by rw [Hid, Hi.fromB, beq_iff_eq.2 h1]; rfl
          clear h1
          go_wp2_with fail
          go_roundw
          case rel => exact ⟨k + 1, by omega, by go_num, HN.out HG.out, HA⟩
          case measure => simp [intOf]; omega
        · have q1 : (b != -1) = true := bne_iff_ne.2 h1
          by_cases h2 : b = (n : Int)
          · have q2 : (b == (n : Int)) = true := beq_iff_eq.2 h2
            have HG : Hid (Hi.fromB h n (a, b) = false) := by rw [Hid, Hi.fromB, beq_eq_false_iff_ne.2 h1]; simp [h2]
            clear h1 h2
            go_wp2_with fail
            go_ret
            exact ⟨ret_bool (HX.out HG.out).symm, below_all HB0.out HA.out⟩
          · have q2 : (b == (n : Int)) = false := beq_eq_false_iff_ne.2 h2
            have HG : Hid (Hi.fromB h n (a, b) = Hi.writerB h b a) := by rw [Hid, Hi.fromB, beq_eq_false_iff_ne.2 h1, beq_eq_false_iff_ne.2 h2]; rfl
            clear h1 h2
            go_wp2_with fail
            refine (isWriter_at h _ b a _ HVA.out (fun t ht => (HO.out t ht).1)).mono ?_
            rintro e w5 ⟨rfl, hb5⟩
            have HB5 := Lib.hid (below_all HA.out hb5)
            rw [← HG.out]
            clear hb5 HG
            cases hg : Hi.fromB h n (a, b) with
            | true =>
              have HG := Lib.hid hg
              clear hg
              go_wp2_with fail
              go_roundw
              case rel => exact ⟨k + 1, by omega, by go_num, HN.out HG.out, HB5⟩
              case measure => simp [intOf]; omega
            | false =>
              have HG := Lib.hid hg
              clear hg
              go_wp2_with fail
              go_ret
              exact ⟨ret_bool (HX.out HG.out).symm, below_all HB0.out HB5.out⟩
      · have HE := Lib.hid (Hi.readsB_yes HR.out (fun j hj => hno.out j hj (by omega)))
        go_wp2_with fail
        go_ret
        exact ⟨ret_bool HE.out.symm, below_all HB0.out HB.out⟩

set_option maxHeartbeats 1000000 in
theorem hRight_at (h : List So.Txn) (u : Value) (w : World) (hv : Txns w u h) (ho : ∀ t ∈ h, t.writes.length ≤ 4294967296 ∧ t.reads.length ≤ 4294967296) : Calls Tryz.prog 11 #[.agg #[u]] w (RetBool w (Hi.rightB h)) := by
  have HB0 := Lib.hid (alloc_below w (.cells #[u] 24))
  have HV := Lib.hid hv
  obtain ⟨A, c, rfl, hform⟩ := hv.spelled
  have HF := Lib.hid hform
  have HO := Lib.hid ho
  have c0 := (Boxed.new w 24 (.slice A h.length c)).cell
  have HC0 := Lib.hid c0
  have hs1 : (w.alloc (.cells #[.slice A h.length c] 24)).heap.size = w.heap.size + 1 := by simp
  have HS1 := Lib.hid hs1
  clear hs1
  clear hform hv ho
  go_enter Tryz.func11, Tryz.ntmps11
  by_cases h32 : 32 < h.length
  · have hd : decide ((32 : Int) < (h.length : Int)) = true := by simp; omega
    have HR := Lib.hid (Hi.may_many h32)
    go_wp2_with fail
    go_ret
    exact ⟨ret_bool HR.out.symm, HB0.out⟩
  have hd : decide ((32 : Int) < (h.length : Int)) = false := by simp; omega
  have hl32 : h.length ≤ 32 := by omega
  clear h32
  go_wp2_with fail
  generalize w.alloc (.cells #[.slice A h.length c] 24) = w1 at *
  go_loopw [13] (fun i wr => ∃ k : Nat, k ≤ h.length ∧ i = .int .i64 k ∧ Hid (∀ j (hj : j < h.length), j < k → Hi.txnB h j h[j] = true) ∧ Hid (Below w1.heap.size w1 wr)) (fun i _ => h.length - (intOf i).toNat)
  case atStart => exact ⟨0, Nat.zero_le _, rfl, fun j _ hj => absurd hj (by omega), Below.refl _ _⟩
  case round =>
    obtain ⟨k, hk, rfl, hno, HB⟩ := hrel
    by_cases hlt : k < h.length
    · obtain ⟨ad, x, y, rfl, hblk, hE, hx, hy⟩ := HF.out k hlt
      have HBW := Lib.hid (below_all HB0.out HB.out)
      obtain ⟨e0, e1, e2⟩ := hE.below hblk HBW.out
      have HOK := Lib.hid (HO.out _ (List.getElem_mem hlt))
      have HN : Hid (Hi.txnB h k h[k] = true → ∀ j (hj : j < h.length), j < k + 1 → Hi.txnB h j h[j] = true) := fun q j hj hjk => by
        by_cases e : j = k
        · subst e; exact q
        · exact hno.out j hj (by omega)
      have HX := Lib.hid (Hi.may_bad k hlt)
      have HRD := Lib.hid (fun wx hvx => areReads_at h (.slice (some ad) h.length c) k wx hvx hlt HO.out)
      have HT : Hid (Hi.txnB h k h[k] = ((decide (0 ≤ h[k].session) && decide (h[k].session < 8)) && Hi.risesB h[k].writes && Hi.readsB h k h[k].reads)) := rfl
      generalize h[k] = t at *
      obtain ⟨s, ws, rs⟩ := t
      dsimp only at e0 HT HRD HOK hx hy
      obtain ⟨A1, c1, rfl, _⟩ := hx.spelled
      obtain ⟨A2, c2, rfl, _⟩ := hy.spelled
      have HXN := Lib.hid (hx.below HBW.out)
      have HA := Lib.hid (below_all HB.out (alloc_below wr (.cells #[.int .i64 s, .slice A1 ws.length c1, .slice A2 rs.length c2] 38)))
      have HXA := Lib.hid (HXN.out.below (alloc_below wr (.cells #[.int .i64 s, .slice A1 ws.length c1, .slice A2 rs.length c2] 38)))
      clear hE hx hy hno HXN
      by_cases h1 : 0 ≤ s
      · have q1 : decide ((0 : Int) ≤ s) = true := decide_eq_true h1
        by_cases h2 : s < 8
        · have q2 : decide (s < (8 : Int)) = true := decide_eq_true h2
          have HT' : Hid (Hi.txnB h k ⟨s, ws, rs⟩ = (Hi.risesB ws && Hi.readsB h k rs)) := by rw [Hid, HT.out, q1, q2]; rfl
          clear h1 h2 HT
          go_wp2_with fail
          refine (sValues_at _ _ _ _).mono ?_
          rintro e w3 ⟨rfl, rfl⟩
          go_wp2_with fail
          (with_reducible refine (overInts_at ws _ _ _ _ _ HXA.out HOK.out.1 (World.size_alloc _ _)).mono ?_)
          rintro e w4 ⟨rfl, hb4⟩
          have HB4 := Lib.hid (below_all HA.out (below_all (alloc_below _ _) hb4))
          clear hb4
          cases hr : Hi.risesB ws with
          | false =>
            have HG : Hid (Hi.txnB h k ⟨s, ws, rs⟩ = false) := by rw [Hid, HT'.out, hr]; rfl
            clear hr HT'
            go_wp2_with fail
            go_ret
            exact ⟨ret_bool (HX.out HG.out).symm, below_all HB0.out HB4.out⟩
          | true =>
            have HT2 : Hid (Hi.txnB h k ⟨s, ws, rs⟩ = Hi.readsB h k rs) := by rw [Hid, HT'.out, hr]; rfl
            have cb := (HB4.out.cell (p := ⟨w.heap.size, 0, none⟩) (by rw [HS1.out]; exact Nat.lt_succ_self _)).trans HC0.out
            clear hr HT'
            go_wp2_with fail
            refine (HRD.out _ ((HV.out.below HB0.out).below HB4.out)).mono ?_
            rintro e w5 ⟨rfl, hb5⟩
            have HB5 := Lib.hid (below_all HB4.out hb5)
            rw [← HT2.out]
            clear hb5 HT2
            cases hg : Hi.txnB h k ⟨s, ws, rs⟩ with
            | true =>
              have HG := Lib.hid hg
              clear hg
              go_wp2_with fail
              go_roundw
              case rel => exact ⟨k + 1, by omega, by go_num, HN.out HG.out, HB5⟩
              case measure => simp [intOf]; omega
            | false =>
              have HG := Lib.hid hg
              clear hg
              go_wp2_with fail
              go_ret
              exact ⟨ret_bool (HX.out HG.out).symm, below_all HB0.out HB5.out⟩
        · have q2 : decide (s < (8 : Int)) = false := decide_eq_false h2
          have HG : Hid (Hi.txnB h k ⟨s, ws, rs⟩ = false) := by rw [Hid, HT.out, q2]; simp
          clear h1 h2 HT
          go_wp2_with fail
          go_ret
          exact ⟨ret_bool (HX.out HG.out).symm, below_all HB0.out HA.out⟩
      · have q1 : decide ((0 : Int) ≤ s) = false := decide_eq_false h1
        have HG : Hid (Hi.txnB h k ⟨s, ws, rs⟩ = false) := by rw [Hid, HT.out, q1]; simp
        clear h1 HT
        go_wp2_with fail
        go_ret
        exact ⟨ret_bool (HX.out HG.out).symm, below_all HB0.out HA.out⟩
    · have HE := Lib.hid (Hi.may_all hl32 (fun j hj => hno.out j hj (by omega)))
      go_wp2_with fail
      go_ret
      exact ⟨ret_bool HE.out.symm, below_all HB0.out HB.out⟩
end Go.Proofs.YtfjamdpgbbnmcaaGreatDoor
