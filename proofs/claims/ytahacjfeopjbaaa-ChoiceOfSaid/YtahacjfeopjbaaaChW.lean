/-
  Several texts in one, each with its own first words: RowI, ChRep, ChDraw, ChEntry, ChKeys, ChWith, ChOver, ChRightW, ChPlaces, ChUnited, ChWwW, ChRwW, ChFullW, ChOpenW, ChOfW.
  Conditions: as each says.
-/
import Derived.Test.YtahacjfeopjbaaaSoAll
import Derived.Test.YtahacjfeopjbaaaGfAll
import Derived.Test.YtahacjfeopjbaaaChAns
import Derived.Test.YtahacjfeopjbaaaKnDraw
import Derived.Test.YtahacjfeopjbaaaKnWalk
import Derived.Test.YtahacjfeopjbaaaHiAll
import Derived.Test.YtahacjfeopjbaaaStAll
import Derived.Test.YtahacjfeopjbaaaChRefG
import Derived.Test.YtahacjfeopjbaaaIxAll
import Derived.Laws.Bits64b
import Derived.Laws.CopyOwn
import Derived.Deep.RegionLaw
import Derived.Maps.GroupsBeside
import Derived.WideKeyEntry
import Derived.Maps.OwnSet
import Derived.DeepKeys4
/-
  A made row of numbers in memory: what its cells hold, how it is written, and when it is a row of the call's own.
  Conditions: none beyond those that each theorem states.
-/
set_option maxRecDepth 4000
namespace Go.Proofs.Ytahacjfeopjbaaa
open Go.RowKit

/-! A row of numbers of the call's own. -/
theorem nC_flat (l : List Int) : (l.flatMap nC).length = l.length := by rw [flat_len nC_len, Nat.mul_one]
theorem nC_set (l : List Int) (k : Nat) (hk : k < l.length) (x : Int) : (l.flatMap nC).set k (.int .i64 x) = (l.set k x).flatMap nC := by
  have := flat_set nC_len l k hk 0 (by omega) x (.int .i64 x) rfl
  rw [Nat.mul_one, Nat.add_zero] at this
  exact this
theorem nC_zeros (n : Nat) : (List.replicate n (0 : Int)).flatMap nC = List.replicate n (.int .i64 0) := by
  induction n with
  | zero => rfl
  | succ n ih =>
    rw [List.replicate_succ, List.flatMap_cons, ih, List.replicate_succ]
    rfl
def RowI (W : World) (g : Nat) (l : List Int) : Prop := W.heap[g]? = some (.cells (l.flatMap nC).toArray 3 (0, 0))
section
variable {W W' : World} {base g : Nat} {l : List Int}
theorem RowI.own (h : RowI W g l) (hb : base ≤ g) (hl : l.length ≤ maxLen) : W.ownsRow base 3 1 (.slice (some ⟨g, 0, none⟩) l.length l.length) l.length (l.flatMap nC) :=
  ⟨by rw [nC_flat, Nat.mul_one], .inr ⟨g, l.length, (l.flatMap nC).toArray, rfl, hb, h, Nat.le_refl _, hl, by rw [List.size_toArray, nC_flat, Nat.mul_one], by rw [Nat.mul_one]; exact List.take_of_length_le (by rw [nC_flat]; exact Nat.le_refl _)⟩⟩
theorem RowI.cell (h : RowI W g l) (k : Nat) (hk : k < l.length) : W.cell? ⟨g, k, none⟩ = some (.int .i64 l[k]) := by
  have := flat_at nC_len l k hk 0 (by omega)
  rw [Nat.mul_one, Nat.add_zero] at this
  rw [cell_of_row W g k _ _ (0, 0) h, List.getElem?_toArray, this]
  rfl
theorem RowI.frozen (h : RowI W g l) (k : Nat) : W.frozen? ⟨g, k, none⟩ = false := frozen_of_row W g k _ _ h
theorem RowI.lt (h : RowI W g l) : g < W.heap.size := (Array.getElem?_eq_some_iff.1 h).1
theorem RowI.put (h : RowI W g l) (k : Nat) (hk : k < l.length) (x : Int) : RowI (W.setCell ⟨g, k, none⟩ (.int .i64 x)) g (l.set k x) := by
  have := heap_setCell_same W g k _ _ (.int .i64 x) h
  rw [List.setIfInBounds_toArray, nC_set l k hk x] at this
  exact this
theorem RowI.later (h : RowI W g l) (hb : Below W.heap.size W W') : RowI W' g l := (hb.block g h.lt).trans h
theorem RowI.made (W : World) (n : Nat) : RowI (W.alloc (.cells (madeCells #[.int .i64 0] n) 3)) W.heap.size (List.replicate n 0) := by
  have e : madeCells #[.int .i64 0] n = ((List.replicate n (0 : Int)).flatMap nC).toArray := by
    apply Array.ext'
    rw [toList_madeCells_one, nC_zeros]
  rw [RowI, ← e]
  exact World.alloc_heap_new W _
end
/-- 'make' of a row of numbers. -/
theorem int_make (w : World) (n : Nat) (hn : n ≤ 4294967296) : (Instr.makeSlice 46 (.int .i64 (n : Int)) (.int .i64 (n : Int))).run Try.prog w = .ok (.slice (some ⟨w.heap.size, 0, none⟩) n n) (w.alloc (.cells (madeCells #[.int .i64 0] n) 3)) := by
  obtain ⟨i, hi, hz, hs, hb⟩ := info_parts int_info
  have := run_make (P := Try.prog) w 46 3 i _ Try.underlying46 hi hz .i64 .i64 (n : Int) (n : Int) (by omega) (Int.le_refl _) (by rw [hb]; omega) (by omega)
  rw [hs, Int.toNat_natCast, Nat.mul_one] at this
  exact this
end Go.Proofs.Ytahacjfeopjbaaa
/-
  What the library's slices.Repeat answers of a row of one number: a made row that holds it everywhere.
  Conditions: at most 4294967296 times.
-/
set_option maxRecDepth 4000
namespace Go.Proofs.Ytahacjfeopjbaaa
open Go.RowKit

/-- The full product with 1. -/
theorem mul64_one (y : Nat) (hy : y < 18446744073709551616) (w : World) : Calls Try.prog 103 #[.int .u64 1, .int .u64 (y : Int)] w fun e w' => e = .returned (.tuple #[.int .u64 0, .int .u64 (y : Int)]) ∧ w = w' := by
  have e1 : bits .and .u64 1 4294967295 = 1 := bits_and_u64_nat 1 4294967295 (by omega) (by omega)
  have e0 : bits .and .u64 0 4294967295 = 0 := bits_and_u64_nat 0 4294967295 (by omega) (by omega)
  have e2 : bits .and .u64 (y : Int) 4294967295 = ((y % 4294967296 : Nat) : Int) := by
    have h := bits_and_u64_nat y 4294967295 hy (by omega)
    rw [show y &&& 4294967295 = y % 4294967296 from Nat.and_two_pow_sub_one_eq_mod y 32] at h
    exact h
  have z : (y : Int) % 4294967296 / 4294967296 = 0 := by omega
  have z2 : (y : Int) / 4294967296 / 4294967296 = 0 := by omega
  go_enter Try.func103, Try.ntmps103
  go_wp2
  go_ret2
  exact ⟨rfl, rfl⟩
theorem mul_one_at (y : Nat) (hy : y < 18446744073709551616) (w : World) : Calls Try.prog 99 #[.int .u64 1, .int .u64 (y : Int)] w fun e w' => e = .returned (.tuple #[.int .u64 0, .int .u64 (y : Int)]) ∧ w = w' := by
  go_enter Try.func99, Try.ntmps99
  go_wp2_with fail
  refine (mul64_one y hy w).mono ?_
  rintro e w1 ⟨rfl, rfl⟩
  go_wp2_with fail
  go_ret2
  exact ⟨rfl, rfl⟩

/-- The first k of n are z. -/
def rep (z : Int) (n k : Nat) : List Int := List.replicate k z ++ List.replicate (n - k) 0
theorem rep_len {z : Int} {n k : Nat} (h : k ≤ n) : (rep z n k).length = n := by
  rw [rep, List.length_append, List.length_replicate, List.length_replicate]
  omega
theorem rep_all (z : Int) (n : Nat) : rep z n n = List.replicate n z := by rw [rep, Nat.sub_self, List.replicate_zero, List.append_nil]
theorem nC_reps (z : Int) (n : Nat) : (List.replicate n z).flatMap nC = List.replicate n (.int .i64 z) := by
  induction n with
  | zero => rfl
  | succ n ih =>
    rw [List.replicate_succ, List.flatMap_cons, ih, List.replicate_succ]
    rfl
theorem rep_more {z : Int} {n k m : Nat} (h : k + m ≤ n) : splice ((rep z n k).flatMap nC) k (List.replicate m (.int .i64 z)) = (rep z n (k + m)).flatMap nC := by
  unfold splice rep
  rw [List.flatMap_append, List.flatMap_append, nC_reps, nC_reps, nC_reps, nC_reps, List.length_replicate]
  rw [List.take_append_of_le_length (by rw [List.length_replicate]; omega), List.take_of_length_le (by rw [List.length_replicate]; omega)]
  rw [List.drop_append, List.drop_of_length_le (by rw [List.length_replicate]; omega), List.nil_append, List.length_replicate, List.drop_replicate, ← List.append_assoc, List.replicate_append_replicate]
  congr 2
  omega
set_option maxHeartbeats 2000000 in
theorem repeat_at (z : Int) (v : Value) (n : Nat) (w : World) (hv : Ns w v [z]) (hn : n ≤ 4294967296) : Calls Try.prog 86 #[v, .int .i64 (n : Int)] w fun e w' => ∃ g, e = .returned (.slice (some ⟨g, 0, none⟩) n n) ∧ w.heap.size ≤ g ∧ RowI w' g (List.replicate n z) ∧ Below w.heap.size w w' := by
  obtain ⟨A, c, rfl, hh⟩ := hv.spelled
  obtain ⟨ad, rfl, hblk, hcell⟩ := hh 0 (by simp)
  have F1 := Lib.hid (fun w => mul_one_at n (by omega) w)
  have hmk := int_make w n hn
  have w1 : IntKind.u64.wrap (n : Int) = (n : Int) := by rw [IntKind.wrap_u64]; omega
  have w2 : IntKind.i64.wrap (n : Int) = (n : Int) := by rw [IntKind.wrap_i64]; omega
  have hsz : (Try.prog.info? 3).map (·.size) = some 1 := by kernel_rfl
  have HSZ := Lib.hid hsz
  have R0 := RowI.made w n
  rw [show List.replicate n (0 : Int) = rep z n 0 by simp [rep]] at R0
  have B0 := alloc_below w (.cells (madeCells #[.int .i64 0] n) 3)
  have C0 : (w.alloc (.cells (madeCells #[.int .i64 0] n) 3)).cell? (ad.add 0) = some (.int .i64 z) := (B0.cell (by rw [add_block]; exact hblk)).trans hcell
  have HR0 := Lib.hid R0
  have HB0 := Lib.hid B0
  have HL : Hid ((List.replicate (min 1 n) (Value.int .i64 z)).length = Nat.min 1 n) := List.length_replicate
  have HP : Hid (∀ j u, (List.replicate (min 1 n) (Value.int .i64 z))[j]? = some u → (w.alloc (.cells (madeCells #[.int .i64 0] n) 3)).cell? (ad.add j) = some u) := fun j u hu => by
    rw [List.getElem?_replicate] at hu
    split at hu
    · obtain rfl : j = 0 := by omega
      cases hu
      exact C0
    · cases hu
  have HF : Hid (0 + (List.replicate (min 1 n) (Value.int .i64 z)).length ≤ ((rep z n 0).flatMap nC).length) := by
    rw [Hid, nC_flat, rep_len (Nat.zero_le _), List.length_replicate]
    omega
  have H1 : Hid (∀ u ∈ List.replicate (min 1 n) (Value.int .i64 z), u.oneCell' = true) := fun u hu => by
    rw [(List.mem_replicate.1 hu).2]
    rfl
  have H1' : Hid (∀ m, ∀ u ∈ List.replicate m (Value.int .i64 z), u.oneCell' = true) := fun m u hu => by
    rw [(List.mem_replicate.1 hu).2]
    rfl
  have HM : Hid (splice ((rep z n 0).flatMap nC) 0 (List.replicate (min 1 n) (.int .i64 z)) = (rep z n (0 + min 1 n)).flatMap nC) := rep_more (by omega)
  clear hv hh hcell R0 B0 C0 hsz
  go_enter Try.func86, Try.ntmps86
  go_wp2_with fail
  refine (F1.out w).mono ?_
  rintro e w1 ⟨rfl, rfl⟩
  go_upto_region 7 with fail
  generalize w.alloc (.cells (madeCells #[.int .i64 0] n) 3) = W at *
  generalize hg0 : w.heap.size = g at *
  go_upto_region 8 with (refine wpList_copy_splice rfl (.tmp 31) (.tmp 32) 46 46 rfl 3 Try.underlying46 HSZ.out _ _ _ _ _ _ rfl rfl g 0 ((rep z n 0).flatMap nC) 3 HR0.out (List.replicate (min 1 n) (.int .i64 z)) HL.out (fun _ => ⟨rfl, ad, rfl, HP.out⟩) HF.out H1.out g w HB0.out (Nat.le_refl _) ?_; intro w2 hg2 hb2; rw [HM.out] at hg2; have HB2 := Lib.hid hb2; clear hb2)
  rw [Nat.zero_add] at hg2
  have HG2 : Hid (RowI w2 g (rep z n (min 1 n))) := hg2.out
  have hm1 : min 1 n ≤ n := Nat.min_le_right _ _
  have hm0 : min 1 n = 0 → n = 0 := by omega
  generalize min 1 n = m at *
  clear hg2 HL HP HF H1 HM HR0 HB0 F1
  go_loopw [8] (fun kv wr => ∃ k : Nat, k ≤ n ∧ kv = .int .i64 k ∧ (k = 0 → n = 0) ∧ Hid (RowI wr g (rep z n k)) ∧ Hid (Below g w wr)) (fun kv _ => n - (intOf kv).toNat)
  case atStart => exact ⟨m, hm1, rfl, hm0, HG2, HB2⟩
  case round =>
    clear HG2 HB2
    obtain ⟨k, hk, rfl, hk0, HR, HB⟩ := hrel
    by_cases hlt : k < n
    · have d0 : decide ((k : Int) < (n : Int)) = true := decide_eq_true (by omega)
      have hs1 : ∀ W : World, (Instr.sliceAt 46 (.slice (some ⟨g, 0, none⟩) n n) (some (.int .i64 (k : Int))) none none).run Try.prog W = .ok (.slice (some ⟨g, k, none⟩) (n - k) (n - k)) W := fun W => by
        have hel : Try.prog.elem 46 = 3 := by kernel_rfl
        have hsz : (sizeOf 3).run Try.prog W = .ok 1 W := by kernel_rfl
        have hun : Try.prog.underlying 46 = some (.slice (Try.prog.elem 46)) := by rw [hel]; exact Try.underlying46
        rw [run_sliceAt_slice W _ _ _ _ _ hun, run_slice_l W _ _ _ _ hun .i64 (k : Int) (by omega) (by omega), hel, hsz, Int.toNat_natCast]
        simp [sliced, Addr.add, show ¬ n = k by omega, show ¬ k = 0 by omega]
      have hs2 : ∀ W : World, (Instr.sliceAt 46 (.slice (some ⟨g, 0, none⟩) n n) none (some (.int .i64 (k : Int))) none).run Try.prog W = .ok (.slice (some ⟨g, 0, none⟩) k n) W := fun W => by
        have hel : Try.prog.elem 46 = 3 := by kernel_rfl
        have hsz : (sizeOf 3).run Try.prog W = .ok 1 W := by kernel_rfl
        have hun : Try.prog.underlying 46 = some (.slice (Try.prog.elem 46)) := by rw [hel]; exact Try.underlying46
        rw [run_sliceAt_slice W _ _ _ _ _ hun, run_slice_h W _ _ _ _ hun .i64 (k : Int) (by omega) (by omega), hel, hsz, Int.toNat_natCast]
        simp [sliced, Addr.add]
      have HL : Hid ((List.replicate (min k (n - k)) (Value.int .i64 z)).length = Nat.min k (n - k)) := List.length_replicate
      have HP : Hid (∀ j u, (List.replicate (min k (n - k)) (Value.int .i64 z))[j]? = some u → wr.drew.cell? ((⟨g, 0, none⟩ : Addr).add j) = some u) := fun j u hu => by
        have hj := (List.getElem?_eq_some_iff.1 hu).1
        rw [List.length_replicate] at hj
        rw [List.getElem?_replicate, if_pos hj] at hu
        cases hu
        have hjl : j < (rep z n k).length := by rw [rep_len hk]; omega
        have hc := HR.out.cell j hjl
        have he : (rep z n k)[j] = z := by
          have : (rep z n k)[j]? = some z := by rw [rep, List.getElem?_append_left (by rw [List.length_replicate]; omega), List.getElem?_replicate, if_pos (by omega)]
          rw [List.getElem?_eq_getElem hjl] at this
          exact Option.some.inj this
        rw [he] at hc
        rw [show ((⟨g, 0, none⟩ : Addr).add j) = ⟨g, j, none⟩ by by_cases q : j = 0 <;> simp [Addr.add, q]]
        exact hc
      have HF : Hid (k + (List.replicate (min k (n - k)) (Value.int .i64 z)).length ≤ ((rep z n k).flatMap nC).length) := by
        rw [Hid, nC_flat, rep_len hk, List.length_replicate]
        omega
      have HM : Hid (splice ((rep z n k).flatMap nC) k (List.replicate (min k (n - k)) (.int .i64 z)) = (rep z n (k + min k (n - k))).flatMap nC) := rep_more (by omega)
      have HB1 : Hid (Below g w wr.drew) := HB.out.drew
      have hmk : 0 < min k (n - k) := by omega
      have hmk2 : k + min k (n - k) ≤ n := by omega
      have hwr : IntKind.i64.wrap ((k : Int) + ((min k (n - k) : Nat) : Int)) = ((k + min k (n - k) : Nat) : Int) := by rw [IntKind.wrap_i64]; omega
      go_wp2_with fail
      go_region_law (refine step_copy_splice rfl (.tmp 41) (.tmp 44) 46 46 rfl 3 Try.underlying46 HSZ.out (some ⟨g, k, none⟩) (some ⟨g, 0, none⟩) (n - k) (n - k) k n (by simp [Act.eval, Act.put]) (by simp [Act.eval, Act.put]) g k ((rep z n k).flatMap nC) 3 HR.out (List.replicate (min k (n - k)) (.int .i64 z)) HL.out (fun _ => ⟨rfl, ⟨g, 0, none⟩, rfl, HP.out⟩) HF.out (H1'.out _) g w HB1.out (Nat.le_refl _) ?_; intro w3 hg3 hb3; rw [HM.out] at hg3; have HB3 := Lib.hid hb3; clear hb3)
      all_goals
        have HG3 : Hid (RowI w3 g (rep z n (k + min k (n - k)))) := hg3.out
        clear hg3
        simp only [Act.put, List.getElem_toArray, List.getElem_cons_succ, List.getElem_cons_zero, List.setIfInBounds_toArray, List.set_cons_zero, List.set_cons_succ]
        dsimp only [Exit.inBlock]
        go_roundw
        case rel => exact ⟨_, _, _, _, _, _, _, _, _, _, _, _, _, _, ⟨k + min k (n - k), hmk2, by go_num, by omega, HG3, HB3⟩, rfl⟩
        case measure => simp [intOf]; omega
    · have d0 : decide ((k : Int) < (n : Int)) = false := decide_eq_false (by omega)
      obtain rfl : k = n := by omega
      rw [rep_all] at HR
      subst hg0
      go_wp2_with fail
      go_ret
      exact ⟨_, rfl, Nat.le_refl _, HR.out, HB.out⟩
end Go.Proofs.Ytahacjfeopjbaaa
/-
  The graphs of choices as they are drawn edge by edge, the places of an order's numbers, and what an order chooses, step by step (no Go in it).
  Conditions: none beyond those that each theorem states.
-/
set_option maxRecDepth 4000
namespace Go.Proofs.Ytahacjfeopjbaaa.Ch
open So (Txn)
open Gf (bit Ok build)

/-! Who writes ahead of whom. -/
def wwE (l : List (Int × Int × Int)) : List (Nat × Nat) := l.map fun c => (c.2.1.toNat, c.2.2.toNat)
section
variable {h : List Txn} {l : List (Int × Int × Int)}
theorem one_nat {c : Int × Int × Int} (hc : oneB h c = true) : ∃ a b : Nat, c = (c.1, (a : Int), (b : Int)) ∧ a ≠ b ∧ a < h.length ∧ b < h.length := by
  obtain ⟨a, b, e, hne, ha, hb⟩ := oneB_iff.1 hc
  exact ⟨a, b, e, hne, wr_lt ha, wr_lt hb⟩
theorem wwE_in (hl : ∀ c ∈ l, oneB h c = true) : Kn.In h.length (wwE l) := fun e he => by
  obtain ⟨c, hc, rfl⟩ := List.mem_map.1 he
  obtain ⟨a, b, e, _, ha, hb⟩ := one_nat (hl c hc)
  rw [e]
  exact ⟨by simpa using ha, by simpa using hb⟩
theorem ww_drawn (hr : Hi.Right h) (hl : ∀ c ∈ l, oneB h c = true) : Kn.addAll (Gf.zeros h.length) (wwE l) = wwR h l :=
  Kn.drawn_is (Kn.len64 hr) (wwE_in hl) fun u v _ _ => by
    rw [wwB_iff]
    constructor
    · intro q
      obtain ⟨c, hc, e⟩ := List.mem_map.1 q
      obtain ⟨a, b, e2, hi⟩ := all_spelled hl hc
      rw [e2] at e
      simp only [Int.toNat_natCast, Prod.mk.injEq] at e
      obtain ⟨rfl, rfl⟩ := e
      exact ⟨_, hi⟩
    · rintro ⟨k, q⟩
      exact List.mem_map.2 ⟨_, q, by simp⟩
theorem wwE_next {i : Nat} (hi : i < l.length) : wwE (l.take (i + 1)) = wwE (l.take i) ++ [((l[i]).2.1.toNat, (l[i]).2.2.toNat)] := by
  unfold wwE
  rw [List.take_succ_eq_append_getElem hi, List.map_append]
  rfl
theorem wwTo_ok (hr : Hi.Right h) (hl : ∀ c ∈ l, oneB h c = true) (i : Nat) : Ok h.length (Kn.addAll (Gf.zeros h.length) (wwE (l.take i))) :=
  Kn.addAll_ok (Gf.zeros_ok (Kn.len64 hr)) (wwE_in fun c hc => hl c (List.mem_of_mem_take hc))

/-! Who writes over what was read. -/
def over (l : List (Int × Int × Int)) (y : Int × Int) : List Int := (l.filter fun c => c.1 == y.1 && c.2.1 == y.2).map (·.2.2)
def overN (l : List (Int × Int × Int)) (y : Int × Int) : List Nat := (over l y).map Int.toNat
theorem over_snoc (l : List (Int × Int × Int)) (c : Int × Int × Int) (y : Int × Int) : over (l ++ [c]) y = over l y ++ (if c.1 = y.1 ∧ c.2.1 = y.2 then [c.2.2] else []) := by
  unfold over
  rw [List.filter_append, List.map_append]
  congr 1
  by_cases q : c.1 = y.1 ∧ c.2.1 = y.2
  · simp [q]
  · rw [if_neg q, List.filter_cons_of_neg (by simpa using q)]
    rfl
theorem over_len (l : List (Int × Int × Int)) (y : Int × Int) : (over l y).length ≤ l.length := by
  unfold over
  rw [List.length_map]
  exact List.length_filter_le _ _
theorem mem_over {y : Int × Int} {b : Int} : b ∈ over l y ↔ (y.1, y.2, b) ∈ l := by
  unfold over
  rw [List.mem_map]
  constructor
  · rintro ⟨⟨k, a, b'⟩, hc, rfl⟩
    obtain ⟨h1, h2⟩ := List.mem_filter.1 hc
    rw [Bool.and_eq_true, beq_iff_eq, beq_iff_eq] at h2
    obtain ⟨rfl, rfl⟩ := h2
    exact h1
  · intro q
    exact ⟨_, List.mem_filter.2 ⟨q, by simp⟩, rfl⟩
theorem over_nat (hl : ∀ c ∈ l, oneB h c = true) {y : Int × Int} {b : Int} (hb : b ∈ over l y) : ∃ n : Nat, b = (n : Int) ∧ n < h.length := by
  obtain ⟨a, n, e, _, _, hn⟩ := one_nat (hl _ (mem_over.1 hb))
  exact ⟨n, by simpa using (Prod.mk.inj (Prod.mk.inj e).2).2, hn⟩
theorem over_nums (hl : ∀ c ∈ l, oneB h c = true) (y : Int × Int) : over l y = Bi.nums (overN l y) := by
  unfold overN Bi.nums
  rw [List.map_map]
  refine (List.map_id _).symm.trans (List.map_congr_left fun b hb => ?_)
  obtain ⟨n, rfl, _⟩ := over_nat hl hb
  simp
theorem overN_len (l : List (Int × Int × Int)) (y : Int × Int) : (overN l y).length = (over l y).length := by rw [overN, List.length_map]
theorem overN_lt (hl : ∀ c ∈ l, oneB h c = true) (y : Int × Int) : ∀ x ∈ overN l y, x < h.length := fun x hx => by
  obtain ⟨b, hb, rfl⟩ := List.mem_map.1 hx
  obtain ⟨n, rfl, hn⟩ := over_nat hl hb
  simpa using hn
theorem mem_overN (hl : ∀ c ∈ l, oneB h c = true) {y : Int × Int} {b : Nat} : b ∈ overN l y ↔ (y.1, y.2, (b : Int)) ∈ l := by
  rw [← mem_over, over_nums hl y, Bi.nums, List.mem_map]
  constructor
  · exact fun q => ⟨b, q, rfl⟩
  · rintro ⟨c, hc, e⟩
    obtain rfl : c = b := by omega
    exact hc

/-! Who reads ahead of whose write. -/
def readOf (l : List (Int × Int × Int)) (x : Nat) (y : Int × Int) : List (Nat × Nat) := Kn.rowOf (overN l y) x
def readsTo (l : List (Int × Int × Int)) (x : Nat) (t : Txn) (j : Nat) : List (Nat × Nat) := (t.reads.take j).flatMap (readOf l x)
def drawTo (h : List Txn) (l : List (Int × Int × Int)) (i : Nat) : List (Nat × Nat) := (List.range i).flatMap fun x => match h[x]? with | some t => readsTo l x t t.reads.length | none => []
theorem drawTo_next {i : Nat} (hi : i < h.length) : drawTo h l (i + 1) = drawTo h l i ++ readsTo l i h[i] h[i].reads.length := by
  unfold drawTo
  rw [List.range_succ, List.flatMap_append]
  simp [hi]
theorem readsTo_next {x j : Nat} {t : Txn} (hj : j < t.reads.length) : readsTo l x t (j + 1) = readsTo l x t j ++ readOf l x t.reads[j] := by
  unfold readsTo
  rw [List.take_succ_eq_append_getElem hj, List.flatMap_append]
  simp
theorem rowOf_yes {ws : List Nat} {x m : Nat} (hm : m < ws.length) (hne : ws[m] ≠ x) : Kn.rowOf (ws.take (m + 1)) x = Kn.rowOf (ws.take m) x ++ [(x, ws[m])] := by
  unfold Kn.rowOf
  rw [List.take_succ_eq_append_getElem hm, List.filter_append, List.map_append]
  simp [hne]
theorem rowOf_no {ws : List Nat} {x m : Nat} (hm : m < ws.length) (he : ws[m] = x) : Kn.rowOf (ws.take (m + 1)) x = Kn.rowOf (ws.take m) x := by
  unfold Kn.rowOf
  rw [List.take_succ_eq_append_getElem hm, List.filter_append, List.map_append]
  simp [he]
theorem rowOf_in {n x : Nat} {ws : List Nat} (hx : x < n) (hw : ∀ y ∈ ws, y < n) : Kn.In n (Kn.rowOf ws x) := by
  rintro ⟨u, v⟩ hm
  obtain ⟨rfl, h1, _⟩ := Kn.mem_rowOf.1 hm
  exact ⟨hx, hw _ h1⟩
theorem readsTo_in (hl : ∀ c ∈ l, oneB h c = true) {x : Nat} (hx : x < h.length) (t : Txn) (j : Nat) : Kn.In h.length (readsTo l x t j) := fun e he => by
  obtain ⟨y, _, hy⟩ := List.mem_flatMap.1 he
  exact rowOf_in hx (overN_lt hl y) e hy
theorem drawTo_in (hl : ∀ c ∈ l, oneB h c = true) (i : Nat) : Kn.In h.length (drawTo h l i) := fun e he => by
  obtain ⟨x, _, hx⟩ := List.mem_flatMap.1 he
  cases q : h[x]? with
  | none => rw [q] at hx; cases hx
  | some t =>
    rw [q] at hx
    exact readsTo_in hl (List.getElem?_eq_some_iff.1 q).1 t _ e hx
theorem rw_drawn (hr : Hi.Right h) (hl : ∀ c ∈ l, oneB h c = true) : Kn.addAll (Kn.initR h) (drawTo h l h.length) = rwR h l := by
  refine Gf.same (Kn.addAll_ok (Kn.init_ok hr) (drawTo_in hl _)) (rw_ok hr) fun u v hu hv => ?_
  rw [Kn.addAll_bit (Kn.init_ok hr) (drawTo_in hl _), rwR, Gf.build_bit (Kn.len64 hr), decide_eq_true hu, decide_eq_true hv, Bool.true_and, Bool.true_and, Kn.initR, Gf.build_bit (Kn.len64 hr), decide_eq_true hu, decide_eq_true hv, Bool.true_and, Bool.true_and, rwB]
  congr 1
  rw [Bool.eq_iff_iff, decide_eq_true_iff, List.any_eq_true]
  unfold drawTo
  rw [List.mem_flatMap]
  constructor
  · rintro ⟨x, hx, hm⟩
    have hxl := List.mem_range.1 hx
    rw [List.getElem?_eq_getElem hxl] at hm
    obtain ⟨y, hy, hm2⟩ := List.mem_flatMap.1 hm
    rw [List.take_length] at hy
    obtain ⟨rfl, h1, h2⟩ := Kn.mem_rowOf.1 hm2
    refine ⟨_, (mem_overN hl).1 h1, ?_⟩
    rw [Bool.and_eq_true, Bool.and_eq_true, decide_eq_true_iff, decide_eq_true_iff, beq_iff_eq]
    exact ⟨rfl, h2, (Ix.from_iff hr).2 ⟨hxl, hy⟩⟩
  · rintro ⟨⟨k, a, b⟩, hc, q⟩
    rw [Bool.and_eq_true, Bool.and_eq_true, decide_eq_true_iff, decide_eq_true_iff, beq_iff_eq] at q
    obtain ⟨q1, q2, q3⟩ := q
    obtain rfl : b = (v : Int) := q1
    obtain ⟨_, hm⟩ := (Ix.from_iff hr).1 q3
    refine ⟨u, List.mem_range.2 hu, ?_⟩
    rw [List.getElem?_eq_getElem hu]
    refine List.mem_flatMap.2 ⟨(k, a), by rw [List.take_length]; exact hm, ?_⟩
    exact Kn.mem_rowOf.2 ⟨rfl, (mem_overN hl).2 hc, q2⟩

/-! The places of an order's numbers. -/
structure Plc (o pl : List Int) (i : Nat) : Prop where
  len : pl.length = o.length
  spot : ∀ x (hx : x < pl.length), (pl[x] = -1 ∧ ∀ j (hj : j < o.length), j < i → o[j] ≠ (x : Int)) ∨ ∃ j, ∃ hj : j < o.length, j < i ∧ o[j] = (x : Int) ∧ pl[x] = (j : Int)
  node : ∀ j (hj : j < o.length), j < i → 0 ≤ o[j] ∧ o[j] < o.length
  once : ∀ j k (hj : j < o.length) (hk : k < o.length), j < k → k < i → o[j] ≠ o[k]
section
variable {o pl : List Int} {i x : Nat}
theorem Plc.start (o : List Int) : Plc o (List.replicate o.length (-1)) 0 :=
  ⟨List.length_replicate, fun _ _ => .inl ⟨List.getElem_replicate _, fun _ _ q => absurd q (Nat.not_lt_zero _)⟩, fun _ _ q => absurd q (Nat.not_lt_zero _), fun _ _ _ _ _ q => absurd q (Nat.not_lt_zero _)⟩
theorem Plc.next (m : Plc o pl i) (hi : i < o.length) (hx : o[i] = (x : Int)) (hxl : x < pl.length) (hn : pl[x] = -1) : Plc o (pl.set x (i : Int)) (i + 1) := by
  have hnew : ∀ j (hj : j < o.length), j < i → o[j] ≠ (x : Int) := fun j hj hji e => by
    rcases m.spot x hxl with ⟨_, q⟩ | ⟨k, hk, _, _, q⟩
    · exact q j hj hji e
    · rw [hn] at q
      omega
  refine ⟨by rw [List.length_set]; exact m.len, fun y hy => ?_, fun j hj hji => ?_, fun j k hj hk hjk hki => ?_⟩
  · rw [List.length_set] at hy
    by_cases e : x = y
    · subst e
      exact .inr ⟨i, hi, by omega, hx, List.getElem_set_self _⟩
    · rw [List.getElem_set_ne e]
      rcases m.spot y hy with ⟨q1, q2⟩ | ⟨j, hj, q1, q2, q3⟩
      · refine .inl ⟨q1, fun j hj hji => ?_⟩
        rcases Nat.lt_succ_iff_lt_or_eq.1 hji with r | r
        · exact q2 j hj r
        · subst r
          rw [hx]
          omega
      · exact .inr ⟨j, hj, by omega, q2, q3⟩
  · rcases Nat.lt_succ_iff_lt_or_eq.1 hji with r | r
    · exact m.node j hj r
    · subst r
      have := m.len
      rw [hx]
      omega
  · rcases Nat.lt_succ_iff_lt_or_eq.1 hki with r | r
    · exact m.once j k hj hk hjk r
    · subst r
      rw [hx]
      exact hnew j hj hjk
theorem perm_parts (hp : permB o o.length = true) : (∀ j (hj : j < o.length), 0 ≤ o[j] ∧ o[j] < o.length) ∧ ∀ j k (hj : j < o.length) (hk : k < o.length), j < k → o[j] ≠ o[k] := by
  obtain ⟨p, rfl, hp⟩ := permB_iff.1 hp
  have hl : ∀ j, j < (Bi.nums p).length → j < p.length := fun j hj => by rwa [Bi.nums_len] at hj
  refine ⟨fun j hj => ?_, fun j k hj hk hjk e => ?_⟩
  · rw [Bi.nums_at p j (hl j hj), Bi.nums_len]
    have := hp.node _ (List.getElem_mem (hl j hj))
    rw [Bi.nums_len] at this
    omega
  · rw [Bi.nums_at p j (hl j hj), Bi.nums_at p k (hl k hk)] at e
    have := (List.pairwise_iff_getElem.1 hp.once) j k (hl j hj) (hl k hk) hjk
    omega
theorem not_perm (h : permB o o.length = true → False) : permB o o.length = false := by
  cases q : permB o o.length with
  | false => rfl
  | true => exact (h q).elim
theorem out_no (hi : i < o.length) (h : o[i] < 0 ∨ (o.length : Int) ≤ o[i]) : permB o o.length = false := not_perm fun q => by
  have := (perm_parts q).1 i hi
  omega
theorem Plc.twice (m : Plc o pl i) (hi : i < o.length) (hx : o[i] = (x : Int)) (hxl : x < pl.length) (hn : pl[x] ≠ -1) : permB o o.length = false := not_perm fun q => by
  rcases m.spot x hxl with ⟨r, _⟩ | ⟨j, hj, hji, e, _⟩
  · exact hn r
  · exact (perm_parts q).2 j i hj hi hji (e.trans hx.symm)
theorem Plc.all (m : Plc o pl o.length) : permB o o.length = true ∧ ∃ p : List Nat, o = Bi.nums p ∧ Perm p o.length ∧ ∀ x (hx : x < pl.length), pl[x] = (pos p x : Int) := by
  have e : o = Bi.nums (o.map Int.toNat) := by
    rw [Bi.nums, List.map_map]
    refine (List.map_id o).symm.trans (List.map_congr_left fun y hy => ?_)
    obtain ⟨j, hj, rfl⟩ := List.getElem_of_mem hy
    have := (m.node j hj hj).1
    simp
    omega
  have p : Perm (o.map Int.toNat) o.length := ⟨List.length_map _, List.pairwise_iff_getElem.2 fun j k hj hk hjk q => by
    rw [List.length_map] at hj hk
    have h1 := m.once j k hj hk hjk hk
    have h2 := (m.node j hj hj).1
    have h3 := (m.node k hk hk).1
    rw [List.getElem_map, List.getElem_map] at q
    omega, fun x hx => by
    obtain ⟨y, hy, rfl⟩ := List.mem_map.1 hx
    obtain ⟨j, hj, rfl⟩ := List.getElem_of_mem hy
    have := m.node j hj hj
    omega⟩
  refine ⟨permB_iff.2 ⟨_, e, p⟩, _, e, p, fun x hx => ?_⟩
  have hxo : x < o.length := by rw [← m.len]; exact hx
  have key : ∀ j (hj : j < o.length), o[j] = (x : Int) → pos (o.map Int.toNat) x = j := fun j hj q => by
    have hj2 : j < (o.map Int.toNat).length := by rw [List.length_map]; exact hj
    have h1 := p.pos_at hj2
    rw [List.getElem_map, q] at h1
    simpa using h1
  rcases m.spot x hx with ⟨_, q⟩ | ⟨j, hj, _, q1, q2⟩
  · have hl := p.pos_lt hxo
    have hl2 : pos (o.map Int.toNat) x < o.length := by rw [List.length_map] at hl; exact hl
    have h1 := p.at_pos hxo
    rw [List.getElem_map] at h1
    refine absurd ?_ (q _ hl2 hl2)
    have := (m.node _ hl2 hl2).1
    omega
  · rw [q2, key j hj q1]
end

/-! What an order chooses, pair by pair. -/
def ofTo (o : List Nat) (ps : List (Nat × Nat × Nat)) (i : Nat) : List (Int × Int × Int) := (ps.take i).map (chooses o) ++ (ps.drop i).map toI
theorem ofTo_zero (o : List Nat) (ps : List (Nat × Nat × Nat)) : ofTo o ps 0 = ps.map toI := by simp [ofTo]
theorem ofTo_all (o : List Nat) (ps : List (Nat × Nat × Nat)) : ofTo o ps ps.length = ps.map (chooses o) := by simp [ofTo]
theorem ofTo_len (o : List Nat) (ps : List (Nat × Nat × Nat)) (i : Nat) : (ofTo o ps i).length = ps.length := by
  simp only [ofTo, List.length_append, List.length_map, List.length_take, List.length_drop]
  omega
theorem ofTo_at {o : List Nat} {ps : List (Nat × Nat × Nat)} {i : Nat} (hi : i < ps.length) (h2 : i < (ofTo o ps i).length) : (ofTo o ps i)[i] = toI ps[i] := by
  have e : ((ps.take i).map (chooses o)).length = i := by rw [List.length_map, List.length_take]; omega
  have h3 : (ofTo o ps i)[i]? = some (toI ps[i]) := by
    rw [ofTo, List.getElem?_append_right (by omega), e, Nat.sub_self, List.getElem?_map, List.getElem?_drop, Nat.add_zero, List.getElem?_eq_getElem hi]
    rfl
  rw [List.getElem?_eq_getElem h2] at h3
  exact Option.some.inj h3
theorem ofTo_next {o : List Nat} {ps : List (Nat × Nat × Nat)} {i : Nat} (hi : i < ps.length) : ofTo o ps (i + 1) = (ofTo o ps i).set i (chooses o ps[i]) := by
  have e : ((ps.take i).map (chooses o)).length = i := by rw [List.length_map, List.length_take]; omega
  unfold ofTo
  rw [List.set_append_right _ _ (by omega), e, Nat.sub_self, List.take_succ_eq_append_getElem hi, List.map_append, List.append_assoc]
  congr 1
  rw [List.drop_eq_getElem_cons hi]
  rfl
theorem ofTo_stays {o : List Nat} {ps : List (Nat × Nat × Nat)} {i : Nat} (hi : i < ps.length) (hle : pos o ps[i].2.1 ≤ pos o ps[i].2.2) : ofTo o ps (i + 1) = ofTo o ps i := by
  rw [ofTo_next hi, chooses, if_pos hle, ← ofTo_at (o := o) hi (by rw [ofTo_len]; exact hi), List.set_getElem_self]
theorem ofTo_turns {o : List Nat} {ps : List (Nat × Nat × Nat)} {i : Nat} (hi : i < ps.length) (hgt : pos o ps[i].2.2 < pos o ps[i].2.1) : ofTo o ps (i + 1) = (ofTo o ps i).set i (back (toI ps[i])) := by
  rw [ofTo_next hi, chooses, if_neg (by omega)]
end
end Go.Proofs.Ytahacjfeopjbaaa.Ch
/-
  A map of rows whose element is read and stored by one statement that appends onto it (no Go in it): the entry is read, its row grows, and the store leaves such a map again.
  Conditions: none beyond those that each theorem states.
-/
set_option maxRecDepth 4000
namespace Go.Proofs.Ytahacjfeopjbaaa
open Go.RowKit
open Go.MapKept Go.ChangeMaps Go.WideElems
open Go.Maps (Keyed)
open Go.WideMaps (KeyLaw)

theorem setBlock_inj {w : World} {b : Nat} {es : Array MapEntry} {clock : Nat} {X Y : Obj} (hb : w.heap[b]? = some (.map es clock)) (h : setBlock w b X = setBlock w b Y) : X = Y := by
  have h1 := heap_setBlock_same hb X
  rw [h, heap_setBlock_same hb Y] at h1
  exact (Option.some.inj h1).symm
section
variable {P : Program} {k t E : TypeId} {b : Nat} {es : Array MapEntry} {clock : Nat} {w w1 : World}
theorem update_alike (K : KeyLaw P k) (ht : P.underlying t = some (.map k E)) (hb : w.heap[b]? = some (.map es clock)) (hb1 : w1.heap[b]? = some (.map es clock)) (hs : Stamped es clock) (hks : ∀ x ∈ es.toList, ∃ l, keyOf P k x.key = some l)
    {key val : Value} {kl : Lit} (hkey : keyOf P k key = some kl) {es' : Array MapEntry} {clock' : Nat} (hrun : (Instr.mapUpdate t (.map (some b)) key val).run P w = .ok () (setBlock w b (.map es' clock'))) :
    (Instr.mapUpdate t (.map (some b)) key val).run P w1 = .ok () (setBlock w1 b (.map es' clock')) := by
  have same : ∀ {X : Obj}, (Instr.mapUpdate t (.map (some b)) key val).run P w = .ok () (setBlock w b X) → X = .map es' clock' := fun {X} h => by
    rw [hrun] at h
    exact (setBlock_inj hb (by simpa using h)).symm
  rcases K.find w hkey es.toList hks with ⟨h1, h2⟩ | ⟨j, e0, h1, h2, h3⟩
  · have hX : (Instr.mapUpdate t (.map (some b)) key val).run P w = .ok () (setBlock w b (.map (es.push ⟨key, val, clock⟩) (clock + 1))) := by
      simp [Instr.mapUpdate, run_underlying ht, MapKept.run_getObj_map hb, K.check w false hkey, h1, MapKept.run_setObj_map _ hb, Result.andThen, setBlock]
    rw [← same hX]
    rcases K.find w1 hkey es.toList hks with ⟨g1, g2⟩ | ⟨i, e1, g1, g2, g3⟩
    · simp [Instr.mapUpdate, run_underlying ht, MapKept.run_getObj_map hb1, K.check w1 false hkey, g1, MapKept.run_setObj_map _ hb1, Result.andThen, setBlock]
    · exact absurd g3 (h2 e1 (List.mem_of_getElem? g2))
  · have hj : es[j]? = some e0 := by simpa using h2
    have hX : (Instr.mapUpdate t (.map (some b)) key val).run P w = .ok () (setBlock w b (.map (es.modify j fun e' => { e' with key := key, val := val }) clock)) := by
      simp [Instr.mapUpdate, run_underlying ht, MapKept.run_getObj_map hb, K.check w false hkey, h1, hj, h3, K.stays w hkey, MapKept.run_setObj_map _ hb, Result.andThen, setBlock]
    rw [← same hX]
    rcases K.find w1 hkey es.toList hks with ⟨g1, g2⟩ | ⟨i, e1, g1, g2, g3⟩
    · exact absurd h3 (g2 e0 (List.mem_of_getElem? h2))
    · have hi : es[i]? = some e1 := by simpa using g2
      obtain rfl : i = j := by
        obtain ⟨p1, q1⟩ := List.getElem?_eq_some_iff.1 h2
        obtain ⟨p2, q2⟩ := List.getElem?_eq_some_iff.1 g2
        have hn := hs.2.2
        have e2 : (es.toList.map (·.key))[i]'(by simpa using p2) = (es.toList.map (·.key))[j]'(by simpa using p1) := by
          rw [List.getElem_map, List.getElem_map, q1, q2, h3, g3]
        exact (List.getElem_inj hn).1 e2
      simp [Instr.mapUpdate, run_underlying ht, MapKept.run_getObj_map hb1, K.check w1 false hkey, g1, hi, g3, K.stays w1 hkey, MapKept.run_setObj_map _ hb1, Result.andThen, setBlock]
end

section
variable {P : Program} {k t E : TypeId} {w : World} {base : Nat} {e : TypeId} {q : IntKind} {b n : Nat} {D : DataW Unit}
/-- What stands behind the reading of an entry that is to be written: however its row grows, the store leaves such a map again. -/
def EntryBack (w0 : World) (P : Program) (t k : TypeId) (base : Nat) (e : TypeId) (q : IntKind) (b n : Nat) (D : DataW Unit) (kl : Lit) (v : Value) (st : Nat) : Prop :=
  ∀ (w1 : World) (v' : Value) (zs' : List Int), w0.grownBy w1 v.ownBlock → w1.ownsInts base e q v' zs' → zs'.length ≤ n + 1 → (v'.ownBlock = v.ownBlock ∨ v'.ownBlock = some w0.heap.size) →
    ∃ w2, (Instr.entryStore t (.map (some b)) (goInt st) v').run P w1 = .ok () w2 ∧ w2.ownsGroups P k base e q b (n + 1) (D.put kl (rowDatum q v' zs')) ∧ w1.grownBy w2 (some b)
theorem aside {o : Option Nat} {b : Nat} (h : o = none ∨ o ≠ some b) : some b ≠ o := fun e => by
  rcases h with q | q
  · rw [q] at e
    cases e
  · exact q e.symm
theorem groups_entry (h : w.ownsGroups P k base e q b n D) (K : KeyLaw P k) (ht : P.underlying t = some (.map k E)) (hz : ∀ u : World, (zeroValue E).run P u = .ok (.slice none 0 0) u) (hn : n < maxLen) {key : Value} {kl : Lit} (hkey : keyOf P k key = some kl) :
    ∃ (v : Value) (zs : List Int) (st : Nat) (w0 : World), (Instr.mapEntry t (.map (some b)) key).run P w = .ok (.tuple #[v, goInt st]) w0 ∧ D.atKey kl .nil = rowDatum q v zs ∧ w0.ownsInts base e q v zs ∧ zs.length ≤ n ∧ w.grownBy w0 (some b) ∧ w0.heap.size = w.heap.size ∧ EntryBack w0 P t k base e q b n D kl v st := by
  obtain ⟨v, zs, hlook, hat, hown, hlen, hback⟩ := h.at (Keyed.of_law K) ht (hz w) hn hkey
  obtain ⟨es, clock, hb, F, hs, hD, hbb, hl, hap⟩ := h
  obtain ⟨v0, st, es1, clock1, hrun, hv0, hst⟩ := entry_then_store K ht hz hb F hkey
  have hv : v0 = v := by
    rcases Maps.fit_look false (Keyed.of_law K) ht (hz w) hb F hkey with ⟨hr, hno, _⟩ | ⟨e0, y, hm0, h3, hr, _⟩
    · rw [hlook] at hr
      obtain rfl : v = .slice none 0 0 := by simpa using hr
      rcases hv0 with ⟨e1, hm1, hk1, _⟩ | ⟨_, rfl⟩
      · exact absurd hk1 (hno e1 hm1)
      · rfl
    · rw [hlook] at hr
      obtain rfl : v = e0.val := by simpa using hr
      rcases hv0 with ⟨e1, hm1, hk1, rfl⟩ | ⟨hno, _⟩
      · have hnd := F.stamped.2.2
        obtain ⟨i, hi, rfl⟩ := List.getElem_of_mem hm1
        obtain ⟨j, hj, rfl⟩ := List.getElem_of_mem hm0
        have e2 : (es.toList.map (·.key))[i]'(by simpa using hi) = (es.toList.map (·.key))[j]'(by simpa using hj) := by
          rw [List.getElem_map, List.getElem_map, hk1, h3]
        have := (List.getElem_inj hnd).1 e2
        subst this
        rfl
      · exact absurd h3 (hno e0 hm0)
  subst hv
  have hg0 : w.grownBy (setBlock w b (.map es1 clock1)) (some b) := ⟨rfl, rfl, rfl, by simp [setBlock], fun i _ hi => heap_setBlock_other hb _ (fun e1 => hi (by rw [e1]))⟩
  have hvb : v0.ownBlock = none ∨ v0.ownBlock ≠ some b := by
    cases hu : v0.ownBlock with
    | none => exact .inl rfl
    | some g =>
      refine .inr fun e1 => ?_
      have := (hown.1.lt g hu).1
      cases e1
      omega
  refine ⟨v0, zs, st, _, hrun, hat, hown.kept hg0 hvb, hlen, hg0, by simp [setBlock], fun w1 v' zs' hg hown' hl' hloc => ?_⟩
  have hblt : b < w.heap.size := (Array.getElem?_eq_some_iff.1 hb).1
  have hsz : (setBlock w b (.map es1 clock1)).heap.size = w.heap.size := by simp [setBlock]
  have hb1 : w1.heap[b]? = some (.map es1 clock1) := (hg.block b (by rw [hsz]; exact hblt) (aside hvb)).trans (heap_setBlock_same hb _)
  obtain ⟨es', clock', hstore, hupd⟩ := hst w1 v' hb1
  -- the same world with the map as it was
  have hb2 : (setBlock w1 b (.map es clock)).heap[b]? = some (.map es clock) := heap_setBlock_same hb1 _
  have hv'b : v'.ownBlock = none ∨ v'.ownBlock ≠ some b := by
    cases hu : v'.ownBlock with
    | none => exact .inl rfl
    | some g =>
      refine .inr fun e1 => ?_
      have := (hown'.1.lt g hu).1
      cases e1
      omega
  have hgb : w1.grownBy (setBlock w1 b (.map es clock)) (some b) := ⟨rfl, rfl, rfl, by simp [setBlock], fun i _ hi => heap_setBlock_other hb1 _ (fun e1 => hi (by rw [e1]))⟩
  have hgw : w.grownBy (setBlock w1 b (.map es clock)) v0.ownBlock := by
    refine ⟨hg.os, hg.tape, hg.output, by rw [show (setBlock w1 b (.map es clock)).heap.size = w1.heap.size by simp [setBlock], ← hsz]; exact hg.size, fun i hi hne => ?_⟩
    by_cases hib : i = b
    · subst hib
      rw [hb2, hb]
    · rw [heap_setBlock_other hb1 _ hib, hg.block i (by rw [hsz]; exact hi) hne]
      exact heap_setBlock_other hb _ hib
  obtain ⟨w2, hrun2, ho2, _⟩ := hback (setBlock w1 b (.map es clock)) v' zs' hgw (hown'.kept hgb hv'b) hl' (hloc.imp id fun h => ⟨_, h, Nat.le_of_eq hsz.symm⟩)
  have hks : ∀ x ∈ es.toList, ∃ l, keyOf P k x.key = some l := F.keys
  have hal := update_alike K ht hb hb2 F.stamped hks hkey hupd
  rw [hal] at hrun2
  obtain rfl : setBlock (setBlock w1 b (.map es clock)) b (.map es' clock') = w2 := by simpa using hrun2
  have e3 : setBlock (setBlock w1 b (.map es clock)) b (.map es' clock') = setBlock w1 b (.map es' clock') := by
    simp [setBlock]
  rw [e3] at ho2
  exact ⟨_, hstore, ho2, ⟨rfl, rfl, rfl, by simp [setBlock], fun i _ hi => heap_setBlock_other hb1 _ (fun e1 => hi (by rw [e1]))⟩⟩
end
/-- 'm[k] = append(m[k], ..)' first reads the entry .. -/
theorem wpList_entry_groups {P : Program} (w : World) {ops : Array Oper} {rest : List Oper} {o : Oper} {a : Act} {Q : Exit → Act → World → Prop} (hg : o.guard = none) (m x : Operand) (t : TypeId) (hop : o.op = Op.mapEntry t m x)
    (k E e : TypeId) (q : IntKind) (K : KeyLaw P k) (ht : P.underlying t = some (.map k E)) (hz : ∀ u : World, (zeroValue E).run P u = .ok (.slice none 0 0) u) (base b n : Nat) (D : DataW Unit)
    (hm : a.eval m = .map (some b)) (hown : w.ownsGroups P k base e q b n D) (hn : n < maxLen) (key : Value) (kl : Lit) (hx : a.eval x = key) (hkey : keyOf P k key = some kl)
    (hK : ∀ (v : Value) (zs : List Int) (st : Nat) (w0 : World), D.atKey kl .nil = rowDatum q v zs → w0.ownsInts base e q v zs → zs.length ≤ n → w.grownBy w0 (some b) → w0.heap.size = w.heap.size → EntryBack w0 P t k base e q b n D kl v st → wpList P ops Q rest (a.put o.dst (.tuple #[v, goInt st])) w0) :
    wpList P ops Q (o :: rest) a w := by
  refine wpList_plain hg fun K' hK' => ?_
  obtain ⟨v, zs, st, w0, hrun, h1, h2, h3, h4, h5, h6⟩ := groups_entry hown K ht hz hn hkey
  unfold Oper.wp
  simp [execOp, hop, hm, hx, hrun, Result.andThen]
  exact hK' _ _ (hK v zs st w0 h1 h2 h3 h4 h5 h6)
/-- .. and then stores behind it. -/
theorem wpList_entry_back {P : Program} (w : World) {ops : Array Oper} {rest : List Oper} {o : Oper} {a : Act} {Q : Exit → Act → World → Prop} (hg : o.guard = none) (m s v : Operand) (t : TypeId) (hop : o.op = Op.entryStore t m s v)
    {w0 : World} {k : TypeId} {base : Nat} {e : TypeId} {q : IntKind} {b n : Nat} {D : DataW Unit} {kl : Lit} {u v' : Value} {st : Nat} {zs' : List Int} (hback : EntryBack w0 P t k base e q b n D kl u st)
    (hm : a.eval m = .map (some b)) (hs : a.eval s = goInt st) (hv : a.eval v = v') (hgr : w0.grownBy w u.ownBlock) (hown' : w.ownsInts base e q v' zs') (hl' : zs'.length ≤ n + 1) (hloc : v'.ownBlock = u.ownBlock ∨ v'.ownBlock = some w0.heap.size)
    (hK : ∀ w2 : World, w2.ownsGroups P k base e q b (n + 1) (D.put kl (rowDatum q v' zs')) → w.grownBy w2 (some b) → wpList P ops Q rest (a.put o.dst undef) w2) :
    wpList P ops Q (o :: rest) a w := by
  refine wpList_plain hg fun K' hK' => ?_
  obtain ⟨w2, hrun, r1, r2⟩ := hback w v' zs' hgr hown' hl' hloc
  unfold Oper.wp
  simp [execOp, hop, hm, hs, hv, hrun, Result.andThen]
  exact hK' _ _ (hK w2 r1 r2)
end Go.Proofs.Ytahacjfeopjbaaa
/-
  Words for layer 18's maps: what is read, and choices, as keys of a map; the map of who writes over what was read, and the set of what is decided.
  Conditions: none beyond those that each theorem states.
-/
set_option maxRecDepth 4000
namespace Go.Proofs.Ytahacjfeopjbaaa
open Go.RowKit
open Go.Maps (Keyed IsMap)
open Go.WideMaps (KeyLaw)
open Go.ChangeShapes (lits)

theorem key_int (d : Nat) {n : Int} (hn : okN n) : Try.prog.keyLits (d + 1) 3 [.int .i64 n] = some [.int .i64 n] := by
  have hn' : (Lit.int .i64 n).wf = true := hn
  unfold Program.keyLits
  rw [Try.underlying3]
  simp [hn']

/-! What is read. -/
theorem take_row : (62 : TypeId) < Try.prog.types.size := of_decide_eq_true (by kernel_rfl)
theorem take_wide : (match Try.prog.underlying 62 with | some (.array _ _) | some (.struct _) => true | _ => false) = true := by kernel_rfl
theorem take_law : KeyLaw Try.prog 62 := deep_law_laid so_laid (m := 2) (by omega) take_row (by kernel_rfl) take_wide
def takeLit (k f : Int) : Lit := .string (keyBytes [.int .i64 k, .int .i64 f])
theorem take_lits (d : Nat) {k f : Int} (hk : okN k) (hf : okN f) : Try.prog.keyLits (d + 2) 62 [.int .i64 k, .int .i64 f] = some [.int .i64 k, .int .i64 f] := by
  have c : Try.prog.cellsOf 62 = 2 := by kernel_rfl
  have ci : Try.prog.cellsOf 3 = 1 := by kernel_rfl
  unfold Program.keyLits
  rw [Try.underlying62]
  simp [c, ci, key_int _ hk, key_int _ hf]
theorem take_key {k f : Int} (hk : okN k) (hf : okN f) : keyOf Try.prog 62 (.agg #[.int .i64 k, .int .i64 f]) = some (takeLit k f) := by
  have c : Try.prog.cellsOf 62 = 2 := by kernel_rfl
  have hT : Try.prog.keyType 62 = true := by kernel_rfl
  have hfm : (Value.agg #[.int .i64 k, .int .i64 f]).formed Try.prog 62 = true := by simp [Value.formed, Try.underlying62, c]
  obtain ⟨d, hd⟩ : ∃ d, Try.prog.types.size + 1 = d + 2 := ⟨Try.prog.types.size - 1, by have h : 0 < Try.prog.types.size := Nat.lt_of_le_of_lt (Nat.zero_le _) take_row; omega⟩
  have hl := take_lits d hk hf
  unfold keyOf
  rw [Try.underlying62, hT, hfm, hd]
  simp only [Value.cells, Bool.and_self, if_true, hl, Option.map_some, takeLit]
theorem take_ne {k f k' f' : Int} (hk : okN k) (hf : okN f) (hk' : okN k') (hf' : okN f') (h : ¬ (k = k' ∧ f = f')) : takeLit k f ≠ takeLit k' f' := fun e => by
  have h1 := take_key hk hf
  rw [e] at h1
  have := take_law.inj h1 (take_key hk' hf')
  simp at this
  exact h this
theorem take_lit (k f : Int) : WideAt.IsKeyLit (takeLit k f) := trivial

/-! Choices. -/
theorem choice_row : (38 : TypeId) < Try.prog.types.size := of_decide_eq_true (by kernel_rfl)
theorem choice_wide : (match Try.prog.underlying 38 with | some (.array _ _) | some (.struct _) => true | _ => false) = true := by kernel_rfl
theorem choice_law : Keyed Try.prog 38 := Keyed.of_law (deep_law_laid so_laid (m := 2) (by omega) choice_row (by kernel_rfl) choice_wide)
def choiceLit (c : Int × Int × Int) : Lit := .string (keyBytes [.int .i64 c.1, .int .i64 c.2.1, .int .i64 c.2.2])
/-- Its three numbers are numbers of their kind. -/
def okC (c : Int × Int × Int) : Prop := okN c.1 ∧ okN c.2.1 ∧ okN c.2.2
theorem choice_lits (d : Nat) {c : Int × Int × Int} (h : okC c) : Try.prog.keyLits (d + 2) 38 [.int .i64 c.1, .int .i64 c.2.1, .int .i64 c.2.2] = some [.int .i64 c.1, .int .i64 c.2.1, .int .i64 c.2.2] := by
  have cc : Try.prog.cellsOf 38 = 3 := by kernel_rfl
  have ci : Try.prog.cellsOf 3 = 1 := by kernel_rfl
  unfold Program.keyLits
  rw [Try.underlying38]
  simp [cc, ci, key_int _ h.1, key_int _ h.2.1, key_int _ h.2.2]
theorem choice_key {c : Int × Int × Int} (h : okC c) : keyOf Try.prog 38 (.agg #[.int .i64 c.1, .int .i64 c.2.1, .int .i64 c.2.2]) = some (choiceLit c) := by
  have cc : Try.prog.cellsOf 38 = 3 := by kernel_rfl
  have hT : Try.prog.keyType 38 = true := by kernel_rfl
  have hfm : (Value.agg #[.int .i64 c.1, .int .i64 c.2.1, .int .i64 c.2.2]).formed Try.prog 38 = true := by simp [Value.formed, Try.underlying38, cc]
  obtain ⟨d, hd⟩ : ∃ d, Try.prog.types.size + 1 = d + 2 := ⟨Try.prog.types.size - 1, by have h : 0 < Try.prog.types.size := Nat.lt_of_le_of_lt (Nat.zero_le _) choice_row; omega⟩
  have hl := choice_lits d h
  unfold keyOf
  rw [Try.underlying38, hT, hfm, hd]
  simp only [Value.cells, Bool.and_self, if_true, hl, Option.map_some, choiceLit]
theorem choice_ne {c d : Int × Int × Int} (hc : okC c) (hd : okC d) (h : c ≠ d) : choiceLit c ≠ choiceLit d := fun e => by
  have h1 := choice_key hc
  rw [e] at h1
  have := choice_law.inj h1 (choice_key hd)
  simp at this
  exact h (Prod.ext this.1 (Prod.ext this.2.1 this.2.2))
theorem choice_lit (c : Int × Int × Int) : WideAt.IsKeyLit (choiceLit c) := trivial
theorem okN_nat {n : Nat} (h : n ≤ 4294967296) : okN (n : Int) := okN_small (Int.natCast_nonneg n) (by omega)
theorem okC_one {h : List So.Txn} (hr : Hi.Right h) {c : Int × Int × Int} (hc : Ch.oneB h c = true) : okC c := by
  obtain ⟨a, b, e, _, ha, hb⟩ := Ch.oneB_iff.1 hc
  obtain ⟨n, en, hn⟩ := Ch.wr_key hr ha
  have h32 := hr.1
  have := Ch.wr_lt ha
  have := Ch.wr_lt hb
  rw [e]
  exact ⟨by rw [en]; exact okN_nat (by omega), okN_nat (by omega), okN_nat (by omega)⟩
theorem okC_back {c : Int × Int × Int} (h : okC c) : okC (Ch.back c) := ⟨h.1, h.2.2, h.2.1⟩

/-! Who writes over what was read. -/
def litInt : DataW Unit → Option Int
  | .lit (.int _ z) => some z
  | _ => none
def itemsOf : DataW Unit → List Int
  | .slice ds _ => ds.filterMap litInt
  | _ => []
theorem items_lits (q : IntKind) (zs : List Int) : itemsOf (.slice (lits q zs) []) = zs := by
  show (zs.map fun n => (DataW.lit (.int q n) : DataW Unit)).filterMap litInt = zs
  induction zs with
  | nil => rfl
  | cons z zs ih => rw [List.map_cons, List.filterMap_cons, ih]; rfl
theorem items_row {w : World} {base : Nat} {e : TypeId} {q : IntKind} {v : Value} {zs : List Int} (h : w.ownsInts base e q v zs) : itemsOf (rowDatum q v zs) = zs := by
  rcases h.datum (H := Unit) with ⟨e1, e2⟩ | e1
  · rw [e1, e2]; rfl
  · rw [e1, items_lits]
def Ovs (D : DataW Unit) (l : List (Int × Int × Int)) : Prop := ∀ y : Int × Int, okN y.1 → okN y.2 → itemsOf (D.atKey (takeLit y.1 y.2) .nil) = Ch.over l y
theorem Ovs.start : Ovs (.map []) [] := fun _ _ _ => rfl
theorem Ovs.put {D d : DataW Unit} {l : List (Int × Int × Int)} {c : Int × Int × Int} (h : Ovs D l) (hD : IsMap D) (hc : okC c) (hd : itemsOf d = Ch.over l (c.1, c.2.1) ++ [c.2.2]) : Ovs (D.put (takeLit c.1 c.2.1) d) (l ++ [c]) := fun y h1 h2 => by
  rw [Ch.over_snoc]
  by_cases q : c.1 = y.1 ∧ c.2.1 = y.2
  · obtain ⟨y1, y2⟩ := y
    obtain ⟨rfl, rfl⟩ := q
    rw [if_pos ⟨rfl, rfl⟩, Maps.atKey_put_same hD (take_lit _ _), hd]
  · rw [if_neg q, List.append_nil, Maps.atKey_put_other (take_ne h1 h2 hc.1 hc.2.1 (fun r => q ⟨r.1.symm, r.2.symm⟩))]
    exact h y h1 h2
/-- Such a map, as it is kept while other blocks turn and memory is made. -/
theorem groups_stay {w w' : World} {k : TypeId} {base : Nat} {e : TypeId} {q : IntKind} {b n : Nat} {D : DataW Unit} {row : Option Nat} (h : w.ownsGroups Try.prog k base e q b n D) (hg : w.grownBy w' row) (hr : ∀ j, row = some j → j < b) : w'.ownsGroups Try.prog k base e q b n D := by
  refine World.ownsGroups.kept h hg (fun e => absurd (hr b e.symm) (Nat.lt_irrefl _)) (World.ownsGroups.rowsAbove h fun j hj => ?_)
  obtain ⟨_, _, _, _, _, _, hbb, _⟩ := h
  exact Nat.lt_trans (hr j hj) hbb
theorem groups_later {w w' : World} {k : TypeId} {base : Nat} {e : TypeId} {q : IntKind} {b n : Nat} {D : DataW Unit} (h : w.ownsGroups Try.prog k base e q b n D) (hb : Below w.heap.size w w') : w'.ownsGroups Try.prog k base e q b n D :=
  groups_stay h (row := none) ⟨hb.os, hb.tape, hb.output, hb.size, fun k hk _ => hb.block k hk⟩ (fun j hj => by cases hj)
theorem groups_save {w w' : World} {k : TypeId} {base : Nat} {e : TypeId} {q : IntKind} {b g n : Nat} {D : DataW Unit} (h : w.ownsGroups Try.prog k base e q b n D) (hs : Save g (g + 1) w w') (hg : g < b) : w'.ownsGroups Try.prog k base e q b n D :=
  groups_stay h (row := some g) ⟨hs.os, hs.tape, hs.output, hs.size, fun k hk hne => hs.block k hk (by
    have : k ≠ g := fun e => hne (by rw [e])
    omega)⟩ (fun j hj => by cases hj; exact hg)
/-- What an entry's row holds, as the walk spells it. -/
theorem ints_spelled {w : World} {base : Nat} {v : Value} {zs : List Int} (h : w.ownsInts base 3 .i64 v zs) : ∃ A c, v = .slice A zs.length c ∧ ∀ (j : Nat) (hj : j < zs.length), ∃ ad : Addr, A = some ad ∧ base ≤ ad.block ∧ w.cell? (ad.add j) = some (.int .i64 zs[j]) := by
  have e : zs.flatMap nC = zs.map (Value.int .i64) := by
    clear h
    induction zs with
    | nil => rfl
    | cons z zs ih => rw [List.map_cons, List.flatMap_cons, ih]; rfl
  have h1 := h.1
  rw [← e] at h1
  obtain ⟨A, c, hv, hh⟩ := Ns.spelled (Rows'.own h1)
  refine ⟨A, c, hv, fun j hj => ?_⟩
  obtain ⟨ad, ea, _, hc⟩ := hh j hj
  exact ⟨ad, ea, (World.ownsRow.lt h1 ad.block (by rw [hv, ea]; rfl)).1, hc⟩

/-! What is decided. -/
def Dec (D : DataW Unit) (l : List (Int × Int × Int)) : Prop := ∀ c, okC c → Maps.has D (choiceLit c) = (l.contains c || l.contains (Ch.back c))
theorem Dec.start : Dec (.map []) [] := fun _ _ => rfl
theorem Dec.put {D u : DataW Unit} {l : List (Int × Int × Int)} {c : Int × Int × Int} (h : Dec D l) (hD : IsMap D) (hc : okC c) : Dec ((D.put (choiceLit c) u).put (choiceLit (Ch.back c)) u) (l ++ [c]) := fun x hx => by
  have e : ∀ y : Int × Int × Int, (l ++ [c]).contains y = (l.contains y || (y == c)) := fun y => by
    rw [Bool.eq_iff_iff, Bool.or_eq_true, List.contains_iff_mem, List.contains_iff_mem, List.mem_append, List.mem_singleton, beq_iff_eq]
  rw [e, e]
  by_cases q2 : x = Ch.back c
  · subst q2
    rw [Maps.has_put_same (hD.put _ _) (choice_lit _), Ch.back_back]
    simp
  · rw [Maps.has_put_other (choice_ne hx (okC_back hc) q2)]
    by_cases q1 : x = c
    · subst q1
      rw [Maps.has_put_same hD (choice_lit _)]
      simp
    · rw [Maps.has_put_other (choice_ne hx hc q1), h x hx]
      have n1 : (x == c) = false := by rw [beq_eq_false_iff_ne]; exact q1
      have n2 : (Ch.back x == c) = false := by
        rw [beq_eq_false_iff_ne]
        intro r
        exact q2 (by rw [← r, Ch.back_back])
      rw [n1, n2, Bool.or_false, Bool.or_false]
theorem dec_open {D : DataW Unit} {l : List (Int × Int × Int)} {p : Nat × Nat × Nat} (h : Dec D l) (hp : okC (Ch.toI p)) : Maps.has D (choiceLit (Ch.toI p)) = !Ch.openB l p := by
  rw [h _ hp, Ch.openB, Bool.not_and, Bool.not_not, Bool.not_not]
end Go.Proofs.Ytahacjfeopjbaaa
/-
  What choice.with answers, and a graph in a variable that is changed.
  Conditions: the graph may be, the edge is between nodes.
-/
set_option maxRecDepth 4000
namespace Go.Proofs.Ytahacjfeopjbaaa
open Go.RowKit

/-- A graph of n nodes whose sets lie in memory that is the call's own. -/
def RetW (w : World) (base n : Nat) (r : List Nat) (e : Ending) (w' : World) : Prop := ∃ A c, e = .returned (.agg #[.int .i64 (n : Int), .slice A n c]) ∧ OwnU w' base (.slice A n c) r ∧ Below w.heap.size w w'
theorem chWith_at (base n : Nat) (A : Option Addr) (c : Nat) (r : List Nat) (x y : Nat) (w : World) (hok : Gf.Ok n r) (ho : OwnU w base (.slice A n c) r) (hx : x < n) (hy : y < n) (hbase : base ≤ w.heap.size) :
    Calls Try.prog 31 #[.agg #[.int .i64 (n : Int), .slice A n c], .int .i64 (x : Int), .int .i64 (y : Int)] w (RetW w base n (Kn.addE r (x, y))) := by
  have F1 := Lib.hid (fun w hu => gfHas_at (n : Int) (.slice A n c) r (x : Int) (y : Int) w hu (fun s hs => hok.small hs))
  rw [Gf.hasR_nat hok hx hy] at F1
  have F2 := Lib.hid (fun w hu => gfAdd_at n (.slice A n c) r x y w hu hok hx hy)
  have HAL : Hid ((Gf.addR r x y).length = n) := (Gf.add_ok hok hx hy).2.1
  have O := Lib.hid ho
  have HBS := Lib.hid hbase
  have G1 := alloc_below w (.cells #[.int .i64 (n : Int), .slice A n c] 32)
  have G2 := alloc_below (w.alloc (.cells #[.int .i64 (n : Int), .slice A n c] 32)) (.cells #[.int .i64 0, .slice none 0 0] 32)
  have t1 := Two.new (w.alloc (.cells #[.int .i64 (n : Int), .slice A n c] 32)) 32 (.int .i64 0) (.slice none 0 0)
  rw [World.size_alloc] at t1
  have T0 := Lib.hid ((Two.new w 32 (.int .i64 (n : Int)) (.slice A n c)).later G2)
  have T1 := Lib.hid t1
  have BW := Lib.hid (below_all G1 G2)
  clear G1 G2 t1 ho hok hbase hx hy
  cases hbit : Gf.bit r x y with
  | true =>
    rw [hbit] at F1
    have HE : Kn.addE r (x, y) = r := if_pos hbit
    rw [HE]
    clear hbit HE F2
    go_enter Try.func31, Try.ntmps31
    go_upto_region 1 with fail
    generalize (w.alloc (.cells #[.int .i64 (n : Int), .slice A n c] 32)).alloc (.cells #[.int .i64 0, .slice none 0 0] 32) = W at *
    obtain ⟨c0, c1⟩ := T0.out.cells
    go_wp2_with fail
    refine (F1.out _ (O.out.below BW.out).us).mono ?_
    rintro e w1 ⟨rfl, hb1⟩
    have B1 := Lib.hid (below_all BW.out hb1)
    have T01 := Lib.hid (T0.out.later hb1)
    have T11 := Lib.hid (T1.out.later hb1)
    have O1 := Lib.hid (O.out.below B1.out)
    clear hb1 c0 c1
    obtain ⟨c0, c1⟩ := T01.out.cells
    obtain ⟨r0, r1⟩ := T11.out.cells
    have f0 := T11.out.frozen 0
    have f1 := T11.out.frozen 1
    go_wp2_with fail
    have hne : (Value.slice A n c).ownBlock ≠ some (w.heap.size + 1) := fun e => own_not_gr O1.out T11.out e
    have p := (T11.out.put (x := .int .i64 (n : Int)) (y := .slice A n c)).cells
    exact bodyPost_ret (res_gr rfl _ (w.heap.size + 1) _ n A n c rfl p.1 p.2) rfl ⟨A, c, rfl, own_aside (own_aside O1.out hne) hne, (B1.out.setCell (p := ⟨w.heap.size + 1, 0, none⟩) (Nat.le_succ _) _).setCell (p := ⟨w.heap.size + 1, 1, none⟩) (Nat.le_succ _) _⟩
  | false =>
    rw [hbit] at F1
    have HE : Kn.addE r (x, y) = Gf.addR r x y := if_neg (by rw [hbit]; simp)
    rw [HE]
    clear hbit HE
    go_enter Try.func31, Try.ntmps31
    go_upto_region 1 with fail
    generalize (w.alloc (.cells #[.int .i64 (n : Int), .slice A n c] 32)).alloc (.cells #[.int .i64 0, .slice none 0 0] 32) = W at *
    obtain ⟨c0, c1⟩ := T0.out.cells
    go_wp2_with fail
    refine (F1.out _ (O.out.below BW.out).us).mono ?_
    rintro e w1 ⟨rfl, hb1⟩
    have B1 := Lib.hid (below_all BW.out hb1)
    have T01 := Lib.hid (T0.out.later hb1)
    have T11 := Lib.hid (T1.out.later hb1)
    have O1 := Lib.hid (O.out.below B1.out)
    clear hb1 c0 c1
    obtain ⟨c0, c1⟩ := T01.out.cells
    go_wp2_with fail
    refine (F2.out _ O1.out.us).mono ?_
    rintro e w2 ⟨v2, rfl, ho2, hb2⟩
    obtain ⟨A2, c2, rfl⟩ := ho2.form
    have B2 := Lib.hid (below_all B1.out hb2)
    have HSZ := Lib.hid hb2.size
    have HSB := Lib.hid B1.out.size
    rw [HAL.out] at ho2 ⊢
    have O2 := Lib.hid (ho2.below (alloc_below w2 (.cells #[.int .i64 (n : Int), .slice A2 n c2] 32)))
    have B3 := Lib.hid (below_all B2.out (alloc_below w2 (.cells #[.int .i64 (n : Int), .slice A2 n c2] 32)))
    have T12 := Lib.hid ((T11.out.later hb2).later (alloc_below w2 (.cells #[.int .i64 (n : Int), .slice A2 n c2] 32)))
    have T22 := Lib.hid (Two.new w2 32 (.int .i64 (n : Int)) (.slice A2 n c2))
    have HL := Lib.hid T11.out.lt
    clear ho2 hb2 c0 c1 T01 O1 T11
    go_upto_region 4 with fail
    generalize w2.alloc (.cells #[.int .i64 (n : Int), .slice A2 n c2] 32) = w3 at *
    generalize w2.heap.size = g at *
    obtain ⟨c0, c1⟩ := T22.out.cells
    obtain ⟨r0, r1⟩ := T12.out.cells
    have f0 := T12.out.frozen 0
    have f1 := T12.out.frozen 1
    go_wp2_with fail
    have hne : (Value.slice A2 n c2).ownBlock ≠ some (w.heap.size + 1) := fun e => own_not_gr O2.out T12.out e
    have p := (T12.out.put (x := .int .i64 (n : Int)) (y := .slice A2 n c2)).cells
    exact bodyPost_ret (res_gr rfl _ (w.heap.size + 1) _ n A2 n c2 rfl p.1 p.2) rfl ⟨A2, c2, rfl, World.ownsRow.mono (own_aside (own_aside O2.out hne) hne) (Nat.le_trans HBS.out HSB.out), (B3.out.setCell (p := ⟨w.heap.size + 1, 0, none⟩) (Nat.le_succ _) _).setCell (p := ⟨w.heap.size + 1, 1, none⟩) (Nat.le_succ _) _⟩
/-- Another graph is laid into the variable. -/
theorem GV.put {W : World} {base b n : Nat} {r r' : List Nat} {A : Option Addr} {c : Nat} (h : GV W base b n r) (hok : Gf.Ok n r') (ho : OwnU W base (.slice A n c) r') : GV ((W.setCell ⟨b, 0, none⟩ (.int .i64 (n : Int))).setCell ⟨b, 1, none⟩ (.slice A n c)) base b n r' := by
  obtain ⟨-, A', c', t, -⟩ := h
  have hne : (Value.slice A n c).ownBlock ≠ some b := fun e => own_not_gr ho t e
  exact ⟨hok, A, c, t.put, own_aside (own_aside ho hne) hne⟩
end Go.Proofs.Ytahacjfeopjbaaa
/-
  What choice.overwriters answers: the map of who writes over what was read.
  Conditions: at most 20000 choices, whose numbers are numbers of their kind.
-/
set_option maxRecDepth 4000
namespace Go.Proofs.Ytahacjfeopjbaaa
open Go.RowKit

/-- Such a map, of a call's own. -/
def OverAt (w : World) (b n : Nat) (l : List (Int × Int × Int)) : Prop := ∃ D : DataW Unit, w.ownsGroups Try.prog 62 (b + 1) 3 .i64 b n D ∧ Ovs D l
theorem OverAt.later {w w' : World} {b n : Nat} {l : List (Int × Int × Int)} (h : OverAt w b n l) (hb : Below w.heap.size w w') : OverAt w' b n l := by
  obtain ⟨D, h1, h2⟩ := h
  exact ⟨D, groups_later h1 hb, h2⟩
theorem OverAt.lt {w : World} {b n : Nat} {l : List (Int × Int × Int)} (h : OverAt w b n l) : b < w.heap.size := by
  obtain ⟨D, ⟨_, _, hb, _⟩, _⟩ := h
  exact (Array.getElem?_eq_some_iff.1 hb).1
theorem OverAt.save {w w' : World} {b g n : Nat} {l : List (Int × Int × Int)} (h : OverAt w b n l) (hs : Save g (g + 1) w w') (hg : g < b) : OverAt w' b n l := by
  obtain ⟨D, h1, h2⟩ := h
  exact ⟨D, groups_save h1 hs hg, h2⟩
/-- What lies in it at what was read. -/
theorem OverAt.look {w : World} {b n : Nat} {l : List (Int × Int × Int)} (h : OverAt w b n l) (hn : n < maxLen) {k f : Int} (hk : okN k) (hf : okN f) :
    ∃ v, (Instr.lookup 69 (.map (some b)) (.agg #[.int .i64 k, .int .i64 f]) false).run Try.prog w = .ok v w ∧ w.ownsInts (b + 1) 3 .i64 v (Ch.over l (k, f)) := by
  obtain ⟨D, h1, h2⟩ := h
  obtain ⟨v, zs, hrun, hat, hown, _, _⟩ := h1.at (Maps.Keyed.of_law take_law) Try.underlying69 (by kernel_rfl) hn (take_key hk hf)
  have e := h2 (k, f) hk hf
  rw [hat, items_row hown] at e
  rw [← e]
  exact ⟨v, hrun, hown⟩
def RetOver (w : World) (l : List (Int × Int × Int)) (e : Ending) (w' : World) : Prop := ∃ b, e = .returned (.map (some b)) ∧ w.heap.size ≤ b ∧ OverAt w' b l.length l ∧ Below w.heap.size w w'

set_option maxHeartbeats 2000000 in
theorem chOver_at (l : List (Int × Int × Int)) (v : Value) (w : World) (hv : Tris w v l) (hn : l.length ≤ 20000) (hk : ∀ c ∈ l, okC c) : Calls Try.prog 33 #[v] w (RetOver w l) := by
  obtain ⟨i0, hi0, hz0, hz1, hz2⟩ := info_parts int_info
  have I0 := Lib.hid hi0
  have I1 := Lib.hid hz0
  have I2 := Lib.hid hz1
  have I3 := Lib.hid hz2
  clear hi0 hz0 hz1 hz2
  obtain ⟨A, c, rfl, hform⟩ := hv.spelled
  have HF := Lib.hid hform
  have HK := Lib.hid hk
  have hmm := @run_makeMap Try.prog
  clear hv hform hk
  go_enter Try.func33, Try.ntmps33
  go_wp2_with fail
  have g0 := World.ownsGroups_made (H := Unit) w Try.prog 62 3 .i64
  have b0 := alloc_below w (.map #[] 0)
  generalize hb : w.heap.size = b at *
  generalize w.alloc (.map #[] 0) = W at *
  have G0 := Lib.hid g0
  have B0 := Lib.hid b0
  clear g0 b0
  go_loopw [10] (fun iv wr => ∃ (i : Nat) (D : DataW Unit), i ≤ l.length ∧ iv = .int .i64 i ∧ Hid (wr.ownsGroups Try.prog 62 (b + 1) 3 .i64 b i D) ∧ Hid (Ovs D (l.take i)) ∧ Hid (Below b w wr) ∧ b < wr.heap.size) (fun iv _ => l.length - (intOf iv).toNat)
  case atStart => exact ⟨0, .map [], Nat.zero_le _, rfl, G0.out, Ovs.start, B0.out, (Array.getElem?_eq_some_iff.1 G0.out.choose_spec.choose_spec.1).1⟩
  case round =>
    clear G0 B0
    obtain ⟨i, D, hi, rfl, HG, HD, HB, hbs⟩ := hrel
    by_cases hlt : i < l.length
    · obtain ⟨ad, rfl, hblk, hin⟩ := HF.out i hlt
      have hok := HK.out _ (List.getElem_mem hlt)
      have HNX : Hid (l.take (i + 1) = l.take i ++ [l[i]'hlt]) := List.take_succ_eq_append_getElem hlt
      generalize hz : l[i]'hlt = z at *
      obtain ⟨zk, za, zb⟩ := z
      clear hz
      have HOK := Lib.hid hok
      have hbl : ad.block < w.heap.size := by rw [hb]; exact hblk
      obtain ⟨c0, c1, c2⟩ := hin.below hbl (by rw [hb]; exact HB.out)
      dsimp only at c0 c1 c2
      have q1 := alloc_below wr (.cells #[.int .i64 zk, .int .i64 za, .int .i64 zb] 38)
      have q2 := alloc_below (wr.alloc (.cells #[.int .i64 zk, .int .i64 za, .int .i64 zb] 38)) (.cells #[.int .i64 zk, .int .i64 za] 62)
      have q3 := alloc_below ((wr.alloc (.cells #[.int .i64 zk, .int .i64 za, .int .i64 zb] 38)).alloc (.cells #[.int .i64 zk, .int .i64 za] 62)) (.cells #[.int .i64 zb] 3)
      have HG3 := Lib.hid (groups_later (groups_later (groups_later HG.out q1) q2) q3)
      have HB3 := Lib.hid (((HB.out.trans (q1.mono (Nat.le_of_lt hbs))).trans (q2.mono (Nat.le_trans (Nat.le_of_lt hbs) q1.size))).trans (q3.mono (Nat.le_trans (Nat.le_trans (Nat.le_of_lt hbs) q1.size) q2.size)))
      have HS3 : Hid ((((wr.alloc (.cells #[.int .i64 zk, .int .i64 za, .int .i64 zb] 38)).alloc (.cells #[.int .i64 zk, .int .i64 za] 62)).alloc (.cells #[.int .i64 zb] 3)).heap.size = wr.heap.size + 1 + 1 + 1) := by rw [Hid, World.size_alloc, World.size_alloc, World.size_alloc]
      have n3 := new_one ((wr.alloc (.cells #[.int .i64 zk, .int .i64 za, .int .i64 zb] 38)).alloc (.cells #[.int .i64 zk, .int .i64 za] 62)) (.int .i64 zb) 3
      rw [World.size_alloc, World.size_alloc] at n3
      have N3 := Lib.hid n3
      have HM : Hid (Maps.IsMap D) := by
        obtain ⟨_, _, _, _, _, e, _⟩ := HG.out
        exact ⟨_, e⟩
      have HKY := Lib.hid (take_key hok.1 hok.2.1)
      have HAT := Lib.hid (HD.out (zk, za) hok.1 hok.2.1)
      have HOB : Hid ((Lit.int .i64 zb).wf = true) := hok.2.2
      have H1 : Hid (∀ u ∈ [Value.int .i64 zb], u.oneCell' = true) := fun u hu => by rw [List.mem_singleton.1 hu]; rfl
      clear hin hok q1 q2 q3 n3 HG
      go_wp2_with (first
        | (refine wpList_entry_groups _ rfl (.tmp 19) (.tmp 20) 69 rfl 62 46 3 .i64 take_law Try.underlying69 (fun u => by kernel_rfl) (b + 1) b i D rfl HG3.out (by simp only [maxLen]; omega) _ _ rfl HKY.out ?_; intro v zs st w0 hat hown hzl hgr hsz hback; have HA2 := Lib.hid hat; have HOW := Lib.hid hown; have HBK := Lib.hid hback; have HSZ := Lib.hid (hsz.trans HS3.out); have HB4 := Lib.hid (HB3.out.grown hgr (by rw [HS3.out]; omega) (fun k hk => by cases hk; exact Nat.le_refl _)); have N4 : Hid (∀ j u, [Value.int .i64 zb][j]? = some u → w0.cell? ((⟨wr.heap.size + 1 + 1, 0, none⟩ : Addr).add j) = some u) := (fun j u hu => (World.cell?_of_block (hgr.block _ (by rw [add_block, HS3.out]; show wr.heap.size + 1 + 1 < _; omega) (by rw [add_block]; show some (wr.heap.size + 1 + 1) ≠ some b; intro e; cases e; omega))).trans (N3.out j u hu)); clear hat hown hgr hsz hback)
        | (at_builtin; refine wpList_append_own_at _ rfl _ _ 46 rfl (b + 1) 3 i0 _ 1 8 Try.underlying46 I0.out I1.out I2.out I3.out rfl (by decide) _ _ _ rfl HOW.out.1 ⟨wr.heap.size + 1 + 1, 0, none⟩ 1 1 [.int .i64 zb] rfl rfl N4.out H1.out (by simp only [maxLen]; omega) (by omega) (by rw [HSZ.out]; omega) ?_; intro v' w1 hown' hgrow hnil hat'; have HO2 := Lib.hid (HOW.out.appended hown' HOB.out); have HGR := Lib.hid hgrow; have HLC := Lib.hid hat'; have HB5 := Lib.hid (HB4.out.grown hgrow (by rw [HSZ.out]; omega) (fun k hk => Nat.le_of_succ_le (HOW.out.1.lt k hk).1)); clear hown' hgrow hnil hat')
        | (refine wpList_entry_back _ rfl (.tmp 19) (.tmp 27) (.tmp 26) 69 rfl HBK.out rfl rfl rfl HGR.out HO2.out (by rw [List.length_append]; simp only [List.length_singleton]; omega) HLC.out ?_; intro w2 hg2 hgr2; have HG6 := Lib.hid hg2; have HGR2 := Lib.hid hgr2; clear hg2 hgr2))
      have hs1 := HGR.out.size
      have hs0 := HSZ.out
      have hs2 := HGR2.out.size
      have HB6 : Hid (Below b w w2) := HB5.out.grown HGR2.out (by omega) (fun k hk => by cases hk; exact Nat.le_refl _)
      have HZ : Hid (zs = Ch.over (l.take i) (zk, za)) := by
        have e := HAT.out
        rw [HA2.out, items_row HOW.out] at e
        exact e
      have hd1 := Ovs.put (D := D) (d := rowDatum .i64 v' (zs ++ [zb])) (l := l.take i) (c := (zk, za, zb)) HD.out HM.out HOK.out (by rw [items_row HO2.out, HZ.out])
      rw [← HNX.out] at hd1
      have HD2 := Lib.hid hd1
      clear hd1
      go_roundw
      case rel => exact ⟨i + 1, _, by omega, by go_num, HG6.out, HD2.out, HB6.out, by omega⟩
      case measure => simp [intOf]; omega
    · obtain rfl : i = l.length := by omega
      rw [List.take_length] at HD
      go_wp2_with fail
      go_ret
      subst hb
      exact ⟨_, rfl, Nat.le_refl _, ⟨D, HG.out, HD.out⟩, HB.out⟩
end Go.Proofs.Ytahacjfeopjbaaa
/-
  What choice.writes and choice.Right answer.
  Conditions: a history's rows and the choices have at most 2^32 elements.
-/
set_option maxRecDepth 4000
namespace Go.Proofs.Ytahacjfeopjbaaa
open Go.RowKit

theorem Ch.one_writer (h : List So.Txn) (c : Int × Int × Int) : Ch.oneB h c = (decide (c.2.1 ≠ c.2.2) && (Hi.writerB h c.2.1 c.1 && Hi.writerB h c.2.2 c.1)) := by
  have key : ∀ a k, Hi.writerB h a k = (Gf.isN (h.length : Int) a && Ix.writes h k a.toNat) := fun a k => by
    by_cases h0 : a < 0
    · rw [Hi.writerB_neg h a k h0, Gf.isN, decide_eq_false (by omega)]
      rfl
    · obtain ⟨j, rfl⟩ := Int.eq_ofNat_of_zero_le (show 0 ≤ a by omega)
      by_cases h1 : j < h.length
      · rw [Hi.writerB_at h j h1, Gf.isN_yes h1, Bool.true_and, Ix.writes, Int.toNat_natCast, List.getElem?_eq_getElem h1]
      · rw [Hi.writerB_out h j k (by omega), Gf.isN, decide_eq_false (show ¬ (j : Int) < (h.length : Int) by omega), Bool.and_false]
        rfl
  rw [key, key, Ch.oneB]
  cases Gf.isN (h.length : Int) c.2.1 <;> cases Gf.isN (h.length : Int) c.2.2 <;> simp

theorem chWrites_at (h : List So.Txn) (u : Value) (n key : Int) (w : World) (hv : Txns w u h) (ho : ∀ t ∈ h, t.writes.length ≤ 4294967296) :
    Calls Try.prog 41 #[.agg #[u], .int .i64 n, .int .i64 key] w (RetBool w (Hi.writerB h n key)) := by
  have HB := Lib.hid (alloc_below w (.cells #[u] 24))
  obtain ⟨A, c, rfl, hform⟩ := (hv.below HB.out).spelled
  have HF := Lib.hid hform
  have HO := Lib.hid ho
  clear hform hv ho
  by_cases h0 : n < 0
  · have d0 : decide ((0 : Int) ≤ n) = false := decide_eq_false (by omega)
    have HR := Lib.hid (Hi.writerB_neg h n key h0)
    clear h0
    go_enter Try.func41, Try.ntmps41
    go_wp2_with fail
    go_ret
    exact ⟨ret_bool HR.out.symm, HB.out⟩
  · have d0 : decide ((0 : Int) ≤ n) = true := decide_eq_true (by omega)
    by_cases h1 : n < (h.length : Int)
    · obtain ⟨j, rfl⟩ := Int.eq_ofNat_of_zero_le (show 0 ≤ n by omega)
      have hlt : j < h.length := by omega
      have d1 : decide ((j : Int) < (h.length : Int)) = true := decide_eq_true h1
      obtain ⟨ad, x, y, rfl, hblk, hE, hx, _⟩ := HF.out j hlt
      have HR := Lib.hid (Hi.writerB_at h j hlt key)
      have HX := Lib.hid hx
      have HL := Lib.hid (HO.out _ (List.getElem_mem hlt))
      obtain ⟨_, c1, _⟩ := hE
      obtain ⟨A', c', rfl, _⟩ := hx.spelled
      clear hx h0 h1
      go_enter Try.func41, Try.ntmps41
      go_wp2_with fail
      refine (intContains_at _ key _ _ HX.out HL.out).mono ?_
      rintro e w1 ⟨rfl, rfl⟩
      go_wp2_with fail
      go_ret
      exact ⟨ret_bool HR.out.symm, HB.out⟩
    · have d1 : decide (n < (h.length : Int)) = false := decide_eq_false h1
      have HR := Lib.hid (Hi.writerB_out h n key (by omega))
      clear h0 h1
      go_enter Try.func41, Try.ntmps41
      go_wp2_with fail
      go_ret
      exact ⟨ret_bool HR.out.symm, HB.out⟩

set_option maxHeartbeats 4000000 in
theorem chRight_at (h : List So.Txn) (u : Value) (l : List (Int × Int × Int)) (v : Value) (w : World) (hu : Txns w u h) (hl : Tris w v l) (hs : Ix.Small h) (hn : l.length ≤ 4294967296) : Calls Try.prog 15 #[.agg #[u], v] w (RetBool w (Ch.rightC h l)) := by
  have HV := Lib.hid hu
  obtain ⟨A, c, rfl, -⟩ := hu.spelled
  obtain ⟨B, d, rfl, hf⟩ := hl.spelled
  have HF := Lib.hid hf
  have N_h := Lib.hid (Boxed.new w 24 (.slice A h.length c))
  have BW := Lib.hid (alloc_below w (.cells #[.slice A h.length c] 24))
  have V_h := Lib.hid (HV.out.below BW.out)
  have FR := Lib.hid (fun w hw => hRight_at h (.slice A h.length c) w hw hs.2)
  have F1 := Lib.hid (fun w a k hw => chWrites_at h (.slice A h.length c) a k w hw (fun t ht => (hs.2 t ht).1))
  clear hu hl hf hs
  have HC : Hid (Ch.rightC h l = (Hi.rightB h && (decide (l.length ≤ 20000) && l.all (Ch.oneB h)))) := rfl
  generalize Ch.rightC h l = res at *
  go_enter Try.func15, Try.ntmps15
  go_upto_region 1 with fail
  generalize w.alloc (.cells #[.slice A h.length c] 24) = W0 at *
  have h0 := N_h.out.cell
  go_wp2_with fail
  refine (FR.out _ V_h.out).mono ?_
  rintro e W1 ⟨rfl, hb⟩
  have S1 := Lib.hid hb
  clear hb h0
  cases hr : Hi.rightB h with
  | false =>
    obtain rfl : res = false := by rw [HC.out, hr, Bool.false_and]
    clear hr
    go_wp2_with fail
    go_ret
    exact ⟨rfl, below_all BW.out S1.out⟩
  | true =>
  by_cases hm : 20000 < l.length
  ·
    have d0 : decide ((20000 : Int) < (l.length : Int)) = true := decide_eq_true (by omega)
    obtain rfl : res = false := by rw [HC.out, decide_eq_false (by omega), Bool.false_and, Bool.and_false]
    clear hr
    go_wp2_with fail
    go_ret
    exact ⟨rfl, below_all BW.out S1.out⟩
  have d0 : decide ((20000 : Int) < (l.length : Int)) = false := decide_eq_false (by omega)
  have HC2 : Hid (res = l.all (Ch.oneB h)) := by rw [Hid, HC.out, hr, Bool.true_and, decide_eq_true (by omega), Bool.true_and]
  clear hr
  go_wp2_with fail
  clear d0
  go_loopw [17] (fun ix wr => ∃ i : Nat, i ≤ l.length ∧ ix = .int .i64 i ∧ Hid (∀ j (hj : j < l.length), j < i → Ch.oneB h l[j] = true) ∧ Hid (Below W1.heap.size W1 wr)) (fun ix _ => l.length - (intOf ix).toNat)
  case atStart => exact ⟨0, Nat.zero_le _, rfl, fun j _ q => absurd q (Nat.not_lt_zero j), Below.refl _ _⟩
  case round =>
    obtain ⟨i, hi, rfl, HI, HB⟩ := hrel
    by_cases hlt : i < l.length
    ·
      obtain ⟨ad, rfl, hbl, hin⟩ := HF.out i hlt
      have hin2 := hin.below hbl (below_all BW.out (below_all S1.out HB))
      have HALL : Hid (Ch.oneB h (l[i]'hlt) = false → l.all (Ch.oneB h) = false) := fun q => List.all_eq_false.2 ⟨_, List.getElem_mem hlt, by rw [q]; simp⟩
      have HNX : Hid (Ch.oneB h (l[i]'hlt) = true → ∀ j (hj : j < l.length), j < i + 1 → Ch.oneB h l[j] = true) := fun q j hj hji => by
        rcases Nat.lt_succ_iff_lt_or_eq.1 hji with r | r
        · exact HI.out j hj r
        · subst r; exact q
      have HW := Lib.hid (Ch.one_writer h (l[i]'hlt))
      generalize Ch.oneB h (l[i]'hlt) = q at *
      generalize hz : l[i]'hlt = z at *
      obtain ⟨zk, za, zb⟩ := z
      obtain ⟨r0, r1, r2⟩ := hin2
      dsimp only at r0 r1 r2 HW
      clear hz hin
      have hi1 : (0 : Int) ≤ (i : Int) := Int.natCast_nonneg _
      have hi2 : (i : Int) < (l.length : Int) := by omega
      have b2 := alloc_below wr (.cells #[.int .i64 zk, .int .i64 za, .int .i64 zb] 38)
      have NX := Lib.hid (Three.new wr 38 (.int .i64 zk) (.int .i64 za) (.int .i64 zb))
      have S2 := Lib.hid (below_all HB.out b2)
      clear b2
      go_upto_region 6 with fail
      generalize wr.alloc (.cells #[.int .i64 zk, .int .i64 za, .int .i64 zb] 38) = W2 at *
      generalize wr.heap.size = g at *
      clear r0 r1 r2
      obtain ⟨p0, p1, p2⟩ := NX.out.cells
      have h0 := (Boxed.later N_h.out (below_all S1.out S2.out)).cell
      by_cases hab : za = zb
      · have e0 : (za == zb) = true := by rw [beq_iff_eq]; exact hab
        obtain rfl : q = false := by rw [HW.out, decide_eq_false (by simpa using hab), Bool.false_and]
        obtain rfl : res = false := HC2.out.trans (HALL.out rfl)
        go_wp2_with fail
        go_ret
        exact ⟨rfl, below_all BW.out (below_all S1.out S2.out)⟩
      have e0 : (za == zb) = false := by rw [beq_eq_false_iff_ne]; exact hab
      have HW2 : Hid (q = (Hi.writerB h za zk && Hi.writerB h zb zk)) := by rw [Hid, HW.out, decide_eq_true hab, Bool.true_and]
      go_wp2_with fail
      refine (F1.out W2 za zk (V_h.out.below (below_all S1.out S2.out))).mono ?_
      rintro e W3 ⟨rfl, hb3⟩
      have S3 := Lib.hid (below_all S2.out hb3)
      have NX3 := Lib.hid (NX.out.later hb3)
      clear hb3 p0 p1 p2 h0
      obtain ⟨p0, p1, p2⟩ := NX3.out.cells
      have h0 := (Boxed.later N_h.out (below_all S1.out S3.out)).cell
      cases q1 : Hi.writerB h za zk with
      | false =>
        obtain rfl : q = false := by rw [HW2.out, q1, Bool.false_and]
        obtain rfl : res = false := HC2.out.trans (HALL.out rfl)
        clear q1
        go_wp2_with fail
        go_ret
        exact ⟨rfl, below_all BW.out (below_all S1.out S3.out)⟩
      | true =>
        have HW3 : Hid (q = Hi.writerB h zb zk) := by rw [Hid, HW2.out, q1, Bool.true_and]
        clear q1
        go_wp2_with fail
        refine (F1.out W3 zb zk (V_h.out.below (below_all S1.out S3.out))).mono ?_
        rintro e W4 ⟨rfl, hb4⟩
        have S4 := Lib.hid (below_all S3.out hb4)
        clear hb4 p0 p1 p2 h0
        rw [← HW3.out]
        cases q with
        | false =>
          obtain rfl : res = false := HC2.out.trans (HALL.out rfl)
          go_wp2_with fail
          go_ret
          exact ⟨rfl, below_all BW.out (below_all S1.out S4.out)⟩
        | true =>
          have HN2 := Lib.hid (HNX.out rfl)
          go_wp2_with fail
          go_roundw
          case rel => exact ⟨i + 1, by omega, by go_num, HN2.out, S4.out⟩
          case measure => simp [intOf]; omega
    ·
      obtain rfl : res = true := HC2.out.trans (List.all_eq_true.2 fun z hz => by
        obtain ⟨j, hj, rfl⟩ := List.getElem_of_mem hz
        exact HI.out j hj (by omega))
      go_wp2_with fail
      go_ret
      exact ⟨rfl, below_all BW.out (below_all S1.out HB.out)⟩
end Go.Proofs.Ytahacjfeopjbaaa
/-
  What choice.placesOf answers: the places of an order's numbers, if it is an order of numbers.
  Conditions: at most 4294967296 numbers.
-/
set_option maxRecDepth 4000
namespace Go.Proofs.Ytahacjfeopjbaaa
open Go.RowKit

/-- The places, in memory of the call's own; or none. -/
def RetPlaces (w : World) (o : List Int) (e : Ending) (w' : World) : Prop :=
  ((∃ A c pl, e = .returned (.tuple #[.slice A o.length c, .bool true]) ∧ Ns w' (.slice A o.length c) pl ∧ Ch.Plc o pl o.length) ∨ (e = .returned (.tuple #[.slice none 0 0, .bool false]) ∧ Ch.permB o o.length = false)) ∧ Below w.heap.size w w'

set_option maxHeartbeats 4000000 in
theorem chPlaces_at (o : List Int) (v : Value) (w : World) (hv : Ns w v o) (hn : o.length ≤ 4294967296) : Calls Try.prog 51 #[v] w (RetPlaces w o) := by
  obtain ⟨A, c, rfl, hh⟩ := hv.spelled
  have HH := Lib.hid hh
  have b1 := alloc_below w (.cells #[.int .i64 (-1)] 3)
  have B1 := Lib.hid b1
  have L1 : Hid (Ns (w.alloc (.cells #[.int .i64 (-1)] 3)) (.slice (some ⟨w.heap.size, 0, none⟩) 1 1) [-1]) := lit_rows nC_len w 3 [-1] (by simp [maxLen])
  have HL := Lib.hid (show (rep (-1) o.length o.length).length = o.length from rep_len (Nat.le_refl _))
  clear hh b1 hv
  go_enter Try.func51, Try.ntmps51
  go_wp2_with fail
  generalize w.alloc (.cells #[.int .i64 (-1)] 3) = W1 at *
  refine (repeat_at (-1) _ o.length W1 L1.out hn).mono ?_
  rintro e w2 ⟨g, rfl, hg, hr, hb2⟩
  have HB2 := Lib.hid (below_all B1.out hb2)
  have HG := Lib.hid (Nat.le_trans B1.out.size hg)
  have HR := Lib.hid hr
  clear hb2 hg hr
  go_wp2_with fail
  clear L1
  go_loopw [13] (fun iv wr => ∃ (i : Nat) (pl : List Int), i ≤ o.length ∧ iv = .int .i64 i ∧ Hid (RowI wr g pl) ∧ Hid (Ch.Plc o pl i) ∧ Hid (Below w.heap.size w wr)) (fun iv _ => o.length - (intOf iv).toNat)
  case atStart => exact ⟨0, _, Nat.zero_le _, rfl, HR.out, Ch.Plc.start o, HB2.out⟩
  case round =>
    clear HR HB2
    obtain ⟨i, pl, hi, rfl, HR, HP, HB⟩ := hrel
    by_cases hlt : i < o.length
    · obtain ⟨ad, rfl, hblk, hc⟩ := HH.out i hlt
      have c0 := (HB.out.cell (p := ad.add i) (by rw [add_block]; exact hblk)).trans hc
      have HNO : Hid ((o[i] < 0 ∨ (o.length : Int) ≤ o[i]) → Ch.permB o o.length = false) := fun q => Ch.out_no hlt q
      have HTW : Hid (∀ (x : Nat) (hx : o[i] = (x : Int)) (hxl : x < pl.length), pl[x] ≠ -1 → Ch.permB o o.length = false) := fun x hx hxl hne => HP.out.twice hlt hx hxl hne
      have HNX : Hid (∀ (x : Nat) (hx : o[i] = (x : Int)) (hxl : x < pl.length), pl[x] = -1 → Ch.Plc o (pl.set x (i : Int)) (i + 1)) := fun x hx hxl hne => HP.out.next hlt hx hxl hne
      generalize o[i] = z at *
      have hi1 : (0 : Int) ≤ (i : Int) := Int.natCast_nonneg _
      have hi2 : (i : Int) < (o.length : Int) := by omega
      clear hc
      by_cases h0 : z < 0
      · have d0 : decide (z < 0) = true := decide_eq_true h0
        have HR2 := Lib.hid (HNO.out (.inl h0))
        go_wp2_with fail
        go_ret2
        exact ⟨.inr ⟨rfl, HR2.out⟩, HB.out⟩
      have d0 : decide (z < 0) = false := decide_eq_false h0
      by_cases h1 : (o.length : Int) ≤ z
      · have d1 : decide ((o.length : Int) ≤ z) = true := decide_eq_true h1
        have HR2 := Lib.hid (HNO.out (.inr h1))
        go_wp2_with fail
        go_ret2
        exact ⟨.inr ⟨rfl, HR2.out⟩, HB.out⟩
      have d1 : decide ((o.length : Int) ≤ z) = false := decide_eq_false h1
      obtain ⟨x, rfl⟩ := Int.eq_ofNat_of_zero_le (show 0 ≤ z by omega)
      have hpl := HP.out.len
      have hxl : x < pl.length := by omega
      have r0 := HR.out.cell x hxl
      have f0 := HR.out.frozen x
      have HW := Lib.hid (HTW.out x rfl hxl)
      have HX := Lib.hid (HNX.out x rfl hxl)
      have HPUT := Lib.hid (HR.out.put x hxl (i : Int))
      have HGS := Lib.hid HR.out.lt
      have hx2 : (x : Int) < (o.length : Int) := by omega
      have hx3 : x < o.length := by omega
      clear hpl HTW HNX HNO
      generalize pl[x] = y at *
      by_cases hy : y = -1
      · have e0 : (y != -1) = false := by rw [hy]; rfl
        have HN2 := Lib.hid (HX.out hy)
        subst hy
        go_wp2_with fail
        go_roundw
        case rel => exact ⟨i + 1, _, by omega, by go_num, HPUT.out, HN2.out, HB.out.setCell (p := ⟨g, x, none⟩) HG.out _⟩
        case measure => simp [intOf]; omega
      · have e0 : (y != -1) = true := by rw [bne_iff_ne]; exact hy
        have HN2 := Lib.hid (HW.out hy)
        go_wp2_with fail
        go_ret2
        exact ⟨.inr ⟨rfl, HN2.out⟩, HB.out⟩
    · obtain rfl : i = o.length := by omega
      have hpl := HP.out.len
      go_wp2_with fail
      go_ret2
      refine ⟨.inl ⟨_, _, pl, rfl, ?_, HP.out⟩, HB.out⟩
      have := Rows'.own (HR.out.own (base := 0) (Nat.zero_le _) (by rw [hpl]; simp only [maxLen]; omega))
      rw [hpl] at this
      exact this
end Go.Proofs.Ytahacjfeopjbaaa
/-
  What choice.united answers: the edges of a graph and of all of a row of graphs.
  Conditions: all graphs may be and have the same nodes; the row is not empty.
-/
set_option maxRecDepth 4000
namespace Go.Proofs.Ytahacjfeopjbaaa
open Go.RowKit

/-- The end of a call that hands back a graph alone, whose row may be as old as the call. -/
theorem end_gr2 {fn : Func} {p : Tmp} (h : fn.results = #[.cell p 32]) {w X : World} {b : Nat} {n : Int} {l : List Nat} {u0 u1 : Value} {A : Option Addr} {m c : Nat} (hT : Two X b 32 u0 u1) (hR : OwnU X w.heap.size (.slice A m c) l) (hB : Below w.heap.size w X) (hb : w.heap.size ≤ b)
    (tmps : Array Value) (hp : tmps.getD p undef = .pointer (some ⟨b, 0, none⟩)) :
    bodyPost Try.prog fn (RetR w n l) Exit.ret { tmps := tmps, defers := [] } ((X.setCell ⟨b, 0, none⟩ (.int .i64 n)).setCell ⟨b, 1, none⟩ (.slice A m c)) := by
  have hne : (Value.slice A m c).ownBlock ≠ some b := fun e => own_not_gr hR hT e
  obtain ⟨p0, p1⟩ := (hT.put (x := .int .i64 n) (y := .slice A m c)).cells
  exact bodyPost_ret (res_gr h _ b _ n _ _ _ hp p0 p1) rfl ⟨_, rfl, own_aside (own_aside hR hne) hne, (hB.setCell (p := ⟨b, 0, none⟩) hb _).setCell (p := ⟨b, 1, none⟩) hb _⟩
/-- Rows of graphs of n nodes. -/
def grC (n : Nat) (x : List Nat × Option Addr × Nat) : List Value := [.int .i64 (n : Int), .slice x.2.1 n x.2.2]
theorem grC_len (n : Nat) (x : List Nat × Option Addr × Nat) : (grC n x).length = 2 := rfl
def Grs (w : World) (n : Nat) (v : Value) (p : List (List Nat × Option Addr × Nat)) : Prop := Rows' 2 (grC n) w v p ∧ ∀ x ∈ p, Us w (.slice x.2.1 n x.2.2) x.1 ∧ Gf.Ok n x.1
def unions (n : Nat) (r : List Nat) (p : List (List Nat × Option Addr × Nat)) : List Nat := p.foldl (fun a x => Gf.unionR n a x.1) r
theorem unions_next {n : Nat} {r : List Nat} {p : List (List Nat × Option Addr × Nat)} {i : Nat} (hi : i < p.length) : unions n r (p.take (i + 1)) = Gf.unionR n (unions n r (p.take i)) p[i].1 := by
  rw [unions, unions, List.take_succ_eq_append_getElem hi, List.foldl_append]
  rfl
theorem Grs.spelled {w : World} {n : Nat} {v : Value} {p : List (List Nat × Option Addr × Nat)} (h : Grs w n v p) : ∃ A c, v = .slice A p.length c ∧ ∀ (k : Nat) (hk : k < p.length), ∃ ad : Addr, A = some ad ∧ ad.block < w.heap.size ∧ w.cell? (ad.add (k * 2)) = some (.int .i64 (n : Int)) ∧ w.cell? ⟨(ad.add (k * 2)).block, (ad.add (k * 2)).off + 1, none⟩ = some (.slice p[k].2.1 n p[k].2.2) := by
  obtain ⟨A, c, hv, hh⟩ := Rows'.form (grC_len n) h.1
  refine ⟨A, c, hv, fun k hk => ?_⟩
  obtain ⟨ad, e, hb, hc⟩ := hh k hk
  refine ⟨ad, e, hb, hc 0 _ rfl, ?_⟩
  rw [add_more ad _ 1 (by omega)]
  exact hc 1 _ rfl

set_option maxHeartbeats 2000000 in
theorem chUnited_at (n : Nat) (A : Option Addr) (c : Nat) (r : List Nat) (v : Value) (p : List (List Nat × Option Addr × Nat)) (w : World) (hu : Us w (.slice A n c) r) (hok : Gf.Ok n r) (hv : Grs w n v p) (hne : p ≠ []) (hpl : p.length ≤ 2) :
    Calls Try.prog 35 #[.agg #[.int .i64 (n : Int), .slice A n c], v] w (RetR w n (unions n r p)) := by
  have HU := Lib.hid hu
  have HP := Lib.hid hv.2
  obtain ⟨B, d, rfl, hf⟩ := hv.spelled
  have HF := Lib.hid hf
  have HNE : Hid (p.length ≠ 0) := fun e => hne (List.eq_nil_of_length_eq_zero e)
  have HOK := Lib.hid hok
  have G1 := alloc_below w (.cells #[.int .i64 (n : Int), .slice A n c] 32)
  have G2 := alloc_below (w.alloc (.cells #[.int .i64 (n : Int), .slice A n c] 32)) (.cells #[.int .i64 0, .slice none 0 0] 32)
  have t1 := Two.new (w.alloc (.cells #[.int .i64 (n : Int), .slice A n c] 32)) 32 (.int .i64 0) (.slice none 0 0)
  rw [World.size_alloc] at t1
  have T0 := Lib.hid ((Two.new w 32 (.int .i64 (n : Int)) (.slice A n c)).later G2)
  have T1 := Lib.hid t1
  have BW := Lib.hid (below_all G1 G2)
  clear G1 G2 t1 hu hok hv hf hne
  go_enter Try.func35, Try.ntmps35
  go_upto_region 2 with fail
  generalize (w.alloc (.cells #[.int .i64 (n : Int), .slice A n c] 32)).alloc (.cells #[.int .i64 0, .slice none 0 0] 32) = W at *
  go_loopw [9] (fun iv wr => ∃ (i : Nat) (A' : Option Addr) (c' : Nat), i ≤ p.length ∧ iv = .int .i64 i ∧ Hid (Two wr w.heap.size 32 (.int .i64 (n : Int)) (.slice A' n c')) ∧ Hid (Us wr (.slice A' n c') (unions n r (p.take i))) ∧ Hid (i = 0 ∨ OwnU wr w.heap.size (.slice A' n c') (unions n r (p.take i))) ∧ Hid (Gf.Ok n (unions n r (p.take i))) ∧ Hid (Two wr (w.heap.size + 1) 32 (.int .i64 0) (.slice none 0 0)) ∧ Hid (Below w.heap.size w wr)) (fun iv _ => p.length - (intOf iv).toNat)
  case atStart => exact ⟨0, A, c, Nat.zero_le _, rfl, T0.out, HU.out.below BW.out, .inl rfl, HOK.out, T1.out, BW.out⟩
  case round =>
    clear T0 T1 BW HU HOK
    obtain ⟨i, A', c', hi, rfl, T0, HU, HO, HOK, T1, HB⟩ := hrel
    by_cases hlt : i < p.length
    · obtain ⟨ad, rfl, hblk, k0, k1⟩ := HF.out i hlt
      have r0 := (HB.out.cell (p := ad.add (i * 2)) (by rw [add_block]; exact hblk)).trans k0
      have r1 := (HB.out.cell (p := ⟨(ad.add (i * 2)).block, (ad.add (i * 2)).off + 1, none⟩) (by rw [add_block]; exact hblk)).trans k1
      clear k0 k1
      obtain ⟨hux, hokx⟩ := HP.out _ (List.getElem_mem hlt)
      have HUX := Lib.hid hux
      have HNX := Lib.hid (unions_next (n := n) (r := r) hlt)
      have HOKX := Lib.hid hokx
      clear hux hokx
      generalize p[i] = z at *
      obtain ⟨zr, zA, zc⟩ := z
      have hi2 : (i : Int) < (p.length : Int) := by omega
      have b2 := alloc_below wr (.cells #[.int .i64 (n : Int), .slice zA n zc] 32)
      have S2 := Lib.hid (below_all HB.out b2)
      have U2 := Lib.hid (HU.out.below b2)
      have T02 := Lib.hid (T0.out.later b2)
      have T12 := Lib.hid (T1.out.later b2)
      have NX := Lib.hid (Two.new wr 32 (.int .i64 (n : Int)) (.slice zA n zc))
      clear b2 HU HO T0 T1
      dsimp only at r1
      go_upto_region 4 with fail
      generalize wr.alloc (.cells #[.int .i64 (n : Int), .slice zA n zc] 32) = W2 at *
      generalize wr.heap.size = g at *
      clear r0 r1
      obtain ⟨c0, c1⟩ := T02.out.cells
      obtain ⟨p0, p1⟩ := NX.out.cells
      have F := Lib.hid (gfUnion_at n (.slice A' n c') (.slice zA n zc) _ zr W2 U2.out (HUX.out.below S2.out) HOK.out HOKX.out)
      have HOK3 : Hid (Gf.Ok n (Gf.unionR n (unions n r (p.take i)) zr)) := Gf.build_ok HOK.out.1 _
      dsimp only at HNX
      rw [← HNX.out] at F HOK3
      go_wp2_with fail
      refine F.out.mono ?_
      rintro e W3 ⟨v3, rfl, ho3, hb3⟩
      have S3 := Lib.hid (below_all S2.out hb3)
      have hl0 := T02.out.lt
      have hl1 := T12.out.lt
      have T03 := Lib.hid (T02.out.later hb3)
      have T13 := Lib.hid (T12.out.later hb3)
      have hsw := S2.out.size
      obtain ⟨A3, c3, rfl⟩ := ho3.form
      rw [HOK3.out.2.1] at ho3 ⊢
      have O3 := Lib.hid ho3
      have HL0 := Lib.hid hl0
      have HSW := Lib.hid hsw
      clear ho3 hb3 hl1 hl0 hsw c0 c1 p0 p1
      obtain ⟨c0, c1⟩ := T03.out.cells
      have f0 := T03.out.frozen 0
      have f1 := T03.out.frozen 1
      go_wp2_with fail
      go_roundw
      case rel =>
        have o4 := own_setCell (o := 1) (x := .slice A3 n c3) (own_setCell (o := 0) (x := .int .i64 (n : Int)) O3.out HL0.out) HL0.out
        have o5 := World.ownsRow.mono o4 HSW.out
        have hne1 : w.heap.size ≠ w.heap.size + 1 := by omega
        exact ⟨i + 1, A3, c3, by omega, by go_num, T03.out.put, OwnU.us o5, .inr o5, HOK3.out, two_far (two_far T13.out _ hne1 _) _ hne1 _, (S3.out.setCell (p := ⟨w.heap.size, 0, none⟩) (Nat.le_refl _) _).setCell (p := ⟨w.heap.size, 1, none⟩) (Nat.le_refl _) _⟩
      case measure => simp [intOf]; omega
    · obtain rfl : i = p.length := by omega
      have ho : OwnU wr w.heap.size (.slice A' n c') (unions n r p) := by
        rcases HO.out with e | o
        · exact absurd e HNE.out
        · rw [List.take_length] at o
          exact o
      have O := Lib.hid ho
      clear ho HO
      obtain ⟨c0, c1⟩ := T0.out.cells
      obtain ⟨r0, r1⟩ := T1.out.cells
      have f0 := T1.out.frozen 0
      have f1 := T1.out.frozen 1
      go_wp2_with fail
      exact end_gr2 (p := 4) rfl T1.out O.out HB.out (Nat.le_succ _) _ rfl
end Go.Proofs.Ytahacjfeopjbaaa
/-
  What choice.Ww answers.
  Conditions: a history's rows and the choices have at most 2^32 elements.
-/
set_option maxRecDepth 4000
namespace Go.Proofs.Ytahacjfeopjbaaa
open Go.RowKit

set_option maxHeartbeats 2000000 in
theorem chWw_at (h : List So.Txn) (u : Value) (l : List (Int × Int × Int)) (v : Value) (w : World) (hu : Txns w u h) (hl : Tris w v l) (hs : Ix.Small h) (hn : l.length ≤ 4294967296) : Calls Try.prog 10 #[.agg #[u], v] w (RetR w (Ch.nA h l) (Ch.wwA h l)) := by
  have HV := Lib.hid hu
  have HL := Lib.hid hl
  obtain ⟨A0, c0', rfl, -⟩ := hu.spelled
  obtain ⟨B, d, rfl, hf⟩ := hl.spelled
  have HF := Lib.hid hf
  have F1 := Lib.hid (fun w hu hl => chRight_at h (.slice A0 h.length c0') l (.slice B l.length d) w hu hl hs hn)
  clear hu hl hf hs
  cases hb : Ch.rightC h l with
  | false =>
    obtain ⟨e0, e1, -, -⟩ := Ch.ans_no hb
    rw [e0, e1]
    rw [hb] at F1
    clear e0 e1 hb
    go_enter Try.func10, Try.ntmps10
    go_upto_region 1 with fail
    obtain ⟨t0, t1, bw⟩ := kn_made w (.slice A0 h.length c0') rfl
    have T1 := Lib.hid t1
    have BW := Lib.hid bw
    have a0 := t0.cell
    clear t0 t1 bw
    generalize (w.alloc (.cells #[.slice A0 h.length c0'] 24)).alloc (.cells #[.int .i64 0, .slice none 0 0] 32) = W at *
    go_wp2_with fail
    refine (F1.out _ (HV.out.below BW.out) (HL.out.below BW.out)).mono ?_
    rintro e w1 ⟨rfl, hb1⟩
    have T11 := Lib.hid (T1.out.later hb1)
    have B1 := Lib.hid (below_all BW.out hb1)
    clear hb1 a0
    obtain ⟨r0, r1⟩ := T11.out.cells
    have f0 := T11.out.frozen 0
    have f1 := T11.out.frozen 1
    go_wp2_with fail
    exact end_gr2 (p := 4) rfl T11.out (OwnU.nil _ _) B1.out (by omega) _ rfl
  | true =>
    obtain ⟨e0, e1, -, -⟩ := Ch.ans_yes hb
    rw [e0, e1]
    obtain ⟨hr, hlen, hone⟩ := Ch.rightC_iff.1 hb
    have hn64 := Kn.len64 hr
    have HONE := Lib.hid hone
    have HZ := Lib.hid (Gf.zeros_ok (n := h.length) hn64)
    have F2 := Lib.hid (fun w => gfNew_at h.length hn64 w)
    have HTO := Lib.hid (fun i => Ch.wwTo_ok hr hone i)
    have HALL := Lib.hid (Ch.ww_drawn hr hone)
    have HNX := Lib.hid (fun i (hi : i < l.length) => Ch.wwE_next hi)
    rw [hb] at F1
    clear e0 e1 hr hn64 hlen hone hb
    go_enter Try.func10, Try.ntmps10
    go_upto_region 1 with fail
    obtain ⟨t0, t1, bw⟩ := kn_made w (.slice A0 h.length c0') rfl
    have T0 := Lib.hid t0
    have T1 := Lib.hid t1
    have BW := Lib.hid bw
    have a0 := t0.cell
    clear t0 t1 bw
    generalize (w.alloc (.cells #[.slice A0 h.length c0'] 24)).alloc (.cells #[.int .i64 0, .slice none 0 0] 32) = W at *
    go_wp2_with fail
    refine (F1.out _ (HV.out.below BW.out) (HL.out.below BW.out)).mono ?_
    rintro e w1 ⟨rfl, hb1⟩
    have T01 := Lib.hid (box_at T0.out hb1 (by have := T1.out.lt; omega))
    have T11 := Lib.hid (T1.out.later hb1)
    have B1 := Lib.hid (below_all BW.out hb1)
    clear hb1 a0 T0 T1
    have a0 := T01.out.cell
    go_wp2_with fail
    refine (F2.out _).mono ?_
    rintro e w2 ⟨v2, rfl, ho2, hb2⟩
    obtain ⟨A, c, rfl⟩ := ho2.form
    rw [HZ.out.2.1] at ho2 ⊢
    have B3 := Lib.hid (below_all hb2 (alloc_below w2 (.cells #[.int .i64 (h.length : Int), .slice A h.length c] 32)))
    have HG : Hid (GV (w2.alloc (.cells #[.int .i64 (h.length : Int), .slice A h.length c] 32)) w.heap.size w2.heap.size h.length (Gf.zeros h.length)) := ⟨HZ.out, A, c, Two.new _ _ _ _, World.ownsRow.mono (ho2.below (alloc_below _ _)) B1.out.size⟩
    have HS2 := Lib.hid (Nat.le_trans B1.out.size hb2.size)
    have T13 := Lib.hid (T11.out.later B3.out)
    have BW3 := Lib.hid (below_all B1.out B3.out)
    have HL1 := Lib.hid (Nat.lt_of_lt_of_le T11.out.lt hb2.size)
    clear ho2 hb2 a0 T01 T11
    go_upto_region 5 with fail
    generalize w2.alloc (.cells #[.int .i64 (h.length : Int), .slice A h.length c] 32) = w3 at *
    generalize w2.heap.size = b at *
    go_loopw [23] (fun iv wr => ∃ i : Nat, i ≤ l.length ∧ iv = .int .i64 i ∧ Hid (GV wr w.heap.size b h.length (Kn.addAll (Gf.zeros h.length) (Ch.wwE (l.take i)))) ∧ Hid (Two wr (w.heap.size + 1) 32 (.int .i64 0) (.slice none 0 0)) ∧ Hid (Below w.heap.size w wr)) (fun iv _ => l.length - (intOf iv).toNat)
    case atStart => exact ⟨0, Nat.zero_le _, rfl, HG.out, T13.out, BW3.out⟩
    case round =>
      clear HG T13 BW3
      obtain ⟨i, hi, rfl, HG, T1, HB⟩ := hrel
      by_cases hlt : i < l.length
      · obtain ⟨ad, rfl, hbl, hin⟩ := HF.out i hlt
        obtain ⟨r0, r1, r2⟩ := hin.below hbl HB.out
        obtain ⟨za, zb, ez, _, hza, hzb⟩ := Ch.one_nat (HONE.out _ (List.getElem_mem hlt))
        have hnx := HNX.out i hlt
        have HTO2 := Lib.hid (HTO.out (i + 1))
        rw [hnx] at HTO2
        have HNX2 := Lib.hid hnx
        clear hnx
        generalize hz : l[i]'hlt = z at *
        obtain ⟨zk, za', zb'⟩ := z
        obtain ⟨rfl, rfl⟩ : za' = (za : Int) ∧ zb' = (zb : Int) := by simpa using ez
        dsimp only at r0 r1 r2 HNX2 HTO2
        rw [Int.toNat_natCast, Int.toNat_natCast] at HNX2 HTO2
        rw [Kn.addAll_snoc] at HTO2
        clear hz hin ez
        have hi2 : (i : Int) < (l.length : Int) := by omega
        have b2 := alloc_below wr (.cells #[.int .i64 zk, .int .i64 (za : Int), .int .i64 (zb : Int)] 38)
        have S2 := Lib.hid (below_all HB.out b2)
        have G2 := Lib.hid (HG.out.later b2)
        have T2 := Lib.hid (T1.out.later b2)
        have NX := Lib.hid (Three.new wr 38 (.int .i64 zk) (.int .i64 (za : Int)) (.int .i64 (zb : Int)))
        clear b2 HG T1
        go_upto_region 7 with fail
        generalize wr.alloc (.cells #[.int .i64 zk, .int .i64 (za : Int), .int .i64 (zb : Int)] 38) = W2 at *
        generalize wr.heap.size = g at *
        clear r0 r1 r2
        obtain ⟨p0, p1, p2⟩ := NX.out.cells
        obtain ⟨hok, A', c', t, o⟩ := G2.out
        have T := Lib.hid t
        have F := Lib.hid (chWith_at w.heap.size h.length A' c' _ za zb W2 hok o hza hzb S2.out.size)
        obtain ⟨c0, c1⟩ := t.cells
        clear t o hok
        go_wp2_with fail
        refine F.out.mono ?_
        rintro e W3 ⟨A3, c3, rfl, ho3, hb3⟩
        have S3 := Lib.hid (below_all S2.out hb3)
        have G3 := Lib.hid (GV.put (G2.out.later hb3) HTO2.out ho3)
        have T3 := Lib.hid (T2.out.later hb3)
        have TT := Lib.hid (T.out.later hb3)
        clear ho3 hb3 c0 c1 p0 p1 p2
        obtain ⟨c0, c1⟩ := TT.out.cells
        have f0 := TT.out.frozen 0
        have f1 := TT.out.frozen 1
        go_wp2_with fail
        go_roundw
        case rel =>
          have hne : b ≠ w.heap.size + 1 := by have := HL1.out; omega
          refine ⟨i + 1, by omega, by go_num, ?_, two_far (two_far T3.out _ hne _) _ hne _, (S3.out.setCell (p := ⟨b, 0, none⟩) HS2.out _).setCell (p := ⟨b, 1, none⟩) HS2.out _⟩
          rw [HNX2.out, Kn.addAll_snoc]
          exact G3.out
        case measure => simp [intOf]; omega
      · obtain rfl : i = l.length := by omega
        rw [List.take_length, HALL.out] at HG
        obtain ⟨-, A', c', t, o⟩ := HG.out
        have O := Lib.hid o
        obtain ⟨c0, c1⟩ := t.cells
        obtain ⟨r0, r1⟩ := T1.out.cells
        have f0 := T1.out.frozen 0
        have f1 := T1.out.frozen 1
        clear t o
        go_wp2_with fail
        exact end_gr2 (p := 4) rfl T1.out O.out HB.out (Nat.le_succ _) _ rfl
end Go.Proofs.Ytahacjfeopjbaaa
/-
  What choice.Rw answers.
  Conditions: a history's rows and the choices have at most 2^32 elements.
-/
set_option maxRecDepth 4000
namespace Go.Proofs.Ytahacjfeopjbaaa
open Go.RowKit

theorem read_ok {h : List So.Txn} (hr : Hi.Right h) {i : Nat} (hi : i < h.length) {y : Int × Int} (hy : y ∈ h[i].reads) : okN y.1 ∧ okN y.2 := by
  have h1 := (hr.2 i hi).reads.1 y.1 (List.mem_map.2 ⟨y, hy, rfl⟩)
  have h32 := hr.1
  refine ⟨okN_small h1.1 (by omega), ?_⟩
  rcases (hr.2 i hi).froms y hy with e | ⟨j, hj, e, _⟩
  · rw [e]
    exact WalkArith.wf_i64 (by omega)
  · rw [e]
    exact okN_nat (by omega)
/-- What Rw holds while it draws: the graph, the map, and where the answer is to lie. -/
structure RwAt (w : World) (gb mb n : Nat) (init : List Nat) (l : List (Int × Int × Int)) (E : List (Nat × Nat)) (X : World) : Prop where
  gv : GV X w.heap.size gb n (Kn.addAll init E)
  over : OverAt X mb l.length l
  res : Two X (w.heap.size + 1) 32 (.int .i64 0) (.slice none 0 0)
  low : Below w.heap.size w X
section
variable {w X Y : World} {gb mb n : Nat} {init : List Nat} {l : List (Int × Int × Int)} {E : List (Nat × Nat)}
theorem RwAt.later (h : RwAt w gb mb n init l E X) (hb : Below X.heap.size X Y) : RwAt w gb mb n init l E Y :=
  ⟨h.gv.later hb, h.over.later hb, h.res.later hb, below_all h.low hb⟩
theorem RwAt.put (h : RwAt w gb mb n init l E X) (hg : gb < mb) (hr : w.heap.size + 1 < gb) {A : Option Addr} {c x y : Nat} (hx : x < n) (hy : y < n) (ho : OwnU X w.heap.size (.slice A n c) (Kn.addE (Kn.addAll init E) (x, y))) :
    RwAt w gb mb n init l (E ++ [(x, y)]) ((X.setCell ⟨gb, 0, none⟩ (.int .i64 (n : Int))).setCell ⟨gb, 1, none⟩ (.slice A n c)) := by
  have hne : gb ≠ w.heap.size + 1 := by omega
  refine ⟨?_, h.over.save (((Save.refl gb (gb + 1) X).setCell (p := ⟨gb, 0, none⟩) ⟨Nat.le_refl _, Nat.lt_succ_self _⟩ _).setCell (p := ⟨gb, 1, none⟩) ⟨Nat.le_refl _, Nat.lt_succ_self _⟩ _) hg, two_far (two_far h.res _ hne _) _ hne _, (h.low.setCell (p := ⟨gb, 0, none⟩) (by show w.heap.size ≤ gb; omega) _).setCell (p := ⟨gb, 1, none⟩) (by show w.heap.size ≤ gb; omega) _⟩
  rw [Kn.addAll_snoc]
  exact GV.put h.gv (Kn.addE_ok h.gv.ok hx hy) ho
end
theorem ints_later {X Y : World} {base : Nat} {e : TypeId} {q : IntKind} {v : Value} {zs : List Int} (h : X.ownsInts base e q v zs) (hb : Below X.heap.size X Y) : Y.ownsInts base e q v zs := ⟨own_below h.1 hb, h.2⟩
theorem ints_put {X : World} {base gb o : Nat} {e : TypeId} {q : IntKind} {v u : Value} {zs : List Int} (h : X.ownsInts base e q v zs) (hg : gb < base) : (X.setCell ⟨gb, o, none⟩ u).ownsInts base e q v zs := ⟨own_setCell h.1 hg, h.2⟩

set_option maxHeartbeats 4000000 in
theorem chRw_at (h : List So.Txn) (u : Value) (l : List (Int × Int × Int)) (v : Value) (w : World) (hu : Txns w u h) (hl : Tris w v l) (hs : Ix.Small h) (hn : l.length ≤ 4294967296) : Calls Try.prog 11 #[.agg #[u], v] w (RetR w (Ch.nA h l) (Ch.rwA h l)) := by
  have HV := Lib.hid hu
  have HL := Lib.hid hl
  have HS := Lib.hid hs
  obtain ⟨A0, c0', rfl, hfh⟩ := hu.spelled
  have HFH := Lib.hid hfh
  have F1 := Lib.hid (fun w hu hl => chRight_at h (.slice A0 h.length c0') l v w hu hl hs hn)
  obtain ⟨B, d, rfl, -⟩ := hl.spelled
  clear hu hl hs hfh
  cases hb : Ch.rightC h l with
  | false =>
    obtain ⟨e0, -, e1, -⟩ := Ch.ans_no hb
    rw [e0, e1]
    rw [hb] at F1
    clear e0 e1 hb
    go_enter Try.func11, Try.ntmps11
    go_upto_region 1 with fail
    obtain ⟨t0, t1, bw⟩ := kn_made w (.slice A0 h.length c0') rfl
    have T1 := Lib.hid t1
    have BW := Lib.hid bw
    have a0 := t0.cell
    clear t0 t1 bw
    generalize (w.alloc (.cells #[.slice A0 h.length c0'] 24)).alloc (.cells #[.int .i64 0, .slice none 0 0] 32) = W at *
    go_wp2_with fail
    refine (F1.out _ (HV.out.below BW.out) (HL.out.below BW.out)).mono ?_
    rintro e w1 ⟨rfl, hb1⟩
    have T11 := Lib.hid (T1.out.later hb1)
    have B1 := Lib.hid (below_all BW.out hb1)
    clear hb1 a0
    obtain ⟨r0, r1⟩ := T11.out.cells
    have f0 := T11.out.frozen 0
    have f1 := T11.out.frozen 1
    go_wp2_with fail
    exact end_gr2 (p := 4) rfl T11.out (OwnU.nil _ _) B1.out (by omega) _ rfl
  | true =>
    obtain ⟨e0, -, e1, -⟩ := Ch.ans_yes hb
    rw [e0, e1]
    obtain ⟨hr, hlen, hone⟩ := Ch.rightC_iff.1 hb
    have hrb := (Hi.rightB_iff h).2 hr
    have h32 := hr.1
    have HR := Lib.hid hr
    have HONE := Lib.hid hone
    have HI := Lib.hid (Kn.init_ok hr)
    have F2 := Lib.hid (fun w hu => knInit_at h (.slice A0 h.length c0') w hu HS.out)
    obtain ⟨q0, -, -, q1, -⟩ := Kn.all_yes hrb
    rw [q0, q1] at F2
    have F3 := Lib.hid (fun w hl => chOver_at l (.slice B l.length d) w hl hlen (fun c hc => okC_one hr (hone c hc)))
    have HALL := Lib.hid (Ch.rw_drawn hr hone)
    have HOV := Lib.hid (fun y => Ch.over_nums hone y)
    have HOL := Lib.hid (fun y => Ch.overN_lt hone y)
    have HSM : Hid (∀ t ∈ h, t.reads.length ≤ 4294967296) := fun t ht => (HS.out.2 t ht).2
    rw [hb] at F1
    clear e0 e1 q0 q1 hr hrb hone hb
    go_enter Try.func11, Try.ntmps11
    go_upto_region 1 with fail
    obtain ⟨t0, t1, bw⟩ := kn_made w (.slice A0 h.length c0') rfl
    have T0 := Lib.hid t0
    have T1 := Lib.hid t1
    have BW := Lib.hid bw
    have a0 := t0.cell
    clear t0 t1 bw
    generalize (w.alloc (.cells #[.slice A0 h.length c0'] 24)).alloc (.cells #[.int .i64 0, .slice none 0 0] 32) = W at *
    go_wp2_with fail
    refine (F1.out _ (HV.out.below BW.out) (HL.out.below BW.out)).mono ?_
    rintro e w1 ⟨rfl, hb1⟩
    have T01 := Lib.hid (box_at T0.out hb1 (by have := T1.out.lt; omega))
    have T11 := Lib.hid (T1.out.later hb1)
    have B1 := Lib.hid (below_all BW.out hb1)
    clear hb1 a0 T0 T1
    have a0 := T01.out.cell
    go_wp2_with fail
    refine (F2.out _ (HV.out.below B1.out)).mono ?_
    rintro e w2 ⟨v2, rfl, ho2, hb2⟩
    obtain ⟨A, c, rfl⟩ := ho2.form
    rw [HI.out.2.1] at ho2 ⊢
    have B3 := Lib.hid (below_all hb2 (alloc_below w2 (.cells #[.int .i64 (h.length : Int), .slice A h.length c] 32)))
    have HG : Hid (GV (w2.alloc (.cells #[.int .i64 (h.length : Int), .slice A h.length c] 32)) w.heap.size w2.heap.size h.length (Kn.initR h)) := ⟨HI.out, A, c, Two.new _ _ _ _, World.ownsRow.mono (ho2.below (alloc_below _ _)) B1.out.size⟩
    have T03 := Lib.hid (Boxed.later T01.out B3.out)
    have T13 := Lib.hid (T11.out.later B3.out)
    have BW3 := Lib.hid (below_all B1.out B3.out)
    have HL1 := Lib.hid (Nat.lt_of_lt_of_le T11.out.lt hb2.size)
    clear ho2 hb2 a0 T01 T11
    go_upto_region 4 with fail
    have HSZ : Hid ((w2.alloc (.cells #[.int .i64 (h.length : Int), .slice A h.length c] 32)).heap.size = w2.heap.size + 1) := World.size_alloc _ _
    generalize w2.alloc (.cells #[.int .i64 (h.length : Int), .slice A h.length c] 32) = w3 at *
    generalize w2.heap.size = gb at *
    go_wp2_with fail
    refine (F3.out w3 (HL.out.below BW3.out)).mono ?_
    rintro e w4 ⟨mb, rfl, hmb, hov4, hb4⟩
    have HMB : Hid (gb < mb) := by have := HSZ.out; show gb < mb; omega
    have RW : Hid (RwAt w gb mb h.length (Kn.initR h) l (Ch.drawTo h l 0) w4) := ⟨HG.out.later hb4, hov4, T13.out.later hb4, below_all BW3.out hb4⟩
    have a0 := (Boxed.later T03.out hb4).cell
    clear hmb hov4 hb4 HG T03 T13 BW3 HSZ
    go_wp2_with fail
    clear a0
    go_loopw [25] (fun iv wr => ∃ i : Nat, i ≤ h.length ∧ iv = .int .i64 i ∧ Hid (RwAt w gb mb h.length (Kn.initR h) l (Ch.drawTo h l i) wr)) (fun iv _ => h.length - (intOf iv).toNat)
    case atStart => exact ⟨0, Nat.zero_le _, rfl, RW.out⟩
    case round =>
      clear RW
      obtain ⟨i, hi, rfl, RW⟩ := hrel
      by_cases hlt : i < h.length
      · obtain ⟨ad, x, y, rfl, hbl, hin, hx, hy⟩ := HFH.out i hlt
        obtain ⟨r0, r1, r2⟩ := hin.below hbl RW.out.low
        have HEND := Lib.hid (Ch.drawTo_next (l := l) hlt)
        have hsm := HSM.out _ (List.getElem_mem hlt)
        have HRO := Lib.hid (fun (y : Int × Int) hy => read_ok HR.out hlt (y := y) hy)
        obtain ⟨Ax, dx, rfl, -⟩ := hx.spelled
        generalize (h[i]'hlt).writes.length = mw at *
        generalize hz : h[i]'hlt = t at *
        obtain ⟨Ay, dy, rfl, hfy⟩ := hy.spelled
        have HFY := Lib.hid hfy
        clear hin hx hy hfy hz
        have hi2 : (i : Int) < (h.length : Int) := by omega
        have b2 := alloc_below wr (.cells #[.int .i64 t.session, .slice Ax mw dx, .slice Ay t.reads.length dy] 65)
        have NX := Lib.hid (Three.new wr 65 (.int .i64 t.session) (.slice Ax mw dx) (.slice Ay t.reads.length dy))
        have RW2 : Hid (RwAt w gb mb h.length (Kn.initR h) l (Ch.drawTo h l i ++ Ch.readsTo l i t 0) (wr.alloc (.cells #[.int .i64 t.session, .slice Ax mw dx, .slice Ay t.reads.length dy] 65))) := by
          rw [show Ch.readsTo l i t 0 = [] from rfl, List.append_nil]
          exact RW.out.later b2
        clear b2 RW
        go_upto_region 8 with fail
        generalize wr.alloc (.cells #[.int .i64 t.session, .slice Ax mw dx, .slice Ay t.reads.length dy] 65) = W2 at *
        generalize wr.heap.size = g at *
        clear r0 r1 r2
        obtain ⟨p0, p1, p2⟩ := NX.out.cells
        go_wp2_with fail
        clear p0 p1 p2 NX
        go_loopw [33] (fun jv wq => ∃ j : Nat, j ≤ t.reads.length ∧ jv = .int .i64 j ∧ Hid (RwAt w gb mb h.length (Kn.initR h) l (Ch.drawTo h l i ++ Ch.readsTo l i t j) wq)) (fun jv _ => t.reads.length - (intOf jv).toNat)
        case atStart => exact ⟨0, Nat.zero_le _, rfl, RW2.out⟩
        case round =>
          clear RW2
          obtain ⟨j, hj, rfl, RW⟩ := hrel
          by_cases hlt2 : j < t.reads.length
          · obtain ⟨ad2, rfl, hbl2, hin2⟩ := HFY.out j hlt2
            obtain ⟨r0, r1⟩ := hin2.below hbl2 RW.out.low
            obtain ⟨hk1, hk2⟩ := HRO.out _ (List.getElem_mem hlt2)
            have HNXJ := Lib.hid (Ch.readsTo_next (l := l) (x := i) hlt2)
            generalize hz : t.reads[j]'hlt2 = z at *
            obtain ⟨zk, zf⟩ := z
            dsimp only at r0 r1 hk1 hk2
            clear hz hin2
            have hj2 : (j : Int) < (t.reads.length : Int) := by omega
            have b3 := alloc_below wr (.cells #[.int .i64 zk, .int .i64 zf] 62)
            have NX := Lib.hid (Two.new wr 62 (.int .i64 zk) (.int .i64 zf))
            have RW3 := Lib.hid (RW.out.later b3)
            clear b3 RW
            go_upto_region 11 with fail
            generalize wr.alloc (.cells #[.int .i64 zk, .int .i64 zf] 62) = W3 at *
            generalize wr.heap.size = g2 at *
            clear r0 r1
            obtain ⟨p0, p1⟩ := NX.out.cells
            obtain ⟨vw, hlook, hvw⟩ := RW3.out.over.look (by simp only [maxLen]; omega) hk1 hk2
            obtain ⟨Aw, dw, rfl, -⟩ := ints_spelled hvw
            have HVW := Lib.hid hvw
            have HOV2 := Lib.hid (HOV.out (zk, zf))
            have HOL2 := Lib.hid (HOL.out (zk, zf))
            have HRE : Hid (Ch.readOf l i (zk, zf) = Kn.rowOf (Ch.overN l (zk, zf)) i) := rfl
            have hwl := Ch.over_len l (zk, zf)
            have HLN := Lib.hid (Ch.overN_len l (zk, zf))
            clear hvw hk1 hk2
            generalize Ch.over l (zk, zf) = zs at *
            generalize Ch.overN l (zk, zf) = ws at *
            have RW4 : Hid (RwAt w gb mb h.length (Kn.initR h) l (Ch.drawTo h l i ++ Ch.readsTo l i t j ++ Kn.rowOf (ws.take 0) i) W3) := by
              rw [List.take_zero, show Kn.rowOf [] i = [] from rfl, List.append_nil]
              exact RW3.out
            clear RW3
            go_wp2_with fail
            clear p0 p1 NX hlook
            go_loopw [41] (fun mv wz => ∃ m : Nat, m ≤ zs.length ∧ mv = .int .i64 m ∧ Hid (RwAt w gb mb h.length (Kn.initR h) l (Ch.drawTo h l i ++ Ch.readsTo l i t j ++ Kn.rowOf (ws.take m) i) wz) ∧ Hid (wz.ownsInts (mb + 1) 3 .i64 (.slice Aw zs.length dw) zs)) (fun mv _ => zs.length - (intOf mv).toNat)
            case atStart => exact ⟨0, Nat.zero_le _, rfl, RW4.out, HVW.out⟩
            case round =>
              clear RW4 HVW
              obtain ⟨m, hm, rfl, RW, HVW⟩ := hrel
              by_cases hlt3 : m < zs.length
              · obtain ⟨_, _, e3, hrow⟩ := ints_spelled HVW.out
                cases e3
                obtain ⟨ad3, rfl, -, s0⟩ := hrow m hlt3
                have hmw : m < ws.length := by rw [HLN.out]; exact hlt3
                have hzy : zs[m]'hlt3 = ((ws[m]'hmw : Nat) : Int) := by
                  have e := HOV2.out
                  have h1 : zs[m]? = (Bi.nums ws)[m]? := by rw [e]
                  rw [List.getElem?_eq_getElem hlt3, List.getElem?_eq_getElem (by rw [Bi.nums_len]; exact hmw), Bi.nums_at ws m hmw] at h1
                  exact Option.some.inj h1
                have hyl := HOL2.out _ (List.getElem_mem hmw)
                have HYES := Lib.hid (fun q => Ch.rowOf_yes (x := i) hmw q)
                have HNO := Lib.hid (fun q => Ch.rowOf_no (x := i) hmw q)
                rw [hzy] at s0
                clear hzy hrow
                generalize ws[m]'hmw = y at *
                have hm2 : (m : Int) < (zs.length : Int) := by omega
                by_cases hyi : y = i
                · have e0 : ((y : Int) != (i : Int)) = false := by rw [hyi]; exact bne_self_eq_false _
                  have HN := Lib.hid (HNO.out hyi)
                  have RWN : Hid (RwAt w gb mb h.length (Kn.initR h) l (Ch.drawTo h l i ++ Ch.readsTo l i t j ++ Kn.rowOf (ws.take (m + 1)) i) wr) := by
                    rw [HN.out]
                    exact RW.out
                  go_wp2_with fail
                  go_roundw
                  case rel => exact ⟨m + 1, by omega, by go_num, RWN.out, HVW.out⟩
                  case measure => simp [intOf]; omega
                · have e0 : ((y : Int) != (i : Int)) = true := by rw [bne_iff_ne]; omega
                  have HN := Lib.hid (HYES.out hyi)
                  obtain ⟨hok, A', c', t', o⟩ := RW.out.gv
                  have T := Lib.hid t'
                  have F := Lib.hid (chWith_at w.heap.size h.length A' c' _ i y wr hok o hlt hyl RW.out.low.size)
                  obtain ⟨k0, k1⟩ := t'.cells
                  clear t' o hok HYES HNO
                  go_wp2_with fail
                  refine F.out.mono ?_
                  rintro e W5 ⟨A5, c5, rfl, ho5, hb5⟩
                  have RW5 := Lib.hid (RW.out.later hb5)
                  have VW5 := Lib.hid (ints_later HVW.out hb5)
                  have TT := Lib.hid (T.out.later hb5)
                  have HO5 := Lib.hid ho5
                  clear ho5 hb5 k0 k1 RW HVW F T
                  obtain ⟨k0, k1⟩ := TT.out.cells
                  have f0 := TT.out.frozen 0
                  have f1 := TT.out.frozen 1
                  go_wp2_with fail
                  go_roundw
                  case rel =>
                    have hgm := HMB.out
                    refine ⟨m + 1, by omega, by go_num, ?_, ints_put (ints_put VW5.out (by omega)) (by omega)⟩
                    rw [HN.out, ← List.append_assoc]
                    exact RW5.out.put HMB.out HL1.out hlt hyl HO5.out
                  case measure => simp [intOf]; omega
              · obtain rfl : m = zs.length := by omega
                have RWN : Hid (RwAt w gb mb h.length (Kn.initR h) l (Ch.drawTo h l i ++ Ch.readsTo l i t (j + 1)) wr) := by
                  have r := RW.out
                  rw [← HLN.out, List.take_length, ← HRE.out] at r
                  rw [HNXJ.out, ← List.append_assoc]
                  exact r
                go_wp2_with fail
                go_roundw
                case rel => exact ⟨j + 1, by omega, by go_num, RWN.out⟩
                case measure => simp [intOf]; omega
          · obtain rfl : j = t.reads.length := by omega
            have RWN : Hid (RwAt w gb mb h.length (Kn.initR h) l (Ch.drawTo h l (i + 1)) wr) := by
              rw [HEND.out]
              exact RW.out
            go_wp2_with fail
            go_roundw
            case rel => exact ⟨i + 1, by omega, by go_num, RWN.out⟩
            case measure => simp [intOf]; omega
      · obtain rfl : i = h.length := by omega
        have rw2 := RW.out
        obtain ⟨hgv, -, hres, hlow⟩ := rw2
        rw [HALL.out] at hgv
        obtain ⟨-, A', c', t', o⟩ := hgv
        have O := Lib.hid o
        have T := Lib.hid hres
        have LOW := Lib.hid hlow
        obtain ⟨k0, k1⟩ := t'.cells
        obtain ⟨r0, r1⟩ := hres.cells
        have f0 := hres.frozen 0
        have f1 := hres.frozen 1
        clear t' o hres hlow
        go_wp2_with fail
        exact end_gr2 (p := 4) rfl T.out O.out LOW.out (Nat.le_succ _) _ rfl
end Go.Proofs.Ytahacjfeopjbaaa
/-
  What choice.Full answers.
  Conditions: a history's rows and the choices have at most 2^32 elements.
-/
set_option maxRecDepth 4000
namespace Go.Proofs.Ytahacjfeopjbaaa
open Go.RowKit

def putAt {α : Type} (f : Nat → α) (k : Nat) (x : α) (j : Nat) : α := if j = k then x else f j
theorem putAt_self {α : Type} (f : Nat → α) (k : Nat) (x : α) : putAt f k x k = x := if_pos rfl
theorem putAt_ne {α : Type} (f : Nat → α) {k j : Nat} (x : α) (h : j ≠ k) : putAt f k x j = f j := if_neg h
theorem putAt_true {f : Nat → Bool} {k j : Nat} (h : putAt f k true j = true) : j = k ∨ f j = true := by
  by_cases e : j = k
  · exact .inl e
  · exact .inr (by rwa [putAt_ne f true e] at h)
/-- What is known between the operations that make three graphs and lay them into three variables, whichever have come up: which calls (cg), which variables (cp), which stores (cs). -/
structure Fq (W X : World) (n : Nat) (rows : Nat → List Nat) (cg cp cs : Nat → Bool) (G P : Nat → Value) : Prop where
  low : Below W.heap.size W X
  g : ∀ k, cg k = true → ∃ A c, G k = .agg #[.int .i64 (n : Int), .slice A n c] ∧ OwnU X W.heap.size (.slice A n c) (rows k)
  p : ∀ k, cp k = true → ∃ b u0 u1, P k = .pointer (some ⟨b, 0, none⟩) ∧ W.heap.size ≤ b ∧ Two X b 32 u0 u1 ∧ (cs k = true → G k = .agg #[u0, u1])
  ne : ∀ j k, cp j = true → cp k = true → j ≠ k → P j ≠ P k
  sg : ∀ k, cs k = true → cg k = true
  sp : ∀ k, cs k = true → cp k = true
section
variable {W X Y : World} {n : Nat} {rows : Nat → List Nat} {cg cp cs : Nat → Bool} {G P : Nat → Value}
theorem Fq.start (h : Below W.heap.size W X) : Fq W X n rows (fun _ => false) (fun _ => false) (fun _ => false) G P :=
  ⟨h, fun _ q => (by cases q), fun _ q => (by cases q), fun _ _ q => (by cases q), fun _ q => (by cases q), fun _ q => (by cases q)⟩
theorem Fq.call (h : Fq W X n rows cg cp cs G P) (hb : Below X.heap.size X Y) {k : Nat} (hk : cg k = false) {A : Option Addr} {c : Nat} (ho : OwnU Y X.heap.size (.slice A n c) (rows k)) : Fq W Y n rows (putAt cg k true) cp cs (putAt G k (.agg #[.int .i64 (n : Int), .slice A n c])) P := by
  refine ⟨below_all h.low hb, fun j q => ?_, fun j q => ?_, h.ne, fun j q => ?_, h.sp⟩
  · by_cases e : j = k
    · subst e
      exact ⟨A, c, putAt_self _ _ _, World.ownsRow.mono ho h.low.size⟩
    · rw [putAt_ne _ _ e] at q
      obtain ⟨A', c', e1, o⟩ := h.g j q
      exact ⟨A', c', (putAt_ne _ _ e).trans e1, o.below hb⟩
  · obtain ⟨b, u0, u1, e1, hbb, t, hs⟩ := h.p j q
    refine ⟨b, u0, u1, e1, hbb, t.later hb, fun r => ?_⟩
    have e : j ≠ k := fun e => by
      have := h.sg j r
      rw [e, hk] at this
      cases this
    exact (putAt_ne _ _ e).trans (hs r)
  · by_cases e : j = k
    · rw [e, putAt_self]
    · rw [putAt_ne _ _ e]
      exact h.sg j q
theorem Fq.make (h : Fq W X n rows cg cp cs G P) {k : Nat} (hk : cp k = false) : Fq W (X.alloc (.cells #[.int .i64 0, .slice none 0 0] 32)) n rows cg (putAt cp k true) cs G (putAt P k (.pointer (some ⟨X.heap.size, 0, none⟩))) := by
  have hb := alloc_below X (.cells #[.int .i64 0, .slice none 0 0] 32)
  have old : ∀ j, cp j = true → P j ≠ .pointer (some ⟨X.heap.size, 0, none⟩) := fun j q e => by
    obtain ⟨b, u0, u1, e1, _, t, _⟩ := h.p j q
    rw [e1] at e
    exact absurd (by simpa using e : b = X.heap.size) (Nat.ne_of_lt t.lt)
  refine ⟨below_all h.low hb, fun j q => ?_, fun j q => ?_, fun i j qi qj hij => ?_, h.sg, fun j q => ?_⟩
  · obtain ⟨A, c, e1, o⟩ := h.g j q
    exact ⟨A, c, e1, o.below hb⟩
  · by_cases e : j = k
    · subst e
      refine ⟨_, _, _, putAt_self _ _ _, h.low.size, Two.new _ _ _ _, fun r => ?_⟩
      have := h.sp j r
      rw [hk] at this
      cases this
    · rw [putAt_ne _ _ e] at q
      obtain ⟨b, u0, u1, e1, hbb, t, hs⟩ := h.p j q
      exact ⟨b, u0, u1, (putAt_ne _ _ e).trans e1, hbb, t.later hb, hs⟩
  · by_cases ei : i = k
    · subst ei
      have ej : j ≠ i := fun e => hij e.symm
      rw [putAt_ne _ _ ej] at qj ⊢
      rw [putAt_self]
      exact fun e => old j qj e.symm
    · rw [putAt_ne _ _ ei] at qi ⊢
      by_cases ej : j = k
      · subst ej
        rw [putAt_self]
        exact old i qi
      · rw [putAt_ne _ _ ej] at qj ⊢
        exact h.ne i j qi qj hij
  · by_cases e : j = k
    · rw [e, putAt_self]
    · rw [putAt_ne _ _ e]
      exact h.sp j q
theorem Fq.store (h : Fq W X n rows cg cp cs G P) {k b c : Nat} {A : Option Addr} (hg : cg k = true) (hp : cp k = true) (eg : G k = .agg #[.int .i64 (n : Int), .slice A n c]) (ep : P k = .pointer (some ⟨b, 0, none⟩)) :
    Fq W ((X.setCell ⟨b, 0, none⟩ (.int .i64 (n : Int))).setCell ⟨b, 1, none⟩ (.slice A n c)) n rows cg cp (putAt cs k true) G P := by
  obtain ⟨b', u0, u1, e1, hbb, t, _⟩ := h.p k hp
  rw [ep] at e1
  obtain rfl : b = b' := by simpa using e1
  refine ⟨(h.low.setCell (p := ⟨b, 0, none⟩) hbb _).setCell (p := ⟨b, 1, none⟩) hbb _, fun j q => ?_, fun j q => ?_, h.ne, fun j q => ?_, fun j q => ?_⟩
  · obtain ⟨A', c', e2, o⟩ := h.g j q
    have hne : (Value.slice A' n c').ownBlock ≠ some b := fun e => own_not_gr o t e
    exact ⟨A', c', e2, own_aside (own_aside o hne) hne⟩
  · by_cases e : j = k
    · subst e
      exact ⟨b, _, _, ep, hbb, t.put, fun _ => eg⟩
    · obtain ⟨b2, v0, v1, e2, hb2, t2, hs⟩ := h.p j q
      have hne : b ≠ b2 := fun q2 => h.ne j k q hp e (by rw [e2, ep, q2])
      exact ⟨b2, v0, v1, e2, hb2, two_far (two_far t2 _ hne _) _ hne _, fun r => hs (by rwa [putAt_ne _ _ e] at r)⟩
  · rcases putAt_true q with e | q
    · rw [e]; exact hg
    · exact h.sg j q
  · rcases putAt_true q with e | q
    · rw [e]; exact hp
    · exact h.sp j q
end
/-- The end of a call that hands back a graph and no error. -/
theorem end_g2 {fn : Func} {p q : Tmp} (h : fn.results = #[.cell p 32, .tmp q]) {w X : World} {b : Nat} {n : Int} {l : List Nat} {u0 u1 : Value} {A : Option Addr} {m c : Nat} (hT : Two X b 32 u0 u1) (hR : OwnU X w.heap.size (.slice A m c) l) (hB : Below w.heap.size w X) (hb : w.heap.size ≤ b)
    (tmps : Array Value) (hp : tmps.getD p undef = .pointer (some ⟨b, 0, none⟩)) (hq : tmps.getD q undef = .int .i64 0) :
    bodyPost Try.prog fn (RetG w n l) Exit.ret { tmps := tmps, defers := [] } ((X.setCell ⟨b, 0, none⟩ (.int .i64 n)).setCell ⟨b, 1, none⟩ (.slice A m c)) := by
  have hne : (Value.slice A m c).ownBlock ≠ some b := fun e => own_not_gr hR hT e
  obtain ⟨p0, p1⟩ := (hT.put (x := .int .i64 n) (y := .slice A m c)).cells
  exact bodyPost_ret (res_g h _ b _ n 0 _ m c hp hq p0 p1) rfl ⟨_, rfl, own_aside (own_aside hR hne) hne, (hB.setCell (p := ⟨b, 0, none⟩) hb _).setCell (p := ⟨b, 1, none⟩) hb _⟩
/-- .. and with an error. -/
theorem end_no2 {fn : Func} {p q : Tmp} (h : fn.results = #[.cell p 32, .tmp q]) {w X : World} {b : Nat} {u0 u1 : Value} (hT : Two X b 32 u0 u1) (hB : Below w.heap.size w X) (hb : w.heap.size ≤ b)
    (tmps : Array Value) (hp : tmps.getD p undef = .pointer (some ⟨b, 0, none⟩)) (hq : tmps.getD q undef = .int .i64 1) :
    bodyPost Try.prog fn (RetNoG w) Exit.ret { tmps := tmps, defers := [] } ((X.setCell ⟨b, 0, none⟩ (.int .i64 0)).setCell ⟨b, 1, none⟩ (.slice none 0 0)) := by
  obtain ⟨p0, p1⟩ := (hT.put (x := .int .i64 0) (y := .slice none 0 0)).cells
  exact bodyPost_ret (res_g h _ b _ 0 1 _ 0 0 hp hq p0 p1) rfl ⟨rfl, (hB.setCell (p := ⟨b, 0, none⟩) hb _).setCell (p := ⟨b, 1, none⟩) hb _⟩

theorem chFull_wrong (h : List So.Txn) (u : Value) (level : Int) (l : List (Int × Int × Int)) (v : Value) (w : World) (hu : Txns w u h) (hl : Tris w v l) (hs : Ix.Small h) (hn : l.length ≤ 4294967296) (hb : Ch.rightC h l = false) : Calls Try.prog 12 #[.agg #[u], .int .i64 level, v] w (RetNoG w) := by
  have HV := Lib.hid hu
  have HL := Lib.hid hl
  obtain ⟨A0, c0', rfl, -⟩ := hu.spelled
  have F1 := Lib.hid (fun w hu hl => chRight_at h (.slice A0 h.length c0') l v w hu hl hs hn)
  obtain ⟨B, d, rfl, -⟩ := hl.spelled
  rw [hb] at F1
  clear hu hl hs hb
  go_enter Try.func12, Try.ntmps12
  go_upto_region 1 with fail
  obtain ⟨t0, t1, bw⟩ := kn_made w (.slice A0 h.length c0') rfl
  have T1 := Lib.hid t1
  have BW := Lib.hid bw
  have a0 := t0.cell
  clear t0 t1 bw
  generalize (w.alloc (.cells #[.slice A0 h.length c0'] 24)).alloc (.cells #[.int .i64 0, .slice none 0 0] 32) = W at *
  go_wp2_with fail
  refine (F1.out _ (HV.out.below BW.out) (HL.out.below BW.out)).mono ?_
  rintro e w1 ⟨rfl, hb1⟩
  have T11 := Lib.hid (T1.out.later hb1)
  have B1 := Lib.hid (below_all BW.out hb1)
  clear hb1 a0
  obtain ⟨r0, r1⟩ := T11.out.cells
  have f0 := T11.out.frozen 0
  have f1 := T11.out.frozen 1
  go_wp2_with fail
  exact end_no2 (p := 6) (q := 7) rfl T11.out B1.out (by omega) _ rfl rfl

set_option maxHeartbeats 8000000 in
theorem chFull_right (h : List So.Txn) (u : Value) (level : Int) (l : List (Int × Int × Int)) (v : Value) (w : World) (hu : Txns w u h) (hl : Tris w v l) (hs : Ix.Small h) (hn : l.length ≤ 4294967296) (hb : Ch.rightC h l = true) : Calls Try.prog 12 #[.agg #[u], .int .i64 level, v] w (if Ch.levB level = true then RetG w h.length (Ch.fullR (decide (level = 1)) h l) else RetNoG w) := by
  have HV := Lib.hid hu
  have HL := Lib.hid hl
  have hr := (Ch.rightC_iff.1 hb).1
  have hrb := (Hi.rightB_iff h).2 hr
  obtain ⟨A0, c0', rfl, -⟩ := hu.spelled
  have F1 := Lib.hid (fun w hu hl => chRight_at h (.slice A0 h.length c0') l v w hu hl hs hn)
  have FP := Lib.hid (fun w hu => knPast_at h (.slice A0 h.length c0') w hu hs)
  have FW := Lib.hid (fun w hu hl => chWw_at h (.slice A0 h.length c0') l v w hu hl hs hn)
  have FR := Lib.hid (fun w hu hl => chRw_at h (.slice A0 h.length c0') l v w hu hl hs hn)
  obtain ⟨q0, -, -, -, q1⟩ := Kn.all_yes hrb
  obtain ⟨q2, q3, q4, -⟩ := Ch.ans_yes hb
  rw [q0, q1] at FP
  rw [q2, q3] at FW
  rw [q2, q4] at FR
  rw [hb] at F1
  have OKP := Lib.hid (Kn.past_ok hr)
  have OKW := Lib.hid (Ch.ww_ok (l := l) hr)
  have OKR := Lib.hid (Ch.rw_ok (l := l) hr)
  have OKD := Lib.hid (Ch.dir_ok (l := l) hr)
  have hn64 := Kn.len64 hr
  have EQ0 : Hid (Ch.fullR false h l = Gf.unionR h.length (Ch.dirR h l) (Ch.rwR h l)) := rfl
  have EQ1 : Hid (Ch.fullR true h l = Gf.unionR h.length (Ch.dirR h l) (Gf.composeR h.length (Ch.dirR h l) (Ch.rwR h l))) := rfl
  have EQD : Hid (Ch.dirR h l = Gf.unionR h.length (Kn.pastR h) (Ch.wwR h l)) := rfl
  have OKC : Hid (Gf.Ok h.length (Gf.composeR h.length (Ch.dirR h l) (Ch.rwR h l))) := Gf.build_ok hn64 _
  obtain ⟨B, d, rfl, -⟩ := hl.spelled
  clear hu hl hs hb hr hrb q0 q1 q2 q3 q4 hn64
  generalize hpo : (if Ch.levB level = true then RetG w h.length (Ch.fullR (decide (level = 1)) h l) else RetNoG w) = Post
  have HPO := Lib.hid hpo
  clear hpo
  generalize Kn.pastR h = past at *
  generalize Ch.wwR h l = ww at *
  generalize Ch.rwR h l = rw' at *
  generalize Ch.dirR h l = dir at *
  go_enter Try.func12, Try.ntmps12
  go_upto_region 1 with fail
  obtain ⟨t0, t1, bw⟩ := kn_made w (.slice A0 h.length c0') rfl
  have T0 := Lib.hid t0
  have T1 := Lib.hid t1
  have BW := Lib.hid bw
  have a0 := t0.cell
  clear t0 t1 bw
  generalize (w.alloc (.cells #[.slice A0 h.length c0'] 24)).alloc (.cells #[.int .i64 0, .slice none 0 0] 32) = W at *
  go_wp2_with fail
  refine (F1.out _ (HV.out.below BW.out) (HL.out.below BW.out)).mono ?_
  rintro e w1 ⟨rfl, hb1⟩
  have T01 := Lib.hid (Boxed.later T0.out hb1)
  have T11 := Lib.hid (T1.out.later hb1)
  have B1 := Lib.hid (below_all BW.out hb1)
  have HL1 := Lib.hid (T1.out.lt)
  clear hb1 a0 T0 T1
  go_upto_region 3 with fail
  have HK : Hid (∀ W', Below w1.heap.size w1 W' → W'.cell? ⟨w.heap.size, 0, none⟩ = some (.slice A0 h.length c0')) := fun W' hb => st_stays hb T01.out.cell
  have D := Lib.hid (Below.refl w1.heap.size w1).drew
  refine wp_region_held_drew (S := fun W' => W'.cell? ⟨w.heap.size, 0, none⟩ = some (.slice A0 h.length c0')) (by kernel_rfl) (HK.out _ D.out) (fun hHeld => ?_)
  refine wpAnyH_take (i := 0) (oi := ({ dst := some 19, op := Op.load 24 (Operand.tmp 3), type := 24, pos := "choice.go:65", after := #[], guard := none } : Oper)) (v := ?_) rfl (by kernel_rfl) (by kernel_rfl) (by kernel_rfl) (fun _ _ _ h => h) (Or.inl ⟨by rfl, ?_⟩) (by assumption) ?_
  rotate_left
  · intro w hSw; (try dsimp only at hSw); go_simp
    try (with_reducible rfl)
  try simp only [Act.put, List.setIfInBounds_toArray, List.set_cons_zero, List.set_cons_succ]
  refine wpAnyH_take (i := 2) (oi := ({ dst := some 21, op := Op.load 24 (Operand.tmp 3), type := 24, pos := "choice.go:65", after := #[], guard := none } : Oper)) (v := ?_) rfl (by kernel_rfl) (by kernel_rfl) (by kernel_rfl) (fun _ _ _ h => h) (Or.inl ⟨by rfl, ?_⟩) (by assumption) ?_
  rotate_left
  · intro w hSw; (try dsimp only at hSw); go_simp
    try (with_reducible rfl)
  try simp only [Act.put, List.setIfInBounds_toArray, List.set_cons_zero, List.set_cons_succ]
  refine wpAnyH_take (i := 3) (oi := ({ dst := some 22, op := Op.move (Operand.tmp 2), type := 25, pos := "choice.go:65", after := #[], guard := none } : Oper)) (v := ?_) rfl (by kernel_rfl) (by kernel_rfl) (by kernel_rfl) (fun _ _ _ h => h) (Or.inl ⟨by rfl, ?_⟩) (by assumption) ?_
  rotate_left
  · intro w hSw; (try dsimp only at hSw); go_simp
    try (with_reducible rfl)
  try simp only [Act.put, List.setIfInBounds_toArray, List.set_cons_zero, List.set_cons_succ]
  refine wpAnyH_take (i := 5) (oi := ({ dst := some 24, op := Op.load 24 (Operand.tmp 3), type := 24, pos := "choice.go:65", after := #[], guard := none } : Oper)) (v := ?_) rfl (by kernel_rfl) (by kernel_rfl) (by kernel_rfl) (fun _ _ _ h => h) (Or.inl ⟨by rfl, ?_⟩) (by assumption) ?_
  rotate_left
  · intro w hSw; (try dsimp only at hSw); go_simp
    try (with_reducible rfl)
  try simp only [Act.put, List.setIfInBounds_toArray, List.set_cons_zero, List.set_cons_succ]
  refine wpAnyH_take (i := 6) (oi := ({ dst := some 25, op := Op.move (Operand.tmp 2), type := 25, pos := "choice.go:65", after := #[], guard := none } : Oper)) (v := ?_) rfl (by kernel_rfl) (by kernel_rfl) (by kernel_rfl) (fun _ _ _ h => h) (Or.inl ⟨by rfl, ?_⟩) (by assumption) ?_
  rotate_left
  · intro w hSw; (try dsimp only at hSw); go_simp
    try (with_reducible rfl)
  try simp only [Act.put, List.setIfInBounds_toArray, List.set_cons_zero, List.set_cons_succ]
  have rows : ∃ f : Nat → List Nat, f 0 = past ∧ f 1 = ww ∧ f 2 = rw' := ⟨fun k => if k = 0 then past else if k = 1 then ww else rw', rfl, rfl, rfl⟩
  obtain ⟨rows, hr0, hr1, hr2⟩ := rows
  have R0 := Lib.hid hr0
  have R1 := Lib.hid hr1
  have R2 := Lib.hid hr2
  clear hr0 hr1 hr2
  refine anyOrder2 (fun listed a X => ∃ (cg cp cs : Nat → Bool) (G P : Nat → Value), listed = #[true, cg 0, true, true, cg 1, true, true, cg 2, cp 0, cp 1, cp 2, cs 0, cs 1, cs 2] ∧ a = ⟨#[.agg #[.slice A0 h.length c0'], .int .i64 level, .slice B l.length d, .pointer (some ⟨w.heap.size, 0, none⟩), undef, undef, .pointer (some ⟨w.heap.size + 1, 0, none⟩), .int .i64 0, P 0, P 1, P 2, undef, undef, undef, .agg #[.slice A0 h.length c0'], .slice B l.length d, .bool true, .bool false, undef, .agg #[.slice A0 h.length c0'], G 0, .agg #[.slice A0 h.length c0'], .slice B l.length d, G 1, .agg #[.slice A0 h.length c0'], .slice B l.length d, G 2, undef, undef, undef, undef, undef, undef, undef, undef, undef, undef, undef, undef, undef, undef, undef, undef, undef, undef, undef, undef, undef, undef, undef, undef, undef], []⟩ ∧ Hid (Fq w1 X h.length rows cg cp cs G P)) (by kernel_rfl) ?size ?fuel ?start ?fin ?step
  case size => rintro listed a X ⟨cg, cp, cs, G, P, rfl, -⟩; rfl
  case fuel => exact Nat.le_of_eq (by kernel_rfl)
  case start => exact ⟨fun _ => false, fun _ => false, fun _ => false, fun _ => undef, fun _ => undef, by kernel_rfl, rfl, Fq.start D.out⟩
  case fin =>
    rintro listed a X ⟨cg, cp, cs, G, P, rfl, rfl, HP⟩ hall
    have s0 : cs 0 = true := hall 11 (by decide)
    have s1 : cs 1 = true := hall 12 (by decide)
    have s2 : cs 2 = true := hall 13 (by decide)
    obtain ⟨A1, c1, g1, o1⟩ := HP.out.g 0 (HP.out.sg 0 s0)
    obtain ⟨A2, c2, g2, o2⟩ := HP.out.g 1 (HP.out.sg 1 s1)
    obtain ⟨A3, c3, g3, o3⟩ := HP.out.g 2 (HP.out.sg 2 s2)
    obtain ⟨b1, x0, x1, p1, hb1, t1, e1⟩ := HP.out.p 0 (HP.out.sp 0 s0)
    obtain ⟨b2, y0, y1, p2, hb2, t2, e2⟩ := HP.out.p 1 (HP.out.sp 1 s1)
    obtain ⟨b3, z0, z1, p3, hb3, t3, e3⟩ := HP.out.p 2 (HP.out.sp 2 s2)
    have e1 := (e1 s0).symm.trans g1
    have e2 := (e2 s1).symm.trans g2
    have e3 := (e3 s2).symm.trans g3
    obtain ⟨rfl, rfl⟩ : x0 = .int .i64 (h.length : Int) ∧ x1 = .slice A1 h.length c1 := by simpa using e1
    obtain ⟨rfl, rfl⟩ : y0 = .int .i64 (h.length : Int) ∧ y1 = .slice A2 h.length c2 := by simpa using e2
    obtain ⟨rfl, rfl⟩ : z0 = .int .i64 (h.length : Int) ∧ z1 = .slice A3 h.length c3 := by simpa using e3
    rw [p1, p2, p3, g1, g2, g3]
    rw [R0.out] at o1
    rw [R1.out] at o2
    rw [R2.out] at o3
    have BX := Lib.hid (below_all B1.out HP.out.low)
    have TR := Lib.hid (T11.out.later HP.out.low)
    have HLR := Lib.hid T11.out.lt
    have N1 := Lib.hid t1
    have N2 := Lib.hid t2
    have N3 := Lib.hid t3
    have O1 := Lib.hid o1
    have O2 := Lib.hid o2
    have O3 := Lib.hid o3
    clear s0 s1 s2 g1 g2 g3 p1 p2 p3 e1 e2 e3 t1 t2 t3 o1 o2 o3 HP hall hHeld HK D FP FW FR F1 T01 R0 R1 R2 hb1 hb2 hb3
    dsimp only
    obtain ⟨j0, j1⟩ := N1.out.cells
    obtain ⟨k0, k1⟩ := N2.out.cells
    obtain ⟨m0, m1⟩ := N3.out.cells
    by_cases hv0 : level = 0
    · subst hv0
      have hpost : Post = RetG w h.length (Ch.fullR false h l) := HPO.out.symm
      have hq := alloc_below X (.cells #[.int .i64 (h.length : Int), .slice A2 h.length c2, .int .i64 (h.length : Int), .slice A3 h.length c3] 32)
      have hg : Grs (X.alloc (.cells #[.int .i64 (h.length : Int), .slice A2 h.length c2, .int .i64 (h.length : Int), .slice A3 h.length c3] 32)) h.length (.slice (some ⟨X.heap.size, 0, none⟩) 2 2) [(ww, A2, c2), (rw', A3, c3)] := ⟨lit_rows (grC_len h.length) X 32 [(ww, A2, c2), (rw', A3, c3)] (by simp [maxLen]), fun x hx => by
        simp only [List.mem_cons, List.not_mem_nil, or_false] at hx
        rcases hx with rfl | rfl
        · exact ⟨(OwnU.us O2.out).below hq, OKW.out⟩
        · exact ⟨(OwnU.us O3.out).below hq, OKR.out⟩⟩
      have F := Lib.hid (chUnited_at h.length A1 c1 past _ _ _ ((OwnU.us O1.out).below hq) OKP.out hg (by simp) (by simp))
      rw [show unions h.length past [(ww, A2, c2), (rw', A3, c3)] = Gf.unionR h.length (Gf.unionR h.length past ww) rw' from rfl, ← EQD.out, ← EQ0.out] at F
      have BX2 := Lib.hid (below_all BX.out hq)
      have TR2 := Lib.hid (TR.out.later hq)
      clear hg hq
      go_wp2_with fail
      refine F.out.mono ?_
      rintro e z ⟨v, rfl, ho, hz⟩
      have BZ := Lib.hid (below_all BX2.out hz)
      have TRZ := Lib.hid (TR2.out.later hz)
      have oz : OwnU z w.heap.size v (Ch.fullR false h l) := World.ownsRow.mono ho BX2.out.size
      obtain ⟨A, c, rfl⟩ := ho.form
      rw [Ch.full_len] at oz ⊢
      have OZ := Lib.hid oz
      clear oz ho hz j0 j1 k0 k1 m0 m1
      obtain ⟨r0, r1⟩ := TRZ.out.cells
      have f0 := TRZ.out.frozen 0
      have f1 := TRZ.out.frozen 1
      go_wp2_with fail
      rw [hpost]
      exact end_g2 (p := 6) (q := 7) rfl TRZ.out OZ.out BZ.out (by omega) _ rfl rfl
    by_cases hv1 : level = 1
    · subst hv1
      have hpost : Post = RetG w h.length (Ch.fullR true h l) := HPO.out.symm
      have e0 : ((1 : Int) == 0) = false := rfl
      have e1 : ((1 : Int) == 1) = true := rfl
      have hq := alloc_below X (.cells #[.int .i64 (h.length : Int), .slice A2 h.length c2] 32)
      have hg : Grs (X.alloc (.cells #[.int .i64 (h.length : Int), .slice A2 h.length c2] 32)) h.length (.slice (some ⟨X.heap.size, 0, none⟩) 1 1) [(ww, A2, c2)] := ⟨lit_rows (grC_len h.length) X 32 [(ww, A2, c2)] (by simp [maxLen]), fun x hx => by
        rw [List.mem_singleton] at hx
        subst hx
        exact ⟨(OwnU.us O2.out).below hq, OKW.out⟩⟩
      have F := Lib.hid (chUnited_at h.length A1 c1 past _ _ _ ((OwnU.us O1.out).below hq) OKP.out hg (by simp) (by simp))
      rw [show unions h.length past [(ww, A2, c2)] = Gf.unionR h.length past ww from rfl, ← EQD.out] at F
      have BX2 := Lib.hid (below_all BX.out hq)
      have TR2 := Lib.hid (TR.out.later hq)
      have N32 := Lib.hid (N3.out.later hq)
      have O32 := Lib.hid ((OwnU.us O3.out).below hq)
      clear hg hq
      go_wp2_with fail
      refine F.out.mono ?_
      rintro e z ⟨v, rfl, ho, hz⟩
      obtain ⟨A, c, rfl⟩ := ho.form
      rw [OKD.out.2.1] at ho ⊢
      have hq2 := alloc_below z (.cells #[.int .i64 (h.length : Int), .slice A h.length c] 32)
      have BZ := Lib.hid (below_all (below_all BX2.out hz) hq2)
      have TRZ := Lib.hid ((TR2.out.later hz).later hq2)
      have N33 := Lib.hid ((N32.out.later hz).later hq2)
      have O33 := Lib.hid ((O32.out.below hz).below hq2)
      have OD := Lib.hid ((OwnU.us ho).below hq2)
      have ND := Lib.hid (Two.new z 32 (.int .i64 (h.length : Int)) (.slice A h.length c))
      clear ho hz hq2 j0 j1 k0 k1 m0 m1 F
      go_upto_region 9 with fail
      generalize z.alloc (.cells #[.int .i64 (h.length : Int), .slice A h.length c] 32) = Z at *
      generalize z.heap.size = gd at *
      obtain ⟨j0, j1⟩ := ND.out.cells
      obtain ⟨m0, m1⟩ := N33.out.cells
      have F := Lib.hid (gfCompose_at h.length (.slice A h.length c) (.slice A3 h.length c3) dir rw' Z OD.out O33.out OKD.out OKR.out)
      go_wp2_with fail
      refine F.out.mono ?_
      rintro e y ⟨v, rfl, ho, hz⟩
      obtain ⟨A5, c5, rfl⟩ := ho.form
      rw [OKC.out.2.1] at ho ⊢
      have hq2 := alloc_below y (.cells #[.int .i64 (h.length : Int), .slice A5 h.length c5] 32)
      have BY := Lib.hid (below_all (below_all BZ.out hz) hq2)
      have TY := Lib.hid ((TRZ.out.later hz).later hq2)
      have NDY := Lib.hid ((ND.out.later hz).later hq2)
      have ODY := Lib.hid ((OD.out.below hz).below hq2)
      have OC := Lib.hid ((OwnU.us ho).below hq2)
      have NC := Lib.hid (Two.new y 32 (.int .i64 (h.length : Int)) (.slice A5 h.length c5))
      clear ho hz hq2 j0 j1 m0 m1 F
      go_upto_region 10 with fail
      generalize y.alloc (.cells #[.int .i64 (h.length : Int), .slice A5 h.length c5] 32) = Y at *
      generalize y.heap.size = gc at *
      obtain ⟨j0, j1⟩ := NDY.out.cells
      obtain ⟨m0, m1⟩ := NC.out.cells
      have hq := alloc_below Y (.cells #[.int .i64 (h.length : Int), .slice A5 h.length c5] 32)
      have hg : Grs (Y.alloc (.cells #[.int .i64 (h.length : Int), .slice A5 h.length c5] 32)) h.length (.slice (some ⟨Y.heap.size, 0, none⟩) 1 1) [(Gf.composeR h.length dir rw', A5, c5)] := ⟨lit_rows (grC_len h.length) Y 32 [(Gf.composeR h.length dir rw', A5, c5)] (by simp [maxLen]), fun x hx => by
        rw [List.mem_singleton] at hx
        subst hx
        exact ⟨OC.out.below hq, OKC.out⟩⟩
      have F := Lib.hid (chUnited_at h.length A c dir _ _ _ (ODY.out.below hq) OKD.out hg (by simp) (by simp))
      rw [show unions h.length dir [(Gf.composeR h.length dir rw', A5, c5)] = Gf.unionR h.length dir (Gf.composeR h.length dir rw') from rfl, ← EQ1.out] at F
      have BY2 := Lib.hid (below_all BY.out hq)
      have TY2 := Lib.hid (TY.out.later hq)
      clear hg hq
      go_wp2_with fail
      refine F.out.mono ?_
      rintro e x ⟨v, rfl, ho, hz⟩
      have BZ2 := Lib.hid (below_all BY2.out hz)
      have TRZ2 := Lib.hid (TY2.out.later hz)
      have oz : OwnU x w.heap.size v (Ch.fullR true h l) := World.ownsRow.mono ho BY2.out.size
      obtain ⟨A6, c6, rfl⟩ := ho.form
      rw [Ch.full_len] at oz ⊢
      have OZ := Lib.hid oz
      clear oz ho hz j0 j1 m0 m1
      obtain ⟨r0, r1⟩ := TRZ2.out.cells
      have f0 := TRZ2.out.frozen 0
      have f1 := TRZ2.out.frozen 1
      go_wp2_with fail
      rw [hpost]
      exact end_g2 (p := 6) (q := 7) rfl TRZ2.out OZ.out BZ2.out (by omega) _ rfl rfl
    have hpost : Post = RetNoG w := by
      rw [← HPO.out, if_neg]
      intro q
      rcases Ch.levB_iff.1 q with e | e
      · exact hv0 e
      · exact hv1 e
    have e0 : (level == 0) = false := by rw [beq_eq_false_iff_ne]; exact hv0
    have e1 : (level == 1) = false := by rw [beq_eq_false_iff_ne]; exact hv1
    obtain ⟨r0, r1⟩ := TR.out.cells
    have f0 := TR.out.frozen 0
    have f1 := TR.out.frozen 1
    go_wp2_with fail
    rw [hpost]
    exact end_no2 (p := 6) (q := 7) rfl TR.out BX.out (by omega) _ rfl rfl
  case step =>
    intro i o ho listed a X hj hu haf K hK
    obtain ⟨cg, cp, cs, G, P, rfl, rfl, HP⟩ := hj
    have hi : i < 14 := (Array.getElem?_eq_some_iff.1 ho).1
    have hcases : i = 1 ∨ i = 4 ∨ i = 7 ∨ i = 8 ∨ i = 9 ∨ i = 10 ∨ i = 11 ∨ i = 12 ∨ i = 13 := by
      clear ho haf hK HP
      match i, hi, hu with
      | 0, _, h => cases h
      | 2, _, h => cases h
      | 3, _, h => cases h
      | 5, _, h => cases h
      | 6, _, h => cases h
      | 1, _, _ | 4, _, _ | 7, _, _ | 8, _, _ | 9, _, _ | 10, _, _ | 11, _, _ | 12, _, _ | 13, _, _ => simp
      | (k + 14), h, _ => omega
    clear hHeld
    rcases hcases with rfl | rfl | rfl | rfl | rfl | rfl | rfl | rfl | rfl
    · obtain rfl : ({ dst := some 20, op := Op.call { callee := Callee.value (Operand.func 34), args := #[Operand.tmp 19], argTypes := #[24] }, type := 32, pos := "choice.go:65", after := #[{ on := 0, ground := Ground.data }], guard := none } : Oper) = o := Option.some.inj ho
      have hu0 : cg 0 = false := hu
      clear ho haf hu
      go_simp
      go_at_call 34
      refine (FP.out X (HV.out.below (below_all B1.out HP.out.low))).mono ?_
      rintro e z ⟨v, rfl, hv, hz⟩
      obtain ⟨A, c, rfl⟩ := hv.form
      rw [OKP.out.2.1] at hv ⊢
      rw [← R0.out] at hv
      have HP2 := Lib.hid (HP.out.call hz hu0 hv)
      clear hv hz hu0 HP
      try go_simp
      exact hK.out _ _ ⟨HK.out _ HP2.out.low, _, _, _, _, _, rfl, rfl, HP2.out⟩
    · obtain rfl : ({ dst := some 23, op := Op.call { callee := Callee.value (Operand.func 10), args := #[Operand.tmp 21, Operand.tmp 22], argTypes := #[24, 25] }, type := 32, pos := "choice.go:65", after := #[{ on := 2, ground := Ground.data }, { on := 3, ground := Ground.data }, { on := 1, ground := Ground.chain }], guard := none } : Oper) = o := Option.some.inj ho
      have hu0 : cg 1 = false := hu
      clear ho haf hu
      go_simp
      go_at_call 10
      refine (FW.out X (HV.out.below (below_all B1.out HP.out.low)) (HL.out.below (below_all B1.out HP.out.low))).mono ?_
      rintro e z ⟨v, rfl, hv, hz⟩
      obtain ⟨A, c, rfl⟩ := hv.form
      rw [OKW.out.2.1] at hv ⊢
      rw [← R1.out] at hv
      have HP2 := Lib.hid (HP.out.call hz hu0 hv)
      clear hv hz hu0 HP
      try go_simp
      exact hK.out _ _ ⟨HK.out _ HP2.out.low, _, _, _, _, _, rfl, rfl, HP2.out⟩
    · obtain rfl : ({ dst := some 26, op := Op.call { callee := Callee.value (Operand.func 11), args := #[Operand.tmp 24, Operand.tmp 25], argTypes := #[24, 25] }, type := 32, pos := "choice.go:65", after := #[{ on := 5, ground := Ground.data }, { on := 6, ground := Ground.data }, { on := 4, ground := Ground.chain }], guard := none } : Oper) = o := Option.some.inj ho
      have hu0 : cg 2 = false := hu
      clear ho haf hu
      go_simp
      go_at_call 11
      refine (FR.out X (HV.out.below (below_all B1.out HP.out.low)) (HL.out.below (below_all B1.out HP.out.low))).mono ?_
      rintro e z ⟨v, rfl, hv, hz⟩
      obtain ⟨A, c, rfl⟩ := hv.form
      rw [OKR.out.2.1] at hv ⊢
      rw [← R2.out] at hv
      have HP2 := Lib.hid (HP.out.call hz hu0 hv)
      clear hv hz hu0 HP
      try go_simp
      exact hK.out _ _ ⟨HK.out _ HP2.out.low, _, _, _, _, _, rfl, rfl, HP2.out⟩
    · obtain rfl : ({ dst := some 8, op := Op.alloc 32, type := 0, pos := "choice.go:65", after := #[], guard := none } : Oper) = o := Option.some.inj ho
      have hu0 : cp 0 = false := hu
      clear ho haf hu
      have HP2 := Lib.hid (HP.out.make hu0)
      clear hu0 HP
      go_simp
      exact hK.out _ _ ⟨HK.out _ HP2.out.low, _, _, _, _, _, rfl, rfl, HP2.out⟩
    · obtain rfl : ({ dst := some 9, op := Op.alloc 32, type := 0, pos := "choice.go:65", after := #[], guard := none } : Oper) = o := Option.some.inj ho
      have hu0 : cp 1 = false := hu
      clear ho haf hu
      have HP2 := Lib.hid (HP.out.make hu0)
      clear hu0 HP
      go_simp
      exact hK.out _ _ ⟨HK.out _ HP2.out.low, _, _, _, _, _, rfl, rfl, HP2.out⟩
    · obtain rfl : ({ dst := some 10, op := Op.alloc 32, type := 0, pos := "choice.go:65", after := #[], guard := none } : Oper) = o := Option.some.inj ho
      have hu0 : cp 2 = false := hu
      clear ho haf hu
      have HP2 := Lib.hid (HP.out.make hu0)
      clear hu0 HP
      go_simp
      exact hK.out _ _ ⟨HK.out _ HP2.out.low, _, _, _, _, _, rfl, rfl, HP2.out⟩
    · obtain rfl : ({ dst := none, op := Op.store 32 (Operand.tmp 8) (Operand.tmp 20), type := 0, pos := "choice.go:65", after := #[{ on := 8, ground := Ground.data }, { on := 1, ground := Ground.data }, { on := 7, ground := Ground.chain }, { on := 0, ground := Ground.phase }, { on := 1, ground := Ground.phase }, { on := 2, ground := Ground.textOnly Departure.lateStores }, { on := 3, ground := Ground.textOnly Departure.lateStores }, { on := 4, ground := Ground.textOnly Departure.lateStoresUnsure }, { on := 5, ground := Ground.textOnly Departure.lateStores }, { on := 6, ground := Ground.textOnly Departure.lateStores }, { on := 7, ground := Ground.textOnly Departure.lateStoresUnsure }, { on := 8, ground := Ground.phase }, { on := 9, ground := Ground.phase }, { on := 10, ground := Ground.phase }], guard := none } : Oper) = o := Option.some.inj ho
      have hp0 : cp 0 = true := haf ⟨8, .data⟩ (by simp) rfl
      have hg0 : cg 0 = true := haf ⟨1, .data⟩ (by simp) rfl
      clear ho haf hu
      obtain ⟨A, c, eg, -⟩ := HP.out.g 0 hg0
      obtain ⟨b, u0, u1, ep, -, t, -⟩ := HP.out.p 0 hp0
      obtain ⟨k0, k1⟩ := t.cells
      have f0 := t.frozen 0
      have f1 := t.frozen 1
      have HP2 := Lib.hid (HP.out.store hg0 hp0 eg ep)
      rw [ep, eg]
      clear t HP hp0 hg0
      go_simp
      exact hK.out _ _ ⟨HK.out _ HP2.out.low, cg, cp, putAt cs 0 true, G, P, rfl, by rw [ep, eg], HP2.out⟩
    · obtain rfl : ({ dst := none, op := Op.store 32 (Operand.tmp 9) (Operand.tmp 23), type := 0, pos := "choice.go:65", after := #[{ on := 9, ground := Ground.data }, { on := 4, ground := Ground.data }, { on := 11, ground := Ground.chain }, { on := 0, ground := Ground.phase }, { on := 1, ground := Ground.phase }, { on := 2, ground := Ground.phase }, { on := 3, ground := Ground.phase }, { on := 4, ground := Ground.phase }, { on := 5, ground := Ground.textOnly Departure.lateStores }, { on := 6, ground := Ground.textOnly Departure.lateStores }, { on := 7, ground := Ground.textOnly Departure.lateStoresUnsure }, { on := 8, ground := Ground.phase }, { on := 9, ground := Ground.phase }, { on := 10, ground := Ground.phase }, { on := 11, ground := Ground.phase }], guard := none } : Oper) = o := Option.some.inj ho
      have hp0 : cp 1 = true := haf ⟨9, .data⟩ (by simp) rfl
      have hg0 : cg 1 = true := haf ⟨4, .data⟩ (by simp) rfl
      clear ho haf hu
      obtain ⟨A, c, eg, -⟩ := HP.out.g 1 hg0
      obtain ⟨b, u0, u1, ep, -, t, -⟩ := HP.out.p 1 hp0
      obtain ⟨k0, k1⟩ := t.cells
      have f0 := t.frozen 0
      have f1 := t.frozen 1
      have HP2 := Lib.hid (HP.out.store hg0 hp0 eg ep)
      rw [ep, eg]
      clear t HP hp0 hg0
      go_simp
      exact hK.out _ _ ⟨HK.out _ HP2.out.low, cg, cp, putAt cs 1 true, G, P, rfl, by rw [ep, eg], HP2.out⟩
    · obtain rfl : ({ dst := none, op := Op.store 32 (Operand.tmp 10) (Operand.tmp 26), type := 0, pos := "choice.go:65", after := #[{ on := 10, ground := Ground.data }, { on := 7, ground := Ground.data }, { on := 12, ground := Ground.chain }, { on := 0, ground := Ground.phase }, { on := 1, ground := Ground.phase }, { on := 2, ground := Ground.phase }, { on := 3, ground := Ground.phase }, { on := 4, ground := Ground.phase }, { on := 5, ground := Ground.phase }, { on := 6, ground := Ground.phase }, { on := 7, ground := Ground.phase }, { on := 8, ground := Ground.phase }, { on := 9, ground := Ground.phase }, { on := 10, ground := Ground.phase }, { on := 11, ground := Ground.phase }, { on := 12, ground := Ground.phase }], guard := none } : Oper) = o := Option.some.inj ho
      have hp0 : cp 2 = true := haf ⟨10, .data⟩ (by simp) rfl
      have hg0 : cg 2 = true := haf ⟨7, .data⟩ (by simp) rfl
      clear ho haf hu
      obtain ⟨A, c, eg, -⟩ := HP.out.g 2 hg0
      obtain ⟨b, u0, u1, ep, -, t, -⟩ := HP.out.p 2 hp0
      obtain ⟨k0, k1⟩ := t.cells
      have f0 := t.frozen 0
      have f1 := t.frozen 1
      have HP2 := Lib.hid (HP.out.store hg0 hp0 eg ep)
      rw [ep, eg]
      clear t HP hp0 hg0
      go_simp
      exact hK.out _ _ ⟨HK.out _ HP2.out.low, cg, cp, putAt cs 2 true, G, P, rfl, by rw [ep, eg], HP2.out⟩

theorem chFull_at (h : List So.Txn) (u : Value) (level : Int) (l : List (Int × Int × Int)) (v : Value) (w : World) (hu : Txns w u h) (hl : Tris w v l) (hs : Ix.Small h) (hn : l.length ≤ 4294967296) (hr : Ch.rightC h l = true) (hv : Ch.levB level = true) : Calls Try.prog 12 #[.agg #[u], .int .i64 level, v] w (RetG w h.length (Ch.fullR (decide (level = 1)) h l)) := by
  have q := chFull_right h u level l v w hu hl hs hn hr
  rwa [if_pos hv] at q
theorem chFull_no (h : List So.Txn) (u : Value) (level : Int) (l : List (Int × Int × Int)) (v : Value) (w : World) (hu : Txns w u h) (hl : Tris w v l) (hs : Ix.Small h) (hn : l.length ≤ 4294967296) (hno : (Ch.rightC h l && Ch.levB level) = false) : Calls Try.prog 12 #[.agg #[u], .int .i64 level, v] w (RetNoG w) := by
  cases hr : Ch.rightC h l with
  | false => exact chFull_wrong h u level l v w hu hl hs hn hr
  | true =>
    rw [hr, Bool.true_and] at hno
    have q := chFull_right h u level l v w hu hl hs hn hr
    rwa [if_neg (by rw [hno]; simp)] at q
end Go.Proofs.Ytahacjfeopjbaaa
/-
  What choice.turned and choice.Open answer.
  Conditions: a history's rows and the choices have at most 2^32 elements.
-/
set_option maxRecDepth 4000
namespace Go.Proofs.Ytahacjfeopjbaaa
open Go.RowKit

/-- The world at the first operation: the history and the answer's choice lie in variables. -/
theorem ch_made (w : World) (u : Value) {W : World} (h : W = (w.alloc (.cells #[u] 24)).alloc (.cells #[.int .i64 0, .int .i64 0, .int .i64 0] 38)) :
    Boxed W w.heap.size 24 u ∧ Three W (w.heap.size + 1) 38 (.int .i64 0) (.int .i64 0) (.int .i64 0) ∧ Below w.heap.size w W := by
  subst h
  have b1 := alloc_below w (.cells #[u] 24)
  have b2 := alloc_below (w.alloc (.cells #[u] 24)) (.cells #[.int .i64 0, .int .i64 0, .int .i64 0] 38)
  have t1 := Three.new (w.alloc (.cells #[u] 24)) 38 (.int .i64 0) (.int .i64 0) (.int .i64 0)
  rw [World.size_alloc] at t1
  exact ⟨Boxed.later (Boxed.new w 24 u) b2, t1, below_all b1 b2⟩
theorem chTurned_at (k a b : Int) (w : World) : Calls Try.prog 37 #[.agg #[.int .i64 k, .int .i64 a, .int .i64 b]] w fun e w' => e = .returned (.agg #[.int .i64 k, .int .i64 b, .int .i64 a]) ∧ Below w.heap.size w w' := by
  have b1 := alloc_below w (.cells #[.int .i64 k, .int .i64 a, .int .i64 b] 38)
  have b2 := alloc_below (w.alloc (.cells #[.int .i64 k, .int .i64 a, .int .i64 b] 38)) (.cells #[.int .i64 0, .int .i64 0, .int .i64 0] 38)
  have t1 := Three.new (w.alloc (.cells #[.int .i64 k, .int .i64 a, .int .i64 b] 38)) 38 (.int .i64 0) (.int .i64 0) (.int .i64 0)
  rw [World.size_alloc] at t1
  have T0 := Lib.hid ((Three.new w 38 (.int .i64 k) (.int .i64 a) (.int .i64 b)).later b2)
  have T1 := Lib.hid t1
  have BW := Lib.hid (below_all b1 b2)
  clear b1 b2 t1
  go_enter Try.func37, Try.ntmps37
  go_upto_region 1 with fail
  generalize (w.alloc (.cells #[.int .i64 k, .int .i64 a, .int .i64 b] 38)).alloc (.cells #[.int .i64 0, .int .i64 0, .int .i64 0] 38) = W at *
  obtain ⟨k0, k1, k2⟩ := T0.out.cells
  obtain ⟨r0, r1, r2⟩ := T1.out.cells
  have f0 := T1.out.frozen 0
  have f1 := T1.out.frozen 1
  have f2 := T1.out.frozen 2
  go_wp2_with fail
  obtain ⟨p0, p1, p2⟩ := (show Three (((W.setCell ⟨w.heap.size + 1, 0, none⟩ (.int .i64 k)).setCell ⟨w.heap.size + 1, 1, none⟩ (.int .i64 b)).setCell ⟨w.heap.size + 1, 2, none⟩ (.int .i64 a)) (w.heap.size + 1) 38 _ _ _ from T1.out.put).cells
  refine bodyPost_ret (v := .agg #[.int .i64 k, .int .i64 b, .int .i64 a]) ?_ rfl ⟨rfl, ((BW.out.setCell (p := ⟨w.heap.size + 1, 0, none⟩) (Nat.le_succ _) _).setCell (p := ⟨w.heap.size + 1, 1, none⟩) (Nat.le_succ _) _).setCell (p := ⟨w.heap.size + 1, 2, none⟩) (Nat.le_succ _) _⟩
  simp [results, Try.results37, asAddr, go_sem, p0, p1, p2]
/-- The end of a call that hands back a choice and whether there is one. -/
theorem end_open2 {w X : World} {o : Option (Nat × Nat × Nat)} {x0 x1 x2 u0 u1 u2 : Int} {q : Bool} (e0 : (((o.map (·.1)).getD 0 : Nat) : Int) = x0) (e1 : (((o.map (·.2.1)).getD 0 : Nat) : Int) = x1) (e2 : (((o.map (·.2.2)).getD 0 : Nat) : Int) = x2) (eq : o.isSome = q) {b : Nat}
    (hT : Three X b 38 (.int .i64 u0) (.int .i64 u1) (.int .i64 u2)) (hB : Below w.heap.size w X) (hb : w.heap.size ≤ b) (tmps : Array Value) (hp : tmps.getD 4 undef = .pointer (some ⟨b, 0, none⟩)) (hq : tmps.getD 5 undef = .bool q) :
    bodyPost Try.prog Try.f13 (RetOpen w o) Exit.ret { tmps := tmps, defers := [] } (((X.setCell ⟨b, 0, none⟩ (.int .i64 x0)).setCell ⟨b, 1, none⟩ (.int .i64 x1)).setCell ⟨b, 2, none⟩ (.int .i64 x2)) := by
  obtain ⟨p0, p1, p2⟩ := (show Three (((X.setCell ⟨b, 0, none⟩ (.int .i64 x0)).setCell ⟨b, 1, none⟩ (.int .i64 x1)).setCell ⟨b, 2, none⟩ (.int .i64 x2)) b 38 _ _ _ from hT.put).cells
  refine bodyPost_ret (v := .tuple #[.agg #[.int .i64 x0, .int .i64 x1, .int .i64 x2], .bool q]) ?_ rfl ⟨by rw [e0, e1, e2, eq], ((hB.setCell (p := ⟨b, 0, none⟩) hb _).setCell (p := ⟨b, 1, none⟩) hb _).setCell (p := ⟨b, 2, none⟩) hb _⟩
  rw [Array.getD_eq_getD_getElem?] at hp hq
  simp [results, Try.results13, hp, hq, asAddr, go_sem, p0, p1, p2]
theorem okC_pair {h : List So.Txn} (hr : Hi.Right h) {p : Nat × Nat × Nat} (hp : p ∈ Ix.pairs h) : okC (Ch.toI p) := by
  obtain ⟨h1, _, h2, h3⟩ := Ix.mem_pairs hp
  have h32 := hr.1
  obtain ⟨h4, _⟩ := Ix.mem_writers.1 h2
  obtain ⟨h5, _⟩ := Ix.mem_writers.1 h3
  exact ⟨okN_nat (by omega), okN_nat (by omega), okN_nat (by omega)⟩
theorem set_later {w w' : World} {k : TypeId} {b n : Nat} {D : DataW Unit} (h : w.ownsMap Try.prog k unitElem b n D) (hb : Below w.heap.size w w') : w'.ownsMap Try.prog k unitElem b n D :=
  h.kept (row := none) ⟨hb.os, hb.tape, hb.output, hb.size, fun k hk _ => hb.block k hk⟩ (by simp)

set_option maxHeartbeats 4000000 in
theorem chOpen_at (h : List So.Txn) (u : Value) (l : List (Int × Int × Int)) (v : Value) (w : World) (hu : Txns w u h) (hl : Tris w v l) (hs : Ix.Small h) (hn : l.length ≤ 4294967296) : Calls Try.prog 13 #[.agg #[u], v] w (RetOpen w (Ch.openA h l)) := by
  have HV := Lib.hid hu
  have HL := Lib.hid hl
  obtain ⟨A0, c0', rfl, -⟩ := hu.spelled
  have F1 := Lib.hid (fun w hu hl => chRight_at h (.slice A0 h.length c0') l v w hu hl hs hn)
  have F2 := Lib.hid (fun w hw => pairs9_at h (.slice A0 h.length c0') w hw hs)
  obtain ⟨B, d, rfl, hf⟩ := hl.spelled
  have HF := Lib.hid hf
  clear hu hl hs hf
  cases hb : Ch.rightC h l with
  | false =>
    have e0 := (Ch.ans_no hb).2.2.2
    rw [hb] at F1
    rw [e0]
    clear e0 hb
    go_enter Try.func13, Try.ntmps13
    go_upto_region 1 with fail
    obtain ⟨t0, t1, bw⟩ := ch_made w (.slice A0 h.length c0') rfl
    have T1 := Lib.hid t1
    have BW := Lib.hid bw
    have a0 := t0.cell
    clear t0 t1 bw
    generalize (w.alloc (.cells #[.slice A0 h.length c0'] 24)).alloc (.cells #[.int .i64 0, .int .i64 0, .int .i64 0] 38) = W at *
    go_wp2_with fail
    refine (F1.out _ (HV.out.below BW.out) (HL.out.below BW.out)).mono ?_
    rintro e w1 ⟨rfl, hb1⟩
    have T11 := Lib.hid (T1.out.later hb1)
    have B1 := Lib.hid (below_all BW.out hb1)
    clear hb1 a0
    obtain ⟨r0, r1, r2⟩ := T11.out.cells
    have f0 := T11.out.frozen 0
    have f1 := T11.out.frozen 1
    have f2 := T11.out.frozen 2
    go_wp2_with fail
    exact end_open2 rfl rfl rfl rfl T11.out B1.out (by omega) _ rfl rfl
  | true =>
    have e0 := (Ch.ans_yes hb).2.2.2
    obtain ⟨hr, hlen, hone⟩ := Ch.rightC_iff.1 hb
    have hpl := Ch.pairs_few hr
    have HOK := Lib.hid (fun c hc => okC_one hr (hone c hc))
    have HOP := Lib.hid (fun (p : Nat × Nat × Nat) hp => okC_pair hr (p := p) hp)
    have HFY : Hid (∀ (i : Nat) (hi : i < (Ix.pairs h).length), Ch.openB l (Ix.pairs h)[i] = true → (∀ j (hj : j < (Ix.pairs h).length), j < i → Ch.openB l (Ix.pairs h)[j] = false) → Ch.openA h l = some (Ix.pairs h)[i]) := fun i hi hy hno => by
      rw [e0, Ch.openR, List.find?_eq_some_iff_getElem]
      exact ⟨hy, i, hi, rfl, fun j hj => by rw [hno j (by omega) hj]; rfl⟩
    have HFN : Hid ((∀ j (hj : j < (Ix.pairs h).length), Ch.openB l (Ix.pairs h)[j] = false) → Ch.openA h l = none) := fun hno => by
      rw [e0, Ch.openR, List.find?_eq_none]
      intro p hp
      obtain ⟨j, hj, rfl⟩ := List.getElem_of_mem hp
      rw [hno j hj]
      simp
    rw [hb] at F1
    rw [Ix.pairsA_yes ((Hi.rightB_iff h).2 hr)] at F2
    generalize Ch.openA h l = res at *
    generalize Ix.pairs h = ps at *
    have hmm := @run_makeMap Try.prog
    clear e0 hb hr hone
    go_enter Try.func13, Try.ntmps13
    go_upto_region 1 with fail
    obtain ⟨t0, t1, bw⟩ := ch_made w (.slice A0 h.length c0') rfl
    have T0 := Lib.hid t0
    have T1 := Lib.hid t1
    have BW := Lib.hid bw
    have a0 := t0.cell
    clear t0 t1 bw
    generalize (w.alloc (.cells #[.slice A0 h.length c0'] 24)).alloc (.cells #[.int .i64 0, .int .i64 0, .int .i64 0] 38) = W at *
    go_wp2_with fail
    refine (F1.out _ (HV.out.below BW.out) (HL.out.below BW.out)).mono ?_
    rintro e w1 ⟨rfl, hb1⟩
    have T01 := Lib.hid (Boxed.later T0.out hb1)
    have T11 := Lib.hid (T1.out.later hb1)
    have B1 := Lib.hid (below_all BW.out hb1)
    clear hb1 a0 T0 T1
    go_upto_region 5 with fail
    have g0 := World.ownsMap_made (H := Unit) w1 Try.prog 38 unitElem
    have b0 := alloc_below w1 (.map #[] 0)
    generalize w1.alloc (.map #[] 0) = W1 at *
    have G0 := Lib.hid g0
    have B0 := Lib.hid b0
    clear g0 b0
    generalize hmb : w1.heap.size = mb at *
    have HMB := Lib.hid hmb
    clear hmb
    have hmw : w.heap.size + 1 < mb := by have := T11.out.lt; have := HMB.out; omega
    go_loopw [21] (fun iv wr => ∃ (i : Nat) (D : DataW Unit), i ≤ l.length ∧ iv = .int .i64 i ∧ Hid (wr.ownsMap Try.prog 38 unitElem mb (2 * i) D) ∧ Hid (Dec D (l.take i)) ∧ Hid (Below mb w1 wr)) (fun iv _ => l.length - (intOf iv).toNat)
    case atStart => exact ⟨0, .map [], Nat.zero_le _, rfl, G0.out, Dec.start, B0.out⟩
    case round =>
      clear G0 B0
      obtain ⟨i, D, hi, rfl, HG, HD, HB⟩ := hrel
      have HBW : Hid (Below w.heap.size w wr) := B1.out.trans (HB.out.mono (by have := HMB.out; have := B1.out.size; omega))
      have hms : mb < wr.heap.size := HG.out.lt
      by_cases hlt : i < l.length
      · obtain ⟨ad, rfl, hbl, hin⟩ := HF.out i hlt
        obtain ⟨r0, r1, r2⟩ := hin.below hbl HBW.out
        have hok := HOK.out _ (List.getElem_mem hlt)
        have HNX : Hid (l.take (i + 1) = l.take i ++ [l[i]'hlt]) := List.take_succ_eq_append_getElem hlt
        generalize hz : l[i]'hlt = z at *
        obtain ⟨zk, za, zb⟩ := z
        dsimp only at r0 r1 r2
        have HOK1 := Lib.hid hok
        have HK1 := Lib.hid (choice_key hok)
        have HK2 := Lib.hid (choice_key (okC_back hok))
        clear hz hin hok
        have hi2 : (i : Int) < (l.length : Int) := by omega
        have b2 := alloc_below wr (.cells #[.int .i64 zk, .int .i64 za, .int .i64 zb] 38)
        have NX := Lib.hid (Three.new wr 38 (.int .i64 zk) (.int .i64 za) (.int .i64 zb))
        have HG2 := Lib.hid (set_later HG.out b2)
        have HB2 := Lib.hid (HB.out.trans (b2.mono (Nat.le_of_lt hms)))
        have HM : Hid (Maps.IsMap D) := HG.out.isMap
        clear b2
        go_upto_region 7 with fail
        generalize wr.alloc (.cells #[.int .i64 zk, .int .i64 za, .int .i64 zb] 38) = W2 at *
        generalize hg : wr.heap.size = g at *
        clear r0 r1 r2
        obtain ⟨k0, k1, k2⟩ := NX.out.cells
        have hms2 : mb ≤ W2.heap.size := Nat.le_of_lt HG2.out.lt
        go_upto_region 8 with (refine wpList_mapUpdate_own _ rfl (.tmp 25) (.tmp 26) (.tmp 27) 73 rfl 38 74 choice_law Try.underlying73 unitElem mb (2 * i) D rfl HG2.out (by simp only [maxLen]; omega) _ _ _ rfl rfl HK1.out (.agg []) [] unitElem_mk ?_; intro w3 hg3 hgr3; have HG3 := Lib.hid hg3; have HGR3 := Lib.hid hgr3; clear hg3 hgr3)
        have NX3 : Hid (Three w3 g 38 (.int .i64 zk) (.int .i64 za) (.int .i64 zb)) := (HGR3.out.block g NX.out.lt (by intro e; cases e; omega)).trans NX.out
        have HB3 : Hid (Below mb w1 w3) := HB2.out.grown HGR3.out hms2 (fun k hk => by cases hk; exact Nat.le_refl _)
        have hms3 : mb ≤ w3.heap.size := Nat.le_of_lt HG3.out.lt
        clear k0 k1 k2
        obtain ⟨k0, k1, k2⟩ := NX3.out.cells
        go_wp2_with fail
        refine (chTurned_at zk za zb w3).mono ?_
        rintro e w4 ⟨rfl, hb4⟩
        have HG4 := Lib.hid (set_later HG3.out hb4)
        have HB4 := Lib.hid (HB3.out.trans (hb4.mono hms3))
        have hms4 : mb ≤ w4.heap.size := Nat.le_of_lt HG4.out.lt
        clear hb4 k0 k1 k2
        go_wp2_with (refine wpList_mapUpdate_own _ rfl (.tmp 28) (.tmp 30) (.tmp 31) 73 rfl 38 74 choice_law Try.underlying73 unitElem mb (2 * i + 1) _ rfl HG4.out (by simp only [maxLen]; omega) _ _ _ rfl rfl HK2.out (.agg []) [] unitElem_mk ?_; intro w5 hg5 hgr5; have HG5 := Lib.hid hg5; have HGR5 := Lib.hid hgr5; clear hg5 hgr5)
        have HB5 : Hid (Below mb w1 w5) := HB4.out.grown HGR5.out hms4 (fun k hk => by cases hk; exact Nat.le_refl _)
        have hd5 := Dec.put (D := D) (u := .agg []) (l := l.take i) (c := (zk, za, zb)) HD.out HM.out HOK1.out
        rw [← HNX.out] at hd5
        have HD5 := Lib.hid hd5
        clear hd5
        go_roundw
        case rel => exact ⟨i + 1, _, by omega, by go_num, World.ownsMap.mono HG5.out (by omega), HD5.out, HB5.out⟩
        case measure => simp [intOf]; omega
      · obtain rfl : i = l.length := by omega
        rw [List.take_length] at HD
        have hsz : w1.heap.size ≤ mb := Nat.le_of_eq HMB.out
        have bw1 : Below w1.heap.size w1 wr := by rw [HMB.out]; exact HB.out
        have T02 := Lib.hid (Boxed.later T01.out bw1)
        have T12 := Lib.hid (T11.out.later bw1)
        have a0 := T02.out.cell
        clear bw1
        go_wp2_with fail
        refine (F2.out wr (HV.out.below HBW.out)).mono ?_
        rintro e w6 ⟨v6, rfl, hps, hb6⟩
        obtain ⟨B6, d6, rfl, hf6⟩ := hps.spelled
        have HF6 := Lib.hid hf6
        have HG6 := Lib.hid (set_later HG.out hb6)
        have T16 := Lib.hid (T12.out.later hb6)
        have BW6 := Lib.hid (below_all HBW.out hb6)
        clear hps hf6 hb6 a0 HG T12
        go_wp2_with fail
        go_loopw [36] (fun jv wq => ∃ j : Nat, j ≤ ps.length ∧ jv = .int .i64 j ∧ Hid (∀ x (hx : x < ps.length), x < j → Ch.openB l ps[x] = false) ∧ Hid (Below w6.heap.size w6 wq)) (fun jv _ => ps.length - (intOf jv).toNat)
        case atStart => exact ⟨0, Nat.zero_le _, rfl, fun x _ q => absurd q (Nat.not_lt_zero x), Below.refl _ _⟩
        case round =>
          obtain ⟨j, hj, rfl, HI, HB6⟩ := hrel
          by_cases hlt : j < ps.length
          · obtain ⟨ad, rfl, hbl, hin⟩ := HF6.out j hlt
            obtain ⟨r0, r1, r2⟩ := hin.below hbl HB6.out
            have hop := HOP.out _ (List.getElem_mem hlt)
            have HAS := Lib.hid (dec_open HD.out hop)
            have HYES := Lib.hid (fun q => HFY.out j hlt q HI.out)
            have HNX : Hid (Ch.openB l (ps[j]'hlt) = false → ∀ x (hx : x < ps.length), x < j + 1 → Ch.openB l ps[x] = false) := fun q x hx hxj => by
              rcases Nat.lt_succ_iff_lt_or_eq.1 hxj with r | r
              · exact HI.out x hx r
              · subst r; exact q
            have b7 := alloc_below wr (.cells #[.int .i64 ((ps[j]'hlt).1 : Int), .int .i64 ((ps[j]'hlt).2.1 : Int), .int .i64 ((ps[j]'hlt).2.2 : Int)] 38)
            have hg7 := set_later (set_later HG6.out HB6.out) b7
            obtain ⟨vz, pz, hlook, hvz⟩ := hg7.look_ok choice_law Try.underlying73 (z := .agg #[]) (by kernel_rfl) (zd := .agg []) (zp := []) unitElem_mk (choice_key hop)
            obtain ⟨rfl, -⟩ := unitElem_inv hvz
            rw [HAS.out] at hlook
            dsimp only [Ch.toI] at hlook
            generalize Ch.openB l (ps[j]'hlt) = q at *
            generalize hz : ps[j]'hlt = z at *
            obtain ⟨zk, za, zb⟩ := z
            dsimp only at r0 r1 r2 b7 hlook
            clear hz hin hop hvz hg7 HAS
            have hj2 : (j : Int) < (ps.length : Int) := by omega
            have NX := Lib.hid (Three.new wr 38 (.int .i64 (zk : Int)) (.int .i64 (za : Int)) (.int .i64 (zb : Int)))
            have S7 := Lib.hid (below_all HB6.out b7)
            clear b7
            go_upto_region 13 with fail
            generalize wr.alloc (.cells #[.int .i64 (zk : Int), .int .i64 (za : Int), .int .i64 (zb : Int)] 38) = W7 at *
            generalize wr.heap.size = g7 at *
            clear r0 r1 r2
            obtain ⟨k0, k1, k2⟩ := NX.out.cells
            go_upto_region 14 with fail
            have b8 := alloc_below W7 (.cells #[] 74)
            have S8 := Lib.hid (below_all S7.out b8)
            have NX8 := Lib.hid (NX.out.later b8)
            clear b8 k0 k1 k2 hlook
            generalize W7.alloc (.cells #[] 74) = W8 at *
            generalize W7.heap.size = g8 at *
            obtain ⟨k0, k1, k2⟩ := NX8.out.cells
            cases q with
            | true =>
              obtain rfl : res = some (zk, za, zb) := HYES.out rfl
              have T18 := Lib.hid (T16.out.later S8.out)
              have BW8 := Lib.hid (below_all BW6.out S8.out)
              obtain ⟨r0, r1, r2⟩ := T18.out.cells
              have f0 := T18.out.frozen 0
              have f1 := T18.out.frozen 1
              have f2 := T18.out.frozen 2
              go_wp2_with fail
              exact end_open2 rfl rfl rfl rfl T18.out BW8.out (by omega) _ rfl rfl
            | false =>
              have HN2 := Lib.hid (HNX.out rfl)
              go_wp2_with fail
              go_roundw
              case rel => exact ⟨j + 1, by omega, by go_num, HN2.out, S8.out⟩
              case measure => simp [intOf]; omega
          · obtain rfl : j = ps.length := by omega
            obtain rfl : res = none := HFN.out fun x hx => HI.out x hx hx
            have T17 := Lib.hid (T16.out.later HB6.out)
            have BW7 := Lib.hid (below_all BW6.out HB6.out)
            obtain ⟨r0, r1, r2⟩ := T17.out.cells
            have f0 := T17.out.frozen 0
            have f1 := T17.out.frozen 1
            have f2 := T17.out.frozen 2
            go_wp2_with fail
            exact end_open2 rfl rfl rfl rfl T17.out BW7.out (by omega) _ rfl rfl
end Go.Proofs.Ytahacjfeopjbaaa
/-
  What choice.Of answers.
  Conditions: a history's rows and the order have at most 2^32 elements.
-/
set_option maxRecDepth 4000
namespace Go.Proofs.Ytahacjfeopjbaaa
open Go.RowKit

theorem tris_of (ps : List (Nat × Nat × Nat)) : (ps.map Ch.toI).flatMap triC = ps.flatMap chC := by
  rw [List.flatMap_map]
  rfl
/-- A choice is laid into its place. -/
theorem tris_put {W : World} {base g c k n : Nat} {e : TypeId} {l : List (Int × Int × Int)} (h : W.ownsRow base e 3 (.slice (some ⟨g, 0, none⟩) n c) n (l.flatMap triC)) (hn : n = l.length) (hk : k < l.length) (x : Int × Int × Int) :
    (((W.setCell ⟨g, k * 3, none⟩ (.int .i64 x.1)).setCell ⟨g, k * 3 + 1, none⟩ (.int .i64 x.2.1)).setCell ⟨g, k * 3 + 2, none⟩ (.int .i64 x.2.2)).ownsRow base e 3 (.slice (some ⟨g, 0, none⟩) n c) n ((l.set k x).flatMap triC) := by
  subst hn
  obtain ⟨s1, _⟩ := World.ownsRow.stored h (k * 3) (.int .i64 x.1)
  obtain ⟨s2, _⟩ := World.ownsRow.stored s1 (k * 3 + 1) (.int .i64 x.2.1)
  obtain ⟨s3, _⟩ := World.ownsRow.stored s2 (k * 3 + 2) (.int .i64 x.2.2)
  have e1 : (l.flatMap triC).set (k * 3) (.int .i64 x.1) = (l.set k (x.1, l[k].2.1, l[k].2.2)).flatMap triC := by
    have := flat_set triC_len l k hk 0 (by omega) (x.1, l[k].2.1, l[k].2.2) (.int .i64 x.1) rfl
    rw [Nat.add_zero] at this
    exact this
  have h2 : k < (l.set k (x.1, l[k].2.1, l[k].2.2)).length := by rw [List.length_set]; exact hk
  have e2 : ((l.set k (x.1, l[k].2.1, l[k].2.2)).flatMap triC).set (k * 3 + 1) (.int .i64 x.2.1) = (l.set k (x.1, x.2.1, l[k].2.2)).flatMap triC := by
    have := flat_set triC_len (l.set k (x.1, l[k].2.1, l[k].2.2)) k h2 1 (by omega) (x.1, x.2.1, l[k].2.2) (.int .i64 x.2.1) (by simp [triC])
    rw [List.set_set] at this
    exact this
  have h3 : k < (l.set k (x.1, x.2.1, l[k].2.2)).length := by rw [List.length_set]; exact hk
  have e3 : ((l.set k (x.1, x.2.1, l[k].2.2)).flatMap triC).set (k * 3 + 2) (.int .i64 x.2.2) = (l.set k x).flatMap triC := by
    have := flat_set triC_len (l.set k (x.1, x.2.1, l[k].2.2)) k h3 2 (by omega) x (.int .i64 x.2.2) (by simp [triC])
    rw [List.set_set] at this
    exact this
  rw [e1, e2, e3] at s3
  exact s3
theorem tris_at {W : World} {base g c k n : Nat} {e : TypeId} {l : List (Int × Int × Int)} (h : W.ownsRow base e 3 (.slice (some ⟨g, 0, none⟩) n c) n (l.flatMap triC)) (hn : n = l.length) (hk : k < l.length) :
    (W.cell? ⟨g, k * 3, none⟩ = some (.int .i64 l[k].1) ∧ W.cell? ⟨g, k * 3 + 1, none⟩ = some (.int .i64 l[k].2.1) ∧ W.cell? ⟨g, k * 3 + 2, none⟩ = some (.int .i64 l[k].2.2)) ∧ W.frozen? ⟨g, k * 3, none⟩ = false ∧ W.frozen? ⟨g, k * 3 + 1, none⟩ = false ∧ W.frozen? ⟨g, k * 3 + 2, none⟩ = false := by
  subst hn
  have hlen : (l.flatMap triC).length = l.length * 3 := flat_len triC_len l
  refine ⟨⟨?_, ?_, ?_⟩, World.ownsRow.frozenAt h _, World.ownsRow.frozenAt h _, World.ownsRow.frozenAt h _⟩
  · rw [World.ownsRow.cellAt h _ (by omega)]
    have := flat_at triC_len l k hk 0 (by omega)
    rw [Nat.add_zero] at this
    rw [this]
    rfl
  · rw [World.ownsRow.cellAt h _ (by omega), flat_at triC_len l k hk 1 (by omega)]
    rfl
  · rw [World.ownsRow.cellAt h _ (by omega), flat_at triC_len l k hk 2 (by omega)]
    rfl
theorem tris_head {w : World} {base n : Nat} {e : TypeId} {v : Value} {xs : List Value} {m : Nat} (h : w.ownsRow base e m v n xs) (hl : 0 < n) : ∃ g c, v = .slice (some ⟨g, 0, none⟩) n c := by
  rcases h.2 with ⟨_, h0⟩ | ⟨g, cap, _, hv, _⟩
  · omega
  · exact ⟨g, cap, hv⟩
/-- What an order of all makes of the pairs, whether the history may be or not. -/
theorem Ch.ofA_pairs {h : List So.Txn} {p : List Nat} (hp : Ch.Perm p h.length) : Ch.ofA h (Bi.nums p) = (Ix.pairsA h).map (Ch.chooses p) := by
  cases hb : Hi.rightB h with
  | true => rw [Ch.ofA_yes ((Hi.rightB_iff h).1 hb) hp, Ix.pairsA_yes hb]; rfl
  | false => rw [Ch.ofA_no (by rw [hb]; rfl), Ix.pairsA_no hb]; rfl
theorem pairsA_few (h : List So.Txn) : (Ix.pairsA h).length ≤ 20000 := by
  cases hb : Hi.rightB h with
  | true => rw [Ix.pairsA_yes hb]; exact Ch.pairs_few ((Hi.rightB_iff h).1 hb)
  | false => rw [Ix.pairsA_no hb]; simp
theorem pairsA_lt {h : List So.Txn} {p : Nat × Nat × Nat} (hp : p ∈ Ix.pairsA h) : p.2.1 < h.length ∧ p.2.2 < h.length := by
  cases hb : Hi.rightB h with
  | true =>
    rw [Ix.pairsA_yes hb] at hp
    obtain ⟨_, _, h2, h3⟩ := Ix.mem_pairs hp
    exact ⟨(Ix.mem_writers.1 h2).1, (Ix.mem_writers.1 h3).1⟩
  | false =>
    rw [Ix.pairsA_no hb] at hp
    cases hp

set_option maxHeartbeats 4000000 in
theorem chOf_at (h : List So.Txn) (u : Value) (o : List Int) (v : Value) (w : World) (hu : Txns w u h) (hv : Ns w v o) (hs : Ix.Small h) (hn : o.length ≤ 4294967296) : Calls Try.prog 21 #[.agg #[u], v] w (RetTris w (Ch.ofA h o)) := by
  have HV := Lib.hid hu
  have HO := Lib.hid hv
  obtain ⟨A0, c0', rfl, -⟩ := hu.spelled
  have F1 := Lib.hid (fun w hw => chPlaces_at o v w hw hn)
  have F2 := Lib.hid (fun w hw => pairs9_own h (.slice A0 h.length c0') w hw hs)
  obtain ⟨B, d, rfl, -⟩ := hv.spelled
  have N_h := Lib.hid (Boxed.new w 24 (.slice A0 h.length c0'))
  have BW := Lib.hid (alloc_below w (.cells #[.slice A0 h.length c0'] 24))
  clear hu hv hs
  have HNO : Hid (Ch.permB o h.length = false → Ch.ofA h o = []) := fun q => Ch.ofA_no (by rw [q, Bool.and_false])
  have HYES : Hid (∀ p : List Nat, o = Bi.nums p → Ch.Perm p h.length → Ch.ofA h o = (Ix.pairsA h).map (Ch.chooses p)) := fun p e hp => by rw [e]; exact Ch.ofA_pairs hp
  have HFEW := pairsA_few h
  have HLT : Hid (∀ p ∈ Ix.pairsA h, p.2.1 < h.length ∧ p.2.2 < h.length) := fun p hp => pairsA_lt hp
  generalize Ch.ofA h o = res at *
  generalize Ix.pairsA h = ps at *
  go_enter Try.func21, Try.ntmps21
  go_upto_region 1 with fail
  generalize w.alloc (.cells #[.slice A0 h.length c0'] 24) = W at *
  have a0 := N_h.out.cell
  by_cases hlen : o.length = h.length
  · have e0 : ((o.length : Int) != (h.length : Int)) = false := by rw [hlen]; exact bne_self_eq_false _
    have HLEN := Lib.hid hlen
    clear hlen
    go_wp2_with fail
    refine (F1.out W (HO.out.below BW.out)).mono ?_
    rintro e w1 ⟨hor, hb1⟩
    have B1 := Lib.hid (below_all BW.out hb1)
    have N1 := Lib.hid (Boxed.later N_h.out hb1)
    clear a0 hb1 F1 e0
    rcases hor with ⟨A1, c1, pl, rfl, hpl, hplc⟩ | ⟨rfl, hno⟩
    · obtain ⟨-, p, ep, hp, hat⟩ := hplc.all
      rw [HLEN.out] at hp
      have hpll : pl.length = h.length := by rw [hplc.len, HLEN.out]
      have HRES := Lib.hid (HYES.out p ep hp)
      have HPL := Lib.hid hpl
      have HAT := Lib.hid hat
      have HPLL := Lib.hid hpll
      clear hpl hplc ep hp hat hpll HYES HNO
      have a0 := N1.out.cell
      go_wp2_with fail
      refine (F2.out w1 (HV.out.below B1.out)).mono ?_
      rintro e w2 ⟨v2, rfl, ho2, hb2⟩
      have B2 := Lib.hid (below_all B1.out hb2)
      have HSZ := Lib.hid B1.out.size
      obtain ⟨A2, c2, rfl⟩ := own_form ho2
      have ho3 : w2.ownsRow w1.heap.size 38 3 (.slice A2 ps.length c2) ps.length ((Ch.ofTo p ps 0).flatMap triC) := by
        rw [Ch.ofTo_zero, tris_of]
        exact ho2
      have RO := Lib.hid ho3
      have RB := Lib.hid hb2
      clear ho2 ho3 hb2 a0 F2
      obtain ⟨A1', c1', e1, hrow⟩ := HPL.out.spelled
      obtain ⟨rfl, hol, rfl⟩ : A1 = A1' ∧ o.length = pl.length ∧ c1 = c1' := by simpa using e1
      have HROW := Lib.hid hrow
      have HOL := Lib.hid hol
      clear e1 hrow hol
      go_wp2_with fail
      go_loopw [27] (fun iv wr => ∃ i : Nat, i ≤ ps.length ∧ iv = .int .i64 i ∧ Hid (wr.ownsRow w1.heap.size 38 3 (.slice A2 ps.length c2) ps.length ((Ch.ofTo p ps i).flatMap triC)) ∧ Hid (Below w1.heap.size w1 wr)) (fun iv _ => ps.length - (intOf iv).toNat)
      case atStart => exact ⟨0, Nat.zero_le _, rfl, RO.out, RB.out⟩
      case round =>
        clear RO RB
        obtain ⟨i, hi, rfl, RO, RB⟩ := hrel
        by_cases hlt : i < ps.length
        · have hol := (Ch.ofTo_len p ps i).symm
          obtain ⟨gp, c2', e2⟩ := tris_head RO.out (by omega)
          obtain ⟨rfl, rfl⟩ : A2 = some ⟨gp, 0, none⟩ ∧ c2 = c2' := by simpa using e2
          obtain ⟨⟨d0, d1, d2⟩, f0, f1, f2⟩ := tris_at RO.out hol (by rw [← hol]; exact hlt)
          rw [Ch.ofTo_at hlt] at d0 d1 d2
          obtain ⟨hza, hzb⟩ := HLT.out _ (List.getElem_mem hlt)
          have HST := Lib.hid (fun q => Ch.ofTo_stays (o := p) hlt q)
          have HTU := Lib.hid (fun q => Ch.ofTo_turns (o := p) hlt q)
          have HPUT := Lib.hid (fun (X : World) (hX : X.ownsRow w1.heap.size 38 3 (.slice (some ⟨gp, 0, none⟩) ps.length c2) ps.length ((Ch.ofTo p ps i).flatMap triC)) (x : Int × Int × Int) => tris_put hX hol (by rw [← hol]; exact hlt) x)
          have HGP := Lib.hid (World.ownsRow.lt RO.out gp rfl)
          clear hol e2
          generalize hz : ps[i]'hlt = z at *
          obtain ⟨zk, za, zb⟩ := z
          dsimp only [Ch.toI] at d0 d1 d2
          dsimp only at hza hzb
          clear hz
          have hpa : za < pl.length := by rw [HPLL.out]; exact hza
          have hpb : zb < pl.length := by rw [HPLL.out]; exact hzb
          obtain ⟨ad1, rfl, hbl1, ca⟩ := HROW.out za hpa
          obtain ⟨_, e3, _, cb⟩ := HROW.out zb hpb
          cases e3
          rw [HAT.out za hpa] at ca
          rw [HAT.out zb hpb] at cb
          have ha1 : (za : Int) < (o.length : Int) := by rw [HOL.out]; omega
          have hb1 : (zb : Int) < (o.length : Int) := by rw [HOL.out]; omega
          have ha2 : za < o.length := by rw [HOL.out]; exact hpa
          have hb2 : zb < o.length := by rw [HOL.out]; exact hpb
          have hi2 : (i : Int) < (ps.length : Int) := by omega
          have b2 := alloc_below wr (.cells #[.int .i64 (zk : Int), .int .i64 (za : Int), .int .i64 (zb : Int)] 38)
          have NX := Lib.hid (Three.new wr 38 (.int .i64 (zk : Int)) (.int .i64 (za : Int)) (.int .i64 (zb : Int)))
          have RO2 := Lib.hid (own_below RO.out b2)
          have RB2 := Lib.hid (below_all RB.out b2)
          have CA := Lib.hid ca
          have CB := Lib.hid cb
          clear b2 hpa hpb ca cb hza hzb
          go_upto_region 10 with fail
          generalize wr.alloc (.cells #[.int .i64 (zk : Int), .int .i64 (za : Int), .int .i64 (zb : Int)] 38) = W2 at *
          generalize wr.heap.size = g at *
          clear d0 d1 d2 f0 f1 f2
          obtain ⟨k0, k1, k2⟩ := NX.out.cells
          have ca := (RB2.out.cell (p := ad1.add za) (by rw [add_block]; exact hbl1)).trans CA.out
          have cb := (RB2.out.cell (p := ad1.add zb) (by rw [add_block]; exact hbl1)).trans CB.out
          by_cases hlt2 : Ch.pos p zb < Ch.pos p za
          · have d0 : decide ((Ch.pos p zb : Int) < (Ch.pos p za : Int)) = true := decide_eq_true (by omega)
            have HN := Lib.hid (HTU.out hlt2)
            generalize Ch.pos p zb = xb at *
            generalize Ch.pos p za = xa at *
            go_quiet (fail)
            have NX3 := Lib.hid (NX.out.later (drewN_below W2 nq))
            have RO3 := Lib.hid (own_drewN RO2.out nq)
            have RB3 := Lib.hid (below_drewN RB2.out nq)
            clear k0 k1 k2 ca cb
            generalize W2.drewN nq = W3 at *
            obtain ⟨k0, k1, k2⟩ := NX3.out.cells
            go_wp2_with fail
            refine (chTurned_at zk za zb W3).mono ?_
            rintro e W4 ⟨rfl, hb4⟩
            have RO4 := Lib.hid (own_below RO3.out hb4)
            have RB4 := Lib.hid (below_all RB3.out hb4)
            clear hb4 k0 k1 k2
            obtain ⟨⟨d0', d1', d2'⟩, f0, f1, f2⟩ := tris_at RO4.out (Ch.ofTo_len p ps i).symm (by rw [Ch.ofTo_len]; exact hlt)
            go_wp2_with fail
            go_roundw
            case rel =>
              have hg := HGP.out.1
              refine ⟨i + 1, by omega, by go_num, ?_, ((RB4.out.setCell (p := ⟨gp, i * 3, none⟩) hg _).setCell (p := ⟨gp, i * 3 + 1, none⟩) hg _).setCell (p := ⟨gp, i * 3 + 2, none⟩) hg _⟩
              rw [HN.out]
              exact HPUT.out W4 RO4.out (Ch.back (Ch.toI (zk, za, zb)))
            case measure => simp [intOf]; omega
          · have d0 : decide ((Ch.pos p zb : Int) < (Ch.pos p za : Int)) = false := decide_eq_false (by omega)
            have HN := Lib.hid (HST.out (Nat.le_of_not_lt hlt2))
            generalize Ch.pos p zb = xb at *
            generalize Ch.pos p za = xa at *
            go_quiet (fail)
            go_wp2_with fail
            go_roundw
            case rel =>
              refine ⟨i + 1, by omega, by go_num, ?_, below_drewN RB2.out nq⟩
              rw [HN.out]
              exact own_drewN RO2.out nq
            case measure => simp [intOf]; omega
        · obtain rfl : i = ps.length := by omega
          rw [Ch.ofTo_all, ← HRES.out] at RO
          have hrl : ps.length = res.length := by rw [HRES.out, List.length_map]
          have HRL := Lib.hid hrl
          clear hrl
          go_wp2_with fail
          go_ret
          refine ⟨_, rfl, ?_, below_all B1.out RB.out⟩
          rw [← HRL.out]
          exact World.ownsRow.mono RO.out HSZ.out
    · have hr2 : res = [] := HNO.out (by rw [← HLEN.out]; exact hno)
      subst hr2
      clear hno
      go_wp2_with fail
      go_ret
      exact ⟨_, rfl, World.ownsRow_nil _ _ _ _, B1.out⟩
  · have e0 : ((o.length : Int) != (h.length : Int)) = true := by rw [bne_iff_ne]; omega
    clear F1 F2
    have hr2 : res = [] := HNO.out (by rw [Ch.permB, decide_eq_false hlen]; rfl)
    subst hr2
    go_wp2_with fail
    go_ret
    exact ⟨_, rfl, World.ownsRow_nil _ _ _ _, BW.out⟩
end Go.Proofs.Ytahacjfeopjbaaa
