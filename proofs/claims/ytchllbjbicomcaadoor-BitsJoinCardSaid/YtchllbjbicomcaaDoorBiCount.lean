/-
  Plain facts on how many bits of a number below 2^64 are set (no Go in it): the sum over its bytes, by halves, quarters and eighths of them side by side in one number, is the number of its bits; and its lowest bit.
  Conditions: none beyond those that each theorem states.
-/
import Derived.Test.YtchllbjbicomcaaDoorBiPlain
import Derived.Lib.TrailingZeros
set_option maxRecDepth 4000
namespace Go.Proofs.YtchllbjbicomcaaDoor.Bi

/-! A byte's bits beside those of the bytes above it. -/
theorem lane_bit {a : Nat} (ha : a < 256) (b j : Nat) : (a + 256 * b).testBit j = if j < 8 then a.testBit j else b.testBit (j - 8) := by
  have h := Nat.testBit_two_pow_mul_add (i := 8) b ha j
  rw [show 2 ^ 8 * b + a = a + 256 * b by omega] at h
  exact h
theorem lane_and {a m : Nat} (ha : a < 256) (hm : m < 256) (b n : Nat) : (a + 256 * b) &&& (m + 256 * n) = (a &&& m) + 256 * (b &&& n) := by
  have hl : a &&& m < 256 := Nat.lt_of_le_of_lt Nat.and_le_left ha
  refine Nat.eq_of_testBit_eq fun j => ?_
  rw [Nat.testBit_and, lane_bit ha, lane_bit hm, lane_bit hl]
  split
  · rw [Nat.testBit_and]
  · rw [Nat.testBit_and]
/-- What falls from the byte above into this one lies where the mask has no bit. -/
theorem lane_fall {a m c t : Nat} (ha : a < t) (ht : 0 < t) (hm : m < t) (k : Nat) (e : t = 2 ^ k) : (a + t * c) &&& m = a &&& m := by
  subst e
  refine Nat.eq_of_testBit_eq fun j => ?_
  have h := Nat.testBit_two_pow_mul_add (i := k) c ha j
  rw [show 2 ^ k * c + a = a + 2 ^ k * c by omega] at h
  rw [Nat.testBit_and, Nat.testBit_and, h]
  split
  · rfl
  · rename_i hj
    have : m.testBit j = false := Nat.testBit_lt_two_pow (Nat.lt_of_lt_of_le hm (Nat.pow_le_pow_right (by decide) (by omega)))
    rw [this, Bool.and_false, Bool.and_false]

/-- A byte, so many times side by side. -/
def rep (c : Nat) : Nat → Nat
  | 0 => 0
  | k + 1 => c + 256 * rep c k
def halves (k x : Nat) : Nat := ((x / 2) &&& rep 85 k) + (x &&& rep 85 k)
def quarters (k x : Nat) : Nat := ((x / 4) &&& rep 51 k) + (x &&& rep 51 k)
def eighths (k x : Nat) : Nat := (x / 16 + x) &&& rep 15 k
def sums (k x : Nat) : Nat := eighths k (quarters k (halves k x))

theorem halves_step (k : Nat) {a : Nat} (ha : a < 256) (b : Nat) : halves (k + 1) (a + 256 * b) = halves 1 a + 256 * halves k b := by
  have e1 : (a + 256 * b) / 2 = (a / 2 + 128 * (b % 2)) + 256 * (b / 2) := by omega
  have e2 : (a / 2 + 128 * (b % 2)) &&& 85 = (a / 2) &&& 85 := lane_fall (t := 128) (by omega) (by decide) (by decide) 7 rfl
  have e3 : rep 85 1 = 85 := rfl
  unfold halves
  rw [e3, show rep 85 (k + 1) = 85 + 256 * rep 85 k from rfl, e1, lane_and (by omega) (by decide), e2, lane_and ha (by decide)]
  omega
theorem quarters_step (k : Nat) {a : Nat} (ha : a < 256) (b : Nat) : quarters (k + 1) (a + 256 * b) = quarters 1 a + 256 * quarters k b := by
  have e1 : (a + 256 * b) / 4 = (a / 4 + 64 * (b % 4)) + 256 * (b / 4) := by omega
  have e2 : (a / 4 + 64 * (b % 4)) &&& 51 = (a / 4) &&& 51 := lane_fall (t := 64) (by omega) (by decide) (by decide) 6 rfl
  have e3 : rep 51 1 = 51 := rfl
  unfold quarters
  rw [e3, show rep 51 (k + 1) = 51 + 256 * rep 51 k from rfl, e1, lane_and (by omega) (by decide), e2, lane_and ha (by decide)]
  omega
theorem eighths_step (k : Nat) {a b : Nat} (ha : a ≤ 68) (hb : b % 16 ≤ 4) : eighths (k + 1) (a + 256 * b) = eighths 1 a + 256 * eighths k b := by
  have e1 : (a + 256 * b) / 16 + (a + 256 * b) = (a / 16 + a + 16 * (b % 16)) + 256 * (b / 16 + b) := by omega
  have e3 : rep 15 1 = 15 := rfl
  have e4 : (a / 16 + a + 16 * (b % 16)) &&& 15 = (a / 16 + a) &&& 15 := by
    rw [Nat.and_two_pow_sub_one_eq_mod _ 4, Nat.and_two_pow_sub_one_eq_mod _ 4]
    omega
  unfold eighths
  rw [e3, show rep 15 (k + 1) = 15 + 256 * rep 15 k from rfl, e1, lane_and (by omega) (by decide), e4]

theorem byte_half : ∀ a, a < 256 → halves 1 a < 256 := by decide +kernel
theorem byte_quarter : ∀ a, a < 256 → quarters 1 (halves 1 a) ≤ 68 ∧ quarters 1 (halves 1 a) % 16 ≤ 4 := by decide +kernel
theorem byte_sum : ∀ a, a < 256 → sums 1 a = ((List.range 8).filter a.testBit).length := by decide +kernel
theorem byte_le : ∀ a, a < 256 → sums 1 a ≤ 8 := by decide +kernel
theorem nibble (k x : Nat) : quarters k (halves k x) % 16 ≤ 4 := by
  cases k with
  | zero => simp [quarters, rep]
  | succ k =>
    have h1 := halves_step k (Nat.mod_lt x (by decide : 256 > 0)) (x / 256)
    rw [show x % 256 + 256 * (x / 256) = x by omega] at h1
    have h2 := quarters_step k (byte_half _ (Nat.mod_lt x (by decide : 256 > 0))) (halves k (x / 256))
    have h3 := (byte_quarter _ (Nat.mod_lt x (by decide : 256 > 0))).2
    rw [h1, h2]
    omega
theorem sums_step (k x : Nat) : sums (k + 1) x = sums 1 (x % 256) + 256 * sums k (x / 256) := by
  have hb := Nat.mod_lt x (by decide : 256 > 0)
  have h1 := halves_step k hb (x / 256)
  rw [show x % 256 + 256 * (x / 256) = x by omega] at h1
  have h2 := quarters_step k (byte_half _ hb) (halves k (x / 256))
  have h3 := eighths_step k (byte_quarter _ hb).1 (nibble k (x / 256))
  unfold sums
  rw [h1, h2, h3]

/-! How many bits are set, byte by byte. -/
def ones (n x : Nat) : Nat := ((List.range n).filter x.testBit).length
theorem ones_step (n x : Nat) : ones (8 + n) x = sums 1 (x % 256) + ones n (x / 256) := by
  rw [byte_sum _ (Nat.mod_lt x (by decide : 256 > 0))]
  unfold ones
  rw [List.range_add, List.filter_append, List.length_append, List.filter_map, List.length_map]
  congr 2
  · refine List.filter_congr fun j hj => ?_
    rw [List.mem_range] at hj
    rw [show (256 : Nat) = 2 ^ 8 from rfl, Nat.testBit_mod_two_pow, decide_eq_true hj, Bool.true_and]
  · refine List.filter_congr fun j _ => ?_
    rw [Function.comp, show (256 : Nat) = 2 ^ 8 from rfl, Nat.testBit_div_two_pow, Nat.add_comm]
/-- The eight sums, added up in the lowest byte. -/
theorem added (x : Nat) (s : Nat) (hs : s = sums 8 x) :
    ((s + s / 256) + (s + s / 256) / 65536 + ((s + s / 256) + (s + s / 256) / 65536) / 4294967296) % 128 = ones 64 x
    ∧ s + s / 256 < 18446744073709551616 ∧ (s + s / 256) + (s + s / 256) / 65536 < 18446744073709551616 ∧ (s + s / 256) + (s + s / 256) / 65536 + ((s + s / 256) + (s + s / 256) / 65536) / 4294967296 < 9223372036854775808 := by
  have hb : ∀ y, y % 256 < 256 := fun y => Nat.mod_lt y (by decide)
  have c0 := ones_step 56 x
  have c1 := ones_step 48 (x / 256)
  have c2 := ones_step 40 (x / 256 / 256)
  have c3 := ones_step 32 (x / 256 / 256 / 256)
  have c4 := ones_step 24 (x / 256 / 256 / 256 / 256)
  have c5 := ones_step 16 (x / 256 / 256 / 256 / 256 / 256)
  have c6 := ones_step 8 (x / 256 / 256 / 256 / 256 / 256 / 256)
  have c7 := ones_step 0 (x / 256 / 256 / 256 / 256 / 256 / 256 / 256)
  have c8 : ones 0 (x / 256 / 256 / 256 / 256 / 256 / 256 / 256 / 256) = 0 := rfl
  have d0 := sums_step 7 x
  have d1 := sums_step 6 (x / 256)
  have d2 := sums_step 5 (x / 256 / 256)
  have d3 := sums_step 4 (x / 256 / 256 / 256)
  have d4 := sums_step 3 (x / 256 / 256 / 256 / 256)
  have d5 := sums_step 2 (x / 256 / 256 / 256 / 256 / 256)
  have d6 := sums_step 1 (x / 256 / 256 / 256 / 256 / 256 / 256)
  have d7 := sums_step 0 (x / 256 / 256 / 256 / 256 / 256 / 256 / 256)
  have d8 : sums 0 (x / 256 / 256 / 256 / 256 / 256 / 256 / 256 / 256) = 0 := by simp [sums, eighths, rep]
  have b0 := byte_le _ (hb x)
  have b1 := byte_le _ (hb (x / 256))
  have b2 := byte_le _ (hb (x / 256 / 256))
  have b3 := byte_le _ (hb (x / 256 / 256 / 256))
  have b4 := byte_le _ (hb (x / 256 / 256 / 256 / 256))
  have b5 := byte_le _ (hb (x / 256 / 256 / 256 / 256 / 256))
  have b6 := byte_le _ (hb (x / 256 / 256 / 256 / 256 / 256 / 256))
  have b7 := byte_le _ (hb (x / 256 / 256 / 256 / 256 / 256 / 256 / 256))
  simp only [Nat.reduceAdd] at c0 c1 c2 c3 c4 c5 c6 c7 d0 d1 d2 d3 d4 d5 d6 d7
  rw [c8] at c7
  rw [d8] at d7
  rw [c7] at c6; rw [c6] at c5; rw [c5] at c4; rw [c4] at c3; rw [c3] at c2; rw [c2] at c1; rw [c1] at c0
  rw [d7] at d6; rw [d6] at d5; rw [d5] at d4; rw [d4] at d3; rw [d3] at d2; rw [d2] at d1; rw [d1] at d0
  rw [← hs] at d0
  clear c1 c2 c3 c4 c5 c6 c7 c8 d1 d2 d3 d4 d5 d6 d7 d8 hs hb
  rw [c0]
  clear c0
  generalize sums 1 (x % 256) = p0 at *
  generalize sums 1 (x / 256 % 256) = p1 at *
  generalize sums 1 (x / 256 / 256 % 256) = p2 at *
  generalize sums 1 (x / 256 / 256 / 256 % 256) = p3 at *
  generalize sums 1 (x / 256 / 256 / 256 / 256 % 256) = p4 at *
  generalize sums 1 (x / 256 / 256 / 256 / 256 / 256 % 256) = p5 at *
  generalize sums 1 (x / 256 / 256 / 256 / 256 / 256 / 256 % 256) = p6 at *
  generalize sums 1 (x / 256 / 256 / 256 / 256 / 256 / 256 / 256 % 256) = p7 at *
  have h1 : s + s / 256 = (p0 + p1) + 256 * ((p1 + p2) + 256 * ((p2 + p3) + 256 * ((p3 + p4) + 256 * ((p4 + p5) + 256 * ((p5 + p6) + 256 * ((p6 + p7) + 256 * p7)))))) := by omega
  generalize s + s / 256 = t at *
  have h2 : t + t / 65536 = (p0 + p1 + p2 + p3) + 256 * ((p1 + p2 + p3 + p4) + 256 * ((p2 + p3 + p4 + p5) + 256 * ((p3 + p4 + p5 + p6) + 256 * ((p4 + p5 + p6 + p7) + 256 * ((p5 + p6 + p7) + 256 * ((p6 + p7) + 256 * p7)))))) := by omega
  have h2' : t < 18446744073709551616 := by omega
  clear h1 d0
  generalize t + t / 65536 = u at *
  have h3 : u / 4294967296 = (p4 + p5 + p6 + p7) + 256 * ((p5 + p6 + p7) + 256 * ((p6 + p7) + 256 * p7)) := by omega
  refine ⟨?_, h2', ?_, ?_⟩
  · rw [h3]; omega
  · omega
  · omega
theorem masks : rep 85 8 = 6148914691236517205 ∧ rep 51 8 = 3689348814741910323 ∧ rep 15 8 = 1085102592571150095 := by decide
theorem list_ones (x : Nat) : (list x).length = ones 64 x := rfl

/-! The lowest bit. -/
theorem least_ctz {s : Nat} (h0 : s ≠ 0) (hs : s < 2 ^ 64) : least s = (Lib.ctz 64 s : Int) := by
  obtain ⟨m, hm, hk⟩ := Lib.ctzFrom_spec 64 s (by omega) hs
  have e : Lib.ctz 64 s = Lib.ctzFrom 64 s := by rw [Lib.ctz, if_neg h0]
  rw [e]
  generalize Lib.ctzFrom 64 s = k at *
  refine least_is hk ?_ fun j hj => ?_
  · rw [hm, Nat.testBit_two_pow_mul, Nat.sub_self, Nat.testBit_zero]
    simp
  · rw [hm, Nat.testBit_two_pow_mul, decide_eq_false (by omega), Bool.false_and]
end Go.Proofs.YtchllbjbicomcaaDoor.Bi
