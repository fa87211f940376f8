/-
  What the reference's Choices answers, of two rows of choices that are the same.
  Conditions: rows of at most 4294967296.
-/
import Derived.Test.YtahacjfeopjbaaaIxRef
import Derived.Test.YtahacjfeopjbaaaStAll
set_option maxRecDepth 4000
namespace Go.Proofs.Ytahacjfeopjbaaa
open Go.RowKit

set_option maxHeartbeats 1000000 in
theorem rChoicesT9_at (l : List (Int × Int × Int)) (u v : Value) (w : World) (hu : Tris w u l) (hv : Tris w v l) (hl : l.length ≤ 4294967296) : Calls Try.prog 22 #[u, v] w (RetBool w true) := by
  obtain ⟨A, c, rfl, hf⟩ := hu.spelled
  obtain ⟨B, c', rfl, hg⟩ := hv.spelled
  have HF := Lib.hid hf
  have HG := Lib.hid hg
  clear hf hg hu hv
  have hb : (((l.length : Nat) : Int) != ((l.length : Nat) : Int)) = false := by simp
  go_enter Try.func22, Try.ntmps22
  go_wp2
  go_loopw [5] (fun i wr => ∃ k : Nat, k ≤ l.length ∧ i = .int .i64 k ∧ Below w.heap.size w wr) (fun i _ => l.length - (intOf i).toNat)
  case atStart => exact ⟨0, Nat.zero_le _, rfl, Below.refl _ _⟩
  case round =>
    obtain ⟨k, hk, rfl, hB⟩ := hrel
    have HB := Lib.hid hB
    clear hB
    by_cases hlt : k < l.length
    · obtain ⟨ad, rfl, hblk, hE⟩ := HF.out k hlt
      obtain ⟨ad', rfl, hblk', hE'⟩ := HG.out k hlt
      obtain ⟨c0, c1, c2⟩ := hE.below hblk HB.out
      obtain ⟨d0, d1, d2⟩ := hE'.below hblk' HB.out
      generalize l[k]'hlt = x at *
      obtain ⟨x0, x1, x2⟩ := x
      dsimp only at c0 c1 c2 d0 d1 d2
      have hne : (x0 == x0) = true := by simp
      have hne2 : (x1 == x1) = true := by simp
      have hne3 : (x2 == x2) = true := by simp
      clear hE hE'
      go_wp2_with fail
      go_quiet (fail)
      go_wp2_with fail
      go_roundw
      case rel => exact ⟨k + 1, by omega, by go_num, below_drewN HB.out _⟩
      case measure => simp [intOf]; omega
    · go_wp2_with fail
      go_ret
      exact ⟨rfl, HB.out⟩
end Go.Proofs.Ytahacjfeopjbaaa
