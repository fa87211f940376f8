/-
  What the laws' rows of layer 14 answer of two rows of rows that are the same.
  Conditions: rows of at most 4294967296.
-/
import Derived.Test.YtameeegmbpiiaaaDoorRrMem
import Derived.Test.YtameeegmbpiiaaaDoorSoRef
set_option maxRecDepth 4000
namespace Go.Proofs.YtameeegmbpiiaaaDoor
open Go.RowKit

set_option maxHeartbeats 2000000 in
theorem rows14_at (l : List (List Nat)) (u v : Value) (w : World) (hu : Rrs w u l) (hv : Rrs w v l) (hl : l.length ≤ 4294967296) (ho : ∀ x ∈ l, x.length ≤ 4294967296) : Calls Tryd.prog 12 #[u, v] w (RetBool w true) := by
  obtain ⟨A, c, rfl, hf⟩ := hu.spelled
  obtain ⟨B, c', rfl, hg⟩ := hv.spelled
  have HF := Lib.hid hf
  have HG := Lib.hid hg
  have HO := Lib.hid ho
  clear hf hg hu hv ho
  have hb : (((l.length : Nat) : Int) != ((l.length : Nat) : Int)) = false := by simp
  go_enter Tryd.func12, Tryd.ntmps12
  go_wp2
  go_loopw [5] (fun i wr => ∃ k : Nat, k ≤ l.length ∧ i = .int .i64 k ∧ Below w.heap.size w wr) (fun i _ => l.length - (intOf i).toNat)
  case atStart => exact ⟨0, Nat.zero_le _, rfl, Below.refl _ _⟩
  case round =>
    obtain ⟨k, hk, rfl, hB⟩ := hrel
    have HB := Lib.hid hB
    clear hB
    by_cases hlt : k < l.length
    · obtain ⟨ad, Y, y, rfl, hblk, hE, hy⟩ := HF.out k hlt
      obtain ⟨ad', Z, z, rfl, hblk', hE', hz⟩ := HG.out k hlt
      have hol := HO.out _ (List.getElem_mem hlt)
      generalize l[k]'hlt = t at *
      have e0 := (HB.out.cell (by rw [add_block]; exact hblk)).trans hE
      have e1 := (HB.out.cell (by rw [add_block]; exact hblk')).trans hE'
      have HY := Lib.hid ((hy.below HB.out).below (Below.refl _ wr).drew)
      have HZ := Lib.hid ((hz.below HB.out).below (Below.refl _ wr).drew)
      have HOL : Hid ((Bi.nums t).length ≤ 4294967296) := by rw [Hid, Bi.nums_len]; exact hol
      clear hE hE' hy hz hol hblk hblk'
      go_wp2_with fail
      go_region_law (go_simp; go_at_call 14; refine (rInts_at (Bi.nums t) _ _ _ HY.out HZ.out HOL.out).mono ?_; rintro e w2 ⟨rfl, hb2⟩; have HB2 := Lib.hid (below_all (Below.refl _ wr).drew hb2); clear hb2)
      all_goals
        have HB3 := Lib.hid (below_all HB.out HB2.out)
        clear e0 e1 HB2
        go_wp2_with fail
        go_roundw
        case rel => exact ⟨k + 1, by omega, by go_num, HB3.out⟩
        case measure => simp [intOf]; omega
    · go_wp2_with fail
      go_ret
      exact ⟨rfl, HB.out⟩
end Go.Proofs.YtameeegmbpiiaaaDoor
