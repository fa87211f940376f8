/-
  What line.Join answers, for every row of texts: Ln.joinR; what was in memory stays as it was.
  Conditions: all texts together are of at most 2^46 bytes.
-/
import Derived.Test.YtpicoccpgpmfhaaDoorLnWalkA
namespace Go.Proofs.YtpicoccpgpmfhaaDoor
open Go.RowKit

theorem byte_info : (Tryd.prog.info? 5).map (fun i => (i.zero, i.size, i.bytes)) = some (some (.int .u8 0), 1, 1) := by kernel_rfl

/-- What Join's loop holds at the head of each round. -/
def JoinRel (w : World) (l : List (List UInt8)) (t i : Value) (wr : World) : Prop :=
  ∃ k : Nat, k ≤ l.length ∧ i = .int .i64 k ∧ Ln.anyNl (l.take k) = false ∧ wr.ownsRow w.heap.size 5 1 t (Ln.joinS (l.take k)).length (byV (Ln.joinS (l.take k))) ∧ Below w.heap.size w wr

theorem join_take (l : List (List UInt8)) (k : Nat) (hk : k < l.length) : Ln.joinS (l.take (k + 1)) = Ln.joinS (l.take k) ++ (l[k] ++ [10]) := by
  rw [List.take_succ_eq_append_getElem hk, Ln.joinS_snoc]
theorem join_le (l : List (List UInt8)) (k : Nat) : (Ln.joinS (l.take k)).length ≤ (Ln.joinS l).length := by
  conv => rhs; rw [← List.take_append_drop k l, Ln.joinS_append, List.length_append]
  omega

theorem join_at (l : List (List UInt8)) (v : Value) (w : World) (hv : Strs w v l) (hl : (Ln.joinS l).length ≤ 70368744177664) : Calls Tryd.prog 21 #[v] w (RetStr w (Ln.joinR l)) := by
  obtain ⟨i0, hi0, hz0, hz1, hz2⟩ := info_parts byte_info
  have I0 := Lib.hid hi0
  have I1 := Lib.hid hz0
  have I2 := Lib.hid hz1
  have I3 := Lib.hid hz2
  clear hi0 hz0 hz1 hz2
  obtain ⟨A, c, rfl, hform⟩ := hv.form
  have HF := Lib.hid hform
  clear hform hv
  by_cases hm : 400 < l.length
  · have HR := Lib.hid (Ln.joinR_many l hm)
    have hm2 : decide ((400 : Int) < (l.length : Int)) = true := by simp; omega
    go_enter Tryd.func21, Tryd.ntmps21
    go_wp2
    go_ret2
    exact RetStr.mk _ _ (by rw [HR.out]) (by rw [HR.out]; rfl) (Below.refl _ _)
  · have hm2 : decide ((400 : Int) < (l.length : Int)) = false := by simp; omega
    have hm3 : l.length ≤ 400 := by omega
    clear hm
    go_enter Tryd.func21, Tryd.ntmps21
    go_wp2
    go_loopw [4, 13] (fun t i wr => JoinRel w l t i wr) (fun _ i _ => l.length - (intOf i).toNat)
    case atStart =>
      exact ⟨0, Nat.zero_le _, rfl, rfl, World.ownsRow_lit w #[] 0 (Nat.le_refl _) (by simp [maxLen]) (by simp), (Below.refl _ _).alloc (Nat.le_refl _) _⟩
    case round =>
      obtain ⟨k, hk, rfl, ha, hown, hb⟩ := hrel
      have HA := Lib.hid ha
      have HO := Lib.hid hown
      have HB := Lib.hid hb
      clear ha hown hb
      by_cases hlt : k < l.length
      · obtain ⟨ad, rfl, hblk, hcell⟩ := HF.out k hlt
        have hc2 : wr.cell? (ad.add k) = some (.string (Ln.bs l[k])) := (HB.out.cell (by rw [add_block]; exact hblk)).trans hcell
        have hj := join_le l (k + 1)
        rw [join_take l k hlt, List.length_append, List.length_append, List.length_singleton] at hj
        clear hcell
        cases hct : l[k].contains 10 with
        | true =>
          have HCT := Lib.hid (fun W => contains_nl l[k] true W hct)
          have HR := Lib.hid (Ln.joinR_arg l hm3 (Ln.anyNl_of l k hlt hct))
          clear hct
          go_wp2_with fail
          refine (HCT.out _).mono ?_
          rintro e w' ⟨rfl, rfl⟩
          go_wp2
          go_ret2
          exact RetStr.mk _ _ (by rw [HR.out]) (by rw [HR.out]; rfl) HB.out
        | false =>
          have HCT := Lib.hid (fun W => contains_nl l[k] false W hct)
          have HN : Hid (Ln.anyNl (l.take (k + 1)) = false) := by rw [Hid, Ln.anyNl_take l k hlt, HA.out, hct]; rfl
          clear hct
          go_wp2_with fail
          refine (HCT.out _).mono ?_
          rintro e w' ⟨rfl, rfl⟩
          go_wp2_with (first
            | (at_builtin; refine Lib.wpList_append_own_string _ rfl (.tmp 19) (.tmp 20) 62 9 rfl w.heap.size 5 i0 Tryd.underlying62 Tryd.underlying9 I0.out I1.out I2.out I3.out _ _ _ rfl HO.out (Ln.bs l[k]) rfl (by rw [Ln.bs_size]; simp only [maxLen]; omega) (by rw [Ln.bs_size]; omega) HB.out.size ?_; intro v1 w1 hown1 hgrow1 _; have HO1 := Lib.hid (own_more _ hown1); have HB1 := Lib.hid (below_append HB.out HB.out.size HO.out hgrow1); clear hown1 hgrow1 HO)
            | (at_builtin; refine Lib.wpList_append_own_string _ rfl (.tmp 22) _ 62 9 rfl w.heap.size 5 i0 Tryd.underlying62 Tryd.underlying9 I0.out I1.out I2.out I3.out _ _ _ rfl HO1.out (Ln.bs [10]) rfl (by rw [Ln.bs_size, List.length_append, List.length_singleton]; simp only [maxLen]; omega) (by rw [Ln.bs_size, List.length_append, List.length_singleton]; omega) HB1.out.size ?_; intro v2 w2 hown2 hgrow2 _; have HO2 := Lib.hid (own_more _ hown2); have HB2 := Lib.hid (below_append HB1.out HB1.out.size HO1.out hgrow2); clear hown2 hgrow2 HO1))
          go_roundw
          case rel =>
            refine ⟨k + 1, by omega, by go_num, HN.out, ?_, HB2.out⟩
            rw [join_take l k hlt, ← List.append_assoc]
            exact HO2.out
          case measure => simp [intOf]; omega
      · have hke : k = l.length := by omega
        have hcv := own_text (P := Tryd.prog) HO.out 62 9 Tryd.underlying62 Tryd.underlying5 Tryd.underlying9
        have HT : Hid (l.take k = l) := by rw [Hid, hke, List.take_length]
        have HR := Lib.hid (Ln.joinR_ok l hm3 (by rw [← HT.out]; exact HA.out))
        clear hke
        go_wp2
        go_ret2
        exact RetStr.mk _ _ (by rw [HR.out]) (by rw [HR.out, HT.out]) HB.out
end Go.Proofs.YtpicoccpgpmfhaaDoor
