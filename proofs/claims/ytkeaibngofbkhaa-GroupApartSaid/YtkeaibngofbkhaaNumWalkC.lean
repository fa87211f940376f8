/-
  What num.Show answers, for every int: Nm.showS and Nm.showE; what was in memory stays as it was.
  Conditions: none.
-/
import Derived.Test.YtkeaibngofbkhaaNumWalkB
import Derived.Laws.BytesArg
namespace Go.Proofs.Ytkeaibngofbkhaa
open Go.RowKit

/-- Block b holds ten bytes, of which the last are t; what is older is as it was in w. -/
def Ten (w w' : World) (b : Nat) (t : List UInt8) : Prop :=
  Below w.heap.size w w' ∧ w.heap.size ≤ b ∧ t.length ≤ 10 ∧ ∃ cs : Array Value, w'.heap[b]? = some (.cells cs 56 (0, 0)) ∧ cs.size = 10 ∧ ∀ i (h : i < t.length), cs[10 - t.length + i]? = some (.int .u8 (t[i].toNat : Int))

theorem Ten.cell {w w' : World} {b : Nat} {t : List UInt8} (h : Ten w w' b t) (g : Nat) (hg : g < 10) : ∃ v, w'.cell? ⟨b, g, none⟩ = some v := by
  obtain ⟨_, _, _, cs, hb, hs, _⟩ := h
  exact ⟨cs[g], by rw [cell_of_row w' b g cs _ (0, 0) hb, Array.getElem?_eq_getElem (by omega)]⟩
theorem Ten.frozen {w w' : World} {b : Nat} {t : List UInt8} (h : Ten w w' b t) (g : Nat) : w'.frozen? ⟨b, g, none⟩ = false := by
  obtain ⟨_, _, _, cs, hb, _, _⟩ := h
  simp [World.frozen?, hb]
theorem Ten.put {w w' : World} {b : Nat} {t : List UInt8} (h : Ten w w' b t) (g : Nat) (hg : g + 1 + t.length = 10) (c : UInt8) : Ten w (w'.setCell ⟨b, g, none⟩ (.int .u8 (c.toNat : Int))) b (c :: t) := by
  obtain ⟨hG, hbs, ht, cs, hb, hs, hc⟩ := h
  refine ⟨hG.setCell (p := ⟨b, g, none⟩) hbs _, hbs, by simp; omega, cs.setIfInBounds g (.int .u8 (c.toNat : Int)), ?_, by simp [hs], fun i hi => ?_⟩
  · simp [World.setCell, Array.getElem?_modify, hb]
  · rcases i with _ | i
    · have e : 10 - (c :: t).length + 0 = g := by simp; omega
      rw [e]
      simp [Array.getElem?_setIfInBounds, hs]
      omega
    · have e : 10 - (c :: t).length + (i + 1) = 10 - t.length + i := by simp; omega
      rw [e, Array.getElem?_setIfInBounds, if_neg (by omega)]
      exact hc i (by simpa using hi)
theorem Ten.start (w : World) (t0 : TypeId) (h : t0 = 56) : Ten w (w.alloc (.cells #[.int .u8 0, .int .u8 0, .int .u8 0, .int .u8 0, .int .u8 0, .int .u8 0, .int .u8 0, .int .u8 0, .int .u8 0, .int .u8 0] t0)) w.heap.size [] := by
  subst h
  exact ⟨(Below.refl _ w).alloc (Nat.le_refl _) _, Nat.le_refl _, by simp, _, heap_alloc_new w _, rfl, fun i hi => absurd hi (by simp)⟩
theorem Ten.text {P : Program} {w w' : World} {b : Nat} {t : List UInt8} (h : Ten w w' b t) (g : Nat) (hg : g + t.length = 10) (src e dst : TypeId) (hs : P.underlying src = some (.slice e)) (he : P.underlying e = some (.int .u8)) (hd : P.underlying dst = some .string) (L cap : Nat) (hL : L = t.length) :
    (convert src dst (.slice (some ⟨b, g, none⟩) L cap)).run P w' = .ok (.string ⟨t.toArray⟩) w' := by
  subst hL
  obtain ⟨_, _, _, cs, hb, hsz, hc⟩ := h
  have := run_convert_bytes_arg (P := P) w' src e hs he b g t.length cap (t.map fun x => (x.toNat : Int)) (by simp) (fun i hi => by
    rw [cell_of_row w' b (g + i) cs _ (0, 0) hb]
    have := hc i hi
    rw [show 10 - t.length + i = g + i by omega] at this
    rw [this]
    simp [List.getD, List.getElem?_map, List.getElem?_eq_getElem hi]) dst hd
  rw [this]
  congr 2
  unfold strOfNums
  rw [List.map_map]
  congr 2
  conv => rhs; rw [← List.map_id t]
  apply List.map_congr_left
  intro x _
  simp

theorem slice_ten (W : World) (b g : Nat) (hg : g < 10) :
    (Instr.sliceAt 56 (.pointer (some ⟨b, 0, none⟩)) (some (.int .i64 (g : Int))) none none).run Try.prog W = .ok (.slice (some ⟨b, g, none⟩) (10 - g) (10 - g)) W := by
  have h10 : Try.prog.arrayLen 56 = 10 := by kernel_rfl
  have hel : Try.prog.elem 56 = 5 := by kernel_rfl
  have hsz : ∀ W, (sizeOf 5).run Try.prog W = .ok 1 W := fun _ => by kernel_rfl
  rw [run_sliceAt_array_l W 56 ⟨b, 0, none⟩ (by rw [h10, hel]; exact Try.underlying56) .i64 (g : Int) (by omega) (by rw [h10]; omega), h10, hel, hsz]
  simp only [Result.andThen, slicedAt, Int.toNat_natCast]
  rw [if_neg (by omega)]
  simp [Addr.add]
  intro h; simp [h]

theorem show_at (n : Nat) (w : World) (hm : n ≤ 2147483647) :
    Calls Try.prog 24 #[.int .i64 (n : Int)] w fun e w' => e = .returned (.tuple #[.string ⟨(Nm.digs n).toArray⟩, .int .i64 0]) ∧ Below w.heap.size w w' := by
  have HN := Lib.hid (Nm.digs_len10 n hm)
  have hb1 : decide ((n : Int) < 0) = false := by simp
  have hb2 : decide (2147483647 < (n : Int)) = false := by simp; omega
  go_enter Try.func24, Try.ntmps24
  go_wp2
  go_loopw [0, 5, 12] (fun a f c wr => ∃ (m g k : Nat) (t : List UInt8), a = .int .i64 m ∧ f = .int .i64 (g : Int) ∧ c = .int .i64 k ∧ k + g = 10 ∧ t.length = k ∧ m ≤ 2147483647 ∧ Nm.digs n = Nm.digs m ++ t ∧ Ten w wr w.heap.size t)
    (fun _ _ c _ => 10 - (intOf c).toNat)
  case atStart => exact ⟨n, 10, 0, [], rfl, rfl, rfl, rfl, rfl, hm, by simp, Ten.start w _ rfl⟩
  case round =>
    obtain ⟨m, g0, k, t, rfl, rfl, rfl, hk, ht, hm2, hd, hT⟩ := hrel
    have hk9 : k ≤ 9 := by
      have h1 := HN.out
      have h2 := Nm.digs_pos m
      rw [hd, List.length_append] at h1
      omega
    obtain ⟨g, rfl⟩ : ∃ g, g0 = g + 1 := ⟨g0 - 1, by omega⟩
    have HD := Lib.hid hd
    have HT := Lib.hid hT
    have HL := Lib.hid ht
    obtain ⟨v, hv⟩ := hT.cell g (by omega)
    have hf := hT.frozen g
    have hdig : (Nm.dig (m % 10)).toNat = 48 + m % 10 := Nm.dig_toNat _ (by omega)
    have e1 : ((Nm.dig (m % 10)).toNat : Int) = 48 + (m : Int) % 10 := by omega
    have hT2 := hT.put g (by omega) (Nm.dig (m % 10))
    rw [e1] at hT2
    have HT2 := Lib.hid hT2
    have hcv := hT2.text (P := Try.prog) g (by simp; omega) 57 5 9 Try.underlying57 Try.underlying5 Try.underlying9 (10 - g) (10 - g) (by simp; omega)
    have hsl := slice_ten (wr.setCell ⟨w.heap.size, g, none⟩ (.int .u8 (48 + (m : Int) % 10))) w.heap.size g (by omega)
    generalize hS : (⟨(Nm.dig (m % 10) :: t).toArray⟩ : ByteArray) = S at hcv
    have HS := Lib.hid hS
    clear hd hT ht hdig e1 hT2 hS
    by_cases h9 : m < 10
    · have hq : ((m : Int) / 10 == 0) = true := beq_iff_eq.2 (by omega)
      go_wp2
      go_ret2
      refine ⟨?_, HT2.out.1⟩
      have e2 : Nm.digs n = Nm.dig (m % 10) :: t := by
        rw [HD.out, Nm.digs_small m h9, Nat.mod_eq_of_lt h9]; rfl
      rw [e2, HS.out]
      rfl
    · have hq : ((m : Int) / 10 == 0) = false := beq_eq_false_iff_ne.2 (by omega)
      go_wp2
      go_roundw
      case rel =>
        refine ⟨m / 10, g, k + 1, Nm.dig (m % 10) :: t, by go_num, rfl, by go_num, by omega, by simp [HL.out], by omega, ?_, HT2.out⟩
        rw [HD.out, Nm.digs_big m (by omega)]
        simp
      case measure => simp [intOf]; omega

theorem show_no (n : Int) (w : World) (h : n < 0 ∨ 2147483647 < n) :
    Calls Try.prog 24 #[.int .i64 n] w fun e w' => e = .returned (.tuple #[.string ⟨#[]⟩, .int .i64 1]) ∧ w = w' := by
  rcases h with h | h
  · go_enter Try.func24, Try.ntmps24
    go_wp2
    go_ret2
    exact ⟨rfl, rfl⟩
  · have h' : ¬ n < 0 := by omega
    go_enter Try.func24, Try.ntmps24
    go_wp2
    go_ret2
    exact ⟨rfl, rfl⟩

/-- num.Show, for every int. -/
theorem show_any (n : Int) (w : World) :
    Calls Try.prog 24 #[.int .i64 n] w fun e w' => e = .returned (.tuple #[.string ⟨(Nm.showS n).toArray⟩, .int .i64 (Nm.showE n)]) ∧ Below w.heap.size w w' := by
  by_cases h : Nm.isNum n = true
  · obtain ⟨h0, h1⟩ := (Nm.isNum_iff n).1 h
    obtain ⟨m, rfl⟩ := Int.eq_ofNat_of_zero_le h0
    refine (show_at m w (by omega)).mono ?_
    rintro e w' ⟨rfl, hg⟩
    exact ⟨by rw [Nm.showS, Nm.showE, if_pos h, if_pos h, Int.toNat_natCast], hg⟩
  · have h' : n < 0 ∨ 2147483647 < n := by rw [Nm.isNum_iff] at h; omega
    refine (show_no n w h').mono ?_
    rintro e w' ⟨rfl, rfl⟩
    exact ⟨by rw [Nm.showS, Nm.showE, if_neg h, if_neg h], Below.refl _ _⟩
end Go.Proofs.Ytkeaibngofbkhaa
