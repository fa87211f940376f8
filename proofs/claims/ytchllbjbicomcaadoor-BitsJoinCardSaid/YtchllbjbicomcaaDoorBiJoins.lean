/-
  The law BitsJoin: all that is in some sets, and whether all of one is in another one, are the document's; the order plays no part.
  Conditions: sets are below 2^64; the library's table for the lowest bit holds what its text says.
-/
import Derived.Test.YtchllbjbicomcaaDoorBiAwake
import Derived.Test.YtchllbjbicomcaaDoorBiRefA
set_option maxRecDepth 4000
namespace Go.Proofs.YtchllbjbicomcaaDoor
open Go.RowKit

theorem u64_info : (Tryd.prog.info? 23).map (fun i => (i.zero, i.size, i.bytes)) = some (some (.int .u64 0), 1, 8) := by kernel_rfl
theorem new_uC (w : World) (n : Nat) (e : TypeId) : ∀ j u, (uC n)[j]? = some u → (w.alloc (.cells #[.int .u64 (n : Int)] e)).cell? ((⟨w.heap.size, 0, none⟩ : Addr).add j) = some u := new_row w (uC n) e
theorem Bi.back_next {l : List Nat} {k : Nat} (h : k < l.length) : (l.drop k).reverse = (l.drop (k + 1)).reverse ++ [l[k]] := by
  rw [List.drop_eq_getElem_cons h, List.reverse_cons]
theorem Bi.back_len (l : List Nat) (k : Nat) (h : k ≤ l.length) : (l.drop k).reverse.length + k = l.length := by simp; omega
theorem Bi.sub_join {a b : Nat} (ha : a < 18446744073709551616) (hb : b < 18446744073709551616) : (((Bi.join [a, b] : Nat) : Int) == (b : Int)) = Bi.sub a b := by
  rw [Bi.join_two]
  cases h : Bi.sub a b with
  | true => rw [(Bi.sub_or ha hb).1 h]; simp
  | false =>
    have : a ||| b ≠ b := fun q => by rw [(Bi.sub_or ha hb).2 q] at h; cases h
    rw [beq_eq_false_iff_ne]
    omega

set_option maxHeartbeats 4000000 in
theorem lawBitsJoin (l : List Nat) (u : Value) (a b : Nat) (w : World) (hT : TZ w) (hu : Us w u l) (hl : ∀ x ∈ l, x < 18446744073709551616) (ha : a < 18446744073709551616) (hb : b < 18446744073709551616) : Calls Tryd.prog 4 #[u, .int .u64 a, .int .u64 b] w (RetBool w true) := by
  obtain ⟨i0, hi0, hz0, hz1, hz2⟩ := info_parts u64_info
  have I0 := Lib.hid hi0
  have I1 := Lib.hid hz0
  have I2 := Lib.hid hz1
  have I3 := Lib.hid hz2
  clear hi0 hz0 hz1 hz2
  obtain ⟨A, c, rfl, hf⟩ := hu.spelled
  have HF := Lib.hid hf
  have HU := Lib.hid hu
  have HL := Lib.hid hl
  clear hf hu hl
  go_enter Tryd.func4, Tryd.ntmps4
  go_wp2_with fail
  refine (biAwake_at _ hT).mono ?_
  rintro e w1 ⟨rfl, hb1⟩
  have B1 := Lib.hid hb1
  have U1 := Lib.hid (HU.out.below hb1)
  clear hb1 HU hT
  by_cases h100 : 100 < l.length
  · go_wp2_with fail
    go_ret
    exact ⟨rfl, B1.out⟩
  · have hwr : wrap64 ((l.length : Int) - 1) = (l.length : Int) - 1 := by unfold wrap64; omega
    go_wp2_with fail
    go_loopw [8, 9] (fun v i wr => ∃ (k : Nat) (j : Int) (d : List Nat), k ≤ l.length ∧ i = .int .i64 j ∧ j + 1 = (k : Int) ∧ d.length + k = l.length ∧ Hid (d = (l.drop k).reverse) ∧ wr.ownsRow w1.heap.size 23 1 v d.length (d.flatMap uC) ∧ Hid (Below w1.heap.size w1 wr)) (fun _ i _ => (intOf i + 1).toNat)
    case atStart => exact ⟨l.length, _, [], Nat.le_refl _, rfl, by omega, by simp, by simp [Hid], World.ownsRow_nil _ _ _ _, Below.refl _ _⟩
    case round =>
      obtain ⟨k, j, d, hk, rfl, hj, hdl, HD, hown, HB⟩ := hrel
      have HW := Lib.hid hown
      obtain ⟨A', cp, rfl⟩ := own_form hown
      clear hown
      by_cases hk0 : k = 0
      · obtain rfl : j = -1 := by omega
        subst hk0
        have HD2 : Hid (d = l.reverse) := by rw [Hid, HD.out]; rfl
        have hd0 : decide ((0 : Int) ≤ -1) = false := by decide
        have VB := Lib.hid (show Us wr (.slice A' d.length cp) d from Rows'.own HW.out)
        have HS2 := Lib.hid (fun x (hx : x ∈ d) => HL.out x (by rw [HD2.out] at hx; exact List.mem_reverse.1 hx))
        clear HW HD
        go_wp2_with fail
        refine (biJoin_at l _ wr (U1.out.below HB.out) (by omega) HL.out).mono ?_
        rintro e w2 ⟨rfl, rfl⟩
        have HSub := Lib.hid (fun (k : Nat) (h : k < l.length) => Bi.join_sub (List.getElem_mem h))
        have hj64 := Bi.join_lt HL.out
        have F1 := Lib.hid (fun w hu => biJoin_at d (.slice A' d.length cp) w hu (by omega) HS2.out)
        have HJ := Lib.hid (show Bi.join d = Bi.join l by rw [HD2.out, Bi.join_reverse])
        rw [HJ.out] at F1
        have F2 := Lib.hid (fun w hu => rJoin_at l (.slice A l.length c) w hu (by omega) HL.out)
        have F3 := Lib.hid (fun w => biSub_at a b w ha hb)
        have F4 := Lib.hid (fun w => rSub_at a b w ha hb)
        have F5 := Lib.hid (fun (w : World) (u : Value) (h : Us w u [a, b]) => biJoin_at [a, b] u w h (by simp) (by
          intro x hx
          simp only [List.mem_cons, List.not_mem_nil, or_false] at hx
          rcases hx with rfl | rfl
          · exact ha
          · exact hb))
        have key := Bi.sub_join ha hb
        clear HD2 HJ
        generalize Bi.join l = s at *
        generalize Bi.join [a, b] = jab at *
        generalize Bi.sub a b = sab at *
        go_wp2_with fail
        go_loopw [11] (fun i wq => ∃ k : Nat, k ≤ l.length ∧ i = .int .i64 k ∧ wq = w2) (fun i _ => l.length - (intOf i).toNat)
        case atStart => exact ⟨0, Nat.zero_le _, rfl, rfl⟩
        case round =>
          obtain ⟨k, hk, rfl, rfl⟩ := hrel
          by_cases hlt : k < l.length
          · obtain ⟨ad, rfl, hblk, hE0⟩ := HF.out k hlt
            have hE := (HB.out.cell (by rw [add_block]; exact Nat.lt_of_lt_of_le hblk B1.out.size)).trans ((B1.out.cell (by rw [add_block]; exact hblk)).trans hE0)
            have hx := HL.out _ (List.getElem_mem hlt)
            have hs := HSub.out k hlt
            generalize l[k]'hlt = x at *
            clear hE0
            go_wp2_with fail
            refine (biSub_at x s _ hx hj64).mono ?_
            rintro e w3 ⟨rfl, rfl⟩
            rw [hs]
            go_wp2_with fail
            go_roundw
            case rel => exact ⟨k + 1, by omega, by go_num, trivial⟩
            case measure => simp [intOf]; omega
          · obtain rfl : k = l.length := by omega
            go_wp2_with fail
            refine (F2.out _ (U1.out.below HB.out)).mono ?_
            rintro e w3 ⟨rfl, hb3⟩
            have B3 := Lib.hid (below_all HB.out hb3)
            have V3 := Lib.hid (VB.out.below hb3)
            clear hb3
            go_wp2_with fail
            refine (F1.out _ V3.out).mono ?_
            rintro e w4 ⟨rfl, rfl⟩
            go_wp2_with fail
            refine (F3.out _).mono ?_
            rintro e w5 ⟨rfl, rfl⟩
            go_wp2_with fail
            refine (F4.out _).mono ?_
            rintro e w6 ⟨rfl, hb6⟩
            have B6 := Lib.hid (below_all B3.out hb6)
            clear hb6
            go_wp2_with fail
            refine (F3.out _).mono ?_
            rintro e w7 ⟨rfl, rfl⟩
            have N7 := Lib.hid (show Us (w7.alloc (.cells #[.int .u64 (a : Int), .int .u64 (b : Int)] 23)) (.slice (some ⟨w7.heap.size, 0, none⟩) 2 2) [a, b] from lit_rows uC_len w7 23 [a, b] (by simp [maxLen]))
            have B7 := Lib.hid (below_all B6.out (alloc_below w7 (.cells #[.int .u64 (a : Int), .int .u64 (b : Int)] 23)))
            go_wp2_with fail
            generalize w7.alloc (.cells #[.int .u64 (a : Int), .int .u64 (b : Int)] 23) = w8 at *
            refine (F5.out _ _ N7.out).mono ?_
            rintro e w9 ⟨rfl, rfl⟩
            go_wp2_with fail
            go_ret
            exact ⟨rfl, below_all B1.out B7.out⟩
      · obtain ⟨k', rfl⟩ : ∃ k', k = k' + 1 := ⟨k - 1, by omega⟩
        obtain rfl : j = (k' : Int) := by omega
        have hlt : k' < l.length := by omega
        obtain ⟨ad, rfl, hblk, hE0⟩ := HF.out k' hlt
        have hE := (HB.out.cell (by rw [add_block]; exact Nat.lt_of_lt_of_le hblk B1.out.size)).trans ((B1.out.cell (by rw [add_block]; exact hblk)).trans hE0)
        have HBN := Lib.hid (Bi.back_next hlt)
        generalize l[k']'hlt = x at *
        have HD2 : Hid (d ++ [x] = (l.drop k').reverse) := by rw [Hid, HBN.out, ← HD.out]
        have HW2 := Lib.hid (HW.out.alloc (.cells #[.int .u64 (x : Int)] 23))
        have HB2 := Lib.hid (below_all HB.out (alloc_below wr (.cells #[.int .u64 (x : Int)] 23)))
        have HN := Lib.hid (new_uC wr x 23)
        have hwk : wrap64 ((k' : Int) - 1) = (k' : Int) - 1 := by unfold wrap64; omega
        clear hE0 hj
        go_wp2_with (at_builtin; refine wpList_append_own_at _ rfl _ _ 34 rfl w1.heap.size 23 i0 _ 1 8 Tryd.underlying34 I0.out I1.out I2.out I3.out rfl (by decide) _ d.length _ rfl HW2.out ⟨wr.heap.size, 0, none⟩ 1 1 (uC x) rfl rfl HN.out (one_uC _) (by simp only [maxLen]; omega) (by omega) HB2.out.size ?_; intro v2 w2 hown2 hgrow2 hnil2 hat2; have HO2 := Lib.hid hown2; have HB3 := Lib.hid (below_append HB2.out HB2.out.size HW2.out hgrow2); clear hown2 hgrow2 hnil2 hat2)
        go_roundw
        case rel => exact ⟨k', (k' : Int) - 1, d ++ [x], by omega, rfl, by omega, by simp; omega, HD2, Rows'.own_snoc HO2.out, HB3⟩
        case measure => simp [intOf]
end Go.Proofs.YtchllbjbicomcaaDoor
