/-
  What the library's functions that package line calls answer, at the one byte 10 as the second text: HasSuffix, Count, Index, Contains, Cut; nothing in memory turns.
  Conditions: a string's length is at most the model's greatest.
-/
import Derived.Test.YtpicoccpgpmfhaaDoorProg
import Derived.Test.YtpicoccpgpmfhaaDoorMem
import Derived.Lib.Slices
import Derived.Lib.Walk
import Derived.Lib.Bytealg
namespace Go.Proofs.YtpicoccpgpmfhaaDoor
open Go.RowKit

theorem index_no (l : List UInt8) (c : UInt8) (h : c ∉ l) : Lib.indexByte l c = -1 := by
  induction l with
  | nil => rfl
  | cons b l ih =>
    have hb : (b == c) = false := by
      rw [beq_eq_false_iff_ne]; exact fun e => h (by simp [e])
    unfold Lib.indexByte
    rw [ih (fun hx => h (List.mem_cons_of_mem _ hx))]
    simp [hb]
theorem index_at (a r : List UInt8) (c : UInt8) (h : c ∉ a) : Lib.indexByte (a ++ c :: r) c = a.length := by
  induction a with
  | nil => simp [Lib.indexByte]
  | cons b a ih =>
    have hb : (b == c) = false := by
      rw [beq_eq_false_iff_ne]; exact fun e => h (by simp [e])
    rw [List.cons_append]
    unfold Lib.indexByte
    rw [ih (fun hx => h (List.mem_cons_of_mem _ hx))]
    have h1 : (((a.length : Nat) : Int) == -1) = false := by rw [beq_eq_false_iff_ne]; omega
    simp [hb, h1]
theorem cut_at (l : List UInt8) (c : UInt8) (h : c ∈ l) : ∃ a r, l = a ++ c :: r ∧ c ∉ a := by
  induction l with
  | nil => cases h
  | cons b l ih =>
    by_cases hb : b = c
    · exact ⟨[], l, by simp [hb], by simp⟩
    · rcases List.mem_cons.1 h with h | h
      · exact absurd h.symm hb
      · obtain ⟨a, r, e, hn⟩ := ih h
        exact ⟨b :: a, r, by simp [e], by simp [hn]; exact fun e => hb e.symm⟩
theorem index_has (l : List UInt8) (c : UInt8) : decide (0 ≤ Lib.indexByte l c) = l.contains c := by
  by_cases h : c ∈ l
  · obtain ⟨a, r, rfl, hn⟩ := cut_at l c h
    rw [index_at a r c hn]
    simp
  · rw [index_no l c h]
    simp [h]

/-- The two functions without a Go body, at the newline: the model's own entries. -/
theorem count_run (s : List UInt8) (w : World) : (callFunc 42 #[.string (Ln.bs s), .int .u8 10]).run Tryd.prog w = .ok (.value (.int .i64 ((s.count 10 : Nat) : Int))) w := by
  have h := run_callFunc_extern (e := Extern.BytealgCount.count) Tryd.func42 (by kernel_rfl) (by kernel_rfl) (by kernel_rfl) (by kernel_rfl) #[.string (Ln.bs s), .int .u8 10] w
  rw [Lib.run_countString, Ln.bs_data] at h
  exact h
theorem index_run (s : List UInt8) (w : World) : (callFunc 62 #[.string (Ln.bs s), .int .u8 10]).run Tryd.prog w = .ok (.value (.int .i64 (Lib.indexByte s 10))) w := by
  have h := run_callFunc_extern (e := Extern.BytealgIndexByte.indexByte) Tryd.func62 (by kernel_rfl) (by kernel_rfl) (by kernel_rfl) (by kernel_rfl) #[.string (Ln.bs s), .int .u8 10] w
  rw [Lib.run_indexByteString, Ln.bs_data] at h
  exact h

/-- The last byte of a text, as a text. -/
theorem last_cut (t : List UInt8) (b : UInt8) : (Ln.bs (t ++ [b])).extract t.length (Ln.bs (t ++ [b])).size = Ln.bs [b] := by
  rw [← Ln.bs_of (ByteArray.extract _ _ _), Lib.extract_data, Ln.bs_data, Ln.bs_size]
  simp

/-- Whether a text that is not empty ends by a newline. -/
theorem hasSuffix_nl (s : List UInt8) (b : Bool) (w : World) (hs : s.length ≤ maxLen) (hn : s ≠ []) (hb : Ln.shut s = b) :
    Calls Tryd.prog 23 #[.string (Ln.bs s), .string ⟨#[10]⟩] w fun e w' => e = .returned (.bool b) ∧ w = w' := by
  obtain ⟨t, c, rfl⟩ : ∃ t c, s = t ++ [c] := ⟨s.dropLast, s.getLast hn, (List.dropLast_concat_getLast hn).symm⟩
  rw [Ln.shut_snoc] at hb
  have hcut := last_cut t c
  have hz : (Ln.bs (t ++ [c])).size = t.length + 1 := by rw [Ln.bs_size, List.length_append]; rfl
  have hm : t.length + 1 ≤ 9223372036854775807 := by rw [List.length_append] at hs; unfold maxLen at hs; exact hs
  have HE : Hid (((Ln.bs [c]).toList == [10]) = b) := by
    rw [Hid, Lib.toList_data, Ln.bs_data, ← hb]
    simp
  generalize Ln.bs (t ++ [c]) = S at *
  generalize Ln.bs [c] = C at *
  have hq := HE.out
  have h1 : 1 ≤ S.size := by omega
  have h3 : S.size ≤ 9223372036854775807 := by omega
  have h2 : S.size - 1 = t.length := by omega
  rw [← h2] at hcut
  clear HE hb hn hs hm hz h2
  go_enter Tryd.func23, Tryd.ntmps23
  go_wp2
  go_ret
  exact ⟨rfl, rfl⟩
theorem count_nl (s : List UInt8) (n : Nat) (w : World) (hn : s.count 10 = n) :
    Calls Tryd.prog 24 #[.string (Ln.bs s), .string ⟨#[10]⟩] w fun e w' => e = .returned (.int .i64 (n : Int)) ∧ w = w' := by
  have hx : (callFunc 42 #[.string (Ln.bs s), .int .u8 (((ByteArray.mk #[10])[0]'(by decide)).toNat : Int)]).run Tryd.prog w = .ok (.value (.int .i64 ((s.count 10 : Nat) : Int))) w := count_run s w
  rw [hn] at hx
  clear hn
  go_enter Tryd.func24, Tryd.ntmps24
  go_wp2
  go_ret
  exact ⟨rfl, rfl⟩
theorem indexByte_at (s : List UInt8) (w : World) :
    Calls Tryd.prog 58 #[.string (Ln.bs s), .int .u8 10] w fun e w' => e = .returned (.int .i64 (Lib.indexByte s 10)) ∧ w = w' := by
  have hx := index_run s w
  go_enter Tryd.func58, Tryd.ntmps58
  go_wp2
  go_ret
  exact ⟨rfl, rfl⟩

set_option maxRecDepth 100000 in
/-- Where the first newline is: a text of that one byte alone is told apart by the library. -/
theorem liteIndex_at (s : List UInt8) (w : World) :
    Calls Tryd.prog 53 #[.string (Ln.bs s), .string ⟨#[10]⟩] w fun e w' => e = .returned (.int .i64 (Lib.indexByte s 10)) ∧ w = w' := by
  by_cases h : s = [10]
  · subst h
    have hq : ([10] == (Ln.bs [10]).toList) = true := by rw [Lib.toList_data, Ln.bs_data]; rfl
    have HR : Hid (Lib.indexByte [10] 10 = 0) := by rw [Hid]; decide
    go_enter Tryd.func53, Tryd.ntmps53
    go_wp2_with fail
    go_ret
    exact ⟨ret_int HR.out.symm, rfl⟩
  · have hq : ([10] == (Ln.bs s).toList) = false := by
      rw [Lib.toList_data, Ln.bs_data, beq_eq_false_iff_ne]
      exact fun e => h e.symm
    have HC := Lib.hid (indexByte_at s w)
    clear h
    go_enter Tryd.func53, Tryd.ntmps53
    go_wp2_with fail
    refine HC.out.mono ?_
    rintro e w' ⟨rfl, rfl⟩
    go_wp2_with fail
    go_ret
    exact ⟨rfl, rfl⟩
theorem index_call (s : List UInt8) (w : World) :
    Calls Tryd.prog 43 #[.string (Ln.bs s), .string ⟨#[10]⟩] w fun e w' => e = .returned (.int .i64 (Lib.indexByte s 10)) ∧ w = w' := by
  have HC := Lib.hid (liteIndex_at s w)
  go_enter Tryd.func43, Tryd.ntmps43
  go_wp2_with fail
  refine HC.out.mono ?_
  rintro e w' ⟨rfl, rfl⟩
  go_wp2_with fail
  go_ret
  exact ⟨rfl, rfl⟩
theorem contains_nl (s : List UInt8) (b : Bool) (w : World) (hb : s.contains 10 = b) :
    Calls Tryd.prog 37 #[.string (Ln.bs s), .string ⟨#[10]⟩] w fun e w' => e = .returned (.bool b) ∧ w = w' := by
  have HC := Lib.hid (index_call s w)
  have HB := Lib.hid ((index_has s 10).trans hb)
  clear hb
  go_enter Tryd.func37, Tryd.ntmps37
  go_wp2_with fail
  refine HC.out.mono ?_
  rintro e w' ⟨rfl, rfl⟩
  go_wp2_with fail
  go_ret
  exact ⟨ret_bool HB.out, rfl⟩

/-- Cut at the first newline, where there is one. -/
theorem liteCut_at (a r : List UInt8) (w : World) (ha : (10 : UInt8) ∉ a) (hs : a.length + 1 + r.length ≤ maxLen) :
    Calls Tryd.prog 44 #[.string (Ln.bs (a ++ 10 :: r)), .string ⟨#[10]⟩] w fun e w' => e = .returned (.tuple #[.string (Ln.bs a), .string (Ln.bs r), .bool true]) ∧ ∃ n, w' = w.drewN n := by
  unfold maxLen at hs
  have HI := Lib.hid (index_at a r 10 ha)
  have HD := Lib.hid (Ln.bs_data (a ++ 10 :: r))
  have hsz : (Ln.bs (a ++ 10 :: r)).size = a.length + 1 + r.length := by rw [Ln.bs_size]; simp; omega
  have HA : Hid ((Ln.bs (a ++ 10 :: r)).extract 0 a.length = Ln.bs a) := by
    rw [Hid, ← Ln.bs_of (ByteArray.extract _ _ _), Lib.extract_data, HD.out]; simp
  have HR : Hid ((Ln.bs (a ++ 10 :: r)).extract (a.length + 1) (a.length + 1 + r.length) = Ln.bs r) := by
    rw [Hid, ← Ln.bs_of (ByteArray.extract _ _ _), Lib.extract_data, HD.out]
    have : (a ++ 10 :: r) = (a ++ [10]) ++ r := by simp
    rw [this, List.take_of_length_le (by simp), List.drop_left' (by simp)]
  have hi := liteIndex_at (a ++ 10 :: r) w
  rw [HI.out] at hi
  have H0 := Lib.hid hi
  clear hi
  generalize hS : Ln.bs (a ++ 10 :: r) = S at *
  have HSZ := Lib.hid hsz
  have hsz1 : a.length + 1 ≤ S.size := by omega
  clear hS hsz
  go_enter Tryd.func44, Tryd.ntmps44
  go_wp2_with fail
  refine H0.out.mono ?_
  rintro e w' ⟨rfl, rfl⟩
  go_wp2
  have e0 : (a.length : Int) ≤ (S.size : Int) := by omega
  have e1 : IntKind.i64.wrap ((a.length : Int) + 1) = (a.length : Int) + 1 := IntWalk.i64_in _ (by omega)
  have e2 : ((a.length : Int) + 1).toNat = a.length + 1 := by omega
  have e3 : (a.length : Int) + 1 ≤ (S.size : Int) := by omega
  have e4 : 0 ≤ (a.length : Int) + 1 := by omega
  go_quiet (fail)
  clear e1 e2
  go_wp2
  go_ret3
  refine ⟨?_, _, rfl⟩
  show Ending.returned (.tuple #[.string (S.extract 0 a.length), .string (S.extract (a.length + 1) S.size), .bool true]) = _
  rw [HSZ.out, HA.out, HR.out]

theorem cut_call (a r : List UInt8) (w : World) (ha : (10 : UInt8) ∉ a) (hs : a.length + 1 + r.length ≤ maxLen) :
    Calls Tryd.prog 25 #[.string (Ln.bs (a ++ 10 :: r)), .string ⟨#[10]⟩] w fun e w' => e = .returned (.tuple #[.string (Ln.bs a), .string (Ln.bs r), .bool true]) ∧ ∃ n, w' = w.drewN n := by
  have H := Lib.hid (liteCut_at a r w ha hs)
  generalize Ln.bs (a ++ 10 :: r) = S at *
  go_enter Tryd.func25, Tryd.ntmps25
  go_wp2_with fail
  refine H.out.mono ?_
  rintro e w' ⟨rfl, n, rfl⟩
  go_wp2
  go_ret3
  exact ⟨rfl, n, rfl⟩
end Go.Proofs.YtpicoccpgpmfhaaDoor
