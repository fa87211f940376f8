/-
  What the library's functions that package line calls answer, at the one byte 10 as the second text: HasSuffix, Count, Index, Contains, Cut; nothing in memory turns.
  Conditions: a string's length is at most the model's greatest.
-/
import Derived.Test.YtdgikcokhoijlaaProg
import Derived.Test.YtdgikcokhoijlaaMem
import Derived.Lib.Slices
import Derived.Lib.Walk
import Derived.Lib.Bytealg
namespace Go.Proofs.Ytdgikcokhoijlaa
open Go.RowKit

theorem hasSuffix_is (l : List UInt8) : l ≠ [] → Lib.hasSuffix l [10] = Ln.shut l := by
  intro h
  induction l using Ln.snocRec with
  | nil => exact absurd rfl h
  | snoc l b _ =>
    rw [Ln.shut_snoc, Lib.hasSuffix, Bool.eq_iff_iff, List.isSuffixOf_iff_suffix, beq_iff_eq]
    constructor
    · rintro ⟨t, ht⟩
      exact (List.append_inj_right' ht rfl).symm |> fun e => by injection e
    · rintro rfl
      exact ⟨l, rfl⟩

theorem index_no (l : List UInt8) (c : UInt8) (h : c ∉ l) : Lib.indexByte l c = -1 := by
  induction l with
  | nil => rfl
  | cons b l ih =>
    have hb : (b == c) = false := by
      rw [beq_eq_false_iff_ne]; exact fun e => h (by simp [e])
    unfold Lib.indexByte
    rw [ih (fun hx => h (List.mem_cons_of_mem _ hx))]
    simp [hb]
theorem index_at (a r : List UInt8) (c : UInt8) (h : c ∉ a) : Lib.indexByte (a ++ c :: r) c = a.length := by
  induction a with
  | nil => simp [Lib.indexByte]
  | cons b a ih =>
    have hb : (b == c) = false := by
      rw [beq_eq_false_iff_ne]; exact fun e => h (by simp [e])
    rw [List.cons_append]
    unfold Lib.indexByte
    rw [ih (fun hx => h (List.mem_cons_of_mem _ hx))]
    have h1 : (((a.length : Nat) : Int) == -1) = false := by rw [beq_eq_false_iff_ne]; omega
    simp [hb, h1]
theorem cut_at (l : List UInt8) (c : UInt8) (h : c ∈ l) : ∃ a r, l = a ++ c :: r ∧ c ∉ a := by
  induction l with
  | nil => cases h
  | cons b l ih =>
    by_cases hb : b = c
    · exact ⟨[], l, by simp [hb], by simp⟩
    · rcases List.mem_cons.1 h with h | h
      · exact absurd h.symm hb
      · obtain ⟨a, r, e, hn⟩ := ih h
        exact ⟨b :: a, r, by simp [e], by simp [hn]; exact fun e => hb e.symm⟩
theorem index_has (l : List UInt8) (c : UInt8) : decide (0 ≤ Lib.indexByte l c) = l.contains c := by
  by_cases h : c ∈ l
  · obtain ⟨a, r, rfl, hn⟩ := cut_at l c h
    rw [index_at a r c hn]
    simp
  · rw [index_no l c h]
    simp [h]

set_option maxHeartbeats 1000000 in
theorem hasSuffix_at (s p : ByteArray) (w : World) (hs : s.size ≤ maxLen) :
    Calls Try.prog 16 #[.string s, .string p] w fun e w' => e = .returned (.bool (Lib.hasSuffix s.data.toList p.data.toList)) ∧ w = w' := by
  rw [← Lib.hasSuffix_raw]
  unfold maxLen at hs
  have hlo : p.size ≤ s.size → ((s.size : Int) - (p.size : Int) + 9223372036854775808) % 18446744073709551616 - 9223372036854775808 = ((s.size - p.size : Nat) : Int) := fun _ => by omega
  go_enter Try.func16, Try.ntmps16
  go_wp2
  · have h : p.size ≤ s.size := by assumption
    go_ret
    refine ⟨?_, rfl⟩
    show Ending.returned (Value.bool ((s.extract (s.size - p.size) s.size).toList == p.toList)) = _
    simp [h]
  · have h : ¬ p.size ≤ s.size := by assumption
    go_ret
    refine ⟨?_, rfl⟩
    show Ending.returned (Value.bool false) = _
    simp [h]

set_option maxHeartbeats 1000000 in
set_option maxRecDepth 100000 in
theorem count_at (s : ByteArray) (c : UInt8) (w : World) :
    Calls Try.prog 17 #[.string s, .string ⟨#[c]⟩] w fun e w' => e = .returned (.int .i64 ((s.data.toList.count c : Nat) : Int)) ∧ w = w' := by
  go_enter Try.func17, Try.ntmps17
  go_wp2
  rw [run_callFunc_extern Try.func25 (by kernel_rfl) (by kernel_rfl) (by kernel_rfl) (e := Extern.BytealgCount.count) (by kernel_rfl), Lib.run_countString]
  simp only [Result.andThen]
  rw [Oper.upon_value]
  go_wp2
  go_ret
  exact ⟨rfl, rfl⟩

set_option maxHeartbeats 1000000 in
set_option maxRecDepth 100000 in
theorem indexByte_at (s : ByteArray) (c : Int) (w : World) :
    Calls Try.prog 29 #[.string s, .int .u8 c] w fun e w' => e = .returned (.int .i64 (Lib.indexByte s.data.toList c.toNat.toUInt8)) ∧ w = w' := by
  go_enter Try.func29, Try.ntmps29
  go_wp2
  rw [run_callFunc_extern Try.func33 (by kernel_rfl) (by kernel_rfl) (by kernel_rfl) (e := Extern.BytealgIndexByte.indexByte) (by kernel_rfl), Lib.run_indexByteString]
  simp only [Result.andThen]
  rw [Oper.upon_value]
  go_wp2
  go_ret
  exact ⟨rfl, rfl⟩

set_option maxHeartbeats 2000000 in
set_option maxRecDepth 100000 in
theorem liteIndex_at (s : ByteArray) (c : UInt8) (w : World) :
    Calls Try.prog 28 #[.string s, .string ⟨#[c]⟩] w fun e w' => e = .returned (.int .i64 (Lib.indexByte s.data.toList c)) ∧ w = w' := by
  go_enter Try.func28, Try.ntmps28
  go_wp2_with (go_at_call 29; refine (indexByte_at _ _ _).mono ?_; rintro e w' ⟨rfl, rfl⟩)
  · have h : ([c] == s.toList) = true := by assumption
    go_ret
    refine ⟨?_, rfl⟩
    have e : s.data.toList = [c] := by rw [← Lib.toList_data]; exact (beq_iff_eq.1 h).symm
    rw [e]
    simp [Lib.indexByte]
  · go_ret
    exact ⟨rfl, rfl⟩

theorem index_call (s : ByteArray) (c : UInt8) (w : World) :
    Calls Try.prog 26 #[.string s, .string ⟨#[c]⟩] w fun e w' => e = .returned (.int .i64 (Lib.indexByte s.data.toList c)) ∧ w = w' := by
  go_enter Try.func26, Try.ntmps26
  go_wp2_with (go_at_call 28; refine (liteIndex_at _ _ _).mono ?_; rintro e w' ⟨rfl, rfl⟩)
  go_ret
  exact ⟨rfl, rfl⟩

theorem contains_at (s : ByteArray) (c : UInt8) (w : World) :
    Calls Try.prog 20 #[.string s, .string ⟨#[c]⟩] w fun e w' => e = .returned (.bool (s.data.toList.contains c)) ∧ w = w' := by
  have H := Lib.hid (index_has s.data.toList c)
  go_enter Try.func20, Try.ntmps20
  go_wp2_with (go_at_call 26; refine (index_call _ _ _).mono ?_; rintro e w' ⟨rfl, rfl⟩)
  go_ret
  exact ⟨ret_bool H.out, rfl⟩

/-- Whether a text that is not empty ends by a newline. -/
theorem hasSuffix_nl (s : List UInt8) (b : Bool) (w : World) (hs : s.length ≤ maxLen) (hn : s ≠ []) (hb : Ln.shut s = b) :
    Calls Try.prog 16 #[.string (Ln.bs s), .string ⟨#[10]⟩] w fun e w' => e = .returned (.bool b) ∧ w = w' := by
  have h := hasSuffix_at (Ln.bs s) ⟨#[10]⟩ w (by rw [Ln.bs_size]; exact hs)
  rw [Ln.bs_data] at h
  have e : Lib.hasSuffix s (ByteArray.mk #[10]).data.toList = b := (hasSuffix_is s hn).trans hb
  rw [e] at h
  exact h
theorem count_nl (s : List UInt8) (n : Nat) (w : World) (hn : s.count 10 = n) :
    Calls Try.prog 17 #[.string (Ln.bs s), .string ⟨#[10]⟩] w fun e w' => e = .returned (.int .i64 (n : Int)) ∧ w = w' := by
  have h := count_at (Ln.bs s) 10 w
  rw [Ln.bs_data, hn] at h
  exact h
theorem contains_nl (s : List UInt8) (b : Bool) (w : World) (hb : s.contains 10 = b) :
    Calls Try.prog 20 #[.string (Ln.bs s), .string ⟨#[10]⟩] w fun e w' => e = .returned (.bool b) ∧ w = w' := by
  have h := contains_at (Ln.bs s) 10 w
  rw [Ln.bs_data, hb] at h
  exact h

/-- Cut at the first newline, where there is one. -/
theorem liteCut_at (a r : List UInt8) (w : World) (ha : (10 : UInt8) ∉ a) (hs : a.length + 1 + r.length ≤ maxLen) :
    Calls Try.prog 27 #[.string (Ln.bs (a ++ 10 :: r)), .string ⟨#[10]⟩] w fun e w' => e = .returned (.tuple #[.string (Ln.bs a), .string (Ln.bs r), .bool true]) ∧ ∃ n, w' = w.drewN n := by
  unfold maxLen at hs
  have HI := Lib.hid (index_at a r 10 ha)
  have HD := Lib.hid (Ln.bs_data (a ++ 10 :: r))
  have hsz : (Ln.bs (a ++ 10 :: r)).size = a.length + 1 + r.length := by rw [Ln.bs_size]; simp; omega
  have HA : Hid ((Ln.bs (a ++ 10 :: r)).extract 0 a.length = Ln.bs a) := by
    rw [Hid, ← Ln.bs_of (ByteArray.extract _ _ _), Lib.extract_data, HD.out]; simp
  have HR : Hid ((Ln.bs (a ++ 10 :: r)).extract (a.length + 1) (a.length + 1 + r.length) = Ln.bs r) := by
    rw [Hid, ← Ln.bs_of (ByteArray.extract _ _ _), Lib.extract_data, HD.out]
    have : (a ++ 10 :: r) = (a ++ [10]) ++ r := by simp
    rw [this, List.take_of_length_le (by simp), List.drop_left' (by simp)]
  generalize hS : Ln.bs (a ++ 10 :: r) = S at *
  have HS := Lib.hid hS
  have HSZ := Lib.hid hsz
  have hsz1 : a.length + 1 ≤ S.size := by omega
  clear hS hsz
  have hi := liteIndex_at S 10 w
  rw [HD.out, HI.out] at hi
  have H0 := Lib.hid hi
  clear hi
  go_enter Try.func27, Try.ntmps27
  go_wp2_with fail
  refine H0.out.mono ?_
  rintro e w' ⟨rfl, rfl⟩
  go_wp2
  have e0 : (a.length : Int) ≤ (S.size : Int) := by omega
  have e1 : IntKind.i64.wrap ((a.length : Int) + 1) = (a.length : Int) + 1 := IntWalk.i64_in _ (by omega)
  have e2 : ((a.length : Int) + 1).toNat = a.length + 1 := by omega
  have e3 : (a.length : Int) + 1 ≤ (S.size : Int) := by omega
  have e4 : 0 ≤ (a.length : Int) + 1 := by omega
  go_quiet (fail)
  clear e1 e2
  go_wp2
  go_ret3
  refine ⟨?_, _, rfl⟩
  show Ending.returned (.tuple #[.string (S.extract 0 a.length), .string (S.extract (a.length + 1) S.size), .bool true]) = _
  rw [HSZ.out, HA.out, HR.out]

theorem cut_call (a r : List UInt8) (w : World) (ha : (10 : UInt8) ∉ a) (hs : a.length + 1 + r.length ≤ maxLen) :
    Calls Try.prog 18 #[.string (Ln.bs (a ++ 10 :: r)), .string ⟨#[10]⟩] w fun e w' => e = .returned (.tuple #[.string (Ln.bs a), .string (Ln.bs r), .bool true]) ∧ ∃ n, w' = w.drewN n := by
  have H := Lib.hid (liteCut_at a r w ha hs)
  generalize Ln.bs (a ++ 10 :: r) = S at *
  go_enter Try.func18, Try.ntmps18
  go_wp2_with fail
  refine H.out.mono ?_
  rintro e w' ⟨rfl, n, rfl⟩
  go_wp2
  go_ret3
  exact ⟨rfl, n, rfl⟩
end Go.Proofs.Ytdgikcokhoijlaa
