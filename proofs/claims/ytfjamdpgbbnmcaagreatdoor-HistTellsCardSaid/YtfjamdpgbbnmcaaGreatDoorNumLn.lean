/-
  Several texts in one, each with its own first words: LnOwn, LnLib, LnWalkA, LnWalkB, LnWalkC, LnRefS, LnRefW, NumWalkA, NumWalkB, NumWalkC, NumRefA, NumRefB.
  Conditions: as each says.
-/
import Derived.Test.YtfjamdpgbbnmcaaGreatDoorProg
import Derived.Test.YtfjamdpgbbnmcaaGreatDoorLow
import Derived.Laws.IdiomStrings
import Derived.Laws.BytesArg
import Derived.Lib.Slices
import Derived.Lib.Walk
import Derived.Lib.Bytealg
/-
  What line.ownText answers: the text itself, in memory of its own; what was in memory stays as it was.
  Conditions: none.
-/
set_option maxRecDepth 4000
namespace Go.Proofs.YtfjamdpgbbnmcaaGreatDoor
open Go.RowKit

theorem bytesRow_at (s : ByteArray) (c i : Nat) (h : i < s.size) : (bytesRow s c)[i]? = some (.int .u8 (s[i].toNat : Int)) := by
  have h' : i < s.data.size := h
  rw [bytesRow, Array.getElem?_append_left (by simpa using h'), Array.getElem?_map, Array.getElem?_eq_getElem h']
  rfl

theorem own_at (s : ByteArray) (w : World) :
    Calls Tryz.prog 95 #[.string s] w fun e w' => e = .returned (.string s) ∧ Below w.heap.size w w' := by
  have h1 := run_bytes_of_string (P := Tryz.prog) w 9 128 5 s Tryz.underlying9 Tryz.underlying128 Tryz.underlying5
  generalize grownCap w s.size 0 5 = cap at h1
  generalize hW : w.drew.alloc (.cells (bytesRow s cap) 5 ((bytesRow s cap).size, (bytesRow s cap).size + 1)) = W at h1
  have hb : Below w.heap.size w W := by rw [← hW]; exact ((Below.refl _ _).drew).alloc (by exact Nat.le_refl _) _
  have h2 : (convert 128 9 (.slice (some ⟨w.heap.size, 0, none⟩) s.size cap)).run Tryz.prog W = .ok (.string s) W := by
    have := run_convert_bytes_arg (P := Tryz.prog) W 128 5 Tryz.underlying128 Tryz.underlying5 w.heap.size 0 s.size cap (s.data.toList.map fun x => (x.toNat : Int)) (by simp) (fun i hi => by
      rw [cell_of_row W w.heap.size (0 + i) (bytesRow s cap) 5 ((bytesRow s cap).size, (bytesRow s cap).size + 1) (by rw [← hW]; exact heap_alloc_new w.drew _)]
      rw [Nat.zero_add, bytesRow_at s cap i hi]
      simp [List.getD, hi]
      rfl) 9 Tryz.underlying9
    rw [this]
    rw [nums_text, Ln.bs_of]
  have HB := Lib.hid hb
  have HW := Lib.hid hW
  clear hb hW
  go_enter Tryz.func95, Tryz.ntmps95
  go_wp2
  go_ret
  exact ⟨rfl, HB.out⟩

theorem str_info : (Tryz.prog.info? 9).map (fun i => (i.zero, i.size, i.bytes)) = some (some (.string ByteArray.empty), 1, 16) := by kernel_rfl

/-- A text is empty, or it is not: in the walk's own words. -/
theorem bs_empty (s : List UInt8) (h : s = []) : (Ln.bs s).toList = [] := by rw [Lib.toList_data, Ln.bs_data]; exact h
theorem bs_some (s : List UInt8) (h : s ≠ []) : (Ln.bs s).toList.isEmpty = false ∧ ¬ (Ln.bs s).toList = [] := by
  rw [Lib.toList_data, Ln.bs_data]
  exact ⟨by cases s with | nil => exact absurd rfl h | cons _ _ => rfl, h⟩
end Go.Proofs.YtfjamdpgbbnmcaaGreatDoor
/-
  What the library's functions that package line calls answer, at the one byte 10 as the second text: HasSuffix, Count, Index, Contains, Cut; nothing in memory turns.
  Conditions: a string's length is at most the model's greatest.
-/
set_option maxRecDepth 4000
namespace Go.Proofs.YtfjamdpgbbnmcaaGreatDoor
open Go.RowKit

theorem index_no (l : List UInt8) (c : UInt8) (h : c ∉ l) : Lib.indexByte l c = -1 := by
  induction l with
  | nil => rfl
  | cons b l ih =>
    have hb : (b == c) = false := by
      rw [beq_eq_false_iff_ne]; exact fun e => h (by simp [e])
    unfold Lib.indexByte
    rw [ih (fun hx => h (List.mem_cons_of_mem _ hx))]
    simp [hb]
theorem index_at (a r : List UInt8) (c : UInt8) (h : c ∉ a) : Lib.indexByte (a ++ c :: r) c = a.length := by
  induction a with
  | nil => simp [Lib.indexByte]
  | cons b a ih =>
    have hb : (b == c) = false := by
      rw [beq_eq_false_iff_ne]; exact fun e => h (by simp [e])
    rw [List.cons_append]
    unfold Lib.indexByte
    rw [ih (fun hx => h (List.mem_cons_of_mem _ hx))]
    have h1 : (((a.length : Nat) : Int) == -1) = false := by rw [beq_eq_false_iff_ne]; omega
    simp [hb, h1]
theorem cut_at (l : List UInt8) (c : UInt8) (h : c ∈ l) : ∃ a r, l = a ++ c :: r ∧ c ∉ a := by
  induction l with
  | nil => cases h
  | cons b l ih =>
    by_cases hb : b = c
    · exact ⟨[], l, by simp [hb], by simp⟩
    · rcases List.mem_cons.1 h with h | h
      · exact absurd h.symm hb
      · obtain ⟨a, r, e, hn⟩ := ih h
        exact ⟨b :: a, r, by simp [e], by simp [hn]; exact fun e => hb e.symm⟩
theorem index_has (l : List UInt8) (c : UInt8) : decide (0 ≤ Lib.indexByte l c) = l.contains c := by
  by_cases h : c ∈ l
  · obtain ⟨a, r, rfl, hn⟩ := cut_at l c h
    rw [index_at a r c hn]
    simp
  · rw [index_no l c h]
    simp [h]

/-- The two functions without a Go body, at the newline: the model's own entries. -/
theorem count_run (s : List UInt8) (w : World) : (callFunc 106 #[.string (Ln.bs s), .int .u8 10]).run Tryz.prog w = .ok (.value (.int .i64 ((s.count 10 : Nat) : Int))) w := by
  have h := run_callFunc_extern (e := Extern.BytealgCount.count) Tryz.func106 (by kernel_rfl) (by kernel_rfl) (by kernel_rfl) (by kernel_rfl) #[.string (Ln.bs s), .int .u8 10] w
  rw [Lib.run_countString, Ln.bs_data] at h
  exact h
theorem index_run (s : List UInt8) (w : World) : (callFunc 121 #[.string (Ln.bs s), .int .u8 10]).run Tryz.prog w = .ok (.value (.int .i64 (Lib.indexByte s 10))) w := by
  have h := run_callFunc_extern (e := Extern.BytealgIndexByte.indexByte) Tryz.func121 (by kernel_rfl) (by kernel_rfl) (by kernel_rfl) (by kernel_rfl) #[.string (Ln.bs s), .int .u8 10] w
  rw [Lib.run_indexByteString, Ln.bs_data] at h
  exact h

/-- The last byte of a text, as a text. -/
theorem last_cut (t : List UInt8) (b : UInt8) : (Ln.bs (t ++ [b])).extract t.length (Ln.bs (t ++ [b])).size = Ln.bs [b] := by
  rw [← Ln.bs_of (ByteArray.extract _ _ _), Lib.extract_data, Ln.bs_data, Ln.bs_size]
  simp

/-- Whether a text that is not empty ends by a newline. -/
theorem hasSuffix_nl (s : List UInt8) (b : Bool) (w : World) (hs : s.length ≤ maxLen) (hn : s ≠ []) (hb : Ln.shut s = b) :
    Calls Tryz.prog 92 #[.string (Ln.bs s), .string ⟨#[10]⟩] w fun e w' => e = .returned (.bool b) ∧ w = w' := by
  obtain ⟨t, c, rfl⟩ : ∃ t c, s = t ++ [c] := ⟨s.dropLast, s.getLast hn, (List.dropLast_concat_getLast hn).symm⟩
  rw [Ln.shut_snoc] at hb
  have hcut := last_cut t c
  have hz : (Ln.bs (t ++ [c])).size = t.length + 1 := by rw [Ln.bs_size, List.length_append]; rfl
  have hm : t.length + 1 ≤ 9223372036854775807 := by rw [List.length_append] at hs; unfold maxLen at hs; exact hs
  have HE : Hid (((Ln.bs [c]).toList == [10]) = b) := by
    rw [Hid, Lib.toList_data, Ln.bs_data, ← hb]
    simp
  generalize Ln.bs (t ++ [c]) = S at *
  generalize Ln.bs [c] = C at *
  have hq := HE.out
  have h1 : 1 ≤ S.size := by omega
  have h3 : S.size ≤ 9223372036854775807 := by omega
  have h2 : S.size - 1 = t.length := by omega
  rw [← h2] at hcut
  clear HE hb hn hs hm hz h2
  go_enter Tryz.func92, Tryz.ntmps92
  go_wp2
  go_ret
  exact ⟨rfl, rfl⟩
theorem count_nl (s : List UInt8) (n : Nat) (w : World) (hn : s.count 10 = n) :
    Calls Tryz.prog 93 #[.string (Ln.bs s), .string ⟨#[10]⟩] w fun e w' => e = .returned (.int .i64 (n : Int)) ∧ w = w' := by
  have hx : (callFunc 106 #[.string (Ln.bs s), .int .u8 (((ByteArray.mk #[10])[0]'(by decide)).toNat : Int)]).run Tryz.prog w = .ok (.value (.int .i64 ((s.count 10 : Nat) : Int))) w := count_run s w
  rw [hn] at hx
  clear hn
  go_enter Tryz.func93, Tryz.ntmps93
  go_wp2
  go_ret
  exact ⟨rfl, rfl⟩
theorem indexByte_at (s : List UInt8) (w : World) :
    Calls Tryz.prog 114 #[.string (Ln.bs s), .int .u8 10] w fun e w' => e = .returned (.int .i64 (Lib.indexByte s 10)) ∧ w = w' := by
  have hx := index_run s w
  go_enter Tryz.func114, Tryz.ntmps114
  go_wp2
  go_ret
  exact ⟨rfl, rfl⟩

set_option maxRecDepth 100000 in
/-- Where the first newline is: a text of that one byte alone is told apart by the library. -/
theorem liteIndex_at (s : List UInt8) (w : World) :
    Calls Tryz.prog 100 #[.string (Ln.bs s), .string ⟨#[10]⟩] w fun e w' => e = .returned (.int .i64 (Lib.indexByte s 10)) ∧ w = w' := by
  by_cases h : s = [10]
  · subst h
    have hq : ([10] == (Ln.bs [10]).toList) = true := by rw [Lib.toList_data, Ln.bs_data]; rfl
    have HR : Hid (Lib.indexByte [10] 10 = 0) := by rw [Hid]; decide
    go_enter Tryz.func100, Tryz.ntmps100
    go_wp2_with fail
    go_ret
    exact ⟨ret_int HR.out.symm, rfl⟩
  · have hq : ([10] == (Ln.bs s).toList) = false := by
      rw [Lib.toList_data, Ln.bs_data, beq_eq_false_iff_ne]
      exact fun e => h e.symm
    have HC := Lib.hid (indexByte_at s w)
    clear h
    go_enter Tryz.func100, Tryz.ntmps100
    go_wp2_with fail
    refine HC.out.mono ?_
    rintro e w' ⟨rfl, rfl⟩
    go_wp2_with fail
    go_ret
    exact ⟨rfl, rfl⟩
theorem index_call (s : List UInt8) (w : World) :
    Calls Tryz.prog 86 #[.string (Ln.bs s), .string ⟨#[10]⟩] w fun e w' => e = .returned (.int .i64 (Lib.indexByte s 10)) ∧ w = w' := by
  have HC := Lib.hid (liteIndex_at s w)
  go_enter Tryz.func86, Tryz.ntmps86
  go_wp2_with fail
  refine HC.out.mono ?_
  rintro e w' ⟨rfl, rfl⟩
  go_wp2_with fail
  go_ret
  exact ⟨rfl, rfl⟩
theorem contains_nl (s : List UInt8) (b : Bool) (w : World) (hb : s.contains 10 = b) :
    Calls Tryz.prog 69 #[.string (Ln.bs s), .string ⟨#[10]⟩] w fun e w' => e = .returned (.bool b) ∧ w = w' := by
  have HC := Lib.hid (index_call s w)
  have HB := Lib.hid ((index_has s 10).trans hb)
  clear hb
  go_enter Tryz.func69, Tryz.ntmps69
  go_wp2_with fail
  refine HC.out.mono ?_
  rintro e w' ⟨rfl, rfl⟩
  go_wp2_with fail
  go_ret
  exact ⟨ret_bool HB.out, rfl⟩

/-- Cut at the first newline, where there is one. -/
theorem liteCut_at (a r : List UInt8) (w : World) (ha : (10 : UInt8) ∉ a) (hs : a.length + 1 + r.length ≤ maxLen) :
    Calls Tryz.prog 107 #[.string (Ln.bs (a ++ 10 :: r)), .string ⟨#[10]⟩] w fun e w' => e = .returned (.tuple #[.string (Ln.bs a), .string (Ln.bs r), .bool true]) ∧ ∃ n, w' = w.drewN n := by
  unfold maxLen at hs
  have HI := Lib.hid (index_at a r 10 ha)
  have HD := Lib.hid (Ln.bs_data (a ++ 10 :: r))
  have hsz : (Ln.bs (a ++ 10 :: r)).size = a.length + 1 + r.length := by rw [Ln.bs_size]; simp; omega
  have HA : Hid ((Ln.bs (a ++ 10 :: r)).extract 0 a.length = Ln.bs a) := by
    rw [Hid, ← Ln.bs_of (ByteArray.extract _ _ _), Lib.extract_data, HD.out]; simp
  have HR : Hid ((Ln.bs (a ++ 10 :: r)).extract (a.length + 1) (a.length + 1 + r.length) = Ln.bs r) := by
    rw [Hid, ← Ln.bs_of (ByteArray.extract _ _ _), Lib.extract_data, HD.out]
    have : (a ++ 10 :: r) = (a ++ [10]) ++ r := by simp
    rw [this, List.take_of_length_le (by simp), List.drop_left' (by simp)]
  have hi := liteIndex_at (a ++ 10 :: r) w
  rw [HI.out] at hi
  have H0 := Lib.hid hi
  clear hi
  generalize hS : Ln.bs (a ++ 10 :: r) = S at *
  have HSZ := Lib.hid hsz
  have hsz1 : a.length + 1 ≤ S.size := by omega
  clear hS hsz
  go_enter Tryz.func107, Tryz.ntmps107
  go_wp2_with fail
  refine H0.out.mono ?_
  rintro e w' ⟨rfl, rfl⟩
  go_wp2
  have e0 : (a.length : Int) ≤ (S.size : Int) := by omega
  have e1 : IntKind.i64.wrap ((a.length : Int) + 1) = (a.length : Int) + 1 := IntWalk.i64_in _ (by omega)
  have e2 : ((a.length : Int) + 1).toNat = a.length + 1 := by omega
  have e3 : (a.length : Int) + 1 ≤ (S.size : Int) := by omega
  have e4 : 0 ≤ (a.length : Int) + 1 := by omega
  go_quiet (fail)
  clear e1 e2
  go_wp2
  go_ret3
  refine ⟨?_, _, rfl⟩
  show Ending.returned (.tuple #[.string (S.extract 0 a.length), .string (S.extract (a.length + 1) S.size), .bool true]) = _
  rw [HSZ.out, HA.out, HR.out]

theorem cut_call (a r : List UInt8) (w : World) (ha : (10 : UInt8) ∉ a) (hs : a.length + 1 + r.length ≤ maxLen) :
    Calls Tryz.prog 94 #[.string (Ln.bs (a ++ 10 :: r)), .string ⟨#[10]⟩] w fun e w' => e = .returned (.tuple #[.string (Ln.bs a), .string (Ln.bs r), .bool true]) ∧ ∃ n, w' = w.drewN n := by
  have H := Lib.hid (liteCut_at a r w ha hs)
  generalize Ln.bs (a ++ 10 :: r) = S at *
  go_enter Tryz.func94, Tryz.ntmps94
  go_wp2_with fail
  refine H.out.mono ?_
  rintro e w' ⟨rfl, n, rfl⟩
  go_wp2
  go_ret3
  exact ⟨rfl, n, rfl⟩
end Go.Proofs.YtfjamdpgbbnmcaaGreatDoor
/-
  What line.Split answers, for every text that a string may hold: Ln.splitR; what was in memory stays as it was.
  Conditions: a string's length is at most the model's greatest.
-/
set_option maxRecDepth 4000
namespace Go.Proofs.YtfjamdpgbbnmcaaGreatDoor
open Go.RowKit

/-- A text of whole lines that is not empty has a first line. -/
theorem first_line (x : List UInt8) (h : Ln.shut x = true) (hn : x ≠ []) : ∃ a r, x = a ++ 10 :: r ∧ (10 : UInt8) ∉ a ∧ Ln.shut r = true ∧ Ln.full x = a :: Ln.full r := by
  have hm : (10 : UInt8) ∈ x := by
    induction x using Ln.snocRec with
    | nil => exact absurd rfl hn
    | snoc x b _ => rw [Ln.shut_snoc] at h; simp at h; simp [h]
  obtain ⟨a, r, rfl, ha⟩ := cut_at x 10 hm
  have hl := Ln.run_line a r ha
  exact ⟨a, r, rfl, ha, (Ln.shut_iff r).2 (by rw [← hl.2]; exact (Ln.shut_iff _).1 h), hl.1⟩

/-- What Split's loop holds at the head of each round: what is left, and the lines that were cut off. -/
def SplitRel (w : World) (s : List UInt8) (t v : Value) (wr : World) : Prop :=
  ∃ (x : List UInt8) (d : List (List UInt8)), t = .string (Ln.bs x) ∧ Ln.shut x = true ∧ x.length ≤ s.length ∧ Ln.full s = d ++ Ln.full x ∧ wr.ownsRow w.heap.size 9 1 v d.length (d.map strV) ∧ Below w.heap.size w wr

theorem split_at (s : List UInt8) (w : World) (hs : s.length ≤ maxLen) : Calls Tryz.prog 76 #[.string (Ln.bs s)] w (RetStrs w (Ln.splitR s)) := by
  obtain ⟨i0, hi0, hz0, hz1, hz2⟩ := info_parts str_info
  have I0 := Lib.hid hi0
  have I1 := Lib.hid hz0
  have I2 := Lib.hid hz1
  have I3 := Lib.hid hz2
  clear hi0 hz0 hz1 hz2
  have HM := Lib.hid hs
  unfold maxLen at hs
  by_cases hn : s = []
  · have hh : ¬ (400 < s.count 10) := by rw [hn]; decide
    have HR : Hid (Ln.splitR s = ([], 0)) := by rw [hn]; rfl
    have HC := Lib.hid (count_nl s 0 w (by rw [hn]; rfl))
    have he := bs_empty s hn
    clear hn hh
    go_enter Tryz.func76, Tryz.ntmps76
    go_wp2_with fail
    refine HC.out.mono ?_
    rintro e w' ⟨rfl, rfl⟩
    go_wp2
    refine wp_loop_rounds 1 ?_
    rw [rounds_succ]
    go_wp2
    go_ret2
    exact RetStrs.mk _ _ (by rw [HR.out]) (by rw [HR.out]; exact Strs.nil _ _) ((Below.refl _ _).alloc (Nat.le_refl _) _)
  obtain ⟨he, he2⟩ := bs_some s hn
  cases hsh : Ln.shut s with
  | false =>
    have HS := Lib.hid (hasSuffix_nl s false w HM.out hn hsh)
    have HR := Lib.hid (Ln.splitR_form s hsh)
    clear hsh
    go_enter Tryz.func76, Tryz.ntmps76
    go_wp2_with fail
    refine HS.out.mono ?_
    rintro e w' ⟨rfl, rfl⟩
    go_wp2
    go_ret2
    exact RetStrs.mk _ _ (by rw [HR.out]) (by rw [HR.out]; exact Strs.nil _ _) (Below.refl _ _)
  | true =>
    have HS := Lib.hid (hasSuffix_nl s true w HM.out hn hsh)
    have HSH := Lib.hid hsh
    clear hsh
    by_cases hm : 400 < s.count 10
    · have HR := Lib.hid (Ln.splitR_many s HSH.out hm)
      obtain ⟨n, hnn⟩ : ∃ n, s.count 10 = n := ⟨_, rfl⟩
      have HC := Lib.hid (count_nl s n w hnn)
      rw [hnn] at hm
      have hm2 : decide ((400 : Int) < (n : Int)) = true := by simp; omega
      clear hnn
      go_enter Tryz.func76, Tryz.ntmps76
      go_wp2_with fail
      refine HS.out.mono ?_
      rintro e w' ⟨rfl, rfl⟩
      go_wp2_with fail
      refine HC.out.mono ?_
      rintro e w' ⟨rfl, rfl⟩
      go_wp2
      go_ret2
      exact RetStrs.mk _ _ (by rw [HR.out]) (by rw [HR.out]; exact Strs.nil _ _) (Below.refl _ _)
    · have HR := Lib.hid (Ln.splitR_ok s HSH.out (by omega))
      have hfl : (Ln.full s).length ≤ 400 := by rw [Ln.full_len]; omega
      obtain ⟨n, hnn⟩ : ∃ n, s.count 10 = n := ⟨_, rfl⟩
      have HC := Lib.hid (count_nl s n w hnn)
      rw [hnn] at hm
      have hm2 : decide ((400 : Int) < (n : Int)) = false := by simp; omega
      clear hnn
      go_enter Tryz.func76, Tryz.ntmps76
      go_wp2_with fail
      refine HS.out.mono ?_
      rintro e w' ⟨rfl, rfl⟩
      go_wp2_with fail
      refine HC.out.mono ?_
      rintro e w' ⟨rfl, rfl⟩
      clear he he2
      go_wp2
      go_loopw [0, 4] (fun t v wr => SplitRel w s t v wr) (fun t _ _ => lenOf t)
      case atStart =>
        exact ⟨s, [], rfl, HSH.out, Nat.le_refl _, by simp, World.ownsRow_lit w #[] 0 (Nat.le_refl _) (by simp [maxLen]) (by simp), (Below.refl _ _).alloc (Nat.le_refl _) _⟩
      case round =>
        obtain ⟨x, d, rfl, hx, hxl, hd, hown, hb⟩ := hrel
        have HD := Lib.hid hd
        have HX := Lib.hid hx
        have HO := Lib.hid hown
        have HB := Lib.hid hb
        clear hd hx hown hb
        by_cases hxn : x = []
        · have he := bs_empty x hxn
          have HXN := Lib.hid hxn
          clear hxn
          go_wp2
          go_ret2
          refine RetStrs.mk _ _ (by rw [HR.out]) ?_ HB.out
          rw [HR.out]
          show Strs _ _ (Ln.full s)
          rw [HD.out, HXN.out]
          show Strs _ _ (d ++ [])
          rw [List.append_nil]
          exact Strs.own HO.out
        · obtain ⟨he, he2⟩ := bs_some x hxn
          obtain ⟨a, r, hxe, ha, hr, hfx⟩ := first_line x HX.out hxn
          have hlen : x.length = a.length + 1 + r.length := by rw [hxe]; simp; omega
          have hdl : d.length + 1 ≤ 400 := by
            have h := congrArg List.length HD.out
            rw [hfx] at h
            simp at h
            omega
          have HCUT := Lib.hid (fun W => cut_call a r W ha (by unfold maxLen; omega))
          rw [← hxe] at HCUT
          have HR2 := Lib.hid hr
          have HFX := Lib.hid hfx
          have hlen2 : a.length + 1 + r.length ≤ x.length := by omega
          have hlen3 : x.length ≤ a.length + 1 + r.length := by omega
          have HXE := Lib.hid hxe
          clear hxn ha hr hfx hlen hxe
          go_wp2_with fail
          refine (HCUT.out _).mono ?_
          rintro e w1 ⟨rfl, k, rfl⟩
          go_wp2_with fail
          refine (own_at (Ln.bs a) _).mono ?_
          rintro e w2 ⟨rfl, hb2⟩
          have hbw : Below wr.heap.size wr w2 := below_all (drewN_below wr k) hb2
          have hown2 := (own_below HO.out hbw).alloc (.cells #[strV a] 9)
          have hBw : Below w.heap.size w (w2.alloc (.cells #[strV a] 9)) := (HB.out.trans (hbw.mono HB.out.size)).alloc (Nat.le_trans HB.out.size hbw.size) _
          have hB0 : w.heap.size ≤ (w2.alloc (.cells #[strV a] 9)).heap.size := hBw.size
          have HO2 := Lib.hid hown2
          have HBW := Lib.hid hBw
          have HB0 := Lib.hid hB0
          clear hb2 hbw hown2 hBw hB0 HO
          go_wp2_with (at_builtin; refine wpList_append_own_at _ rfl _ _ 70 rfl w.heap.size 9 i0 _ 1 16 Tryz.underlying70 I0.out I1.out I2.out I3.out rfl (by decide) _ d.length (d.map strV) rfl HO2.out ⟨w2.heap.size, 0, none⟩ 1 1 [strV a] rfl rfl (new_one _ _ _) (one_strs a) (by simp only [maxLen]; omega) (by omega) HB0.out ?_; intro v' w3 hown' hgrow hnil hat; have HO3 := Lib.hid hown'; have HG3 := Lib.hid hgrow; clear hown' hgrow hnil hat)
          go_roundw
          case rel =>
            refine ⟨r, d ++ [a], rfl, HR2.out, by omega, ?_, Strs.own_snoc HO3.out, below_append HBW.out HB0.out HO2.out HG3.out⟩
            rw [HD.out, HFX.out]
            simp
          case measure =>
            show (Ln.bs r).size < (Ln.bs x).size
            rw [Ln.bs_size, Ln.bs_size]
            omega
end Go.Proofs.YtfjamdpgbbnmcaaGreatDoor
/-
  What line.Join answers, for every row of texts: Ln.joinR; what was in memory stays as it was.
  Conditions: all texts together are of at most 2^46 bytes.
-/
set_option maxRecDepth 4000
namespace Go.Proofs.YtfjamdpgbbnmcaaGreatDoor
open Go.RowKit

theorem byte_info : (Tryz.prog.info? 5).map (fun i => (i.zero, i.size, i.bytes)) = some (some (.int .u8 0), 1, 1) := by kernel_rfl

/-- What Join's loop holds at the head of each round. -/
def JoinRel (w : World) (l : List (List UInt8)) (t i : Value) (wr : World) : Prop :=
  ∃ k : Nat, k ≤ l.length ∧ i = .int .i64 k ∧ Ln.anyNl (l.take k) = false ∧ wr.ownsRow w.heap.size 5 1 t (Ln.joinS (l.take k)).length (byV (Ln.joinS (l.take k))) ∧ Below w.heap.size w wr

theorem join_take (l : List (List UInt8)) (k : Nat) (hk : k < l.length) : Ln.joinS (l.take (k + 1)) = Ln.joinS (l.take k) ++ (l[k] ++ [10]) := by
  rw [List.take_succ_eq_append_getElem hk, Ln.joinS_snoc]
theorem join_le (l : List (List UInt8)) (k : Nat) : (Ln.joinS (l.take k)).length ≤ (Ln.joinS l).length := by
  conv => rhs; rw [← List.take_append_drop k l, Ln.joinS_append, List.length_append]
  omega

theorem join_at (l : List (List UInt8)) (v : Value) (w : World) (hv : Strs w v l) (hl : (Ln.joinS l).length ≤ 70368744177664) : Calls Tryz.prog 41 #[v] w (RetStr w (Ln.joinR l)) := by
  obtain ⟨i0, hi0, hz0, hz1, hz2⟩ := info_parts byte_info
  have I0 := Lib.hid hi0
  have I1 := Lib.hid hz0
  have I2 := Lib.hid hz1
  have I3 := Lib.hid hz2
  clear hi0 hz0 hz1 hz2
  obtain ⟨A, c, rfl, hform⟩ := hv.form
  have HF := Lib.hid hform
  clear hform hv
  by_cases hm : 400 < l.length
  · have HR := Lib.hid (Ln.joinR_many l hm)
    have hm2 : decide ((400 : Int) < (l.length : Int)) = true := by simp; omega
    go_enter Tryz.func41, Tryz.ntmps41
    go_wp2
    go_ret2
    exact RetStr.mk _ _ (by rw [HR.out]) (by rw [HR.out]; rfl) (Below.refl _ _)
  · have hm2 : decide ((400 : Int) < (l.length : Int)) = false := by simp; omega
    have hm3 : l.length ≤ 400 := by omega
    clear hm
    go_enter Tryz.func41, Tryz.ntmps41
    go_wp2
    go_loopw [4, 13] (fun t i wr => JoinRel w l t i wr) (fun _ i _ => l.length - (intOf i).toNat)
    case atStart =>
      exact ⟨0, Nat.zero_le _, rfl, rfl, World.ownsRow_lit w #[] 0 (Nat.le_refl _) (by simp [maxLen]) (by simp), (Below.refl _ _).alloc (Nat.le_refl _) _⟩
    case round =>
      obtain ⟨k, hk, rfl, ha, hown, hb⟩ := hrel
      have HA := Lib.hid ha
      have HO := Lib.hid hown
      have HB := Lib.hid hb
      clear ha hown hb
      by_cases hlt : k < l.length
      · obtain ⟨ad, rfl, hblk, hcell⟩ := HF.out k hlt
        have hc2 : wr.cell? (ad.add k) = some (.string (Ln.bs l[k])) := (HB.out.cell (by rw [add_block]; exact hblk)).trans hcell
        have hj := join_le l (k + 1)
        rw [join_take l k hlt, List.length_append, List.length_append, List.length_singleton] at hj
        clear hcell
        cases hct : l[k].contains 10 with
        | true =>
          have HCT := Lib.hid (fun W => contains_nl l[k] true W hct)
          have HR := Lib.hid (Ln.joinR_arg l hm3 (Ln.anyNl_of l k hlt hct))
          clear hct
          go_wp2_with fail
          refine (HCT.out _).mono ?_
          rintro e w' ⟨rfl, rfl⟩
          go_wp2
          go_ret2
          exact RetStr.mk _ _ (by rw [HR.out]) (by rw [HR.out]; rfl) HB.out
        | false =>
          have HCT := Lib.hid (fun W => contains_nl l[k] false W hct)
          have HN : Hid (Ln.anyNl (l.take (k + 1)) = false) := by rw [Hid, Ln.anyNl_take l k hlt, HA.out, hct]; rfl
          clear hct
          go_wp2_with fail
          refine (HCT.out _).mono ?_
          rintro e w' ⟨rfl, rfl⟩
          go_wp2_with (first
            | (at_builtin; refine Lib.wpList_append_own_string _ rfl (.tmp 19) (.tmp 20) 128 9 rfl w.heap.size 5 i0 Tryz.underlying128 Tryz.underlying9 I0.out I1.out I2.out I3.out _ _ _ rfl HO.out (Ln.bs l[k]) rfl (by rw [Ln.bs_size]; simp only [maxLen]; omega) (by rw [Ln.bs_size]; omega) HB.out.size ?_; intro v1 w1 hown1 hgrow1 _; have HO1 := Lib.hid (own_more _ hown1); have HB1 := Lib.hid (below_append HB.out HB.out.size HO.out hgrow1); clear hown1 hgrow1 HO)
            | (at_builtin; refine Lib.wpList_append_own_string _ rfl (.tmp 22) _ 128 9 rfl w.heap.size 5 i0 Tryz.underlying128 Tryz.underlying9 I0.out I1.out I2.out I3.out _ _ _ rfl HO1.out (Ln.bs [10]) rfl (by rw [Ln.bs_size, List.length_append, List.length_singleton]; simp only [maxLen]; omega) (by rw [Ln.bs_size, List.length_append, List.length_singleton]; omega) HB1.out.size ?_; intro v2 w2 hown2 hgrow2 _; have HO2 := Lib.hid (own_more _ hown2); have HB2 := Lib.hid (below_append HB1.out HB1.out.size HO1.out hgrow2); clear hown2 hgrow2 HO1))
          go_roundw
          case rel =>
            refine ⟨k + 1, by omega, by go_num, HN.out, ?_, HB2.out⟩
            rw [join_take l k hlt, ← List.append_assoc]
            exact HO2.out
          case measure => simp [intOf]; omega
      · have hke : k = l.length := by omega
        have hcv := own_text (P := Tryz.prog) HO.out 128 9 Tryz.underlying128 Tryz.underlying5 Tryz.underlying9
        have HT : Hid (l.take k = l) := by rw [Hid, hke, List.take_length]
        have HR := Lib.hid (Ln.joinR_ok l hm3 (by rw [← HT.out]; exact HA.out))
        clear hke
        go_wp2
        go_ret2
        exact RetStr.mk _ _ (by rw [HR.out]) (by rw [HR.out, HT.out]) HB.out
end Go.Proofs.YtfjamdpgbbnmcaaGreatDoor
/-
  What line.isOfWord and line.Words answer, for every text that a string may hold: Ln.sign and Ln.wordsR; what was in memory stays as it was.
  Conditions: a string's length is at most the model's greatest.
-/
set_option maxRecDepth 4000
namespace Go.Proofs.YtfjamdpgbbnmcaaGreatDoor
open Go.RowKit

theorem ofWord_at (c : UInt8) (w : World) :
    Calls Tryz.prog 102 #[.int .u8 (c.toNat : Int)] w fun e w' => e = .returned (.bool (Ln.sign c)) ∧ w = w' := by
  by_cases h : 33 ≤ c.toNat
  · have HR : Hid (decide ((c.toNat : Int) ≤ 126) = Ln.sign c) := by
      rw [Hid, Ln.sign, decide_eq_true h, Bool.true_and, decide_eq_decide]; omega
    go_enter Tryz.func102, Tryz.ntmps102
    go_wp2
    go_ret
    exact ⟨ret_bool (by rw [← HR.out]), rfl⟩
  · have HR := Lib.hid ((Ln.sign_not c).2 (.inl (by omega)))
    go_enter Tryz.func102, Tryz.ntmps102
    go_wp2
    go_ret
    exact ⟨ret_bool HR.out.symm, rfl⟩

theorem bs_cut (s : List UInt8) (a b : Nat) : (Ln.bs s).extract a b = Ln.bs ((s.take b).drop a) := by
  rw [← Ln.bs_of (ByteArray.extract _ _ _), Lib.extract_data, Ln.bs_data, List.drop_take]
theorem bs_from (s : List UInt8) (a : Nat) : (Ln.bs s).extract a (Ln.bs s).size = Ln.bs (s.drop a) := by
  rw [bs_cut, Ln.bs_size, List.take_length]
theorem drop_more (s : List UInt8) (j k : Nat) (hj : j ≤ k) (hk : k < s.length) : (s.take (k + 1)).drop j = (s.take k).drop j ++ [s[k]] := by
  rw [List.take_succ_eq_append_getElem hk, List.drop_append_of_le_length (by simp; omega)]
theorem drop_none (s : List UInt8) (k : Nat) : (s.take k).drop k = [] := by simp
theorem drop_some (s : List UInt8) (j k : Nat) (hj : j < k) (hk : k ≤ s.length) : (s.take k).drop j ≠ [] := by
  intro h
  have := congrArg List.length h
  simp at this
  omega

/-- What Words' loop holds at the head of each round: the words that have ended, and where the last one began. -/
def WordsRel (w : World) (s : List UInt8) (v b i : Value) (wr : World) : Prop :=
  ∃ (k j : Nat) (d : List (List UInt8)), k ≤ s.length ∧ j ≤ k ∧ b = .int .i64 j ∧ i = .int .i64 k ∧ d.length ≤ 7 ∧ Ln.wrun (s.take k) = some (d, (s.take k).drop j) ∧ wr.ownsRow w.heap.size 9 1 v d.length (d.map strV) ∧ Below w.heap.size w wr

theorem words_at (s : List UInt8) (w : World) (hs : s.length ≤ maxLen) : Calls Tryz.prog 89 #[.string (Ln.bs s)] w (RetStrs w (Ln.wordsR s)) := by
  obtain ⟨i0, hi0, hz0, hz1, hz2⟩ := info_parts str_info
  have I0 := Lib.hid hi0
  have I1 := Lib.hid hz0
  have I2 := Lib.hid hz1
  have I3 := Lib.hid hz2
  clear hi0 hz0 hz1 hz2
  unfold maxLen at hs
  have HSZ := Lib.hid (Ln.bs_size s)
  have hsz1 : (Ln.bs s).size ≤ s.length := by rw [Ln.bs_size]; exact Nat.le_refl _
  have hsz2 : s.length ≤ (Ln.bs s).size := by rw [Ln.bs_size]; exact Nat.le_refl _
  go_enter Tryz.func89, Tryz.ntmps89
  go_wp2
  go_step3
  go_wp2
  go_step3
  go_wp2
  go_loopw [4, 5, 6] (fun v b i wr => WordsRel w s v b i wr) (fun _ _ i _ => s.length - (intOf i).toNat)
  case atStart =>
    exact ⟨0, 0, [], Nat.zero_le _, Nat.le_refl _, rfl, rfl, by simp, rfl, World.ownsRow_lit w #[] 0 (Nat.le_refl _) (by simp [maxLen]) (by simp), (Below.refl _ _).alloc (Nat.le_refl _) _⟩
  case round =>
    obtain ⟨k, j, d, hk, hj, rfl, rfl, hd7, hw, hown, hb⟩ := hrel
    obtain ⟨A, cp, rfl⟩ := own_form hown
    have HW := Lib.hid hw
    have HO := Lib.hid hown
    have HB := Lib.hid hb
    clear hw hown hb
    by_cases hlt : k < s.length
    · have hkb : k < (Ln.bs s).size := by omega
      have HG := Lib.hid (Ln.bs_get s k hkb hlt)
      cases hsg : Ln.sign (s[k]'hlt) with
      | true =>
        have hsg2 : Ln.sign ((Ln.bs s)[k]'hkb) = true := by rw [HG.out]; exact hsg
        have HSG := Lib.hid hsg
        clear hsg
        go_wp2_with fail
        refine (ofWord_at _ _).mono ?_
        rintro e w' ⟨rfl, rfl⟩
        rw [hsg2]
        go_wp2
        go_roundw
        case rel =>
          refine ⟨k + 1, j, d, by omega, by omega, rfl, by go_num, hd7, ?_, HO.out, HB.out⟩
          rw [Ln.wrun_take s k hlt, HW.out, Ln.wstep_sign HSG.out, drop_more s j k hj hlt]
        case measure => simp [intOf]; omega
      | false =>
        have hsg2 : Ln.sign ((Ln.bs s)[k]'hkb) = false := by rw [HG.out]; exact hsg
        have HSG := Lib.hid hsg
        clear hsg
        by_cases hsp : (s[k]'hlt) = 32 ∧ j < k
        · obtain ⟨h32, hjk⟩ := hsp
          have hb32 : ((((Ln.bs s)[k]'hkb).toNat : Int) == 32) = true := by rw [HG.out, h32]; rfl
          have H32 := Lib.hid h32
          clear h32
          by_cases h7 : d.length < 7
          · go_wp2_with fail
            refine (ofWord_at _ _).mono ?_
            rintro e w' ⟨rfl, rfl⟩
            rw [hsg2]
            go_wp2_with fail
            refine (own_at _ _).mono ?_
            rintro e w2 ⟨rfl, hb2⟩
            rw [bs_cut]
            have hown2 := (own_below HO.out hb2).alloc (.cells #[strV ((s.take k).drop j)] 9)
            have hBw : Below w.heap.size w (w2.alloc (.cells #[strV ((s.take k).drop j)] 9)) := (HB.out.trans (hb2.mono HB.out.size)).alloc (Nat.le_trans HB.out.size hb2.size) _
            have HO2 := Lib.hid hown2
            have HBW := Lib.hid hBw
            have HB0 := Lib.hid hBw.size
            clear hb2 hown2 hBw HO
            obtain ⟨x, hx⟩ : ∃ x, x = (s.take k).drop j := ⟨_, rfl⟩
            rw [← hx] at HO2 HBW HB0 HW ⊢
            have HX := Lib.hid hx
            clear hx
            go_wp2_with (at_builtin; refine wpList_append_own_at _ rfl _ _ 70 rfl w.heap.size 9 i0 _ 1 16 Tryz.underlying70 I0.out I1.out I2.out I3.out rfl (by decide) _ d.length (d.map strV) rfl HO2.out ⟨w2.heap.size, 0, none⟩ 1 1 [strV x] rfl rfl (new_one _ _ _) (one_strs x) (by simp only [maxLen]; omega) (by omega) HB0.out ?_; intro v' w3 hown' hgrow hnil hat; have HO3 := Lib.hid hown'; have HG3 := Lib.hid hgrow; clear hown' hgrow hnil hat)
            go_roundw
            case rel =>
              refine ⟨k + 1, k + 1, d ++ [x], by omega, by omega, by go_num, by go_num, by simp; omega, ?_, Strs.own_snoc HO3.out, below_append HBW.out HB0.out HO2.out HG3.out⟩
              rw [Ln.wrun_take s k hlt, HW.out, H32.out, Ln.wstep_space (by rw [HX.out]; exact drop_some s j k hjk hk), drop_none]
            case measure => simp [intOf]; omega
          · have hd8 : d.length = 7 := by omega
            have HR : Hid (Ln.wordsR s = ([], 2)) := by
              refine Ln.wordsR_many s (k + 1) (d ++ [(s.take k).drop j]) [] ?_ (by simp; omega)
              rw [Ln.wrun_take s k hlt, HW.out, H32.out, Ln.wstep_space (drop_some s j k hjk hk)]
            clear hd8
            go_wp2_with fail
            refine (ofWord_at _ _).mono ?_
            rintro e w' ⟨rfl, rfl⟩
            rw [hsg2]
            go_wp2
            rw [Exit.noGoto_ret]
            go_ret2
            exact RetStrs.mk _ _ (by rw [HR.out]) (by rw [HR.out]; exact Strs.nil _ _) HB.out
        · have HR : Hid (Ln.wordsR s = ([], 2)) := by
            refine Ln.wordsR_none s (k + 1) ?_
            rw [Ln.wrun_take s k hlt, HW.out]
            refine Ln.wstep_no HSG.out fun h => hsp ⟨h.1, ?_⟩
            rcases Nat.lt_or_ge j k with h1 | h1
            · exact h1
            · obtain rfl : j = k := by omega
              exact absurd (drop_none s j) h.2
          by_cases h32 : (s[k]'hlt) = 32
          · have hb32 : ((((Ln.bs s)[k]'hkb).toNat : Int) == 32) = true := by rw [HG.out, h32]; rfl
            have hjk : ¬ j < k := fun h => hsp ⟨h32, h⟩
            clear h32 hsp
            go_wp2_with fail
            refine (ofWord_at _ _).mono ?_
            rintro e w' ⟨rfl, rfl⟩
            rw [hsg2]
            go_wp2
            rw [Exit.noGoto_ret]
            go_ret2
            exact RetStrs.mk _ _ (by rw [HR.out]) (by rw [HR.out]; exact Strs.nil _ _) HB.out
          · have hb32 : ((((Ln.bs s)[k]'hkb).toNat : Int) == 32) = false := by
              rw [HG.out, beq_eq_false_iff_ne]
              intro h
              exact h32 (UInt8.toNat.inj (by show _ = 32; omega))
            clear h32 hsp
            go_wp2_with fail
            refine (ofWord_at _ _).mono ?_
            rintro e w' ⟨rfl, rfl⟩
            rw [hsg2]
            go_wp2
            rw [Exit.noGoto_ret]
            go_ret2
            exact RetStrs.mk _ _ (by rw [HR.out]) (by rw [HR.out]; exact Strs.nil _ _) HB.out
    · have hke : k = s.length := by omega
      have HT : Hid (s.take k = s) := by rw [Hid, hke, List.take_length]
      have HKE := Lib.hid hke
      clear hke
      by_cases hjk : j = k
      · have HR : Hid (Ln.wordsR s = ([], 2)) := by
          have h := HW.out
          rw [hjk, drop_none, HT.out] at h
          rw [Hid, Ln.wordsR_some s d [] h, if_neg (by simp)]
        have hjb : ((j : Int) == (k : Int)) = true := by rw [beq_iff_eq]; omega
        clear hjk
        go_wp2
        rw [Exit.noGoto_ret]
        go_ret2
        exact RetStrs.mk _ _ (by rw [HR.out]) (by rw [HR.out]; exact Strs.nil _ _) HB.out
      · have hjk2 : j < k := by omega
        have hjb : ((j : Int) == (k : Int)) = false := by rw [beq_eq_false_iff_ne]; omega
        have HR : Hid (Ln.wordsR s = (d ++ [s.drop j], 0)) := by
          have h := HW.out
          have hne := drop_some s j k hjk2 hk
          rw [HT.out] at h hne
          rw [Hid, Ln.wordsR_some s d _ h, if_pos ⟨hne, hd7⟩]
        clear hjk
        go_wp2_with fail
        refine (own_at _ _).mono ?_
        rintro e w2 ⟨rfl, hb2⟩
        rw [bs_from]
        obtain ⟨x, hx⟩ : ∃ x, x = s.drop j := ⟨_, rfl⟩
        rw [← hx] at HR ⊢
        have hown2 := (own_below HO.out hb2).alloc (.cells #[strV x] 9)
        have hBw : Below w.heap.size w (w2.alloc (.cells #[strV x] 9)) := (HB.out.trans (hb2.mono HB.out.size)).alloc (Nat.le_trans HB.out.size hb2.size) _
        have HO2 := Lib.hid hown2
        have HBW := Lib.hid hBw
        have HB0 := Lib.hid hBw.size
        clear hb2 hown2 hBw HO hx
        go_wp2_with (at_builtin; refine wpList_append_own_at _ rfl _ _ 70 rfl w.heap.size 9 i0 _ 1 16 Tryz.underlying70 I0.out I1.out I2.out I3.out rfl (by decide) _ d.length (d.map strV) rfl HO2.out ⟨w2.heap.size, 0, none⟩ 1 1 [strV x] rfl rfl (new_one _ _ _) (one_strs x) (by simp only [maxLen]; omega) (by omega) HB0.out ?_; intro v' w3 hown' hgrow hnil hat; have HO3 := Lib.hid hown'; have HG3 := Lib.hid hgrow; clear hown' hgrow hnil hat)
        rw [Exit.noGoto_ret]
        go_ret2
        refine RetStrs.mk _ _ (by rw [HR.out]) ?_ (below_append HBW.out HB0.out HO2.out HG3.out)
        rw [HR.out]
        exact Strs.own (Strs.own_snoc HO3.out)
end Go.Proofs.YtfjamdpgbbnmcaaGreatDoor
/-
  What the reference's Split of layer 2 answers: Ln.splitR; what was in memory stays as it was.
  Conditions: a text that is split has at most 2^32 bytes.
-/
set_option maxRecDepth 4000
namespace Go.Proofs.YtfjamdpgbbnmcaaGreatDoor
open Go.RowKit

/-- What the reference's Split holds at the head of each round. -/
def RSplitRel (w : World) (s : List UInt8) (v b i : Value) (wr : World) : Prop :=
  ∃ (k j : Nat) (d : List (List UInt8)), k ≤ s.length ∧ j ≤ k ∧ b = .int .i64 j ∧ i = .int .i64 k ∧ (s.take k).drop j = Ln.rest (s.take k) ∧ d = Ln.full (s.take k) ∧ wr.ownsRow w.heap.size 9 1 v d.length (d.map strV) ∧ Below w.heap.size w wr

theorem rSplit_at (s : List UInt8) (w : World) (hs : s.length ≤ 4294967296) : Calls Tryz.prog 32 #[.string (Ln.bs s)] w (RetStrs w (Ln.splitR s)) := by
  obtain ⟨i0, hi0, hz0, hz1, hz2⟩ := info_parts str_info
  have I0 := Lib.hid hi0
  have I1 := Lib.hid hz0
  have I2 := Lib.hid hz1
  have I3 := Lib.hid hz2
  clear hi0 hz0 hz1 hz2
  have hsz1 : (Ln.bs s).size ≤ s.length := by rw [Ln.bs_size]; exact Nat.le_refl _
  have hsz2 : s.length ≤ (Ln.bs s).size := by rw [Ln.bs_size]; exact Nat.le_refl _
  by_cases hn : s = []
  · have HR : Hid (Ln.splitR s = ([], 0)) := by rw [hn]; rfl
    have hz : ¬ 0 < (Ln.bs s).size := by rw [Ln.bs_size, hn]; simp
    clear hn
    go_enter Tryz.func32, Tryz.ntmps32
    go_wp2
    refine wp_loop_rounds 1 ?_
    rw [rounds_succ]
    go_wp2
    go_ret2
    exact RetStrs.mk _ _ (by rw [HR.out]) (by rw [HR.out]; exact Strs.nil _ _) (Below.refl _ _)
  have hpos : 0 < s.length := List.length_pos_iff.2 hn
  have hp : 0 < (Ln.bs s).size := by omega
  have hp1 : (1 : Int) ≤ ((Ln.bs s).size : Int) := by omega
  have hp2 : ((Ln.bs s).size : Int) - 1 < ((Ln.bs s).size : Int) := by omega
  have HL : Hid ((Ln.bs s)[(Ln.bs s).size - 1] = s.getLast hn) := by
    rw [Hid, Ln.bs_get s _ _ (by omega), List.getLast_eq_getElem]
    congr 1
  have HSH : Hid (Ln.shut s = (s.getLast hn == 10)) := by
    have e := Ln.shut_snoc s.dropLast (s.getLast hn)
    rw [List.dropLast_concat_getLast hn] at e
    exact e
  cases hsh : Ln.shut s with
  | false =>
    have HR := Lib.hid (Ln.splitR_form s hsh)
    have hl : ((((Ln.bs s)[(Ln.bs s).size - 1]).toNat : Int) != 10) = true := by
      rw [HSH.out, beq_eq_false_iff_ne] at hsh
      rw [HL.out, bne_iff_ne]
      intro h
      exact hsh (UInt8.toNat.inj (by show _ = 10; omega))
    clear hsh
    go_enter Tryz.func32, Tryz.ntmps32
    go_wp2
    go_ret2
    exact RetStrs.mk _ _ (by rw [HR.out]) (by rw [HR.out]; exact Strs.nil _ _) (Below.refl _ _)
  | true =>
    have HS := Lib.hid hsh
    have hl : ((((Ln.bs s)[(Ln.bs s).size - 1]).toNat : Int) != 10) = false := by
      rw [HSH.out, beq_iff_eq] at hsh
      rw [HL.out, hsh]
      rfl
    clear hsh
    go_enter Tryz.func32, Tryz.ntmps32
    go_wp2
    clear hl
    go_loopw [4, 5, 6] (fun v b i wr => RSplitRel w s v b i wr) (fun _ _ i _ => s.length - (intOf i).toNat)
    case atStart => exact ⟨0, 0, [], Nat.zero_le _, Nat.le_refl _, rfl, rfl, rfl, rfl, World.ownsRow_nil _ _ _ _, Below.refl _ _⟩
    case round =>
      obtain ⟨k, j, d, hk, hj, rfl, rfl, hr, hd, hown, hb⟩ := hrel
      obtain ⟨A, cp, rfl⟩ := own_form hown
      have hfl : d.length ≤ k := by
        rw [hd, Ln.full_len]
        exact Nat.le_trans (List.count_le_length) (by simp; omega)
      have HD := Lib.hid hd
      have HRR := Lib.hid hr
      have HO := Lib.hid hown
      have HB := Lib.hid hb
      clear hd hr hown hb
      by_cases hlt : k < s.length
      · have hkb : k < (Ln.bs s).size := by omega
        have HG := Lib.hid (Ln.bs_get s k hkb hlt)
        have HTK := Lib.hid (List.take_succ_eq_append_getElem hlt)
        by_cases h10 : (s[k]'hlt) = 10
        · have hb10 : ((((Ln.bs s)[k]'hkb).toNat : Int) == 10) = true := by rw [HG.out, h10]; rfl
          have H10 := Lib.hid h10
          clear h10
          obtain ⟨x, hx⟩ : ∃ x, x = (s.take k).drop j := ⟨_, rfl⟩
          have hcut : (Ln.bs s).extract j k = Ln.bs x := by rw [bs_cut, hx]
          have HX := Lib.hid hx
          have hown2 := HO.out.alloc (.cells #[strV x] 9)
          have hBw : Below w.heap.size w (wr.alloc (.cells #[strV x] 9)) := HB.out.alloc HB.out.size _
          have HO2 := Lib.hid hown2
          have HBW := Lib.hid hBw
          have HB0 := Lib.hid hBw.size
          clear hx hown2 hBw HO
          go_wp2_with (at_builtin; refine wpList_append_own_at _ rfl _ _ 70 rfl w.heap.size 9 i0 _ 1 16 Tryz.underlying70 I0.out I1.out I2.out I3.out rfl (by decide) _ d.length (d.map strV) rfl HO2.out ⟨wr.heap.size, 0, none⟩ 1 1 [strV x] rfl rfl (new_one _ _ _) (one_strs x) (by simp only [maxLen]; omega) (by omega) HB0.out ?_; intro v' w3 hown' hgrow hnil hat; have HO3 := Lib.hid hown'; have HG3 := Lib.hid hgrow; clear hown' hgrow hnil hat)
          go_roundw
          case rel =>
            refine ⟨k + 1, k + 1, d ++ [x], by omega, by omega, by go_num, by go_num, ?_, ?_, Strs.own_snoc HO3.out, below_append HBW.out HB0.out HO2.out HG3.out⟩
            · rw [drop_none, HTK.out, H10.out, Ln.rest_nl]
            · rw [HTK.out, H10.out, Ln.full_nl, ← HD.out, ← HRR.out, ← HX.out]
          case measure => simp [intOf]; omega
        · have hb10 : ((((Ln.bs s)[k]'hkb).toNat : Int) == 10) = false := by
            rw [HG.out, beq_eq_false_iff_ne]
            intro h
            exact h10 (UInt8.toNat.inj (by show _ = 10; omega))
          have H10 := Lib.hid h10
          clear h10
          go_wp2
          go_roundw
          case rel =>
            refine ⟨k + 1, j, d, by omega, by omega, rfl, by go_num, ?_, ?_, HO.out, HB.out⟩
            · rw [drop_more s j k hj hlt, HRR.out, HTK.out, Ln.rest_other _ _ H10.out]
            · rw [HTK.out, Ln.full_other _ _ H10.out, ← HD.out]
          case measure => simp [intOf]; omega
      · have HT : Hid (s.take k = s) := by rw [Hid, List.take_of_length_le (by omega)]
        have HC : Hid (s.count 10 = d.length) := by rw [Hid, HD.out, HT.out, Ln.full_len]
        by_cases h400 : 400 < d.length
        · have HR := Lib.hid (Ln.splitR_many s HS.out (by rw [HC.out]; exact h400))
          have h4 : decide ((400 : Int) < (d.length : Int)) = true := by simp; omega
          go_wp2
          go_ret2
          exact RetStrs.mk _ _ (by rw [HR.out]) (by rw [HR.out]; exact Strs.nil _ _) HB.out
        · have HR := Lib.hid (Ln.splitR_ok s HS.out (by rw [HC.out]; omega))
          have h4 : decide ((400 : Int) < (d.length : Int)) = false := by simp; omega
          go_wp2
          go_ret2
          refine RetStrs.mk _ _ (by rw [HR.out]) ?_ HB.out
          rw [HR.out]
          show Strs _ _ (Ln.full s)
          have e : Ln.full s = d := by rw [HD.out, HT.out]
          rw [e]
          exact Strs.own HO.out
end Go.Proofs.YtfjamdpgbbnmcaaGreatDoor
/-
  What the reference's sign and Words of layer 2 answer: Ln.sign and Ln.wordsR; what was in memory stays as it was.
  Conditions: a line has at most 2^32 bytes.
-/
set_option maxRecDepth 4000
namespace Go.Proofs.YtfjamdpgbbnmcaaGreatDoor
open Go.RowKit

theorem rsign_at (c : UInt8) (w : World) :
    Calls Tryz.prog 81 #[.int .u8 (c.toNat : Int)] w fun e w' => e = .returned (.bool (Ln.sign c)) ∧ w = w' := by
  by_cases h : 33 ≤ c.toNat
  · have HR : Hid (decide ((c.toNat : Int) ≤ 126) = Ln.sign c) := by
      rw [Hid, Ln.sign, decide_eq_true h, Bool.true_and, decide_eq_decide]; omega
    go_enter Tryz.func81, Tryz.ntmps81
    go_wp2
    go_ret
    exact ⟨ret_bool (by rw [← HR.out]), rfl⟩
  · have HR := Lib.hid ((Ln.sign_not c).2 (.inl (by omega)))
    go_enter Tryz.func81, Tryz.ntmps81
    go_wp2
    go_ret
    exact ⟨ret_bool HR.out.symm, rfl⟩

/-- What the reference's Words holds at the head of each round: the words that have ended; the next one begins here. -/
def RWordsRel (w : World) (s : List UInt8) (v b : Value) (wr : World) : Prop :=
  ∃ (k : Nat) (d : List (List UInt8)), k ≤ s.length ∧ b = .int .i64 k ∧ d.length ≤ k ∧ Ln.wrun (s.take k) = some (d, []) ∧ wr.ownsRow w.heap.size 9 1 v d.length (d.map strV) ∧ Below w.heap.size w wr

theorem rWords_at (s : List UInt8) (w : World) (hs : s.length ≤ 4294967296) : Calls Tryz.prog 58 #[.string (Ln.bs s)] w (RetStrs w (Ln.wordsR s)) := by
  obtain ⟨i0, hi0, hz0, hz1, hz2⟩ := info_parts str_info
  have I0 := Lib.hid hi0
  have I1 := Lib.hid hz0
  have I2 := Lib.hid hz1
  have I3 := Lib.hid hz2
  clear hi0 hz0 hz1 hz2
  have hsz1 : (Ln.bs s).size ≤ s.length := by rw [Ln.bs_size]; exact Nat.le_refl _
  have hsz2 : s.length ≤ (Ln.bs s).size := by rw [Ln.bs_size]; exact Nat.le_refl _
  go_enter Tryz.func58, Tryz.ntmps58
  go_wp2
  go_loopw [4, 5] (fun v b wr => RWordsRel w s v b wr) (fun _ b _ => s.length - (intOf b).toNat)
  case atStart => exact ⟨0, [], Nat.zero_le _, rfl, by simp, rfl, World.ownsRow_nil _ _ _ _, Below.refl _ _⟩
  case round =>
    obtain ⟨k, d, hk, rfl, hdk, hw, hown, hb⟩ := hrel
    obtain ⟨A, cp, rfl⟩ := own_form hown
    have HW := Lib.hid hw
    have HO := Lib.hid hown
    have HB := Lib.hid hb
    clear hw hown hb
    go_wp2
    go_loop [6] (fun i => ∃ j : Nat, k ≤ j ∧ j ≤ s.length ∧ i = .int .i64 j ∧ Ln.wrun (s.take j) = some (d, (s.take j).drop k)) (fun i => s.length - (intOf i).toNat)
    case atStart => exact ⟨k, Nat.le_refl _, hk, rfl, by rw [drop_none]; exact HW.out⟩
    case round =>
      obtain ⟨j, hkj, hj, rfl, hw2⟩ := hrel
      have HW2 := Lib.hid hw2
      clear hw2
      by_cases hlt : j < s.length
      · have hjb : j < (Ln.bs s).size := by omega
        have HG := Lib.hid (Ln.bs_get s j hjb hlt)
        cases hsg : Ln.sign (s[j]'hlt) with
        | true =>
          have hsg2 : Ln.sign ((Ln.bs s)[j]'hjb) = true := by rw [HG.out]; exact hsg
          have HSG := Lib.hid hsg
          clear hsg
          go_wp2_with fail
          refine (rsign_at _ _).mono ?_
          rintro e w' ⟨rfl, rfl⟩
          rw [hsg2]
          go_wp2
          go_round
          case rel =>
            refine ⟨j + 1, by omega, by omega, by go_num, ?_⟩
            rw [Ln.wrun_take s j hlt, HW2.out, Ln.wstep_sign HSG.out, drop_more s k j hkj hlt]
          case measure => simp [intOf]; omega
        | false =>
          have hsg2 : Ln.sign ((Ln.bs s)[j]'hjb) = false := by rw [HG.out]; exact hsg
          have HSG := Lib.hid hsg
          clear hsg
          by_cases hjk : j = k
          · have hjq : ((j : Int) == (k : Int)) = true := by rw [beq_iff_eq]; omega
            have HR : Hid (Ln.wordsR s = ([], 2)) := by
              refine Ln.wordsR_none s (j + 1) ?_
              rw [Ln.wrun_take s j hlt, HW2.out]
              refine Ln.wstep_no HSG.out fun h => h.2 ?_
              rw [hjk, drop_none]
            clear hjk
            go_wp2_with fail
            refine (rsign_at _ _).mono ?_
            rintro e w' ⟨rfl, rfl⟩
            rw [hsg2]
            go_wp2
            go_ret2
            exact RetStrs.mk _ _ (by rw [HR.out]) (by rw [HR.out]; exact Strs.nil _ _) HB.out
          · have hjq : ((j : Int) == (k : Int)) = false := by rw [beq_eq_false_iff_ne]; omega
            have hkj2 : k < j := by omega
            clear hjk
            obtain ⟨x, hx⟩ : ∃ x, x = (s.take j).drop k := ⟨_, rfl⟩
            have hcut : (Ln.bs s).extract k j = Ln.bs x := by rw [bs_cut, hx]
            have hxn : x ≠ [] := by rw [hx]; exact drop_some s k j hkj2 hj
            rw [← hx] at HW2
            have HXN := Lib.hid hxn
            have hown2 := HO.out.alloc (.cells #[strV x] 9)
            have hBw : Below w.heap.size w (wr.alloc (.cells #[strV x] 9)) := HB.out.alloc HB.out.size _
            have HO2 := Lib.hid hown2
            have HBW := Lib.hid hBw
            have HB0 := Lib.hid hBw.size
            clear hx hxn hown2 hBw HO
            have hje : ((j : Int) == ((Ln.bs s).size : Int)) = false := by rw [beq_eq_false_iff_ne]; omega
            by_cases h32 : (s[j]'hlt) = 32
            · have hb32 : ((((Ln.bs s)[j]'hjb).toNat : Int) != 32) = false := by rw [HG.out, h32]; rfl
              have H32 := Lib.hid h32
              clear h32
              go_wp2_with fail
              refine (rsign_at _ _).mono ?_
              rintro e w' ⟨rfl, rfl⟩
              rw [hsg2]
              go_wp2_with (at_builtin; refine wpList_append_own_at _ rfl _ _ 70 rfl w.heap.size 9 i0 _ 1 16 Tryz.underlying70 I0.out I1.out I2.out I3.out rfl (by decide) _ d.length (d.map strV) rfl HO2.out ⟨wr.heap.size, 0, none⟩ 1 1 [strV x] rfl rfl (new_one _ _ _) (one_strs x) (by simp only [maxLen]; omega) (by omega) HB0.out ?_; intro v' w3 hown' hgrow hnil hat; have HO3 := Lib.hid hown'; have HG3 := Lib.hid hgrow; clear hown' hgrow hnil hat)
              go_roundw
              case rel =>
                refine ⟨j + 1, d ++ [x], by omega, by go_num, by simp; omega, ?_, Strs.own_snoc HO3.out, below_append HBW.out HB0.out HO2.out HG3.out⟩
                rw [Ln.wrun_take s j hlt, HW2.out, H32.out, Ln.wstep_space HXN.out]
              case measure => simp [intOf]; omega
            · have hb32 : ((((Ln.bs s)[j]'hjb).toNat : Int) != 32) = true := by
                rw [HG.out, bne_iff_ne]
                intro h
                exact h32 (UInt8.toNat.inj (by show _ = 32; omega))
              have HR : Hid (Ln.wordsR s = ([], 2)) := by
                refine Ln.wordsR_none s (j + 1) ?_
                rw [Ln.wrun_take s j hlt, HW2.out]
                exact Ln.wstep_no HSG.out fun h => h32 h.1
              clear h32
              go_wp2_with fail
              refine (rsign_at _ _).mono ?_
              rintro e w' ⟨rfl, rfl⟩
              rw [hsg2]
              go_wp2_with (at_builtin; refine wpList_append_own_at _ rfl _ _ 70 rfl w.heap.size 9 i0 _ 1 16 Tryz.underlying70 I0.out I1.out I2.out I3.out rfl (by decide) _ d.length (d.map strV) rfl HO2.out ⟨wr.heap.size, 0, none⟩ 1 1 [strV x] rfl rfl (new_one _ _ _) (one_strs x) (by simp only [maxLen]; omega) (by omega) HB0.out ?_; intro v' w3 hown' hgrow hnil hat; have HO3 := Lib.hid hown'; have HG3 := Lib.hid hgrow; clear hown' hgrow hnil hat)
              go_ret2
              exact RetStrs.mk _ _ (by rw [HR.out]) (by rw [HR.out]; exact Strs.nil _ _) (below_append HBW.out HB0.out HO2.out HG3.out)
      · have HT : Hid (s.take j = s) := by rw [Hid, List.take_of_length_le (by omega)]
        have hje : ((j : Int) == ((Ln.bs s).size : Int)) = true := by rw [beq_iff_eq]; omega
        by_cases hjk : j = k
        · have hjq : ((j : Int) == (k : Int)) = true := by rw [beq_iff_eq]; omega
          have HR : Hid (Ln.wordsR s = ([], 2)) := by
            have h := HW2.out
            rw [hjk, drop_none, ← hjk, HT.out] at h
            rw [Hid, Ln.wordsR_some s d [] h, if_neg (by simp)]
          clear hjk
          go_wp2
          go_ret2
          exact RetStrs.mk _ _ (by rw [HR.out]) (by rw [HR.out]; exact Strs.nil _ _) HB.out
        · have hjq : ((j : Int) == (k : Int)) = false := by rw [beq_eq_false_iff_ne]; omega
          have hkj2 : k < j := by omega
          clear hjk
          obtain ⟨x, hx⟩ : ∃ x, x = (s.take j).drop k := ⟨_, rfl⟩
          have hcut : (Ln.bs s).extract k j = Ln.bs x := by rw [bs_cut, hx]
          have hxn : x ≠ [] := by rw [hx]; exact drop_some s k j hkj2 hj
          rw [← hx] at HW2
          have hown2 := HO.out.alloc (.cells #[strV x] 9)
          have hBw : Below w.heap.size w (wr.alloc (.cells #[strV x] 9)) := HB.out.alloc HB.out.size _
          have HO2 := Lib.hid hown2
          have HBW := Lib.hid hBw
          have HB0 := Lib.hid hBw.size
          have HR0 := Lib.hid (Ln.wordsR_some s d x (by rw [← HT.out]; exact HW2.out))
          have HXN := Lib.hid hxn
          clear hx hxn hown2 hBw HO
          by_cases h8 : d.length ≤ 7
          · have HR : Hid (Ln.wordsR s = (d ++ [x], 0)) := by rw [Hid, HR0.out, if_pos ⟨HXN.out, h8⟩]
            go_wp2_with (at_builtin; refine wpList_append_own_at _ rfl _ _ 70 rfl w.heap.size 9 i0 _ 1 16 Tryz.underlying70 I0.out I1.out I2.out I3.out rfl (by decide) _ d.length (d.map strV) rfl HO2.out ⟨wr.heap.size, 0, none⟩ 1 1 [strV x] rfl rfl (new_one _ _ _) (one_strs x) (by simp only [maxLen]; omega) (by omega) HB0.out ?_; intro v' w3 hown' hgrow hnil hat; obtain ⟨A', cp', hv'⟩ := own_form hown'; subst hv'; have HO3 := Lib.hid hown'; have HG3 := Lib.hid hgrow; clear hown' hgrow hnil hat)
            go_ret2
            refine RetStrs.mk _ _ (by rw [HR.out]) ?_ (below_append HBW.out HB0.out HO2.out HG3.out)
            rw [HR.out]
            exact Strs.own (Strs.own_snoc HO3.out)
          · have HR : Hid (Ln.wordsR s = ([], 2)) := by rw [Hid, HR0.out, if_neg (fun h => h8 h.2)]
            go_wp2_with (at_builtin; refine wpList_append_own_at _ rfl _ _ 70 rfl w.heap.size 9 i0 _ 1 16 Tryz.underlying70 I0.out I1.out I2.out I3.out rfl (by decide) _ d.length (d.map strV) rfl HO2.out ⟨wr.heap.size, 0, none⟩ 1 1 [strV x] rfl rfl (new_one _ _ _) (one_strs x) (by simp only [maxLen]; omega) (by omega) HB0.out ?_; intro v' w3 hown' hgrow hnil hat; obtain ⟨A', cp', hv'⟩ := own_form hown'; subst hv'; have HO3 := Lib.hid hown'; have HG3 := Lib.hid hgrow; clear hown' hgrow hnil hat)
            go_ret2
            exact RetStrs.mk _ _ (by rw [HR.out]) (by rw [HR.out]; exact Strs.nil _ _) (below_append HBW.out HB0.out HO2.out HG3.out)
end Go.Proofs.YtfjamdpgbbnmcaaGreatDoor
/-
  What num.leadingDigits and num.value answer, for every text that a string may hold: the digits ahead, and their value, or that it is above 2147483647.
  Conditions: a string's length is at most the model's greatest.
-/
set_option maxRecDepth 4000
namespace Go.Proofs.YtfjamdpgbbnmcaaGreatDoor
open Go.RowKit


theorem lead_cut (s : ByteArray) (k : Nat) (hk : k ≤ s.size) (h : ∀ j (hj : j < s.size), j < k → Nm.isDig s[j] = true) (he : ∀ hk' : k < s.size, Nm.isDig s[k] = false) :
    s.extract 0 k = ⟨(Nm.lead s.data.toList).toArray⟩ := by
  have hl : s.data.toList.length = s.size := by simp
  rw [Nm.lead_of s.data.toList k (by omega) (fun j hj hjk => h j (by omega) hjk) (fun hk' => he (by omega))]
  apply ByteArray.ext
  apply Array.toList_inj.1
  rw [Lib.extract_data]
  simp

theorem lead_at (s : ByteArray) (w : World) (hs : s.size ≤ maxLen) :
    Calls Tryz.prog 118 #[.string s] w fun e w' => e = .returned (.string ⟨(Nm.lead s.data.toList).toArray⟩) ∧ w = w' := by
  unfold maxLen at hs
  go_enter Tryz.func118, Tryz.ntmps118
  go_wp2
  go_loop [3, 6] (fun _ i => ∃ k : Nat, k ≤ s.size ∧ i = .int .i64 k ∧ ∀ j (hj : j < s.size), j < k → Nm.isDig s[j] = true) (fun _ i => s.size - (intOf i).toNat)
  case atStart => exact ⟨0, Nat.zero_le _, rfl, fun _ _ h => absurd h (by omega)⟩
  case round =>
    obtain ⟨k, hk, rfl, hall⟩ := hrel
    have HA := Lib.hid hall
    clear hall
    by_cases hlt : k < s.size
    · go_wp2
      · rename_i h _
        go_ret
        exact ⟨ret_str (lead_cut s k hk HA.out (fun _ => (Nm.isDig_not _).2 (by omega))), rfl⟩
      · rename_i h
        go_round
        case rel =>
          refine ⟨k + 1, by omega, by go_num, fun j hj hjk => ?_⟩
          rcases Nat.lt_or_ge j k with h1 | h1
          · exact HA.out j hj h1
          · obtain rfl : j = k := by omega
            exact (Nm.isDig_iff _).2 (by omega)
        case measure => simp [intOf]; omega
      · rename_i h _
        go_ret
        exact ⟨ret_str (lead_cut s k hk HA.out (fun _ => (Nm.isDig_not _).2 (by omega))), rfl⟩
    · go_wp2
      go_ret
      have hc := lead_cut s k hk HA.out (fun h => absurd h hlt)
      obtain rfl : k = s.size := by omega
      exact ⟨ret_str (by rw [← hc]; simp), rfl⟩

theorem value_at (s : ByteArray) (w : World) (hs : s.size ≤ maxLen) (hd : ∀ c ∈ s.data.toList, Nm.isDig c = true) :
    Calls Tryz.prog 119 #[.string s] w fun e w' => e = .returned (.tuple #[.int .i64 (Nm.vnum s.data.toList), .bool (Nm.vok s.data.toList)]) ∧ w = w' := by
  unfold maxLen at hs
  have HL : Hid (s.data.toList.length = s.size) := by simp [Hid]
  have HD := Lib.hid hd
  clear hd
  go_enter Tryz.func119, Tryz.ntmps119
  go_wp2
  go_loop [4, 5, 6, 9] (fun n _ _ i => ∃ k v : Nat, k ≤ s.size ∧ i = .int .i64 k ∧ n = .int .i64 v ∧ v = Nm.val (s.data.toList.take k) ∧ v ≤ 2147483647) (fun _ _ _ i => s.size - (intOf i).toNat)
  case atStart => exact ⟨0, 0, Nat.zero_le _, rfl, rfl, rfl, by omega⟩
  case round =>
    obtain ⟨k, v, hk, rfl, rfl, hv, hv2⟩ := hrel
    have HV := Lib.hid hv
    clear hv
    by_cases hlt : k < s.size
    · have hkl : k < s.data.toList.length := by rw [HL.out]; exact hlt
      have hdk := (Nm.isDig_iff _).1 (HD.out s[k] (List.getElem_mem hkl))
      obtain ⟨d1, d2⟩ := hdk
      have HG := Lib.hid (Nm.val_ge s.data.toList k hkl)
      have HS := Lib.hid (Nm.val_step s.data.toList k hkl)
      go_wp2
      · rename_i h _
        go_ret2
        have hg : ¬ Nm.val s.data.toList ≤ 2147483647 := by
          have h1 := HG.out
          rw [← HV.out] at h1
          have h2 : s.data.toList[k] = s[k] := rfl
          rw [h2] at h1
          omega
        exact ⟨ret_int_bool (Nm.vnum_no _ hg).symm (Nm.vok_no _ hg).symm, rfl⟩
      · go_round
        case rel =>
          have h2 : s.data.toList[k] = s[k] := rfl
          have h1 := HS.out
          rw [← HV.out, h2] at h1
          exact ⟨k + 1, v * 10 + (s[k].toNat - 48), by omega, by go_num, by go_num, h1.symm, by omega⟩
        case measure => simp [intOf]; omega
    · go_wp2
      go_ret2
      have h1 : v = Nm.val s.data.toList := by
        rw [HV.out, List.take_of_length_le (by rw [HL.out]; omega)]
      exact ⟨ret_int_bool (by rw [Nm.vnum_yes _ (by omega), h1]) (Nm.vok_yes _ (by omega)).symm, rfl⟩
end Go.Proofs.YtfjamdpgbbnmcaaGreatDoor
/-
  What num.Take and num.Whole answer, for every text that a string may hold and every place: Nm.takeR and Nm.wholeR; nothing in memory turns.
  Conditions: a string's length is at most the model's greatest.
-/
set_option maxRecDepth 4000
namespace Go.Proofs.YtfjamdpgbbnmcaaGreatDoor
open Go.RowKit

theorem ret3 {k : IntKind} {a b c a' b' c' : Int} (r : Int × Int × Int) (h : r = (a, b, c)) (h1 : a' = a) (h2 : b' = b) (h3 : c' = c) :
    Ending.returned (.tuple #[.int k a', .int k b', .int k c']) = .returned (.tuple #[.int k r.1, .int k r.2.1, .int k r.2.2]) := by rw [h, h1, h2, h3]
theorem ret2 {k : IntKind} {a b a' b' : Int} (r : Int × Int) (h : r = (a, b)) (h1 : a' = a) (h2 : b' = b) :
    Ending.returned (.tuple #[.int k a', .int k b']) = .returned (.tuple #[.int k r.1, .int k r.2]) := by rw [h, h1, h2]

theorem take_at (s : ByteArray) (a : Int) (w : World) (hs : s.size ≤ maxLen) :
    Calls Tryz.prog 103 #[.string s, .int .i64 a] w fun e w' =>
      e = .returned (.tuple #[.int .i64 (Nm.takeR s.data.toList a).1, .int .i64 (Nm.takeR s.data.toList a).2.1, .int .i64 (Nm.takeR s.data.toList a).2.2]) ∧ w = w' := by
  have HL : Hid (s.data.toList.length = s.size) := by simp [Hid]
  have hs' := hs
  unfold maxLen at hs'
  by_cases h0 : a < 0
  · have HR := Lib.hid (Nm.takeR_arg s.data.toList a (.inl h0))
    go_enter Tryz.func103, Tryz.ntmps103
    go_wp2
    go_ret3
    exact ⟨ret3 _ HR.out rfl rfl rfl, rfl⟩
  by_cases h1 : (s.size : Int) < a
  · have HR := Lib.hid (Nm.takeR_arg s.data.toList a (.inr (by rw [HL.out]; exact h1)))
    go_enter Tryz.func103, Tryz.ntmps103
    go_wp2
    go_ret3
    exact ⟨ret3 _ HR.out rfl rfl rfl, rfl⟩
  obtain ⟨n, rfl⟩ := Int.eq_ofNat_of_zero_le (show 0 ≤ a by omega)
  have hn : n ≤ s.size := by omega
  have hs2 : (s.extract n s.size).size ≤ maxLen := by simp only [ByteArray.size_extract]; omega
  have hdat : (s.extract n s.size).data.toList = s.data.toList.drop n := by
    rw [Lib.extract_data, List.take_of_length_le (by simp)]
  go_enter Tryz.func103, Tryz.ntmps103
  have HX := Lib.hid hdat
  clear hdat
  go_wp2_with fail
  refine (lead_at _ _ hs2).mono ?_
  rintro e w' ⟨rfl, rfl⟩
  rw [HX.out]
  have hdl := Nm.lead_le (s.data.toList.drop n)
  have hda := Nm.lead_all (s.data.toList.drop n)
  have HR1 := Lib.hid (Nm.takeR_form s.data.toList n (by rw [HL.out]; exact hn))
  have HR2 := Lib.hid (Nm.takeR_num s.data.toList n (by rw [HL.out]; exact hn))
  have HR3 := Lib.hid (Nm.takeR_ok s.data.toList n (by rw [HL.out]; exact hn))
  rw [List.length_drop, HL.out] at hdl
  generalize hd : Nm.lead (List.drop n s.data.toList) = d at *
  have hds : (⟨d.toArray⟩ : ByteArray).size = d.length := rfl
  have hdt : (⟨d.toArray⟩ : ByteArray).data.toList = d := by simp
  generalize hD : (⟨d.toArray⟩ : ByteArray) = D at *
  clear hs2 HX
  have HD := Lib.hid hd
  have HDD := Lib.hid hD
  have HDS := Lib.hid hds
  have HDT := Lib.hid hdt
  have HA := Lib.hid hda
  have hDm : D.size ≤ maxLen := by rw [hds]; omega
  have hDn : D.size ≤ s.size - n := by rw [hds]; exact hdl
  clear hd hD hds hdt hda hdl
  have HDE : Hid (D.toList = d) := by rw [Hid, Lib.toList_data]; exact HDT.out
  by_cases hz : D.size = 0
  · have hdn : d = [] := List.eq_nil_of_length_eq_zero (by rw [← HDS.out]; exact hz)
    have he : D.toList = [] := by rw [HDE.out]; exact hdn
    have HZ := Lib.hid hz
    have HDN := Lib.hid hdn
    clear hz hdn
    go_wp2
    go_ret3
    exact ⟨ret3 _ (HR1.out (.inl HDN.out)) rfl rfl rfl, rfl⟩
  have hz0 : 0 < D.size := by omega
  clear hz
  have hdn : d ≠ [] := fun h => by have h1 := HDS.out; rw [h] at h1; simp only [List.length_nil] at h1; omega
  have HDN := Lib.hid hdn
  have he : D.toList.isEmpty = false := by rw [HDE.out]; cases hh : d with | nil => exact absurd hh hdn | cons _ _ => rfl
  have he2 : ¬ D.toList = [] := by rw [HDE.out]; exact hdn
  clear hdn
  have HH : Hid (d.head? = some D[0]) := by
    rw [Hid, ← HDT.out, List.head?_eq_getElem?, List.getElem?_eq_getElem (by rw [HDT.out, ← HDS.out]; exact hz0)]
    rfl
  have HV := Lib.hid (value_at D w hDm (by rw [HDT.out]; exact HA.out))
  by_cases hf : D[0].toNat = 48 ∧ 1 < D.size
  · obtain ⟨hf1, hf2⟩ := hf
    have hb : (((D[0].toNat : Nat) : Int) == 48) = true := beq_iff_eq.2 (by omega)
    have hf2' : (1 : Int) < (D.size : Int) := by omega
    have HF := Lib.hid hf1
    clear hf1
    go_wp2
    go_ret3
    exact ⟨ret3 _ (HR1.out (.inr ⟨by rw [HH.out]; congr 1; exact UInt8.toNat.inj HF.out, by rw [← HDS.out]; exact hf2⟩)) rfl rfl rfl, rfl⟩
  have hno : ¬ (d = [] ∨ d.head? = some 48 ∧ 1 < d.length) := by
    rintro (h | ⟨h, h'⟩)
    · exact HDN.out h
    · rw [HH.out] at h
      injection h with h
      exact hf ⟨by rw [h]; rfl, by rw [HDS.out]; exact h'⟩
  have HNO := Lib.hid hno
  clear hno
  have key : ((((D[0].toNat : Nat) : Int) == 48) = true ∧ ¬ (1 : Int) < (D.size : Int)) ∨ (((D[0].toNat : Nat) : Int) == 48) = false := by
    by_cases hb : D[0].toNat = 48
    · exact .inl ⟨beq_iff_eq.2 (by omega), fun h => hf ⟨hb, by omega⟩⟩
    · exact .inr (beq_eq_false_iff_ne.2 (by omega))
  clear hf
  rcases key with ⟨hb', hf2⟩ | hb'
  all_goals
    go_wp2_with fail
    refine HV.out.mono ?_
    rintro e w' ⟨rfl, rfl⟩
    rw [HDT.out]
    by_cases hv : Nm.val d ≤ 2147483647
    · rw [Nm.vnum_yes _ hv, Nm.vok_yes _ hv]
      have HQ := Lib.hid hv
      generalize hvv : Nm.val d = v at hv ⊢
      have HVV := Lib.hid hvv
      clear hvv
      go_wp2
      go_ret3
      exact ⟨ret3 _ (HR3.out HNO.out HQ.out) (by rw [HVV.out]) (by rw [← HDS.out]) rfl, rfl⟩
    · rw [Nm.vnum_no _ hv, Nm.vok_no _ hv]
      have HQ := Lib.hid hv
      clear hv
      go_wp2
      go_ret3
      exact ⟨ret3 _ (HR2.out HNO.out HQ.out) rfl rfl rfl, rfl⟩

theorem whole_at (s : ByteArray) (w : World) (hs : s.size ≤ maxLen) :
    Calls Tryz.prog 91 #[.string s] w fun e w' => e = .returned (.tuple #[.int .i64 (Nm.wholeR s.data.toList).1, .int .i64 (Nm.wholeR s.data.toList).2]) ∧ w = w' := by
  have HL : Hid (s.data.toList.length = s.size) := by simp [Hid]
  have HT := Lib.hid (take_at s 0 w hs)
  have HW := Lib.hid (show Nm.wholeR s.data.toList = _ from rfl)
  go_enter Tryz.func91, Tryz.ntmps91
  go_wp2_with fail
  refine HT.out.mono ?_
  rintro e w' ⟨rfl, rfl⟩
  have HWR : Hid (Nm.wholeR s.data.toList = if (Nm.takeR s.data.toList 0).2.2 = 0 then (if (Nm.takeR s.data.toList 0).2.1 = (s.size : Int) then ((Nm.takeR s.data.toList 0).1, 0) else (0, 2)) else (0, (Nm.takeR s.data.toList 0).2.2)) := by
    rw [Hid, Nm.wholeR, HL.out]
  clear HW HT
  generalize Nm.takeR s.data.toList 0 = r at *
  obtain ⟨x, y, z⟩ := r
  by_cases hz : z = 0
  · by_cases hy : y = (s.size : Int)
    · have h1 : (z != 0) = false := by simp [hz]
      have h2 : (y != (s.size : Int)) = false := by simp [hy]
      have HZ := Lib.hid hz
      have HY := Lib.hid hy
      clear hz hy
      go_wp2
      go_ret2
      exact ⟨ret2 _ (HWR.out.trans (by rw [if_pos HZ.out, if_pos HY.out])) rfl rfl, rfl⟩
    · have h1 : (z != 0) = false := by simp [hz]
      have h2 : (y != (s.size : Int)) = true := by simp [hy]
      have HZ := Lib.hid hz
      have HY := Lib.hid hy
      clear hz hy
      go_wp2
      go_ret2
      exact ⟨ret2 _ (HWR.out.trans (by rw [if_pos HZ.out, if_neg HY.out])) rfl rfl, rfl⟩
  · have h1 : (z != 0) = true := by simp [hz]
    have HZ := Lib.hid hz
    clear hz
    go_wp2
    go_ret2
    exact ⟨ret2 _ (HWR.out.trans (by rw [if_neg HZ.out])) rfl rfl, rfl⟩
end Go.Proofs.YtfjamdpgbbnmcaaGreatDoor
/-
  What num.Show answers, for every int: Nm.showS and Nm.showE; what was in memory stays as it was.
  Conditions: none.
-/
set_option maxRecDepth 4000
namespace Go.Proofs.YtfjamdpgbbnmcaaGreatDoor
open Go.RowKit

/-- Block b holds ten bytes, of which the last are t; what is older is as it was in w. -/
def Ten (w w' : World) (b : Nat) (t : List UInt8) : Prop :=
  Below w.heap.size w w' ∧ w.heap.size ≤ b ∧ t.length ≤ 10 ∧ ∃ cs : Array Value, w'.heap[b]? = some (.cells cs 144 (0, 0)) ∧ cs.size = 10 ∧ ∀ i (h : i < t.length), cs[10 - t.length + i]? = some (.int .u8 (t[i].toNat : Int))

theorem Ten.cell {w w' : World} {b : Nat} {t : List UInt8} (h : Ten w w' b t) (g : Nat) (hg : g < 10) : ∃ v, w'.cell? ⟨b, g, none⟩ = some v := by
  obtain ⟨_, _, _, cs, hb, hs, _⟩ := h
  exact ⟨cs[g], by rw [cell_of_row w' b g cs _ (0, 0) hb, Array.getElem?_eq_getElem (by omega)]⟩
theorem Ten.frozen {w w' : World} {b : Nat} {t : List UInt8} (h : Ten w w' b t) (g : Nat) : w'.frozen? ⟨b, g, none⟩ = false := by
  obtain ⟨_, _, _, cs, hb, _, _⟩ := h
  simp [World.frozen?, hb]
theorem Ten.put {w w' : World} {b : Nat} {t : List UInt8} (h : Ten w w' b t) (g : Nat) (hg : g + 1 + t.length = 10) (c : UInt8) : Ten w (w'.setCell ⟨b, g, none⟩ (.int .u8 (c.toNat : Int))) b (c :: t) := by
  obtain ⟨hG, hbs, ht, cs, hb, hs, hc⟩ := h
  refine ⟨hG.setCell (p := ⟨b, g, none⟩) hbs _, hbs, by simp; omega, cs.setIfInBounds g (.int .u8 (c.toNat : Int)), ?_, by simp [hs], fun i hi => ?_⟩
  · simp [World.setCell, Array.getElem?_modify, hb]
  · rcases i with _ | i
    · have e : 10 - (c :: t).length + 0 = g := by simp; omega
      rw [e]
      simp [Array.getElem?_setIfInBounds, hs]
      omega
    · have e : 10 - (c :: t).length + (i + 1) = 10 - t.length + i := by simp; omega
      rw [e, Array.getElem?_setIfInBounds, if_neg (by omega)]
      exact hc i (by simpa using hi)
theorem Ten.start (w : World) (t0 : TypeId) (h : t0 = 144) : Ten w (w.alloc (.cells #[.int .u8 0, .int .u8 0, .int .u8 0, .int .u8 0, .int .u8 0, .int .u8 0, .int .u8 0, .int .u8 0, .int .u8 0, .int .u8 0] t0)) w.heap.size [] := by
  subst h
  exact ⟨(Below.refl _ w).alloc (Nat.le_refl _) _, Nat.le_refl _, by simp, _, heap_alloc_new w _, rfl, fun i hi => absurd hi (by simp)⟩
theorem Ten.text {P : Program} {w w' : World} {b : Nat} {t : List UInt8} (h : Ten w w' b t) (g : Nat) (hg : g + t.length = 10) (src e dst : TypeId) (hs : P.underlying src = some (.slice e)) (he : P.underlying e = some (.int .u8)) (hd : P.underlying dst = some .string) (L cap : Nat) (hL : L = t.length) :
    (convert src dst (.slice (some ⟨b, g, none⟩) L cap)).run P w' = .ok (.string ⟨t.toArray⟩) w' := by
  subst hL
  obtain ⟨_, _, _, cs, hb, hsz, hc⟩ := h
  have := run_convert_bytes_arg (P := P) w' src e hs he b g t.length cap (t.map fun x => (x.toNat : Int)) (by simp) (fun i hi => by
    rw [cell_of_row w' b (g + i) cs _ (0, 0) hb]
    have := hc i hi
    rw [show 10 - t.length + i = g + i by omega] at this
    rw [this]
    simp [List.getD, List.getElem?_map, List.getElem?_eq_getElem hi]) dst hd
  rw [this]
  congr 2
  unfold strOfNums
  rw [List.map_map]
  congr 2
  conv => rhs; rw [← List.map_id t]
  apply List.map_congr_left
  intro x _
  simp

theorem slice_ten (W : World) (b g : Nat) (hg : g < 10) :
    (Instr.sliceAt 144 (.pointer (some ⟨b, 0, none⟩)) (some (.int .i64 (g : Int))) none none).run Tryz.prog W = .ok (.slice (some ⟨b, g, none⟩) (10 - g) (10 - g)) W := by
  have h10 : Tryz.prog.arrayLen 144 = 10 := by kernel_rfl
  have hel : Tryz.prog.elem 144 = 5 := by kernel_rfl
  have hsz : ∀ W, (sizeOf 5).run Tryz.prog W = .ok 1 W := fun _ => by kernel_rfl
  rw [run_sliceAt_array_l W 144 ⟨b, 0, none⟩ (by rw [h10, hel]; exact Tryz.underlying144) .i64 (g : Int) (by omega) (by rw [h10]; omega), h10, hel, hsz]
  simp only [Result.andThen, slicedAt, Int.toNat_natCast]
  rw [if_neg (by omega)]
  simp [Addr.add]
  intro h; simp [h]

theorem show_at (n : Nat) (w : World) (hm : n ≤ 2147483647) :
    Calls Tryz.prog 68 #[.int .i64 (n : Int)] w fun e w' => e = .returned (.tuple #[.string ⟨(Nm.digs n).toArray⟩, .int .i64 0]) ∧ Below w.heap.size w w' := by
  have HN := Lib.hid (Nm.digs_len10 n hm)
  have hb1 : decide ((n : Int) < 0) = false := by simp
  have hb2 : decide (2147483647 < (n : Int)) = false := by simp; omega
  go_enter Tryz.func68, Tryz.ntmps68
  go_wp2
  go_loopw [0, 5, 12] (fun a f c wr => ∃ (m g k : Nat) (t : List UInt8), a = .int .i64 m ∧ f = .int .i64 (g : Int) ∧ c = .int .i64 k ∧ k + g = 10 ∧ t.length = k ∧ m ≤ 2147483647 ∧ Nm.digs n = Nm.digs m ++ t ∧ Ten w wr w.heap.size t)
    (fun _ _ c _ => 10 - (intOf c).toNat)
  case atStart => exact ⟨n, 10, 0, [], rfl, rfl, rfl, rfl, rfl, hm, by simp, Ten.start w _ rfl⟩
  case round =>
    obtain ⟨m, g0, k, t, rfl, rfl, rfl, hk, ht, hm2, hd, hT⟩ := hrel
    have hk9 : k ≤ 9 := by
      have h1 := HN.out
      have h2 := Nm.digs_pos m
      rw [hd, List.length_append] at h1
      omega
    obtain ⟨g, rfl⟩ : ∃ g, g0 = g + 1 := ⟨g0 - 1, by omega⟩
    have HD := Lib.hid hd
    have HT := Lib.hid hT
    have HL := Lib.hid ht
    obtain ⟨v, hv⟩ := hT.cell g (by omega)
    have hf := hT.frozen g
    have hdig : (Nm.dig (m % 10)).toNat = 48 + m % 10 := Nm.dig_toNat _ (by omega)
    have e1 : ((Nm.dig (m % 10)).toNat : Int) = 48 + (m : Int) % 10 := by omega
    have hT2 := hT.put g (by omega) (Nm.dig (m % 10))
    rw [e1] at hT2
    have HT2 := Lib.hid hT2
    have hcv := hT2.text (P := Tryz.prog) g (by simp; omega) 128 5 9 Tryz.underlying128 Tryz.underlying5 Tryz.underlying9 (10 - g) (10 - g) (by simp; omega)
    have hsl := slice_ten (wr.setCell ⟨w.heap.size, g, none⟩ (.int .u8 (48 + (m : Int) % 10))) w.heap.size g (by omega)
    generalize hS : (⟨(Nm.dig (m % 10) :: t).toArray⟩ : ByteArray) = S at hcv
    have HS := Lib.hid hS
    clear hd hT ht hdig e1 hT2 hS
    by_cases h9 : m < 10
    · have hq : ((m : Int) / 10 == 0) = true := beq_iff_eq.2 (by omega)
      go_wp2
      go_ret2
      refine ⟨?_, HT2.out.1⟩
      have e2 : Nm.digs n = Nm.dig (m % 10) :: t := by
        rw [HD.out, Nm.digs_small m h9, Nat.mod_eq_of_lt h9]; rfl
      rw [e2, HS.out]
      rfl
    · have hq : ((m : Int) / 10 == 0) = false := beq_eq_false_iff_ne.2 (by omega)
      go_wp2
      go_roundw
      case rel =>
        refine ⟨m / 10, g, k + 1, Nm.dig (m % 10) :: t, by go_num, rfl, by go_num, by omega, by simp [HL.out], by omega, ?_, HT2.out⟩
        rw [HD.out, Nm.digs_big m (by omega)]
        simp
      case measure => simp [intOf]; omega

theorem show_no (n : Int) (w : World) (h : n < 0 ∨ 2147483647 < n) :
    Calls Tryz.prog 68 #[.int .i64 n] w fun e w' => e = .returned (.tuple #[.string ⟨#[]⟩, .int .i64 1]) ∧ w = w' := by
  rcases h with h | h
  · go_enter Tryz.func68, Tryz.ntmps68
    go_wp2
    go_ret2
    exact ⟨rfl, rfl⟩
  · have h' : ¬ n < 0 := by omega
    go_enter Tryz.func68, Tryz.ntmps68
    go_wp2
    go_ret2
    exact ⟨rfl, rfl⟩

/-- num.Show, for every int. -/
theorem show_any (n : Int) (w : World) :
    Calls Tryz.prog 68 #[.int .i64 n] w fun e w' => e = .returned (.tuple #[.string ⟨(Nm.showS n).toArray⟩, .int .i64 (Nm.showE n)]) ∧ Below w.heap.size w w' := by
  by_cases h : Nm.isNum n = true
  · obtain ⟨h0, h1⟩ := (Nm.isNum_iff n).1 h
    obtain ⟨m, rfl⟩ := Int.eq_ofNat_of_zero_le h0
    refine (show_at m w (by omega)).mono ?_
    rintro e w' ⟨rfl, hg⟩
    exact ⟨by rw [Nm.showS, Nm.showE, if_pos h, if_pos h, Int.toNat_natCast], hg⟩
  · have h' : n < 0 ∨ 2147483647 < n := by rw [Nm.isNum_iff] at h; omega
    refine (show_no n w h').mono ?_
    rintro e w' ⟨rfl, rfl⟩
    exact ⟨by rw [Nm.showS, Nm.showE, if_neg h, if_neg h], Below.refl _ _⟩
end Go.Proofs.YtfjamdpgbbnmcaaGreatDoor
/-
  What the reference's Digit, Is, digits, Show, Take and Whole of layer 1 answer, for every input: Nm.isDig, Nm.isNum, Nm.digs, Nm.showS and Nm.showE, Nm.takeR, Nm.wholeR.
  Conditions: a string's length is at most the model's greatest; digits: a number from 0 to 2147483647.
-/
set_option maxRecDepth 4000
namespace Go.Proofs.YtfjamdpgbbnmcaaGreatDoor
open Go.RowKit

theorem rDigit_at (c : UInt8) (w : World) :
    Calls Tryz.prog 99 #[.int .u8 (c.toNat : Int)] w fun e w' => e = .returned (.bool (Nm.isDig c)) ∧ w = w' := by
  by_cases h : 48 ≤ c.toNat
  · by_cases h2 : c.toNat ≤ 57
    · have HR := Lib.hid ((Nm.isDig_iff c).2 ⟨h, h2⟩)
      go_enter Tryz.func99, Tryz.ntmps99
      go_wp2
      go_ret
      exact ⟨ret_bool (by rw [HR.out]; simp; omega), rfl⟩
    · have HR := Lib.hid ((Nm.isDig_not c).2 (.inr (by omega)))
      go_enter Tryz.func99, Tryz.ntmps99
      go_wp2
      go_ret
      exact ⟨ret_bool (by rw [HR.out]; simp; omega), rfl⟩
  · have HR := Lib.hid ((Nm.isDig_not c).2 (.inl (by omega)))
    go_enter Tryz.func99, Tryz.ntmps99
    go_wp2
    go_ret
    exact ⟨ret_bool (by rw [HR.out]), rfl⟩

theorem rIs_at (n : Int) (w : World) :
    Calls Tryz.prog 61 #[.int .i64 n] w fun e w' => e = .returned (.bool (Nm.isNum n)) ∧ w = w' := by
  by_cases h : 0 ≤ n
  · have HR := Lib.hid (show Nm.isNum n = decide (n ≤ 2147483647) by simp [Nm.isNum, h])
    go_enter Tryz.func61, Tryz.ntmps61
    go_wp2
    go_ret
    exact ⟨ret_bool (by rw [HR.out]), rfl⟩
  · have HR := Lib.hid (show Nm.isNum n = false by simp [Nm.isNum, h])
    go_enter Tryz.func61, Tryz.ntmps61
    go_wp2
    go_ret
    exact ⟨ret_bool (by rw [HR.out]), rfl⟩

/-- One byte, as a text. -/
theorem one_text (c : UInt8) (v : Int) (hv : v = (c.toNat : Int)) (w : World) :
    (convert 128 9 (.slice (some ⟨w.heap.size, 0, none⟩) 1 1)).run Tryz.prog (w.alloc (.cells #[.int .u8 v] 5)) = .ok (.string ⟨[c].toArray⟩) (w.alloc (.cells #[.int .u8 v] 5)) := by
  subst hv
  have := run_convert_bytes_arg (P := Tryz.prog) (w.alloc (.cells #[.int .u8 (c.toNat : Int)] 5)) 128 5 Tryz.underlying128 Tryz.underlying5 w.heap.size 0 1 1 [(c.toNat : Int)] rfl (fun i hi => by
    obtain rfl : i = 0 := by omega
    rw [cell_of_row _ _ _ #[.int .u8 (c.toNat : Int)] 5 (0, 0) (heap_alloc_new w _)]
    rfl) 9 Tryz.underlying9
  rw [this]
  congr 2
  simp [strOfNums]

theorem rdigits_small (n : Nat) (w : World) (h : n < 10) :
    Calls Tryz.prog 101 #[.int .i64 (n : Int)] w fun e w' => e = .returned (.string ⟨(Nm.digs n).toArray⟩) ∧ Below w.heap.size w w' := by
  have hd := Nm.dig_toNat (n % 10) (by omega)
  have hcv := one_text (Nm.dig (n % 10)) (48 + (n : Int) % 10) (by omega) w
  generalize hS : (⟨[Nm.dig (n % 10)].toArray⟩ : ByteArray) = S at hcv
  have HSS := Lib.hid hS
  have HS := Lib.hid (Nm.digs_small n h)
  have HM := Lib.hid (Nat.mod_eq_of_lt h)
  clear hS hd
  go_enter Tryz.func101, Tryz.ntmps101
  go_wp2_with fail
  go_ret
  exact ⟨ret_str (by rw [HS.out, ← HSS.out, HM.out]), (Below.refl _ _).alloc (Nat.le_refl _) _⟩

theorem rdigits_at (k : Nat) : ∀ (n : Nat) (w : World), n ≤ k → n ≤ 2147483647 →
    Calls Tryz.prog 101 #[.int .i64 (n : Int)] w fun e w' => e = .returned (.string ⟨(Nm.digs n).toArray⟩) ∧ Below w.heap.size w w' := by
  induction k with
  | zero =>
    intro n w hk hn
    exact rdigits_small n w (by omega)
  | succ k ih =>
    intro n w hk hn
    have hd := Nm.dig_toNat (n % 10) (by omega)
    have hcv := one_text (Nm.dig (n % 10)) (48 + (n : Int) % 10) (by omega) w
    have hSz : (⟨[Nm.dig (n % 10)].toArray⟩ : ByteArray).size = 1 := rfl
    generalize hS : (⟨[Nm.dig (n % 10)].toArray⟩ : ByteArray) = S at hcv hSz
    have HSS := Lib.hid hS
    have HSZ := Lib.hid hSz
    have HI := Lib.hid ih
    clear hS hd hSz ih
    by_cases h : n < 10
    · exact rdigits_small n w h
    · have HS := Lib.hid (Nm.digs_big n (by omega))
      have HL := Lib.hid (Nm.digs_len10 (n / 10) (by omega))
      have h' : ¬ (n : Int) < 10 := by omega
      go_enter Tryz.func101, Tryz.ntmps101
      go_wp2_with fail
      rw [show ((n : Int) / 10) = ((n / 10 : Nat) : Int) by omega]
      refine (HI.out (n / 10) _ (by omega) (by omega)).mono ?_
      rintro e w' ⟨rfl, hg⟩
      have hsz : (⟨(Nm.digs (n / 10)).toArray⟩ : ByteArray).size ≤ 10 := HL.out
      generalize hT : (⟨(Nm.digs (n / 10)).toArray⟩ : ByteArray) = T at hsz ⊢
      have HT := Lib.hid hT
      have hs1 : S.size ≤ 1 := by rw [HSZ.out]; omega
      clear hT
      go_wp2_with fail
      go_ret
      refine ⟨ret_str ?_, below_all ((Below.refl _ _).alloc (Nat.le_refl _) _) hg⟩
      rw [HS.out, ← HT.out, ← HSS.out]
      simp [ByteArray.ext_iff]

theorem rShow_at (n : Int) (w : World) :
    Calls Tryz.prog 87 #[.int .i64 n] w fun e w' => e = .returned (.tuple #[.string ⟨(Nm.showS n).toArray⟩, .int .i64 (Nm.showE n)]) ∧ Below w.heap.size w w' := by
  have HI := Lib.hid (rIs_at n w)
  by_cases h : Nm.isNum n = true
  · obtain ⟨h0, h1⟩ := (Nm.isNum_iff n).1 h
    obtain ⟨m, rfl⟩ := Int.eq_ofNat_of_zero_le h0
    have HS := Lib.hid (show Nm.showS (m : Int) = Nm.digs m by rw [Nm.showS, if_pos h, Int.toNat_natCast])
    have HE := Lib.hid (show Nm.showE (m : Int) = 0 by rw [Nm.showE, if_pos h])
    have HD := Lib.hid (rdigits_at m m w (Nat.le_refl _) (by omega))
    have HH := Lib.hid h
    clear h h0
    go_enter Tryz.func87, Tryz.ntmps87
    go_wp2_with fail
    refine HI.out.mono ?_
    rintro e w' ⟨rfl, rfl⟩
    rw [HH.out]
    go_wp2_with fail
    refine HD.out.mono ?_
    rintro e w' ⟨rfl, hg⟩
    generalize hT : (⟨(Nm.digs m).toArray⟩ : ByteArray) = T
    have HT := Lib.hid hT
    clear hT
    go_wp2_with fail
    go_ret2
    exact ⟨by rw [HS.out, HE.out, HT.out]; rfl, hg⟩
  · have HS := Lib.hid (show Nm.showS n = [] by rw [Nm.showS, if_neg h])
    have HE := Lib.hid (show Nm.showE n = 1 by rw [Nm.showE, if_neg h])
    have HH := Lib.hid (show Nm.isNum n = false by simpa using h)
    clear h
    go_enter Tryz.func87, Tryz.ntmps87
    go_wp2_with fail
    refine HI.out.mono ?_
    rintro e w' ⟨rfl, rfl⟩
    rw [HH.out]
    go_wp2_with fail
    go_ret2
    exact ⟨by rw [HS.out, HE.out]; rfl, Below.refl _ _⟩
end Go.Proofs.YtfjamdpgbbnmcaaGreatDoor
/-
  What the reference's Take and Whole of layer 1 answer, for every input: Nm.takeR and Nm.wholeR.
  Conditions: a string's length is at most the model's greatest.
-/
set_option maxRecDepth 4000
namespace Go.Proofs.YtfjamdpgbbnmcaaGreatDoor
open Go.RowKit

/-- What the first loop has found, when it ends at k: the digits from n on are those up to k. -/
theorem lead_found (s : ByteArray) (n k : Nat) (hnk : n ≤ k) (hk : k ≤ s.size) (h : ∀ j (hj : j < s.size), n ≤ j → j < k → Nm.isDig s[j] = true) (he : ∀ hk' : k < s.size, Nm.isDig s[k] = false) :
    Nm.lead (s.data.toList.drop n) = (s.data.toList.drop n).take (k - n) := by
  have hl : s.data.toList.length = s.size := by simp
  refine Nm.lead_of _ _ (by simp; omega) (fun j hj hjk => ?_) (fun hk' => ?_)
  · rw [List.getElem_drop]
    simp at hj
    exact h (n + j) (by omega) (by omega) (by omega)
  · rw [List.getElem_drop]
    simp at hk'
    have e : n + (k - n) = k := by omega
    have := he (by omega)
    simp only [e]
    exact this

theorem drop_at (s : ByteArray) (n i : Nat) (hni : n ≤ i) (hi : i < s.size) : ∃ h : i - n < (s.data.toList.drop n).length, (s.data.toList.drop n)[i - n] = s[i] := by
  refine ⟨by simp; omega, ?_⟩
  rw [List.getElem_drop]
  have e : n + (i - n) = i := by omega
  simp only [e]
  rfl

theorem rTake_at (s : ByteArray) (a : Int) (w : World) (hs : s.size ≤ 9223372036854775806) :
    Calls Tryz.prog 82 #[.string s, .int .i64 a] w fun e w' =>
      e = .returned (.tuple #[.int .i64 (Nm.takeR s.data.toList a).1, .int .i64 (Nm.takeR s.data.toList a).2.1, .int .i64 (Nm.takeR s.data.toList a).2.2]) ∧ w = w' := by
  have HL : Hid (s.data.toList.length = s.size) := by simp [Hid]
  by_cases h0 : a < 0
  · have HR := Lib.hid (Nm.takeR_arg s.data.toList a (.inl h0))
    go_enter Tryz.func82, Tryz.ntmps82
    go_wp2_with fail
    go_ret3
    exact ⟨ret3 _ HR.out rfl rfl rfl, rfl⟩
  by_cases h1 : (s.size : Int) < a
  · have HR := Lib.hid (Nm.takeR_arg s.data.toList a (.inr (by rw [HL.out]; exact h1)))
    go_enter Tryz.func82, Tryz.ntmps82
    go_wp2_with fail
    go_ret3
    exact ⟨ret3 _ HR.out rfl rfl rfl, rfl⟩
  obtain ⟨n, rfl⟩ := Int.eq_ofNat_of_zero_le (show 0 ≤ a by omega)
  have hn : n ≤ s.size := by omega
  have hb0 : decide ((n : Int) < 0) = false := by simp
  have hb1 : decide ((s.size : Int) < (n : Int)) = false := by simp; omega
  have hb2 : decide (s.size < n) = false := by simp; omega
  clear h0 h1
  go_enter Tryz.func82, Tryz.ntmps82
  go_wp2_with fail
  go_loop [7] (fun i => ∃ k : Nat, n ≤ k ∧ k ≤ s.size ∧ i = .int .i64 k ∧ ∀ j (hj : j < s.size), n ≤ j → j < k → Nm.isDig s[j] = true) (fun i => s.size - (intOf i).toNat)
  case atStart => exact ⟨n, Nat.le_refl _, hn, rfl, fun _ _ h1 h2 => absurd h2 (by omega)⟩
  case round =>
    obtain ⟨k, hnk, hk, rfl, hall⟩ := hrel
    have HA := Lib.hid hall
    clear hall
    by_cases hlt : k < s.size
    · have HG := Lib.hid (rDigit_at s[k] w)
      by_cases hd : Nm.isDig s[k] = true
      · go_wp2_with fail
        refine HG.out.mono ?_
        rintro e w' ⟨rfl, rfl⟩
        rw [hd]
        have HD := Lib.hid hd
        clear hd
        go_wp2_with fail
        go_round
        case rel =>
          refine ⟨k + 1, by omega, by omega, by go_num, fun j hj hnj hjk => ?_⟩
          rcases Nat.lt_or_ge j k with h1 | h1
          · exact HA.out j hj hnj h1
          · obtain rfl : j = k := by omega
            exact HD.out
        case measure => simp [intOf]; omega
      have HF := Lib.hid (lead_found s n k hnk hk HA.out (fun _ => by simpa using hd))
      go_wp2_with fail
      refine HG.out.mono ?_
      rintro e w' ⟨rfl, rfl⟩
      have hd' : Nm.isDig s[k] = false := by simpa using hd
      rw [hd']
      clear hd hd' HG
      by_cases hkn : k = n
      · have HR := Lib.hid (Nm.takeR_form s.data.toList n (by rw [HL.out]; exact hn) (.inl (by rw [HF.out, hkn]; simp)))
        have hq : ((k : Int) == (n : Int)) = true := beq_iff_eq.2 (by omega)
        clear hkn
        go_wp2_with fail
        go_ret3
        exact ⟨ret3 _ HR.out rfl rfl rfl, rfl⟩
      have hq : ((k : Int) == (n : Int)) = false := beq_eq_false_iff_ne.2 (by omega)
      have hnk1 : n + 1 ≤ k := by omega
      clear hkn
      have HLn : Hid ((Nm.lead (s.data.toList.drop n)).length = k - n) := by
        rw [Hid, HF.out, List.length_take, List.length_drop, HL.out]; omega
      have HH : Hid ((Nm.lead (s.data.toList.drop n)).head? = some s[n]) := by
        obtain ⟨h1, h2⟩ := drop_at s n n (Nat.le_refl _) (by omega)
        have h3 : n - n = 0 := by omega
        rw [Hid, HF.out, List.head?_take, if_neg (by omega), List.head?_eq_getElem?]
        simp only [h3] at h1 h2
        rw [List.getElem?_eq_getElem h1, h2]
      by_cases hz : s[n].toNat = 48 ∧ n + 1 < k
      · obtain ⟨hz1, hz2⟩ := hz
        have HR := Lib.hid (Nm.takeR_form s.data.toList n (by rw [HL.out]; exact hn) (.inr ⟨by rw [HH.out]; congr 1; exact UInt8.toNat.inj hz1, by rw [HLn.out]; omega⟩))
        have hz3 : ((s[n].toNat : Int) == 48) = true := beq_iff_eq.2 (by omega)
        have hz4 : (n : Int) + 1 < (k : Int) := by omega
        clear hz1
        go_wp2_with fail
        go_ret3
        exact ⟨ret3 _ HR.out rfl rfl rfl, rfl⟩
      have hno : ¬ (Nm.lead (s.data.toList.drop n) = [] ∨ ((Nm.lead (s.data.toList.drop n)).head? = some 48 ∧ 1 < (Nm.lead (s.data.toList.drop n)).length)) := by
        rintro (h | ⟨h, h'⟩)
        · have h1 := HLn.out
          rw [h] at h1
          simp only [List.length_nil] at h1
          omega
        · rw [HH.out] at h
          injection h with h
          rw [HLn.out] at h'
          exact hz ⟨by rw [h]; rfl, by omega⟩
      have HNO := Lib.hid hno
      clear hno
      have key : (((s[n].toNat : Int) == 48) = false ∧ (n : Int) + 1 < (k : Int)) ∨ ¬ (n : Int) + 1 < (k : Int) := by
        by_cases hb : (n : Int) + 1 < (k : Int)
        · exact .inl ⟨beq_eq_false_iff_ne.2 (fun h => hz ⟨by omega, by omega⟩), hb⟩
        · exact .inr hb
      clear hz
      rcases key with ⟨hy1, hy2⟩ | hy2
      all_goals
        go_wp2_with fail
        go_loop [8, 9] (fun a b => ∃ i v : Nat, n ≤ i ∧ i ≤ k ∧ b = .int .i64 i ∧ a = .int .i64 v ∧ v = Nm.val ((s.data.toList.drop n).take (i - n)) ∧ v ≤ 2147483647) (fun _ b => k - (intOf b).toNat)
        case atStart => exact ⟨n, 0, Nat.le_refl _, by omega, rfl, rfl, by simp [Nm.val], by omega⟩
        case round =>
          obtain ⟨i, v, hni, hik, rfl, rfl, hv, hv2⟩ := hrel
          have HV := Lib.hid hv
          clear hv
          by_cases hlt2 : i < k
          · have hisz : i < s.size := by omega
            have hdg := (Nm.isDig_iff _).1 (HA.out i hisz hni hlt2)
            obtain ⟨d1, d2⟩ := hdg
            have HST : Hid (Nm.val ((s.data.toList.drop n).take (i + 1 - n)) = v * 10 + (s[i].toNat - 48)) := by
              obtain ⟨h1, h2⟩ := drop_at s n i hni hisz
              have h3 := Nm.val_step _ _ h1
              rw [h2, ← HV.out] at h3
              rw [Hid, show i + 1 - n = i - n + 1 by omega]
              exact h3
            by_cases hgt : v * 10 + (s[i].toNat - 48) ≤ 2147483647
            · have hg1 : ¬ (2147483647 : Int) < 10 * (v : Int) + ((s[i].toNat : Int) - 48) := by omega
              go_wp2_with fail
              go_round
              case rel => exact ⟨i + 1, v * 10 + (s[i].toNat - 48), by omega, by omega, by go_num, by go_num, HST.out.symm, hgt⟩
              case measure => simp [intOf]; omega
            · have hg1 : (2147483647 : Int) < 10 * (v : Int) + ((s[i].toNat : Int) - 48) := by omega
              have HB : Hid (¬ Nm.val (Nm.lead (s.data.toList.drop n)) ≤ 2147483647) := by
                have h1 := Nm.val_append_le (((s.data.toList.drop n).take (k - n)).take (i + 1 - n)) (((s.data.toList.drop n).take (k - n)).drop (i + 1 - n))
                rw [List.take_append_drop, List.take_take, Nat.min_eq_left (by omega), HST.out] at h1
                rw [Hid, HF.out]
                omega
              have HR := Lib.hid (Nm.takeR_num s.data.toList n (by rw [HL.out]; exact hn) HNO.out HB.out)
              go_wp2_with fail
              go_ret3
              exact ⟨ret3 _ HR.out rfl rfl rfl, rfl⟩
          · obtain rfl : i = k := by omega
            have HB : Hid (Nm.val (Nm.lead (s.data.toList.drop n)) = v) := by rw [Hid, HF.out]; exact HV.out.symm
            have HR := Lib.hid (Nm.takeR_ok s.data.toList n (by rw [HL.out]; exact hn) HNO.out (by rw [HB.out]; exact hv2))
            clear hlt2
            go_wp2_with fail
            go_ret3
            exact ⟨ret3 _ HR.out (by rw [HB.out]) (by rw [HLn.out]; omega) rfl, rfl⟩
    · have HF := Lib.hid (lead_found s n k hnk hk HA.out (fun h => absurd h hlt))
      by_cases hkn : k = n
      · have HR := Lib.hid (Nm.takeR_form s.data.toList n (by rw [HL.out]; exact hn) (.inl (by rw [HF.out, hkn]; simp)))
        have hq : ((k : Int) == (n : Int)) = true := beq_iff_eq.2 (by omega)
        clear hkn
        go_wp2_with fail
        go_ret3
        exact ⟨ret3 _ HR.out rfl rfl rfl, rfl⟩
      have hq : ((k : Int) == (n : Int)) = false := beq_eq_false_iff_ne.2 (by omega)
      have hnk1 : n + 1 ≤ k := by omega
      clear hkn
      have HLn : Hid ((Nm.lead (s.data.toList.drop n)).length = k - n) := by
        rw [Hid, HF.out, List.length_take, List.length_drop, HL.out]; omega
      have HH : Hid ((Nm.lead (s.data.toList.drop n)).head? = some s[n]) := by
        obtain ⟨h1, h2⟩ := drop_at s n n (Nat.le_refl _) (by omega)
        have h3 : n - n = 0 := by omega
        rw [Hid, HF.out, List.head?_take, if_neg (by omega), List.head?_eq_getElem?]
        simp only [h3] at h1 h2
        rw [List.getElem?_eq_getElem h1, h2]
      by_cases hz : s[n].toNat = 48 ∧ n + 1 < k
      · obtain ⟨hz1, hz2⟩ := hz
        have HR := Lib.hid (Nm.takeR_form s.data.toList n (by rw [HL.out]; exact hn) (.inr ⟨by rw [HH.out]; congr 1; exact UInt8.toNat.inj hz1, by rw [HLn.out]; omega⟩))
        have hz3 : ((s[n].toNat : Int) == 48) = true := beq_iff_eq.2 (by omega)
        have hz4 : (n : Int) + 1 < (k : Int) := by omega
        clear hz1
        go_wp2_with fail
        go_ret3
        exact ⟨ret3 _ HR.out rfl rfl rfl, rfl⟩
      have hno : ¬ (Nm.lead (s.data.toList.drop n) = [] ∨ ((Nm.lead (s.data.toList.drop n)).head? = some 48 ∧ 1 < (Nm.lead (s.data.toList.drop n)).length)) := by
        rintro (h | ⟨h, h'⟩)
        · have h1 := HLn.out
          rw [h] at h1
          simp only [List.length_nil] at h1
          omega
        · rw [HH.out] at h
          injection h with h
          rw [HLn.out] at h'
          exact hz ⟨by rw [h]; rfl, by omega⟩
      have HNO := Lib.hid hno
      clear hno
      have key : (((s[n].toNat : Int) == 48) = false ∧ (n : Int) + 1 < (k : Int)) ∨ ¬ (n : Int) + 1 < (k : Int) := by
        by_cases hb : (n : Int) + 1 < (k : Int)
        · exact .inl ⟨beq_eq_false_iff_ne.2 (fun h => hz ⟨by omega, by omega⟩), hb⟩
        · exact .inr hb
      clear hz
      rcases key with ⟨hy1, hy2⟩ | hy2
      all_goals
        go_wp2_with fail
        go_loop [8, 9] (fun a b => ∃ i v : Nat, n ≤ i ∧ i ≤ k ∧ b = .int .i64 i ∧ a = .int .i64 v ∧ v = Nm.val ((s.data.toList.drop n).take (i - n)) ∧ v ≤ 2147483647) (fun _ b => k - (intOf b).toNat)
        case atStart => exact ⟨n, 0, Nat.le_refl _, by omega, rfl, rfl, by simp [Nm.val], by omega⟩
        case round =>
          obtain ⟨i, v, hni, hik, rfl, rfl, hv, hv2⟩ := hrel
          have HV := Lib.hid hv
          clear hv
          by_cases hlt2 : i < k
          · have hisz : i < s.size := by omega
            have hdg := (Nm.isDig_iff _).1 (HA.out i hisz hni hlt2)
            obtain ⟨d1, d2⟩ := hdg
            have HST : Hid (Nm.val ((s.data.toList.drop n).take (i + 1 - n)) = v * 10 + (s[i].toNat - 48)) := by
              obtain ⟨h1, h2⟩ := drop_at s n i hni hisz
              have h3 := Nm.val_step _ _ h1
              rw [h2, ← HV.out] at h3
              rw [Hid, show i + 1 - n = i - n + 1 by omega]
              exact h3
            by_cases hgt : v * 10 + (s[i].toNat - 48) ≤ 2147483647
            · have hg1 : ¬ (2147483647 : Int) < 10 * (v : Int) + ((s[i].toNat : Int) - 48) := by omega
              go_wp2_with fail
              go_round
              case rel => exact ⟨i + 1, v * 10 + (s[i].toNat - 48), by omega, by omega, by go_num, by go_num, HST.out.symm, hgt⟩
              case measure => simp [intOf]; omega
            · have hg1 : (2147483647 : Int) < 10 * (v : Int) + ((s[i].toNat : Int) - 48) := by omega
              have HB : Hid (¬ Nm.val (Nm.lead (s.data.toList.drop n)) ≤ 2147483647) := by
                have h1 := Nm.val_append_le (((s.data.toList.drop n).take (k - n)).take (i + 1 - n)) (((s.data.toList.drop n).take (k - n)).drop (i + 1 - n))
                rw [List.take_append_drop, List.take_take, Nat.min_eq_left (by omega), HST.out] at h1
                rw [Hid, HF.out]
                omega
              have HR := Lib.hid (Nm.takeR_num s.data.toList n (by rw [HL.out]; exact hn) HNO.out HB.out)
              go_wp2_with fail
              go_ret3
              exact ⟨ret3 _ HR.out rfl rfl rfl, rfl⟩
          · obtain rfl : i = k := by omega
            have HB : Hid (Nm.val (Nm.lead (s.data.toList.drop n)) = v) := by rw [Hid, HF.out]; exact HV.out.symm
            have HR := Lib.hid (Nm.takeR_ok s.data.toList n (by rw [HL.out]; exact hn) HNO.out (by rw [HB.out]; exact hv2))
            clear hlt2
            go_wp2_with fail
            go_ret3
            exact ⟨ret3 _ HR.out (by rw [HB.out]) (by rw [HLn.out]; omega) rfl, rfl⟩

theorem rWhole_at (s : ByteArray) (w : World) (hs : s.size ≤ 9223372036854775806) :
    Calls Tryz.prog 60 #[.string s] w fun e w' => e = .returned (.tuple #[.int .i64 (Nm.wholeR s.data.toList).1, .int .i64 (Nm.wholeR s.data.toList).2]) ∧ w = w' := by
  have HL : Hid (s.data.toList.length = s.size) := by simp [Hid]
  have HT := Lib.hid (rTake_at s 0 w hs)
  have HE := Lib.hid (Nm.takeR_end s.data.toList 0)
  go_enter Tryz.func60, Tryz.ntmps60
  go_wp2_with fail
  refine HT.out.mono ?_
  rintro e w' ⟨rfl, rfl⟩
  have HWR : Hid (Nm.wholeR s.data.toList = if (Nm.takeR s.data.toList 0).2.2 = 0 then (if (Nm.takeR s.data.toList 0).2.1 = (s.size : Int) then ((Nm.takeR s.data.toList 0).1, 0) else (0, 2)) else (0, (Nm.takeR s.data.toList 0).2.2)) := by
    rw [Hid, Nm.wholeR, HL.out]
  have HE2 : Hid ((Nm.takeR s.data.toList 0).2.2 = 0 → (Nm.takeR s.data.toList 0).2.1 ≤ (s.size : Int)) := by
    rw [Hid, ← HL.out]; exact HE.out
  clear HT HE
  generalize Nm.takeR s.data.toList 0 = r at *
  obtain ⟨x, y, z⟩ := r
  by_cases hz : z = 0
  · have hle := HE2.out hz
    dsimp only at hle
    by_cases hy : y = (s.size : Int)
    · have h1 : (z != 0) = false := by simp [hz]
      have h2 : ¬ y < (s.size : Int) := by omega
      have HZ := Lib.hid hz
      have HY := Lib.hid hy
      clear hz hy
      go_wp2_with fail
      go_ret2
      exact ⟨ret2 _ (HWR.out.trans (by rw [if_pos HZ.out, if_pos HY.out])) rfl rfl, rfl⟩
    · have h1 : (z != 0) = false := by simp [hz]
      have h2 : y < (s.size : Int) := by omega
      have HZ := Lib.hid hz
      have HY := Lib.hid hy
      clear hz hy
      go_wp2_with fail
      go_ret2
      exact ⟨ret2 _ (HWR.out.trans (by rw [if_pos HZ.out, if_neg HY.out])) rfl rfl, rfl⟩
  · have h1 : (z != 0) = true := by simp [hz]
    have HZ := Lib.hid hz
    clear hz
    go_wp2_with fail
    go_ret2
    exact ⟨ret2 _ (HWR.out.trans (by rw [if_neg HZ.out])) rfl rfl, rfl⟩
end Go.Proofs.YtfjamdpgbbnmcaaGreatDoor
