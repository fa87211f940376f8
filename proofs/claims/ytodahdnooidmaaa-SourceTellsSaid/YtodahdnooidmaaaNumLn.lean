/-
  Several texts in one, each with its own first words: LnOwn, LnLib, LnWalkA, LnWalkB, LnWalkC, LnRefS, LnRefW, NumWalkA, NumWalkB, NumWalkC, NumRefA, NumRefB.
  Conditions: as each says.
-/
import Derived.Test.YtodahdnooidmaaaProg
import Derived.Test.YtodahdnooidmaaaLow
import Derived.Laws.IdiomStrings
import Derived.Laws.BytesArg
import Derived.Lib.Slices
import Derived.Lib.Walk
import Derived.Lib.Bytealg
/-
  What line.ownText answers: the text itself, in memory of its own; what was in memory stays as it was.
  Conditions: none.
  (This program has not all of these functions: own_at is left out here.)
-/
set_option maxRecDepth 4000
namespace Go.Proofs.Ytodahdnooidmaaa
open Go.RowKit

theorem bytesRow_at (s : ByteArray) (c i : Nat) (h : i < s.size) : (bytesRow s c)[i]? = some (.int .u8 (s[i].toNat : Int)) := by
  have h' : i < s.data.size := h
  rw [bytesRow, Array.getElem?_append_left (by simpa using h'), Array.getElem?_map, Array.getElem?_eq_getElem h']
  rfl

theorem str_info : (Try.prog.info? 9).map (fun i => (i.zero, i.size, i.bytes)) = some (some (.string ByteArray.empty), 1, 16) := by kernel_rfl

/-- A text is empty, or it is not: in the walk's own words. -/
theorem bs_empty (s : List UInt8) (h : s = []) : (Ln.bs s).toList = [] := by rw [Lib.toList_data, Ln.bs_data]; exact h
theorem bs_some (s : List UInt8) (h : s ≠ []) : (Ln.bs s).toList.isEmpty = false ∧ ¬ (Ln.bs s).toList = [] := by
  rw [Lib.toList_data, Ln.bs_data]
  exact ⟨by cases s with | nil => exact absurd rfl h | cons _ _ => rfl, h⟩
end Go.Proofs.Ytodahdnooidmaaa
/-
  What the library's functions that package line calls answer, at the one byte 10 as the second text: HasSuffix, Count, Index, Contains, Cut; nothing in memory turns.
  Conditions: a string's length is at most the model's greatest.
  (This program has not all of these functions: count_run, index_run, hasSuffix_nl, count_nl, indexByte_at, liteIndex_at, index_call, contains_nl, liteCut_at, cut_call are left out here.)
-/
set_option maxRecDepth 4000
namespace Go.Proofs.Ytodahdnooidmaaa
open Go.RowKit

theorem index_no (l : List UInt8) (c : UInt8) (h : c ∉ l) : Lib.indexByte l c = -1 := by
  induction l with
  | nil => rfl
  | cons b l ih =>
    have hb : (b == c) = false := by
      rw [beq_eq_false_iff_ne]; exact fun e => h (by simp [e])
    unfold Lib.indexByte
    rw [ih (fun hx => h (List.mem_cons_of_mem _ hx))]
    simp [hb]
theorem index_at (a r : List UInt8) (c : UInt8) (h : c ∉ a) : Lib.indexByte (a ++ c :: r) c = a.length := by
  induction a with
  | nil => simp [Lib.indexByte]
  | cons b a ih =>
    have hb : (b == c) = false := by
      rw [beq_eq_false_iff_ne]; exact fun e => h (by simp [e])
    rw [List.cons_append]
    unfold Lib.indexByte
    rw [ih (fun hx => h (List.mem_cons_of_mem _ hx))]
    have h1 : (((a.length : Nat) : Int) == -1) = false := by rw [beq_eq_false_iff_ne]; omega
    simp [hb, h1]
theorem cut_at (l : List UInt8) (c : UInt8) (h : c ∈ l) : ∃ a r, l = a ++ c :: r ∧ c ∉ a := by
  induction l with
  | nil => cases h
  | cons b l ih =>
    by_cases hb : b = c
    · exact ⟨[], l, by simp [hb], by simp⟩
    · rcases List.mem_cons.1 h with h | h
      · exact absurd h.symm hb
      · obtain ⟨a, r, e, hn⟩ := ih h
        exact ⟨b :: a, r, by simp [e], by simp [hn]; exact fun e => hb e.symm⟩
theorem index_has (l : List UInt8) (c : UInt8) : decide (0 ≤ Lib.indexByte l c) = l.contains c := by
  by_cases h : c ∈ l
  · obtain ⟨a, r, rfl, hn⟩ := cut_at l c h
    rw [index_at a r c hn]
    simp
  · rw [index_no l c h]
    simp [h]

/-- The last byte of a text, as a text. -/
theorem last_cut (t : List UInt8) (b : UInt8) : (Ln.bs (t ++ [b])).extract t.length (Ln.bs (t ++ [b])).size = Ln.bs [b] := by
  rw [← Ln.bs_of (ByteArray.extract _ _ _), Lib.extract_data, Ln.bs_data, Ln.bs_size]
  simp

end Go.Proofs.Ytodahdnooidmaaa
/-
  What line.Split answers, for every text that a string may hold: Ln.splitR; what was in memory stays as it was.
  Conditions: a string's length is at most the model's greatest.
  (This program has not all of these functions: split_at is left out here.)
-/
set_option maxRecDepth 4000
namespace Go.Proofs.Ytodahdnooidmaaa
open Go.RowKit

/-- A text of whole lines that is not empty has a first line. -/
theorem first_line (x : List UInt8) (h : Ln.shut x = true) (hn : x ≠ []) : ∃ a r, x = a ++ 10 :: r ∧ (10 : UInt8) ∉ a ∧ Ln.shut r = true ∧ Ln.full x = a :: Ln.full r := by
  have hm : (10 : UInt8) ∈ x := by
    induction x using Ln.snocRec with
    | nil => exact absurd rfl hn
    | snoc x b _ => rw [Ln.shut_snoc] at h; simp at h; simp [h]
  obtain ⟨a, r, rfl, ha⟩ := cut_at x 10 hm
  have hl := Ln.run_line a r ha
  exact ⟨a, r, rfl, ha, (Ln.shut_iff r).2 (by rw [← hl.2]; exact (Ln.shut_iff _).1 h), hl.1⟩

/-- What Split's loop holds at the head of each round: what is left, and the lines that were cut off. -/
def SplitRel (w : World) (s : List UInt8) (t v : Value) (wr : World) : Prop :=
  ∃ (x : List UInt8) (d : List (List UInt8)), t = .string (Ln.bs x) ∧ Ln.shut x = true ∧ x.length ≤ s.length ∧ Ln.full s = d ++ Ln.full x ∧ wr.ownsRow w.heap.size 9 1 v d.length (d.map strV) ∧ Below w.heap.size w wr

end Go.Proofs.Ytodahdnooidmaaa
/-
  What line.Join answers, for every row of texts: Ln.joinR; what was in memory stays as it was.
  Conditions: all texts together are of at most 2^46 bytes.
  (This program has not all of these functions: join_at is left out here.)
-/
set_option maxRecDepth 4000
namespace Go.Proofs.Ytodahdnooidmaaa
open Go.RowKit

theorem byte_info : (Try.prog.info? 5).map (fun i => (i.zero, i.size, i.bytes)) = some (some (.int .u8 0), 1, 1) := by kernel_rfl

/-- What Join's loop holds at the head of each round. -/
def JoinRel (w : World) (l : List (List UInt8)) (t i : Value) (wr : World) : Prop :=
  ∃ k : Nat, k ≤ l.length ∧ i = .int .i64 k ∧ Ln.anyNl (l.take k) = false ∧ wr.ownsRow w.heap.size 5 1 t (Ln.joinS (l.take k)).length (byV (Ln.joinS (l.take k))) ∧ Below w.heap.size w wr

theorem join_take (l : List (List UInt8)) (k : Nat) (hk : k < l.length) : Ln.joinS (l.take (k + 1)) = Ln.joinS (l.take k) ++ (l[k] ++ [10]) := by
  rw [List.take_succ_eq_append_getElem hk, Ln.joinS_snoc]
theorem join_le (l : List (List UInt8)) (k : Nat) : (Ln.joinS (l.take k)).length ≤ (Ln.joinS l).length := by
  conv => rhs; rw [← List.take_append_drop k l, Ln.joinS_append, List.length_append]
  omega

end Go.Proofs.Ytodahdnooidmaaa
/-
  What line.isOfWord and line.Words answer, for every text that a string may hold: Ln.sign and Ln.wordsR; what was in memory stays as it was.
  Conditions: a string's length is at most the model's greatest.
  (This program has not all of these functions: ofWord_at, words_at are left out here.)
-/
set_option maxRecDepth 4000
namespace Go.Proofs.Ytodahdnooidmaaa
open Go.RowKit

theorem bs_cut (s : List UInt8) (a b : Nat) : (Ln.bs s).extract a b = Ln.bs ((s.take b).drop a) := by
  rw [← Ln.bs_of (ByteArray.extract _ _ _), Lib.extract_data, Ln.bs_data, List.drop_take]
theorem bs_from (s : List UInt8) (a : Nat) : (Ln.bs s).extract a (Ln.bs s).size = Ln.bs (s.drop a) := by
  rw [bs_cut, Ln.bs_size, List.take_length]
theorem drop_more (s : List UInt8) (j k : Nat) (hj : j ≤ k) (hk : k < s.length) : (s.take (k + 1)).drop j = (s.take k).drop j ++ [s[k]] := by
  rw [List.take_succ_eq_append_getElem hk, List.drop_append_of_le_length (by simp; omega)]
theorem drop_none (s : List UInt8) (k : Nat) : (s.take k).drop k = [] := by simp
theorem drop_some (s : List UInt8) (j k : Nat) (hj : j < k) (hk : k ≤ s.length) : (s.take k).drop j ≠ [] := by
  intro h
  have := congrArg List.length h
  simp at this
  omega

/-- What Words' loop holds at the head of each round: the words that have ended, and where the last one began. -/
def WordsRel (w : World) (s : List UInt8) (v b i : Value) (wr : World) : Prop :=
  ∃ (k j : Nat) (d : List (List UInt8)), k ≤ s.length ∧ j ≤ k ∧ b = .int .i64 j ∧ i = .int .i64 k ∧ d.length ≤ 7 ∧ Ln.wrun (s.take k) = some (d, (s.take k).drop j) ∧ wr.ownsRow w.heap.size 9 1 v d.length (d.map strV) ∧ Below w.heap.size w wr

end Go.Proofs.Ytodahdnooidmaaa
/-
  What the reference's Split of layer 2 answers: Ln.splitR; what was in memory stays as it was.
  Conditions: a text that is split has at most 2^32 bytes.
  (This program has not all of these functions: rSplit_at is left out here.)
-/
set_option maxRecDepth 4000
namespace Go.Proofs.Ytodahdnooidmaaa
open Go.RowKit

/-- What the reference's Split holds at the head of each round. -/
def RSplitRel (w : World) (s : List UInt8) (v b i : Value) (wr : World) : Prop :=
  ∃ (k j : Nat) (d : List (List UInt8)), k ≤ s.length ∧ j ≤ k ∧ b = .int .i64 j ∧ i = .int .i64 k ∧ (s.take k).drop j = Ln.rest (s.take k) ∧ d = Ln.full (s.take k) ∧ wr.ownsRow w.heap.size 9 1 v d.length (d.map strV) ∧ Below w.heap.size w wr

end Go.Proofs.Ytodahdnooidmaaa
/-
  What the reference's sign and Words of layer 2 answer: Ln.sign and Ln.wordsR; what was in memory stays as it was.
  Conditions: a line has at most 2^32 bytes.
  (This program has not all of these functions: rsign_at, rWords_at are left out here.)
-/
set_option maxRecDepth 4000
namespace Go.Proofs.Ytodahdnooidmaaa
open Go.RowKit

/-- What the reference's Words holds at the head of each round: the words that have ended; the next one begins here. -/
def RWordsRel (w : World) (s : List UInt8) (v b : Value) (wr : World) : Prop :=
  ∃ (k : Nat) (d : List (List UInt8)), k ≤ s.length ∧ b = .int .i64 k ∧ d.length ≤ k ∧ Ln.wrun (s.take k) = some (d, []) ∧ wr.ownsRow w.heap.size 9 1 v d.length (d.map strV) ∧ Below w.heap.size w wr

end Go.Proofs.Ytodahdnooidmaaa
/-
  What num.leadingDigits and num.value answer, for every text that a string may hold: the digits ahead, and their value, or that it is above 2147483647.
  Conditions: a string's length is at most the model's greatest.
  (This program has not all of these functions: lead_at, value_at are left out here.)
-/
set_option maxRecDepth 4000
namespace Go.Proofs.Ytodahdnooidmaaa
open Go.RowKit


theorem lead_cut (s : ByteArray) (k : Nat) (hk : k ≤ s.size) (h : ∀ j (hj : j < s.size), j < k → Nm.isDig s[j] = true) (he : ∀ hk' : k < s.size, Nm.isDig s[k] = false) :
    s.extract 0 k = ⟨(Nm.lead s.data.toList).toArray⟩ := by
  have hl : s.data.toList.length = s.size := by simp
  rw [Nm.lead_of s.data.toList k (by omega) (fun j hj hjk => h j (by omega) hjk) (fun hk' => he (by omega))]
  apply ByteArray.ext
  apply Array.toList_inj.1
  rw [Lib.extract_data]
  simp

end Go.Proofs.Ytodahdnooidmaaa
/-
  What num.Take and num.Whole answer, for every text that a string may hold and every place: Nm.takeR and Nm.wholeR; nothing in memory turns.
  Conditions: a string's length is at most the model's greatest.
  (This program has not all of these functions: take_at, whole_at are left out here.)
-/
set_option maxRecDepth 4000
namespace Go.Proofs.Ytodahdnooidmaaa
open Go.RowKit

theorem ret3 {k : IntKind} {a b c a' b' c' : Int} (r : Int × Int × Int) (h : r = (a, b, c)) (h1 : a' = a) (h2 : b' = b) (h3 : c' = c) :
    Ending.returned (.tuple #[.int k a', .int k b', .int k c']) = .returned (.tuple #[.int k r.1, .int k r.2.1, .int k r.2.2]) := by rw [h, h1, h2, h3]
theorem ret2 {k : IntKind} {a b a' b' : Int} (r : Int × Int) (h : r = (a, b)) (h1 : a' = a) (h2 : b' = b) :
    Ending.returned (.tuple #[.int k a', .int k b']) = .returned (.tuple #[.int k r.1, .int k r.2]) := by rw [h, h1, h2]

end Go.Proofs.Ytodahdnooidmaaa
/-
  What num.Show answers, for every int: Nm.showS and Nm.showE; what was in memory stays as it was.
  Conditions: none.
-/
set_option maxRecDepth 4000
namespace Go.Proofs.Ytodahdnooidmaaa
open Go.RowKit

/-- Block b holds ten bytes, of which the last are t; what is older is as it was in w. -/
def Ten (w w' : World) (b : Nat) (t : List UInt8) : Prop :=
  Below w.heap.size w w' ∧ w.heap.size ≤ b ∧ t.length ≤ 10 ∧ ∃ cs : Array Value, w'.heap[b]? = some (.cells cs 106 (0, 0)) ∧ cs.size = 10 ∧ ∀ i (h : i < t.length), cs[10 - t.length + i]? = some (.int .u8 (t[i].toNat : Int))

theorem Ten.cell {w w' : World} {b : Nat} {t : List UInt8} (h : Ten w w' b t) (g : Nat) (hg : g < 10) : ∃ v, w'.cell? ⟨b, g, none⟩ = some v := by
  obtain ⟨_, _, _, cs, hb, hs, _⟩ := h
  exact ⟨cs[g], by rw [cell_of_row w' b g cs _ (0, 0) hb, Array.getElem?_eq_getElem (by omega)]⟩
theorem Ten.frozen {w w' : World} {b : Nat} {t : List UInt8} (h : Ten w w' b t) (g : Nat) : w'.frozen? ⟨b, g, none⟩ = false := by
  obtain ⟨_, _, _, cs, hb, _, _⟩ := h
  simp [World.frozen?, hb]
theorem Ten.put {w w' : World} {b : Nat} {t : List UInt8} (h : Ten w w' b t) (g : Nat) (hg : g + 1 + t.length = 10) (c : UInt8) : Ten w (w'.setCell ⟨b, g, none⟩ (.int .u8 (c.toNat : Int))) b (c :: t) := by
  obtain ⟨hG, hbs, ht, cs, hb, hs, hc⟩ := h
  refine ⟨hG.setCell (p := ⟨b, g, none⟩) hbs _, hbs, by simp; omega, cs.setIfInBounds g (.int .u8 (c.toNat : Int)), ?_, by simp [hs], fun i hi => ?_⟩
  · simp [World.setCell, Array.getElem?_modify, hb]
  · rcases i with _ | i
    · have e : 10 - (c :: t).length + 0 = g := by simp; omega
      rw [e]
      simp [Array.getElem?_setIfInBounds, hs]
      omega
    · have e : 10 - (c :: t).length + (i + 1) = 10 - t.length + i := by simp; omega
      rw [e, Array.getElem?_setIfInBounds, if_neg (by omega)]
      exact hc i (by simpa using hi)
theorem Ten.start (w : World) (t0 : TypeId) (h : t0 = 106) : Ten w (w.alloc (.cells #[.int .u8 0, .int .u8 0, .int .u8 0, .int .u8 0, .int .u8 0, .int .u8 0, .int .u8 0, .int .u8 0, .int .u8 0, .int .u8 0] t0)) w.heap.size [] := by
  subst h
  exact ⟨(Below.refl _ w).alloc (Nat.le_refl _) _, Nat.le_refl _, by simp, _, heap_alloc_new w _, rfl, fun i hi => absurd hi (by simp)⟩
theorem Ten.text {P : Program} {w w' : World} {b : Nat} {t : List UInt8} (h : Ten w w' b t) (g : Nat) (hg : g + t.length = 10) (src e dst : TypeId) (hs : P.underlying src = some (.slice e)) (he : P.underlying e = some (.int .u8)) (hd : P.underlying dst = some .string) (L cap : Nat) (hL : L = t.length) :
    (convert src dst (.slice (some ⟨b, g, none⟩) L cap)).run P w' = .ok (.string ⟨t.toArray⟩) w' := by
  subst hL
  obtain ⟨_, _, _, cs, hb, hsz, hc⟩ := h
  have := run_convert_bytes_arg (P := P) w' src e hs he b g t.length cap (t.map fun x => (x.toNat : Int)) (by simp) (fun i hi => by
    rw [cell_of_row w' b (g + i) cs _ (0, 0) hb]
    have := hc i hi
    rw [show 10 - t.length + i = g + i by omega] at this
    rw [this]
    simp [List.getD, List.getElem?_map, List.getElem?_eq_getElem hi]) dst hd
  rw [this]
  congr 2
  unfold strOfNums
  rw [List.map_map]
  congr 2
  conv => rhs; rw [← List.map_id t]
  apply List.map_congr_left
  intro x _
  simp

theorem slice_ten (W : World) (b g : Nat) (hg : g < 10) :
    (Instr.sliceAt 106 (.pointer (some ⟨b, 0, none⟩)) (some (.int .i64 (g : Int))) none none).run Try.prog W = .ok (.slice (some ⟨b, g, none⟩) (10 - g) (10 - g)) W := by
  have h10 : Try.prog.arrayLen 106 = 10 := by kernel_rfl
  have hel : Try.prog.elem 106 = 5 := by kernel_rfl
  have hsz : ∀ W, (sizeOf 5).run Try.prog W = .ok 1 W := fun _ => by kernel_rfl
  rw [run_sliceAt_array_l W 106 ⟨b, 0, none⟩ (by rw [h10, hel]; exact Try.underlying106) .i64 (g : Int) (by omega) (by rw [h10]; omega), h10, hel, hsz]
  simp only [Result.andThen, slicedAt, Int.toNat_natCast]
  rw [if_neg (by omega)]
  simp [Addr.add]
  intro h; simp [h]

theorem show_at (n : Nat) (w : World) (hm : n ≤ 2147483647) :
    Calls Try.prog 48 #[.int .i64 (n : Int)] w fun e w' => e = .returned (.tuple #[.string ⟨(Nm.digs n).toArray⟩, .int .i64 0]) ∧ Below w.heap.size w w' := by
  have HN := Lib.hid (Nm.digs_len10 n hm)
  have hb1 : decide ((n : Int) < 0) = false := by simp
  have hb2 : decide (2147483647 < (n : Int)) = false := by simp; omega
  go_enter Try.func48, Try.ntmps48
  go_wp2
  go_loopw [0, 5, 12] (fun a f c wr => ∃ (m g k : Nat) (t : List UInt8), a = .int .i64 m ∧ f = .int .i64 (g : Int) ∧ c = .int .i64 k ∧ k + g = 10 ∧ t.length = k ∧ m ≤ 2147483647 ∧ Nm.digs n = Nm.digs m ++ t ∧ Ten w wr w.heap.size t)
    (fun _ _ c _ => 10 - (intOf c).toNat)
  case atStart => exact ⟨n, 10, 0, [], rfl, rfl, rfl, rfl, rfl, hm, by simp, Ten.start w _ rfl⟩
  case round =>
    obtain ⟨m, g0, k, t, rfl, rfl, rfl, hk, ht, hm2, hd, hT⟩ := hrel
    have hk9 : k ≤ 9 := by
      have h1 := HN.out
      have h2 := Nm.digs_pos m
      rw [hd, List.length_append] at h1
      omega
    obtain ⟨g, rfl⟩ : ∃ g, g0 = g + 1 := ⟨g0 - 1, by omega⟩
    have HD := Lib.hid hd
    have HT := Lib.hid hT
    have HL := Lib.hid ht
    obtain ⟨v, hv⟩ := hT.cell g (by omega)
    have hf := hT.frozen g
    have hdig : (Nm.dig (m % 10)).toNat = 48 + m % 10 := Nm.dig_toNat _ (by omega)
    have e1 : ((Nm.dig (m % 10)).toNat : Int) = 48 + (m : Int) % 10 := by omega
    have hT2 := hT.put g (by omega) (Nm.dig (m % 10))
    rw [e1] at hT2
    have HT2 := Lib.hid hT2
    have hcv := hT2.text (P := Try.prog) g (by simp; omega) 107 5 9 Try.underlying107 Try.underlying5 Try.underlying9 (10 - g) (10 - g) (by simp; omega)
    have hsl := slice_ten (wr.setCell ⟨w.heap.size, g, none⟩ (.int .u8 (48 + (m : Int) % 10))) w.heap.size g (by omega)
    generalize hS : (⟨(Nm.dig (m % 10) :: t).toArray⟩ : ByteArray) = S at hcv
    have HS := Lib.hid hS
    clear hd hT ht hdig e1 hT2 hS
    by_cases h9 : m < 10
    · have hq : ((m : Int) / 10 == 0) = true := beq_iff_eq.2 (by omega)
      go_wp2
      go_ret2
      refine ⟨?_, HT2.out.1⟩
      have e2 : Nm.digs n = Nm.dig (m % 10) :: t := by
        rw [HD.out, Nm.digs_small m h9, Nat.mod_eq_of_lt h9]; rfl
      rw [e2, HS.out]
      rfl
    · have hq : ((m : Int) / 10 == 0) = false := beq_eq_false_iff_ne.2 (by omega)
      go_wp2
      go_roundw
      case rel =>
        refine ⟨m / 10, g, k + 1, Nm.dig (m % 10) :: t, by go_num, rfl, by go_num, by omega, by simp [HL.out], by omega, ?_, HT2.out⟩
        rw [HD.out, Nm.digs_big m (by omega)]
        simp
      case measure => simp [intOf]; omega

theorem show_no (n : Int) (w : World) (h : n < 0 ∨ 2147483647 < n) :
    Calls Try.prog 48 #[.int .i64 n] w fun e w' => e = .returned (.tuple #[.string ⟨#[]⟩, .int .i64 1]) ∧ w = w' := by
  rcases h with h | h
  · go_enter Try.func48, Try.ntmps48
    go_wp2
    go_ret2
    exact ⟨rfl, rfl⟩
  · have h' : ¬ n < 0 := by omega
    go_enter Try.func48, Try.ntmps48
    go_wp2
    go_ret2
    exact ⟨rfl, rfl⟩

/-- num.Show, for every int. -/
theorem show_any (n : Int) (w : World) :
    Calls Try.prog 48 #[.int .i64 n] w fun e w' => e = .returned (.tuple #[.string ⟨(Nm.showS n).toArray⟩, .int .i64 (Nm.showE n)]) ∧ Below w.heap.size w w' := by
  by_cases h : Nm.isNum n = true
  · obtain ⟨h0, h1⟩ := (Nm.isNum_iff n).1 h
    obtain ⟨m, rfl⟩ := Int.eq_ofNat_of_zero_le h0
    refine (show_at m w (by omega)).mono ?_
    rintro e w' ⟨rfl, hg⟩
    exact ⟨by rw [Nm.showS, Nm.showE, if_pos h, if_pos h, Int.toNat_natCast], hg⟩
  · have h' : n < 0 ∨ 2147483647 < n := by rw [Nm.isNum_iff] at h; omega
    refine (show_no n w h').mono ?_
    rintro e w' ⟨rfl, rfl⟩
    exact ⟨by rw [Nm.showS, Nm.showE, if_neg h, if_neg h], Below.refl _ _⟩
end Go.Proofs.Ytodahdnooidmaaa
/-
  What the reference's Digit, Is, digits, Show, Take and Whole of layer 1 answer, for every input: Nm.isDig, Nm.isNum, Nm.digs, Nm.showS and Nm.showE, Nm.takeR, Nm.wholeR.
  Conditions: a string's length is at most the model's greatest; digits: a number from 0 to 2147483647.
  (This program has not all of these functions: rDigit_at, rdigits_small, rdigits_at, rShow_at are left out here.)
-/
set_option maxRecDepth 4000
namespace Go.Proofs.Ytodahdnooidmaaa
open Go.RowKit

theorem rIs_at (n : Int) (w : World) :
    Calls Try.prog 38 #[.int .i64 n] w fun e w' => e = .returned (.bool (Nm.isNum n)) ∧ w = w' := by
  by_cases h : 0 ≤ n
  · have HR := Lib.hid (show Nm.isNum n = decide (n ≤ 2147483647) by simp [Nm.isNum, h])
    go_enter Try.func38, Try.ntmps38
    go_wp2
    go_ret
    exact ⟨ret_bool (by rw [HR.out]), rfl⟩
  · have HR := Lib.hid (show Nm.isNum n = false by simp [Nm.isNum, h])
    go_enter Try.func38, Try.ntmps38
    go_wp2
    go_ret
    exact ⟨ret_bool (by rw [HR.out]), rfl⟩

/-- One byte, as a text. -/
theorem one_text (c : UInt8) (v : Int) (hv : v = (c.toNat : Int)) (w : World) :
    (convert 107 9 (.slice (some ⟨w.heap.size, 0, none⟩) 1 1)).run Try.prog (w.alloc (.cells #[.int .u8 v] 5)) = .ok (.string ⟨[c].toArray⟩) (w.alloc (.cells #[.int .u8 v] 5)) := by
  subst hv
  have := run_convert_bytes_arg (P := Try.prog) (w.alloc (.cells #[.int .u8 (c.toNat : Int)] 5)) 107 5 Try.underlying107 Try.underlying5 w.heap.size 0 1 1 [(c.toNat : Int)] rfl (fun i hi => by
    obtain rfl : i = 0 := by omega
    rw [cell_of_row _ _ _ #[.int .u8 (c.toNat : Int)] 5 (0, 0) (heap_alloc_new w _)]
    rfl) 9 Try.underlying9
  rw [this]
  congr 2
  simp [strOfNums]

end Go.Proofs.Ytodahdnooidmaaa
/-
  What the reference's Take and Whole of layer 1 answer, for every input: Nm.takeR and Nm.wholeR.
  Conditions: a string's length is at most the model's greatest.
  (This program has not all of these functions: rTake_at, rWhole_at are left out here.)
-/
set_option maxRecDepth 4000
namespace Go.Proofs.Ytodahdnooidmaaa
open Go.RowKit

/-- What the first loop has found, when it ends at k: the digits from n on are those up to k. -/
theorem lead_found (s : ByteArray) (n k : Nat) (hnk : n ≤ k) (hk : k ≤ s.size) (h : ∀ j (hj : j < s.size), n ≤ j → j < k → Nm.isDig s[j] = true) (he : ∀ hk' : k < s.size, Nm.isDig s[k] = false) :
    Nm.lead (s.data.toList.drop n) = (s.data.toList.drop n).take (k - n) := by
  have hl : s.data.toList.length = s.size := by simp
  refine Nm.lead_of _ _ (by simp; omega) (fun j hj hjk => ?_) (fun hk' => ?_)
  · rw [List.getElem_drop]
    simp at hj
    exact h (n + j) (by omega) (by omega) (by omega)
  · rw [List.getElem_drop]
    simp at hk'
    have e : n + (k - n) = k := by omega
    have := he (by omega)
    simp only [e]
    exact this

theorem drop_at (s : ByteArray) (n i : Nat) (hni : n ≤ i) (hi : i < s.size) : ∃ h : i - n < (s.data.toList.drop n).length, (s.data.toList.drop n)[i - n] = s[i] := by
  refine ⟨by simp; omega, ?_⟩
  rw [List.getElem_drop]
  have e : n + (i - n) = i := by omega
  simp only [e]
  rfl

end Go.Proofs.Ytodahdnooidmaaa
