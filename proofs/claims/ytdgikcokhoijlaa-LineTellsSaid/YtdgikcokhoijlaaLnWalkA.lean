/-
  What line.ownText and line.Split answer, for every text that a string may hold: the text itself, and Ln.splitR; what was in memory stays as it was.
  Conditions: a string's length is at most the model's greatest.
-/
import Derived.Test.YtdgikcokhoijlaaLnLib
import Derived.Laws.IdiomStrings
import Derived.Laws.BytesArg
namespace Go.Proofs.Ytdgikcokhoijlaa
open Go.RowKit

theorem bytesRow_at (s : ByteArray) (c i : Nat) (h : i < s.size) : (bytesRow s c)[i]? = some (.int .u8 (s[i].toNat : Int)) := by
  have h' : i < s.data.size := h
  rw [bytesRow, Array.getElem?_append_left (by simpa using h'), Array.getElem?_map, Array.getElem?_eq_getElem h']
  rfl

theorem own_at (s : ByteArray) (w : World) :
    Calls Try.prog 19 #[.string s] w fun e w' => e = .returned (.string s) ∧ Below w.heap.size w w' := by
  have h1 := run_bytes_of_string (P := Try.prog) w 9 38 5 s Try.underlying9 Try.underlying38 Try.underlying5
  generalize grownCap w s.size 0 5 = cap at h1
  generalize hW : w.drew.alloc (.cells (bytesRow s cap) 5 ((bytesRow s cap).size, (bytesRow s cap).size + 1)) = W at h1
  have hb : Below w.heap.size w W := by rw [← hW]; exact ((Below.refl _ _).drew).alloc (by exact Nat.le_refl _) _
  have h2 : (convert 38 9 (.slice (some ⟨w.heap.size, 0, none⟩) s.size cap)).run Try.prog W = .ok (.string s) W := by
    have := run_convert_bytes_arg (P := Try.prog) W 38 5 Try.underlying38 Try.underlying5 w.heap.size 0 s.size cap (s.data.toList.map fun x => (x.toNat : Int)) (by simp) (fun i hi => by
      rw [cell_of_row W w.heap.size (0 + i) (bytesRow s cap) 5 ((bytesRow s cap).size, (bytesRow s cap).size + 1) (by rw [← hW]; exact heap_alloc_new w.drew _)]
      rw [Nat.zero_add, bytesRow_at s cap i hi]
      simp [List.getD, hi]
      rfl) 9 Try.underlying9
    rw [this]
    rw [nums_text, Ln.bs_of]
  have HB := Lib.hid hb
  have HW := Lib.hid hW
  clear hb hW
  go_enter Try.func19, Try.ntmps19
  go_wp2
  go_ret
  exact ⟨rfl, HB.out⟩

theorem str_info : (Try.prog.info? 9).map (fun i => (i.zero, i.size, i.bytes)) = some (some (.string ByteArray.empty), 1, 16) := by kernel_rfl

/-- A text is empty, or it is not: in the walk's own words. -/
theorem bs_empty (s : List UInt8) (h : s = []) : (Ln.bs s).toList = [] := by rw [Lib.toList_data, Ln.bs_data]; exact h
theorem bs_some (s : List UInt8) (h : s ≠ []) : (Ln.bs s).toList.isEmpty = false ∧ ¬ (Ln.bs s).toList = [] := by
  rw [Lib.toList_data, Ln.bs_data]
  exact ⟨by cases s with | nil => exact absurd rfl h | cons _ _ => rfl, h⟩

/-- A text of whole lines that is not empty has a first line. -/
theorem first_line (x : List UInt8) (h : Ln.shut x = true) (hn : x ≠ []) : ∃ a r, x = a ++ 10 :: r ∧ (10 : UInt8) ∉ a ∧ Ln.shut r = true ∧ Ln.full x = a :: Ln.full r := by
  have hm : (10 : UInt8) ∈ x := by
    induction x using Ln.snocRec with
    | nil => exact absurd rfl hn
    | snoc x b _ => rw [Ln.shut_snoc] at h; simp at h; simp [h]
  obtain ⟨a, r, rfl, ha⟩ := cut_at x 10 hm
  have hl := Ln.run_line a r ha
  exact ⟨a, r, rfl, ha, (Ln.shut_iff r).2 (by rw [← hl.2]; exact (Ln.shut_iff _).1 h), hl.1⟩

/-- What Split's loop holds at the head of each round: what is left, and the lines that were cut off. -/
def SplitRel (w : World) (s : List UInt8) (t v : Value) (wr : World) : Prop :=
  ∃ (x : List UInt8) (d : List (List UInt8)), t = .string (Ln.bs x) ∧ Ln.shut x = true ∧ x.length ≤ s.length ∧ Ln.full s = d ++ Ln.full x ∧ wr.ownsRow w.heap.size 9 1 v d.length (d.map strV) ∧ Below w.heap.size w wr

theorem split_at (s : List UInt8) (w : World) (hs : s.length ≤ maxLen) : Calls Try.prog 9 #[.string (Ln.bs s)] w (RetStrs w (Ln.splitR s)) := by
  obtain ⟨i0, hi0, hz0, hz1, hz2⟩ := info_parts str_info
  have I0 := Lib.hid hi0
  have I1 := Lib.hid hz0
  have I2 := Lib.hid hz1
  have I3 := Lib.hid hz2
  clear hi0 hz0 hz1 hz2
  have HM := Lib.hid hs
  unfold maxLen at hs
  by_cases hn : s = []
  · have hh : ¬ (400 < s.count 10) := by rw [hn]; decide
    have HR : Hid (Ln.splitR s = ([], 0)) := by rw [hn]; rfl
    have HC := Lib.hid (count_nl s 0 w (by rw [hn]; rfl))
    have he := bs_empty s hn
    clear hn hh
    go_enter Try.func9, Try.ntmps9
    go_wp2_with fail
    refine HC.out.mono ?_
    rintro e w' ⟨rfl, rfl⟩
    go_wp2
    refine wp_loop_rounds 1 ?_
    rw [rounds_succ]
    go_wp2
    go_ret2
    exact RetStrs.mk _ _ (by rw [HR.out]) (by rw [HR.out]; exact Strs.nil _ _) ((Below.refl _ _).alloc (Nat.le_refl _) _)
  obtain ⟨he, he2⟩ := bs_some s hn
  cases hsh : Ln.shut s with
  | false =>
    have HS := Lib.hid (hasSuffix_nl s false w HM.out hn hsh)
    have HR := Lib.hid (Ln.splitR_form s hsh)
    clear hsh
    go_enter Try.func9, Try.ntmps9
    go_wp2_with fail
    refine HS.out.mono ?_
    rintro e w' ⟨rfl, rfl⟩
    go_wp2
    go_ret2
    exact RetStrs.mk _ _ (by rw [HR.out]) (by rw [HR.out]; exact Strs.nil _ _) (Below.refl _ _)
  | true =>
    have HS := Lib.hid (hasSuffix_nl s true w HM.out hn hsh)
    have HSH := Lib.hid hsh
    clear hsh
    by_cases hm : 400 < s.count 10
    · have HR := Lib.hid (Ln.splitR_many s HSH.out hm)
      obtain ⟨n, hnn⟩ : ∃ n, s.count 10 = n := ⟨_, rfl⟩
      have HC := Lib.hid (count_nl s n w hnn)
      rw [hnn] at hm
      have hm2 : decide ((400 : Int) < (n : Int)) = true := by simp; omega
      clear hnn
      go_enter Try.func9, Try.ntmps9
      go_wp2_with fail
      refine HS.out.mono ?_
      rintro e w' ⟨rfl, rfl⟩
      go_wp2_with fail
      refine HC.out.mono ?_
      rintro e w' ⟨rfl, rfl⟩
      go_wp2
      go_ret2
      exact RetStrs.mk _ _ (by rw [HR.out]) (by rw [HR.out]; exact Strs.nil _ _) (Below.refl _ _)
    · have HR := Lib.hid (Ln.splitR_ok s HSH.out (by omega))
      have hfl : (Ln.full s).length ≤ 400 := by rw [Ln.full_len]; omega
      obtain ⟨n, hnn⟩ : ∃ n, s.count 10 = n := ⟨_, rfl⟩
      have HC := Lib.hid (count_nl s n w hnn)
      rw [hnn] at hm
      have hm2 : decide ((400 : Int) < (n : Int)) = false := by simp; omega
      clear hnn
      go_enter Try.func9, Try.ntmps9
      go_wp2_with fail
      refine HS.out.mono ?_
      rintro e w' ⟨rfl, rfl⟩
      go_wp2_with fail
      refine HC.out.mono ?_
      rintro e w' ⟨rfl, rfl⟩
      clear he he2
      go_wp2
      go_loopw [0, 4] (fun t v wr => SplitRel w s t v wr) (fun t _ _ => lenOf t)
      case atStart =>
        exact ⟨s, [], rfl, HSH.out, Nat.le_refl _, by simp, World.ownsRow_lit w #[] 0 (Nat.le_refl _) (by simp [maxLen]) (by simp), (Below.refl _ _).alloc (Nat.le_refl _) _⟩
      case round =>
        obtain ⟨x, d, rfl, hx, hxl, hd, hown, hb⟩ := hrel
        have HD := Lib.hid hd
        have HX := Lib.hid hx
        have HO := Lib.hid hown
        have HB := Lib.hid hb
        clear hd hx hown hb
        by_cases hxn : x = []
        · have he := bs_empty x hxn
          have HXN := Lib.hid hxn
          clear hxn
          go_wp2
          go_ret2
          refine RetStrs.mk _ _ (by rw [HR.out]) ?_ HB.out
          rw [HR.out]
          show Strs _ _ (Ln.full s)
          rw [HD.out, HXN.out]
          show Strs _ _ (d ++ [])
          rw [List.append_nil]
          exact Strs.own HO.out
        · obtain ⟨he, he2⟩ := bs_some x hxn
          obtain ⟨a, r, hxe, ha, hr, hfx⟩ := first_line x HX.out hxn
          have hlen : x.length = a.length + 1 + r.length := by rw [hxe]; simp; omega
          have hdl : d.length + 1 ≤ 400 := by
            have h := congrArg List.length HD.out
            rw [hfx] at h
            simp at h
            omega
          have HCUT := Lib.hid (fun W => cut_call a r W ha (by unfold maxLen; omega))
          rw [← hxe] at HCUT
          have HR2 := Lib.hid hr
          have HFX := Lib.hid hfx
          have hlen2 : a.length + 1 + r.length ≤ x.length := by omega
          have hlen3 : x.length ≤ a.length + 1 + r.length := by omega
          have HXE := Lib.hid hxe
          clear hxn ha hr hfx hlen hxe
          go_wp2_with fail
          refine (HCUT.out _).mono ?_
          rintro e w1 ⟨rfl, k, rfl⟩
          go_wp2_with fail
          refine (own_at (Ln.bs a) _).mono ?_
          rintro e w2 ⟨rfl, hb2⟩
          have hbw : Below wr.heap.size wr w2 := below_all (drewN_below wr k) hb2
          have hown2 := (own_below HO.out hbw).alloc (.cells #[strV a] 9)
          have hBw : Below w.heap.size w (w2.alloc (.cells #[strV a] 9)) := (HB.out.trans (hbw.mono HB.out.size)).alloc (Nat.le_trans HB.out.size hbw.size) _
          have hB0 : w.heap.size ≤ (w2.alloc (.cells #[strV a] 9)).heap.size := hBw.size
          have HO2 := Lib.hid hown2
          have HBW := Lib.hid hBw
          have HB0 := Lib.hid hB0
          clear hb2 hbw hown2 hBw hB0 HO
          go_wp2_with (at_builtin; refine wpList_append_own_at _ rfl _ _ 22 rfl w.heap.size 9 i0 _ 1 16 Try.underlying22 I0.out I1.out I2.out I3.out rfl (by decide) _ d.length (d.map strV) rfl HO2.out ⟨w2.heap.size, 0, none⟩ 1 1 [strV a] rfl rfl (new_one _ _ _) (one_strs a) (by simp only [maxLen]; omega) (by omega) HB0.out ?_; intro v' w3 hown' hgrow hnil hat; have HO3 := Lib.hid hown'; have HG3 := Lib.hid hgrow; clear hown' hgrow hnil hat)
          go_roundw
          case rel =>
            refine ⟨r, d ++ [a], rfl, HR2.out, by omega, ?_, Strs.own_snoc HO3.out, below_append HBW.out HB0.out HO2.out HG3.out⟩
            rw [HD.out, HFX.out]
            simp
          case measure =>
            show (Ln.bs r).size < (Ln.bs x).size
            rw [Ln.bs_size, Ln.bs_size]
            omega
end Go.Proofs.Ytdgikcokhoijlaa
