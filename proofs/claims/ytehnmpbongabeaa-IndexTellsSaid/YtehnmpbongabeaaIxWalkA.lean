/-
  What index's writersOf, Writers, Keys and Pairs answer: who writes a key, all keys that are written, all two writers of each key.
  Conditions: a history's rows have at most 2^32 elements each.
-/
import Derived.Test.YtehnmpbongabeaaIxIter
import Derived.Test.YtehnmpbongabeaaSoAll
set_option maxRecDepth 4000
namespace Go.Proofs.Ytehnmpbongabeaa
open Go.RowKit

theorem ns_snoc {W : World} {base : Nat} {e : TypeId} {v : Value} {d : List Nat} {n : Nat} (h : W.ownsRow base e 1 v (d.length + 1) ((ints d).flatMap nC ++ nC (n : Int))) : W.ownsRow base e 1 v (d ++ [n]).length ((ints (d ++ [n])).flatMap nC) := by
  rw [ints_snoc, flat_snoc, List.length_append]
  exact h
theorem ns_own {W : World} {base : Nat} {e : TypeId} {v : Value} {d : List Nat} (h : W.ownsRow base e 1 v d.length ((ints d).flatMap nC)) : Ns W v (ints d) := by
  refine Rows'.own (base := base) (e := e) ?_
  rw [ints_len]
  exact h
/-- A row of numbers, as the walk spells it. -/
theorem nums_spelled {w : World} {v : Value} {l : List Nat} (h : Ns w v (ints l)) : ∃ A c, v = .slice A l.length c ∧ ∀ (k : Nat) (hk : k < l.length), ∃ ad : Addr, A = some ad ∧ ad.block < w.heap.size ∧ w.cell? (ad.add k) = some (.int .i64 (l[k] : Int)) := by
  obtain ⟨A, c, hv, hf⟩ := h.spelled
  rw [ints_len] at hv
  refine ⟨A, c, hv, fun k hk => ?_⟩
  have := hf k (by rw [ints_len]; exact hk)
  rw [ints_at l k hk] at this
  exact this

/-- A row of numbers of the call's own. -/
def RetInts (w : World) (l : List Nat) (e : Ending) (w' : World) : Prop := ∃ v, e = .returned v ∧ w'.ownsRow w.heap.size 3 1 v l.length ((ints l).flatMap nC) ∧ Below w.heap.size w w'
set_option maxHeartbeats 1000000 in
theorem writersOf9_at (h : List So.Txn) (u : Value) (key : Int) (w : World) (hv : Txns w u h) (hs : Ix.Small h) : Calls Try.prog 25 #[.agg #[u], .int .i64 key] w (RetInts w (Ix.writers h key)) := by
  obtain ⟨i0, hi0, hz0, hz1, hz2⟩ := info_parts int_info
  have I0 := Lib.hid hi0
  have I1 := Lib.hid hz0
  have I2 := Lib.hid hz1
  have I3 := Lib.hid hz2
  clear hi0 hz0 hz1 hz2
  have HB0 := Lib.hid (alloc_below w (.cells #[u] 24))
  obtain ⟨A, c, rfl, hform⟩ := hv.spelled
  have HF := Lib.hid hform
  have hl := hs.1
  have HO := Lib.hid hs.2
  clear hform hv hs
  go_enter Try.func25, Try.ntmps25
  go_wp2_with fail
  go_loopw [5, 11] (fun v i wr => ∃ (k : Nat) (d : List Nat), k ≤ h.length ∧ i = .int .i64 k ∧ d.length ≤ k ∧ Hid (d = Ix.writersTo h key k) ∧ wr.ownsRow w.heap.size 3 1 v d.length ((ints d).flatMap nC) ∧ Hid (Below w.heap.size w wr)) (fun _ i _ => h.length - (intOf i).toNat)
  case atStart => exact ⟨0, [], Nat.zero_le _, rfl, Nat.le_refl _, rfl, World.ownsRow_nil _ _ _ _, HB0.out⟩
  case round =>
    obtain ⟨k, d, hk, rfl, hdl, HD, hown, HB⟩ := hrel
    have HW := Lib.hid hown
    obtain ⟨A', cp, rfl⟩ := own_form hown
    clear hown
    by_cases hlt : k < h.length
    · obtain ⟨ad, x, y, rfl, hblk, hE, hx, hy⟩ := HF.out k hlt
      obtain ⟨e0, e1, e2⟩ := hE.below hblk HB.out
      have HYes := Lib.hid (fun q => @Ix.writersTo_yes h key k hlt q)
      have HNo := Lib.hid (fun q => @Ix.writersTo_no h key k hlt q)
      have hol := (HO.out _ (List.getElem_mem hlt)).1
      generalize h[k] = t at *
      obtain ⟨s, ws, rs⟩ := t
      dsimp only at e0 hol hx hy HYes HNo
      obtain ⟨A1, c1, rfl, _⟩ := hx.spelled
      obtain ⟨A2, c2, rfl, _⟩ := hy.spelled
      have HX := Lib.hid ((hx.below HB.out).below (alloc_below wr (.cells #[.int .i64 s, .slice A1 ws.length c1, .slice A2 rs.length c2] 44)))
      have HB1 := Lib.hid (below_all HB.out (alloc_below wr (.cells #[.int .i64 s, .slice A1 ws.length c1, .slice A2 rs.length c2] 44)))
      have HW1 := Lib.hid (HW.out.alloc (.cells #[.int .i64 s, .slice A1 ws.length c1, .slice A2 rs.length c2] 44))
      clear hE hx hy HW HB
      go_wp2_with fail
      generalize wr.alloc (.cells #[.int .i64 s, .slice A1 ws.length c1, .slice A2 rs.length c2] 44) = w1 at *
      refine (intContains_at ws key _ _ HX.out hol).mono ?_
      rintro e w2 ⟨rfl, rfl⟩
      cases hg : decide (key ∈ ws) with
      | false =>
        have HD2 : Hid (d = Ix.writersTo h key (k + 1)) := by rw [Hid, HNo.out hg]; exact HD.out
        clear hg
        go_wp2_with fail
        go_roundw
        case rel => exact ⟨k + 1, d, by omega, by go_num, by omega, HD2, HW1.out, HB1⟩
        case measure => simp [intOf]; omega
      | true =>
        have HD2 : Hid (d ++ [k] = Ix.writersTo h key (k + 1)) := by rw [Hid, HYes.out hg, ← HD.out]
        have HW2 := Lib.hid (HW1.out.alloc (.cells #[.int .i64 (k : Int)] 3))
        have HB2 := Lib.hid (below_all HB1.out (alloc_below w1 (.cells #[.int .i64 (k : Int)] 3)))
        have HN := Lib.hid (new_nC w1 (k : Int) 3)
        clear hg
        go_wp2_with (at_builtin; refine wpList_append_own_at _ rfl _ _ 30 rfl w.heap.size 3 i0 _ 1 8 Try.underlying30 I0.out I1.out I2.out I3.out rfl (by decide) _ d.length _ rfl HW2.out ⟨w1.heap.size, 0, none⟩ 1 1 (nC (k : Int)) rfl rfl HN.out (one_nC _) (by simp only [maxLen]; omega) (by omega) HB2.out.size ?_; intro v2 w2 hown2 hgrow2 hnil2 hat2; have HO2 := Lib.hid hown2; have HB3 := Lib.hid (below_append HB2.out HB2.out.size HW2.out hgrow2); clear hown2 hgrow2 hnil2 hat2)
        go_roundw
        case rel => exact ⟨k + 1, d ++ [k], by omega, by go_num, by simp; omega, HD2, ns_snoc HO2.out, HB3⟩
        case measure => simp [intOf]; omega
    · obtain rfl : k = h.length := by omega
      go_wp2_with fail
      go_ret
      refine ⟨_, rfl, ?_, HB.out⟩
      rw [show Ix.writers h key = d from HD.out.symm]
      exact HW.out

theorem writers9_at (h : List So.Txn) (u : Value) (key : Int) (w : World) (hv : Txns w u h) (hs : Ix.Small h) : Calls Try.prog 12 #[.agg #[u], .int .i64 key] w (RetNums w (Ix.writersA h key)) := by
  have HB0 := Lib.hid (alloc_below w (.cells #[u] 24))
  have HV := Lib.hid hv
  have HS := Lib.hid hs
  obtain ⟨A, c, rfl, _⟩ := hv.spelled
  have c0 := (Boxed.new w 24 (.slice A h.length c)).cell
  have HC0 := Lib.hid c0
  clear hv hs
  have HY := Lib.hid (fun q => @Ix.writersA_yes h q key)
  have HN := Lib.hid (fun q => @Ix.writersA_no h q key)
  generalize Ix.writersA h key = wa at *
  go_enter Try.func12, Try.ntmps12
  go_wp2_with fail
  generalize w.alloc (.cells #[.slice A h.length c] 24) = w1 at *
  refine (hRight_at h _ w1 (HV.out.below HB0.out) HS.out.2).mono ?_
  rintro e w2 ⟨rfl, hb2⟩
  have HB2 := Lib.hid (below_all HB0.out hb2)
  have c2 := cell_stays hb2 c0
  cases hr : Hi.rightB h with
  | false =>
    have HR := Lib.hid (HN.out hr)
    clear hr hb2
    go_wp2_with fail
    go_ret
    exact ⟨_, rfl, by rw [HR.out]; exact Ns.nil _ _, HB2.out⟩
  | true =>
    have HR := Lib.hid (HY.out hr)
    clear hr hb2
    go_wp2_with fail
    refine (writersOf9_at h _ key w2 (HV.out.below HB2.out) HS.out).mono ?_
    rintro e w3 ⟨v3, rfl, ho3, hb3⟩
    have HV3 := Lib.hid (ns_own ho3)
    have HB3 := Lib.hid (below_all HB2.out hb3)
    obtain ⟨A3, n3, c3, rfl⟩ := own_any ho3
    clear ho3 hb3
    go_wp2_with fail
    go_ret
    exact ⟨_, rfl, by rw [HR.out]; exact HV3.out, HB3.out⟩

set_option maxHeartbeats 1000000 in
theorem keys9_at (h : List So.Txn) (u : Value) (w : World) (hv : Txns w u h) (hs : Ix.Small h) : Calls Try.prog 16 #[.agg #[u]] w (RetNums w (Ix.keysA h)) := by
  obtain ⟨i0, hi0, hz0, hz1, hz2⟩ := info_parts int_info
  have I0 := Lib.hid hi0
  have I1 := Lib.hid hz0
  have I2 := Lib.hid hz1
  have I3 := Lib.hid hz2
  clear hi0 hz0 hz1 hz2
  have HB0 := Lib.hid (alloc_below w (.cells #[u] 24))
  have HV := Lib.hid hv
  have HS := Lib.hid hs
  obtain ⟨A, c, rfl, _⟩ := hv.spelled
  have c0 := (Boxed.new w 24 (.slice A h.length c)).cell
  clear hv hs
  have HY := Lib.hid (fun q => @Ix.keysA_yes h q)
  have HN := Lib.hid (fun q => @Ix.keysA_no h q)
  generalize Ix.keysA h = ka at *
  go_enter Try.func16, Try.ntmps16
  go_wp2_with fail
  have hs1 : (w.alloc (.cells #[.slice A h.length c] 24)).heap.size = w.heap.size + 1 := by simp
  generalize w.alloc (.cells #[.slice A h.length c] 24) = w1 at *
  refine (hRight_at h _ w1 (HV.out.below HB0.out) HS.out.2).mono ?_
  rintro e w2 ⟨rfl, hb2⟩
  have HB2 := Lib.hid (below_all HB0.out hb2)
  have HC2 := Lib.hid (cell_stays hb2 c0)
  have HV2 := Lib.hid (HV.out.below HB2.out)
  have hle : w.heap.size ≤ w2.heap.size := HB2.out.size
  clear c0 hs1
  cases hr : Hi.rightB h with
  | false =>
    have HR := Lib.hid (HN.out hr)
    clear hr hb2 hle
    go_wp2_with fail
    go_ret
    exact ⟨_, rfl, by rw [HR.out]; exact Ns.nil _ _, HB2.out⟩
  | true =>
    have HR := Lib.hid (HY.out hr)
    have HLE := Lib.hid hle
    clear hr hb2 hle
    go_wp2_with fail
    go_loopw [3, 8] (fun v i wr => ∃ (k : Nat) (d : List Nat), k ≤ 16 ∧ i = .int .i64 k ∧ d.length ≤ k ∧ Hid (d = Ix.keysTo h k) ∧ wr.ownsRow w2.heap.size 3 1 v d.length ((ints d).flatMap nC) ∧ Hid (Below w2.heap.size w2 wr)) (fun _ i _ => 16 - (intOf i).toNat)
    case atStart => exact ⟨0, [], Nat.zero_le _, rfl, Nat.le_refl _, rfl, World.ownsRow_nil _ _ _ _, Below.refl _ _⟩
    case round =>
      obtain ⟨k, d, hk, rfl, hdl, HD, hown, HB⟩ := hrel
      have HW := Lib.hid hown
      obtain ⟨A', cp, rfl⟩ := own_form hown
      clear hown
      by_cases hlt : k < 16
      · have d0 : decide ((k : Int) < 16) = true := decide_eq_true (by omega)
        have c3 := cell_stays HB.out HC2.out
        have HYes := Lib.hid (fun q => @Ix.keysTo_yes h k q)
        have HNo := Lib.hid (fun q => @Ix.keysTo_no h k q)
        go_wp2_with fail
        refine (writersOf9_at h _ (k : Int) wr (HV2.out.below HB.out) HS.out).mono ?_
        rintro e w3 ⟨v3, rfl, ho3, hb3⟩
        have HW1 := Lib.hid (own_below HW.out hb3)
        have HB1 := Lib.hid (below_all HB.out hb3)
        obtain ⟨A3, cc3, rfl⟩ := own_form ho3
        clear ho3 hb3 HW HB c3
        generalize (Ix.writers h (k : Int)).length = m at *
        by_cases hm : 0 < m
        · have d1 : decide (0 < m) = true := decide_eq_true hm
          have HD2 : Hid (d ++ [k] = Ix.keysTo h (k + 1)) := by rw [Hid, HYes.out hm, ← HD.out]
          have HW2 := Lib.hid (HW1.out.alloc (.cells #[.int .i64 (k : Int)] 3))
          have HB2 := Lib.hid (below_all HB1.out (alloc_below w3 (.cells #[.int .i64 (k : Int)] 3)))
          have HN := Lib.hid (new_nC w3 (k : Int) 3)
          clear hm
          go_wp2_with (at_builtin; refine wpList_append_own_at _ rfl _ _ 30 rfl w2.heap.size 3 i0 _ 1 8 Try.underlying30 I0.out I1.out I2.out I3.out rfl (by decide) _ d.length _ rfl HW2.out ⟨w3.heap.size, 0, none⟩ 1 1 (nC (k : Int)) rfl rfl HN.out (one_nC _) (by simp only [maxLen]; omega) (by omega) HB2.out.size ?_; intro v4 w4 hown2 hgrow2 hnil2 hat2; have HO2 := Lib.hid hown2; have HB3 := Lib.hid (below_append HB2.out HB2.out.size HW2.out hgrow2); clear hown2 hgrow2 hnil2 hat2)
          go_roundw
          case rel => exact ⟨k + 1, d ++ [k], by omega, by go_num, by simp; omega, HD2, ns_snoc HO2.out, HB3⟩
          case measure => simp [intOf]; omega
        · have d1 : decide (0 < m) = false := decide_eq_false hm
          have HD2 : Hid (d = Ix.keysTo h (k + 1)) := by rw [Hid, HNo.out hm]; exact HD.out
          clear hm
          go_wp2_with fail
          go_roundw
          case rel => exact ⟨k + 1, d, by omega, by go_num, by omega, HD2, HW1.out, HB1⟩
          case measure => simp [intOf]; omega
      · have d0 : decide ((k : Int) < 16) = false := decide_eq_false (by omega)
        have hk16 : k = 16 := by omega
        have HK := Lib.hid hk16
        clear hk16
        go_wp2_with fail
        go_ret
        refine ⟨_, rfl, ?_, below_all HB2.out HB.out⟩
        have hdk : Ix.keys h = d := by rw [HD.out, HK.out]; rfl
        rw [HR.out, hdk]
        exact ns_own HW.out
end Go.Proofs.Ytehnmpbongabeaa
