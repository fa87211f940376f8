/-
  What the reference of layer 9 answers for who writes a key, and from whom a transaction reads it.
  Conditions: a history's rows have at most 2^32 elements each.
-/
import Derived.Test.YtehnmpbongabeaaIxWalkD
import Derived.Test.YtehnmpbongabeaaIxWalkB
import Derived.Test.YtehnmpbongabeaaHiRef
set_option maxRecDepth 4000
namespace Go.Proofs.Ytehnmpbongabeaa
open Go.RowKit

/-! What is not valid is taken for no transactions. -/
namespace Ix
open So (Txn)
noncomputable def only (h : List Txn) : List Txn := if Hi.rightB h = true then h else []
theorem only_yes {h : List Txn} (q : Hi.rightB h = true) : only h = h := if_pos q
theorem only_no {h : List Txn} (q : Hi.rightB h = false) : only h = [] := if_neg (by rw [q]; simp)
theorem only_len (h : List Txn) : (only h).length ≤ 32 := by
  cases q : Hi.rightB h with
  | true => rw [only_yes q]; exact ((Hi.rightB_iff h).1 q).1
  | false => rw [only_no q]; simp
theorem writersA_is (h : List Txn) (key : Int) : writersA h key = writers (only h) key := by
  cases q : Hi.rightB h with
  | true => rw [only_yes q, writersA_yes q]
  | false => rw [only_no q, writersA_no q]; rfl
theorem fromA_is (h : List Txn) (t key : Int) : fromA h t key = fromI (only h) t key := by
  cases q : Hi.rightB h with
  | true => rw [only_yes q, fromA_yes q]
  | false => rw [only_no q, fromA_no q]; unfold fromI fromO; simp
theorem writers_nil (key : Int) : writers [] key = [] := rfl
theorem keysA_is (h : List Txn) : keysA h = keysTo (only h) 16 := by
  cases q : Hi.rightB h with
  | true => rw [only_yes q, keysA_yes q]; rfl
  | false =>
    rw [only_no q, keysA_no q]
    unfold keysTo
    simp [writers_nil]
theorem pairsA_is (h : List Txn) : pairsA h = pairsTo (only h) 16 := by
  cases q : Hi.rightB h with
  | true => rw [only_yes q, pairsA_yes q]; rfl
  | false =>
    rw [only_no q, pairsA_no q]
    unfold pairsTo
    simp [writers_nil, twos]
/-- Who reads a key from somebody, among the first k. -/
noncomputable def readersTo (h : List Txn) (key f : Int) (k : Nat) : List Nat := (List.range k).filter fun (t : Nat) => fromA h (t : Int) key == some f
theorem readersTo_yes {h : List Txn} {key f : Int} {k : Nat} (q : fromA h (k : Int) key = some f) : readersTo h key f (k + 1) = readersTo h key f k ++ [k] := by
  unfold readersTo
  rw [List.range_succ, List.filter_append]
  simp [q]
theorem readersTo_no {h : List Txn} {key f : Int} {k : Nat} (q : fromA h (k : Int) key ≠ some f) : readersTo h key f (k + 1) = readersTo h key f k := by
  unfold readersTo
  rw [List.range_succ, List.filter_append]
  simp [q]
theorem readersTo_all (h : List Txn) (key f : Int) : readersTo h key f h.length = readersA h key f := by
  cases q : Hi.rightB h with
  | true =>
    rw [readersA_yes q]
    unfold readersTo readers
    refine List.filter_congr fun t _ => ?_
    rw [fromA_yes q, fromI_nat]
  | false =>
    rw [readersA_no q]
    unfold readersTo
    simp [fromA_no q]
theorem readersTo_len (h : List Txn) (key f : Int) (k : Nat) : (readersTo h key f k).length ≤ k := by
  have := List.length_filter_le (fun (t : Nat) => fromA h (t : Int) key == some f) (List.range k)
  rw [List.length_range] at this
  exact this
/-- The first read of a key, step by step. -/
theorem fromO_hit {h : List Txn} {t : Nat} (ht : t < h.length) {key : Int} {i : Nat} (hi : i < h[t].reads.length) (hno : ∀ j (hj : j < h[t].reads.length), j < i → h[t].reads[j].1 ≠ key) (q : h[t].reads[i].1 = key) : fromO h t key = some h[t].reads[i].2 := by
  unfold fromO
  rw [List.getElem?_eq_getElem ht]
  show ((h[t].reads.find? fun y => y.1 == key).map (·.2)) = _
  have e : h[t].reads.find? (fun y => y.1 == key) = some h[t].reads[i] := by
    rw [List.find?_eq_some_iff_getElem]
    exact ⟨beq_iff_eq.2 q, i, hi, rfl, fun j hj => by simpa using hno j (by omega) hj⟩
  rw [e]
  rfl
theorem fromO_none {h : List Txn} {t : Nat} (ht : t < h.length) {key : Int} (hno : ∀ j (hj : j < h[t].reads.length), h[t].reads[j].1 ≠ key) : fromO h t key = none := by
  unfold fromO
  rw [List.getElem?_eq_getElem ht]
  show ((h[t].reads.find? fun y => y.1 == key).map (·.2)) = _
  have e : h[t].reads.find? (fun y => y.1 == key) = none := by
    rw [List.find?_eq_none]
    intro y hy
    obtain ⟨j, hj, rfl⟩ := List.getElem_of_mem hy
    simpa using hno j hj
  rw [e]
  rfl
end Ix

set_option maxHeartbeats 1000000 in
theorem rWriters9_at (h : List So.Txn) (u : Value) (key : Int) (w : World) (hv : Txns w u h) (hs : Ix.Small h) : Calls Try.prog 13 #[.agg #[u], .int .i64 key] w (RetInts w (Ix.writersA h key)) := by
  obtain ⟨i0, hi0, hz0, hz1, hz2⟩ := info_parts int_info
  have I0 := Lib.hid hi0
  have I1 := Lib.hid hz0
  have I2 := Lib.hid hz1
  have I3 := Lib.hid hz2
  clear hi0 hz0 hz1 hz2
  have HB0 := Lib.hid (alloc_below w (.cells #[u] 24))
  have HV := Lib.hid hv
  obtain ⟨A, c, rfl, hform⟩ := hv.spelled
  have c0 := (Boxed.new w 24 (.slice A h.length c)).cell
  have HF := Lib.hid hform
  have hl := hs.1
  have HO := Lib.hid hs.2
  have HY := Lib.hid (fun q => @Ix.writersA_yes h q key)
  have HN := Lib.hid (fun q => @Ix.writersA_no h q key)
  generalize Ix.writersA h key = wa at *
  clear hform hv hs
  go_enter Try.func13, Try.ntmps13
  go_wp2_with fail
  generalize w.alloc (.cells #[.slice A h.length c] 24) = w1 at *
  refine (rRight8_at h _ w1 (HV.out.below HB0.out) HO.out).mono ?_
  rintro e w2 ⟨rfl, hb2⟩
  have HB2 := Lib.hid (below_all HB0.out hb2)
  have c2 := cell_stays hb2 c0
  clear c0
  cases hr : Hi.rightB h with
  | false =>
    have HR := Lib.hid (HN.out hr)
    clear hr hb2
    go_wp2_with fail
    go_loopw [5, 7] (fun v i wr => v = .slice none 0 0 ∧ i = .int .i64 0 ∧ Hid (Below w.heap.size w wr)) (fun _ _ _ => 0)
    case atStart => exact ⟨rfl, rfl, HB2⟩
    case round =>
      obtain ⟨rfl, rfl, HB⟩ := hrel
      go_wp2_with fail
      go_ret
      exact ⟨_, rfl, by rw [HR.out]; exact World.ownsRow_nil _ _ _ _, HB.out⟩
  | true =>
    have HR := Lib.hid (HY.out hr)
    have HC2 := Lib.hid c2
    clear hr hb2
    go_wp2_with fail
    go_loopw [5, 7] (fun v i wr => ∃ (k : Nat) (d : List Nat), k ≤ h.length ∧ i = .int .i64 k ∧ d.length ≤ k ∧ Hid (d = Ix.writersTo h key k) ∧ wr.ownsRow w2.heap.size 3 1 v d.length ((ints d).flatMap nC) ∧ Hid (Below w2.heap.size w2 wr)) (fun _ i _ => h.length - (intOf i).toNat)
    case atStart => exact ⟨0, [], Nat.zero_le _, rfl, Nat.le_refl _, rfl, World.ownsRow_nil _ _ _ _, Below.refl _ _⟩
    case round =>
      obtain ⟨k, d, hk, rfl, hdl, HD, hown, HB⟩ := hrel
      have HW := Lib.hid hown
      obtain ⟨A', cp, rfl⟩ := own_form hown
      clear hown
      have c3 := cell_stays HB.out HC2.out
      by_cases hlt : k < h.length
      · obtain ⟨ad, x, y, rfl, hblk, hE, hx, hy⟩ := HF.out k hlt
        obtain ⟨e0, e1, e2⟩ := hE.below hblk (below_all HB2.out HB.out)
        have HYes := Lib.hid (fun q => @Ix.writersTo_yes h key k hlt q)
        have HNo := Lib.hid (fun q => @Ix.writersTo_no h key k hlt q)
        have hol := (HO.out _ (List.getElem_mem hlt)).1
        generalize h[k] = t at *
        obtain ⟨A1, c1, rfl, _⟩ := hx.spelled
        obtain ⟨A2, c5, rfl, _⟩ := hy.spelled
        have HX := Lib.hid (hx.below (below_all HB2.out HB.out))
        clear hE hx hy
        go_wp2_with fail
        refine (rWrites8_at t _ _ key wr HX.out ⟨_, _, _, rfl⟩ hol).mono ?_
        rintro e w3 ⟨rfl, hb3⟩
        have HW1 := Lib.hid (own_below HW.out hb3)
        have HB1 := Lib.hid (below_all HB.out hb3)
        clear HW HB hb3
        cases hg : decide (key ∈ t.writes) with
        | false =>
          have HD2 : Hid (d = Ix.writersTo h key (k + 1)) := by rw [Hid, HNo.out hg]; exact HD.out
          clear hg
          go_wp2_with fail
          go_roundw
          case rel => exact ⟨k + 1, d, by omega, by go_num, by omega, HD2, HW1.out, HB1⟩
          case measure => simp [intOf]; omega
        | true =>
          have HD2 : Hid (d ++ [k] = Ix.writersTo h key (k + 1)) := by rw [Hid, HYes.out hg, ← HD.out]
          have HW2 := Lib.hid (HW1.out.alloc (.cells #[.int .i64 (k : Int)] 3))
          have HB3 := Lib.hid (below_all HB1.out (alloc_below w3 (.cells #[.int .i64 (k : Int)] 3)))
          have HN3 := Lib.hid (new_nC w3 (k : Int) 3)
          clear hg
          go_wp2_with (at_builtin; refine wpList_append_own_at _ rfl _ _ 30 rfl w2.heap.size 3 i0 _ 1 8 Try.underlying30 I0.out I1.out I2.out I3.out rfl (by decide) _ d.length _ rfl HW2.out ⟨w3.heap.size, 0, none⟩ 1 1 (nC (k : Int)) rfl rfl HN3.out (one_nC _) (by simp only [maxLen]; omega) (by omega) HB3.out.size ?_; intro v2 w4 hown2 hgrow2 hnil2 hat2; have HO2 := Lib.hid hown2; have HB4 := Lib.hid (below_append HB3.out HB3.out.size HW2.out hgrow2); clear hown2 hgrow2 hnil2 hat2)
          go_roundw
          case rel => exact ⟨k + 1, d ++ [k], by omega, by go_num, by simp; omega, HD2, ns_snoc HO2.out, HB4⟩
          case measure => simp [intOf]; omega
      · have hkl : k = h.length := by omega
        have HK := Lib.hid hkl
        clear hkl
        go_wp2_with fail
        go_ret
        refine ⟨_, rfl, ?_, below_all HB2.out HB.out⟩
        have hdk : Ix.writers h key = d := by rw [HD.out, HK.out]; rfl
        rw [HR.out, hdk]
        exact HW.out.mono HB2.out.size

set_option maxHeartbeats 1000000 in
theorem rFrom9_at (h : List So.Txn) (u : Value) (t key : Int) (w : World) (hv : Txns w u h) (hs : Ix.Small h) : Calls Try.prog 10 #[.agg #[u], .int .i64 t, .int .i64 key] w (RetFrom w (Ix.fromA h t key)) := by
  have HB0 := Lib.hid (alloc_below w (.cells #[u] 24))
  have HV := Lib.hid hv
  obtain ⟨A, c, rfl, hform⟩ := hv.spelled
  have c0 := (Boxed.new w 24 (.slice A h.length c)).cell
  have HF := Lib.hid hform
  have hl := hs.1
  have HO := Lib.hid hs.2
  have HY := Lib.hid (fun q => @Ix.fromA_yes h q t key)
  have HN := Lib.hid (fun q => @Ix.fromA_no h q t key)
  generalize Ix.fromA h t key = fa at *
  clear hform hv hs
  go_enter Try.func10, Try.ntmps10
  go_wp2_with fail
  generalize w.alloc (.cells #[.slice A h.length c] 24) = w1 at *
  refine (rRight8_at h _ w1 (HV.out.below HB0.out) HO.out).mono ?_
  rintro e w2 ⟨rfl, hb2⟩
  have HB2 := Lib.hid (below_all HB0.out hb2)
  have c2 := cell_stays hb2 c0
  clear c0 hb2
  cases hr : Hi.rightB h with
  | false =>
    have HR := Lib.hid (HN.out hr)
    clear hr
    go_wp2_with fail
    go_ret2
    exact ⟨by rw [HR.out]; rfl, HB2.out⟩
  | true =>
    have HR := Lib.hid (HY.out hr)
    clear hr
    by_cases h0 : t < 0
    · have d0 : decide (t < 0) = true := decide_eq_true h0
      have HNO : Hid (Ix.fromI h t key = none) := Ix.fromI_out (.inr h0)
      clear h0
      go_wp2_with fail
      go_ret2
      exact ⟨by rw [HR.out, HNO.out]; rfl, HB2.out⟩
    · have d0 : decide (t < 0) = false := decide_eq_false h0
      by_cases h1 : (h.length : Int) ≤ t
      · have d1 : decide ((h.length : Int) ≤ t) = true := decide_eq_true h1
        have HNO : Hid (Ix.fromI h t key = none) := Ix.fromI_out (.inl h1)
        clear h0 h1
        go_wp2_with fail
        go_ret2
        exact ⟨by rw [HR.out, HNO.out]; rfl, HB2.out⟩
      · have d1 : decide ((h.length : Int) ≤ t) = false := decide_eq_false h1
        obtain ⟨n, rfl⟩ := Int.eq_ofNat_of_zero_le (by omega : 0 ≤ t)
        have hn : n < h.length := by omega
        rw [Ix.fromI_nat] at HR
        obtain ⟨ad, x, y, rfl, hblk, hE, hx, hy⟩ := HF.out n hn
        obtain ⟨e0, e1, e2⟩ := hE.below hblk HB2.out
        have HHIT := Lib.hid (fun i hi hno q => @Ix.fromO_hit h n hn key i hi hno q)
        have HNONE := Lib.hid (fun hno => @Ix.fromO_none h n hn key hno)
        have hol := (HO.out _ (List.getElem_mem hn)).2
        clear h0 h1
        generalize Ix.fromO h n key = fo at *
        generalize h[n] = tx at *
        generalize tx.reads = rs at *
        obtain ⟨A2, c5, rfl, hrow⟩ := hy.spelled
        have HRW := Lib.hid hrow
        clear hE hx hy hrow
        go_wp2_with fail
        go_loopw [10] (fun i wr => ∃ j : Nat, j ≤ rs.length ∧ i = .int .i64 j ∧ Hid (∀ q (hq : q < rs.length), q < j → rs[q].1 ≠ key) ∧ Hid (Below w.heap.size w wr)) (fun i _ => rs.length - (intOf i).toNat)
        case atStart => exact ⟨0, Nat.zero_le _, rfl, (fun q _ hq => absurd hq (by omega)), HB2⟩
        case round =>
          obtain ⟨j, hj, rfl, HNO, HB⟩ := hrel
          by_cases hjl : j < rs.length
          · obtain ⟨ad2, rfl, hblk2, hI⟩ := HRW.out j hjl
            obtain ⟨i0, i1⟩ := hI.below hblk2 HB.out
            have HHJ := Lib.hid (fun q => HHIT.out j hjl HNO.out q)
            by_cases hq : rs[j].1 = key
            · have HE := Lib.hid (HHJ.out hq)
              rw [hq] at i0
              generalize rs[j].2 = f at *
              clear hI hq
              go_wp2_with fail
              go_ret2
              exact ⟨by rw [HR.out, HE.out]; rfl, HB.out⟩
            · have HNO2 : Hid (∀ q (hq : q < rs.length), q < j + 1 → rs[q].1 ≠ key) := fun q hql hqj => by
                by_cases e : q = j
                · subst e; exact hq
                · exact HNO.out q hql (by omega)
              have q1 : (rs[j].1 == key) = false := beq_eq_false_iff_ne.2 hq
              generalize rs[j].1 = k at *
              clear hI hq HHJ
              go_wp2_with fail
              go_roundw
              case rel => exact ⟨j + 1, by omega, by go_num, HNO2, HB⟩
              case measure => simp [intOf]; omega
          · have HE := Lib.hid (HNONE.out (fun q hq => HNO.out q hq (by omega)))
            go_wp2_with fail
            go_ret2
            exact ⟨by rw [HR.out, HE.out]; rfl, HB.out⟩
end Go.Proofs.Ytehnmpbongabeaa
