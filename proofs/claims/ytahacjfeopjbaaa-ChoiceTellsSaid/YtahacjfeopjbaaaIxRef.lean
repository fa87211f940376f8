/-
  Several texts in one, each with its own first words: IxRefA, IxRefB.
  Conditions: as each says.
-/
import Derived.Test.YtahacjfeopjbaaaIxAll
import Derived.Test.YtahacjfeopjbaaaHiRef
/-
  What the reference of layer 9 answers for who writes a key, and from whom a transaction reads it.
  Conditions: a history's rows have at most 2^32 elements each.
-/
set_option maxRecDepth 4000
namespace Go.Proofs.Ytahacjfeopjbaaa
open Go.RowKit

/-! What is not valid is taken for no transactions. -/
namespace Ix
open So (Txn)
noncomputable def only (h : List Txn) : List Txn := if Hi.rightB h = true then h else []
theorem only_yes {h : List Txn} (q : Hi.rightB h = true) : only h = h := if_pos q
theorem only_no {h : List Txn} (q : Hi.rightB h = false) : only h = [] := if_neg (by rw [q]; simp)
theorem only_len (h : List Txn) : (only h).length ≤ 32 := by
  cases q : Hi.rightB h with
  | true => rw [only_yes q]; exact ((Hi.rightB_iff h).1 q).1
  | false => rw [only_no q]; simp
theorem writersA_is (h : List Txn) (key : Int) : writersA h key = writers (only h) key := by
  cases q : Hi.rightB h with
  | true => rw [only_yes q, writersA_yes q]
  | false => rw [only_no q, writersA_no q]; rfl
theorem fromA_is (h : List Txn) (t key : Int) : fromA h t key = fromI (only h) t key := by
  cases q : Hi.rightB h with
  | true => rw [only_yes q, fromA_yes q]
  | false => rw [only_no q, fromA_no q]; unfold fromI fromO; simp
theorem writers_nil (key : Int) : writers [] key = [] := rfl
theorem keysA_is (h : List Txn) : keysA h = keysTo (only h) 16 := by
  cases q : Hi.rightB h with
  | true => rw [only_yes q, keysA_yes q]; rfl
  | false =>
    rw [only_no q, keysA_no q]
    unfold keysTo
    simp [writers_nil]
theorem pairsA_is (h : List Txn) : pairsA h = pairsTo (only h) 16 := by
  cases q : Hi.rightB h with
  | true => rw [only_yes q, pairsA_yes q]; rfl
  | false =>
    rw [only_no q, pairsA_no q]
    unfold pairsTo
    simp [writers_nil, twos]
/-- Who reads a key from somebody, among the first k. -/
noncomputable def readersTo (h : List Txn) (key f : Int) (k : Nat) : List Nat := (List.range k).filter fun (t : Nat) => fromA h (t : Int) key == some f
theorem readersTo_yes {h : List Txn} {key f : Int} {k : Nat} (q : fromA h (k : Int) key = some f) : readersTo h key f (k + 1) = readersTo h key f k ++ [k] := by
  unfold readersTo
  rw [List.range_succ, List.filter_append]
  simp [q]
theorem readersTo_no {h : List Txn} {key f : Int} {k : Nat} (q : fromA h (k : Int) key ≠ some f) : readersTo h key f (k + 1) = readersTo h key f k := by
  unfold readersTo
  rw [List.range_succ, List.filter_append]
  simp [q]
theorem readersTo_all (h : List Txn) (key f : Int) : readersTo h key f h.length = readersA h key f := by
  cases q : Hi.rightB h with
  | true =>
    rw [readersA_yes q]
    unfold readersTo readers
    refine List.filter_congr fun t _ => ?_
    rw [fromA_yes q, fromI_nat]
  | false =>
    rw [readersA_no q]
    unfold readersTo
    simp [fromA_no q]
theorem readersTo_len (h : List Txn) (key f : Int) (k : Nat) : (readersTo h key f k).length ≤ k := by
  have := List.length_filter_le (fun (t : Nat) => fromA h (t : Int) key == some f) (List.range k)
  rw [List.length_range] at this
  exact this
/-- The first read of a key, step by step. -/
theorem fromO_hit {h : List Txn} {t : Nat} (ht : t < h.length) {key : Int} {i : Nat} (hi : i < h[t].reads.length) (hno : ∀ j (hj : j < h[t].reads.length), j < i → h[t].reads[j].1 ≠ key) (q : h[t].reads[i].1 = key) : fromO h t key = some h[t].reads[i].2 := by
  unfold fromO
  rw [List.getElem?_eq_getElem ht]
  show ((h[t].reads.find? fun y => y.1 == key).map (·.2)) = _
  have e : h[t].reads.find? (fun y => y.1 == key) = some h[t].reads[i] := by
    rw [List.find?_eq_some_iff_getElem]
    exact ⟨beq_iff_eq.2 q, i, hi, rfl, fun j hj => by simpa using hno j (by omega) hj⟩
  rw [e]
  rfl
theorem fromO_none {h : List Txn} {t : Nat} (ht : t < h.length) {key : Int} (hno : ∀ j (hj : j < h[t].reads.length), h[t].reads[j].1 ≠ key) : fromO h t key = none := by
  unfold fromO
  rw [List.getElem?_eq_getElem ht]
  show ((h[t].reads.find? fun y => y.1 == key).map (·.2)) = _
  have e : h[t].reads.find? (fun y => y.1 == key) = none := by
    rw [List.find?_eq_none]
    intro y hy
    obtain ⟨j, hj, rfl⟩ := List.getElem_of_mem hy
    simpa using hno j hj
  rw [e]
  rfl
end Ix

set_option maxHeartbeats 1000000 in
theorem rWriters9_at (h : List So.Txn) (u : Value) (key : Int) (w : World) (hv : Txns w u h) (hs : Ix.Small h) : Calls Try.prog 79 #[.agg #[u], .int .i64 key] w (RetInts w (Ix.writersA h key)) := by
  obtain ⟨i0, hi0, hz0, hz1, hz2⟩ := info_parts int_info
  have I0 := Lib.hid hi0
  have I1 := Lib.hid hz0
  have I2 := Lib.hid hz1
  have I3 := Lib.hid hz2
  clear hi0 hz0 hz1 hz2
  have HB0 := Lib.hid (alloc_below w (.cells #[u] 24))
  have HV := Lib.hid hv
  obtain ⟨A, c, rfl, hform⟩ := hv.spelled
  have c0 := (Boxed.new w 24 (.slice A h.length c)).cell
  have HF := Lib.hid hform
  have hl := hs.1
  have HO := Lib.hid hs.2
  have HY := Lib.hid (fun q => @Ix.writersA_yes h q key)
  have HN := Lib.hid (fun q => @Ix.writersA_no h q key)
  generalize Ix.writersA h key = wa at *
  clear hform hv hs
  go_enter Try.func79, Try.ntmps79
  go_wp2_with fail
  generalize w.alloc (.cells #[.slice A h.length c] 24) = w1 at *
  refine (rRight8_at h _ w1 (HV.out.below HB0.out) HO.out).mono ?_
  rintro e w2 ⟨rfl, hb2⟩
  have HB2 := Lib.hid (below_all HB0.out hb2)
  have c2 := cell_stays hb2 c0
  clear c0
  cases hr : Hi.rightB h with
  | false =>
    have HR := Lib.hid (HN.out hr)
    clear hr hb2
    go_wp2_with fail
    go_loopw [5, 7] (fun v i wr => v = .slice none 0 0 ∧ i = .int .i64 0 ∧ Hid (Below w.heap.size w wr)) (fun _ _ _ => 0)
    case atStart => exact ⟨rfl, rfl, HB2⟩
    case round =>
      obtain ⟨rfl, rfl, HB⟩ := hrel
      go_wp2_with fail
      go_ret
      exact ⟨_, rfl, by rw [HR.out]; exact World.ownsRow_nil _ _ _ _, HB.out⟩
  | true =>
    have HR := Lib.hid (HY.out hr)
    have HC2 := Lib.hid c2
    clear hr hb2
    go_wp2_with fail
    go_loopw [5, 7] (fun v i wr => ∃ (k : Nat) (d : List Nat), k ≤ h.length ∧ i = .int .i64 k ∧ d.length ≤ k ∧ Hid (d = Ix.writersTo h key k) ∧ wr.ownsRow w2.heap.size 3 1 v d.length ((ints d).flatMap nC) ∧ Hid (Below w2.heap.size w2 wr)) (fun _ i _ => h.length - (intOf i).toNat)
    case atStart => exact ⟨0, [], Nat.zero_le _, rfl, Nat.le_refl _, rfl, World.ownsRow_nil _ _ _ _, Below.refl _ _⟩
    case round =>
      obtain ⟨k, d, hk, rfl, hdl, HD, hown, HB⟩ := hrel
      have HW := Lib.hid hown
      obtain ⟨A', cp, rfl⟩ := own_form hown
      clear hown
      have c3 := cell_stays HB.out HC2.out
      by_cases hlt : k < h.length
      · obtain ⟨ad, x, y, rfl, hblk, hE, hx, hy⟩ := HF.out k hlt
        obtain ⟨e0, e1, e2⟩ := hE.below hblk (below_all HB2.out HB.out)
        have HYes := Lib.hid (fun q => @Ix.writersTo_yes h key k hlt q)
        have HNo := Lib.hid (fun q => @Ix.writersTo_no h key k hlt q)
        have hol := (HO.out _ (List.getElem_mem hlt)).1
        generalize h[k] = t at *
        obtain ⟨A1, c1, rfl, _⟩ := hx.spelled
        obtain ⟨A2, c5, rfl, _⟩ := hy.spelled
        have HX := Lib.hid (hx.below (below_all HB2.out HB.out))
        clear hE hx hy
        go_wp2_with fail
        refine (rWrites8_at t _ _ key wr HX.out ⟨_, _, _, rfl⟩ hol).mono ?_
        rintro e w3 ⟨rfl, hb3⟩
        have HW1 := Lib.hid (own_below HW.out hb3)
        have HB1 := Lib.hid (below_all HB.out hb3)
        clear HW HB hb3
        cases hg : decide (key ∈ t.writes) with
        | false =>
          have HD2 : Hid (d = Ix.writersTo h key (k + 1)) := by rw [Hid, HNo.out hg]; exact HD.out
          clear hg
          go_wp2_with fail
          go_roundw
          case rel => exact ⟨k + 1, d, by omega, by go_num, by omega, HD2, HW1.out, HB1⟩
          case measure => simp [intOf]; omega
        | true =>
          have HD2 : Hid (d ++ [k] = Ix.writersTo h key (k + 1)) := by rw [Hid, HYes.out hg, ← HD.out]
          have HW2 := Lib.hid (HW1.out.alloc (.cells #[.int .i64 (k : Int)] 3))
          have HB3 := Lib.hid (below_all HB1.out (alloc_below w3 (.cells #[.int .i64 (k : Int)] 3)))
          have HN3 := Lib.hid (new_nC w3 (k : Int) 3)
          clear hg
          go_wp2_with (at_builtin; refine wpList_append_own_at _ rfl _ _ 46 rfl w2.heap.size 3 i0 _ 1 8 Try.underlying46 I0.out I1.out I2.out I3.out rfl (by decide) _ d.length _ rfl HW2.out ⟨w3.heap.size, 0, none⟩ 1 1 (nC (k : Int)) rfl rfl HN3.out (one_nC _) (by simp only [maxLen]; omega) (by omega) HB3.out.size ?_; intro v2 w4 hown2 hgrow2 hnil2 hat2; have HO2 := Lib.hid hown2; have HB4 := Lib.hid (below_append HB3.out HB3.out.size HW2.out hgrow2); clear hown2 hgrow2 hnil2 hat2)
          go_roundw
          case rel => exact ⟨k + 1, d ++ [k], by omega, by go_num, by simp; omega, HD2, ns_snoc HO2.out, HB4⟩
          case measure => simp [intOf]; omega
      · have hkl : k = h.length := by omega
        have HK := Lib.hid hkl
        clear hkl
        go_wp2_with fail
        go_ret
        refine ⟨_, rfl, ?_, below_all HB2.out HB.out⟩
        have hdk : Ix.writers h key = d := by rw [HD.out, HK.out]; rfl
        rw [HR.out, hdk]
        exact HW.out.mono HB2.out.size

set_option maxHeartbeats 1000000 in
theorem rFrom9_at (h : List So.Txn) (u : Value) (t key : Int) (w : World) (hv : Txns w u h) (hs : Ix.Small h) : Calls Try.prog 82 #[.agg #[u], .int .i64 t, .int .i64 key] w (RetFrom w (Ix.fromA h t key)) := by
  have HB0 := Lib.hid (alloc_below w (.cells #[u] 24))
  have HV := Lib.hid hv
  obtain ⟨A, c, rfl, hform⟩ := hv.spelled
  have c0 := (Boxed.new w 24 (.slice A h.length c)).cell
  have HF := Lib.hid hform
  have hl := hs.1
  have HO := Lib.hid hs.2
  have HY := Lib.hid (fun q => @Ix.fromA_yes h q t key)
  have HN := Lib.hid (fun q => @Ix.fromA_no h q t key)
  generalize Ix.fromA h t key = fa at *
  clear hform hv hs
  go_enter Try.func82, Try.ntmps82
  go_wp2_with fail
  generalize w.alloc (.cells #[.slice A h.length c] 24) = w1 at *
  refine (rRight8_at h _ w1 (HV.out.below HB0.out) HO.out).mono ?_
  rintro e w2 ⟨rfl, hb2⟩
  have HB2 := Lib.hid (below_all HB0.out hb2)
  have c2 := cell_stays hb2 c0
  clear c0 hb2
  cases hr : Hi.rightB h with
  | false =>
    have HR := Lib.hid (HN.out hr)
    clear hr
    go_wp2_with fail
    go_ret2
    exact ⟨by rw [HR.out]; rfl, HB2.out⟩
  | true =>
    have HR := Lib.hid (HY.out hr)
    clear hr
    by_cases h0 : t < 0
    · have d0 : decide (t < 0) = true := decide_eq_true h0
      have HNO : Hid (Ix.fromI h t key = none) := Ix.fromI_out (.inr h0)
      clear h0
      go_wp2_with fail
      go_ret2
      exact ⟨by rw [HR.out, HNO.out]; rfl, HB2.out⟩
    · have d0 : decide (t < 0) = false := decide_eq_false h0
      by_cases h1 : (h.length : Int) ≤ t
      · have d1 : decide ((h.length : Int) ≤ t) = true := decide_eq_true h1
        have HNO : Hid (Ix.fromI h t key = none) := Ix.fromI_out (.inl h1)
        clear h0 h1
        go_wp2_with fail
        go_ret2
        exact ⟨by rw [HR.out, HNO.out]; rfl, HB2.out⟩
      · have d1 : decide ((h.length : Int) ≤ t) = false := decide_eq_false h1
        obtain ⟨n, rfl⟩ := Int.eq_ofNat_of_zero_le (by omega : 0 ≤ t)
        have hn : n < h.length := by omega
        rw [Ix.fromI_nat] at HR
        obtain ⟨ad, x, y, rfl, hblk, hE, hx, hy⟩ := HF.out n hn
        obtain ⟨e0, e1, e2⟩ := hE.below hblk HB2.out
        have HHIT := Lib.hid (fun i hi hno q => @Ix.fromO_hit h n hn key i hi hno q)
        have HNONE := Lib.hid (fun hno => @Ix.fromO_none h n hn key hno)
        have hol := (HO.out _ (List.getElem_mem hn)).2
        clear h0 h1
        generalize Ix.fromO h n key = fo at *
        generalize h[n] = tx at *
        generalize tx.reads = rs at *
        obtain ⟨A2, c5, rfl, hrow⟩ := hy.spelled
        have HRW := Lib.hid hrow
        clear hE hx hy hrow
        go_wp2_with fail
        go_loopw [10] (fun i wr => ∃ j : Nat, j ≤ rs.length ∧ i = .int .i64 j ∧ Hid (∀ q (hq : q < rs.length), q < j → rs[q].1 ≠ key) ∧ Hid (Below w.heap.size w wr)) (fun i _ => rs.length - (intOf i).toNat)
        case atStart => exact ⟨0, Nat.zero_le _, rfl, (fun q _ hq => absurd hq (by omega)), HB2⟩
        case round =>
          obtain ⟨j, hj, rfl, HNO, HB⟩ := hrel
          by_cases hjl : j < rs.length
          · obtain ⟨ad2, rfl, hblk2, hI⟩ := HRW.out j hjl
            obtain ⟨i0, i1⟩ := hI.below hblk2 HB.out
            have HHJ := Lib.hid (fun q => HHIT.out j hjl HNO.out q)
            by_cases hq : rs[j].1 = key
            · have HE := Lib.hid (HHJ.out hq)
              rw [hq] at i0
              generalize rs[j].2 = f at *
              clear hI hq
              go_wp2_with fail
              go_ret2
              exact ⟨by rw [HR.out, HE.out]; rfl, HB.out⟩
            · have HNO2 : Hid (∀ q (hq : q < rs.length), q < j + 1 → rs[q].1 ≠ key) := fun q hql hqj => by
                by_cases e : q = j
                · subst e; exact hq
                · exact HNO.out q hql (by omega)
              have q1 : (rs[j].1 == key) = false := beq_eq_false_iff_ne.2 hq
              generalize rs[j].1 = k at *
              clear hI hq HHJ
              go_wp2_with fail
              go_roundw
              case rel => exact ⟨j + 1, by omega, by go_num, HNO2, HB⟩
              case measure => simp [intOf]; omega
          · have HE := Lib.hid (HNONE.out (fun q hq => HNO.out q hq (by omega)))
            go_wp2_with fail
            go_ret2
            exact ⟨by rw [HR.out, HE.out]; rfl, HB.out⟩
end Go.Proofs.Ytahacjfeopjbaaa
/-
  What the reference of layer 9 answers for who reads a key from somebody, all keys that are written, and all pairs; and that two rows of choices that are the same are told so.
  Conditions: a history's rows have at most 2^32 elements each.
  (This program has not all of these functions: rKeys9_at is left out here.)
-/
set_option maxRecDepth 4000
namespace Go.Proofs.Ytahacjfeopjbaaa
open Go.RowKit

theorem is_from (o : Option Int) (f : Int) : (o.isSome = true ∧ Ix.numOf o = f) ↔ o = some f := by
  cases o with
  | none => simp
  | some x => simp [Ix.numOf]
set_option maxHeartbeats 1000000 in
theorem rReaders9_at (h : List So.Txn) (u : Value) (key f : Int) (w : World) (hv : Txns w u h) (hs : Ix.Small h) : Calls Try.prog 47 #[.agg #[u], .int .i64 key, .int .i64 f] w (RetInts w (Ix.readersA h key f)) := by
  obtain ⟨i0, hi0, hz0, hz1, hz2⟩ := info_parts int_info
  have I0 := Lib.hid hi0
  have I1 := Lib.hid hz0
  have I2 := Lib.hid hz1
  have I3 := Lib.hid hz2
  clear hi0 hz0 hz1 hz2
  have HB0 := Lib.hid (alloc_below w (.cells #[u] 24))
  have HV := Lib.hid hv
  have HS := Lib.hid hs
  obtain ⟨A, c, rfl, -⟩ := hv.spelled
  have HC0 := Lib.hid (Boxed.new w 24 (.slice A h.length c)).cell
  have hl := hs.1
  clear hv hs
  go_enter Try.func47, Try.ntmps47
  go_wp2_with fail
  generalize w.alloc (.cells #[.slice A h.length c] 24) = w2 at *
  go_loopw [7, 8] (fun v i wr => ∃ (k : Nat) (d : List Nat), k ≤ h.length ∧ i = .int .i64 k ∧ d.length ≤ k ∧ Hid (d = Ix.readersTo h key f k) ∧ wr.ownsRow w2.heap.size 3 1 v d.length ((ints d).flatMap nC) ∧ Hid (Below w2.heap.size w2 wr)) (fun _ i _ => h.length - (intOf i).toNat)
  case atStart => exact ⟨0, [], Nat.zero_le _, rfl, Nat.le_refl _, rfl, World.ownsRow_nil _ _ _ _, Below.refl _ _⟩
  case round =>
    obtain ⟨k, d, hk, rfl, hdl, HD, hown, HB⟩ := hrel
    have HW := Lib.hid hown
    obtain ⟨A', cp, rfl⟩ := own_form hown
    clear hown
    have c3 := cell_stays HB.out HC0.out
    by_cases hlt : k < h.length
    · have HYes := Lib.hid (fun q => @Ix.readersTo_yes h key f k q)
      have HNo := Lib.hid (fun q => @Ix.readersTo_no h key f k q)
      have HIF := Lib.hid (is_from (Ix.fromA h (k : Int) key) f)
      have HFR := Lib.hid (fun W (hw : Txns W (.slice A h.length c) h) => rFrom9_at h _ (k : Int) key W hw HS.out)
      generalize Ix.fromA h (k : Int) key = fo at *
      go_wp2_with fail
      refine (HFR.out wr (HV.out.below (below_all HB0.out HB.out))).mono ?_
      rintro e w3 ⟨rfl, hb3⟩
      have HW1 := Lib.hid (own_below HW.out hb3)
      have HB1 := Lib.hid (below_all HB.out hb3)
      clear HW HB hb3
      by_cases hg : fo = some f
      · have HD2 : Hid (d ++ [k] = Ix.readersTo h key f (k + 1)) := by rw [Hid, HYes.out hg, ← HD.out]
        have HW2 := Lib.hid (HW1.out.alloc (.cells #[.int .i64 (k : Int)] 3))
        have HB3 := Lib.hid (below_all HB1.out (alloc_below w3 (.cells #[.int .i64 (k : Int)] 3)))
        have HN3 := Lib.hid (new_nC w3 (k : Int) 3)
        obtain ⟨q1, q2⟩ := HIF.out.2 hg
        have q3 : (f == f) = true := by simp
        rw [q1, q2]
        clear hg q1 q2 c3
        go_wp2_with (at_builtin; refine wpList_append_own_at _ rfl _ _ 46 rfl w2.heap.size 3 i0 _ 1 8 Try.underlying46 I0.out I1.out I2.out I3.out rfl (by decide) _ d.length _ rfl HW2.out ⟨w3.heap.size, 0, none⟩ 1 1 (nC (k : Int)) rfl rfl HN3.out (one_nC _) (by simp only [maxLen]; omega) (by omega) HB3.out.size ?_; intro v2 w4 hown2 hgrow2 hnil2 hat2; have HO2 := Lib.hid hown2; have HB4 := Lib.hid (below_append HB3.out HB3.out.size HW2.out hgrow2); clear hown2 hgrow2 hnil2 hat2)
        go_roundw
        case rel => exact ⟨k + 1, d ++ [k], by omega, by go_num, by simp; omega, HD2, ns_snoc HO2.out, HB4⟩
        case measure => simp [intOf]; omega
      · have HD2 : Hid (d = Ix.readersTo h key f (k + 1)) := by rw [Hid, HNo.out hg]; exact HD.out
        have hor : fo.isSome = false ∨ (fo.isSome = true ∧ (Ix.numOf fo == f) = false) := by
          cases hq : fo.isSome with
          | false => exact .inl rfl
          | true => exact .inr ⟨rfl, beq_eq_false_iff_ne.2 fun e => hg (HIF.out.1 ⟨hq, e⟩)⟩
        generalize Ix.numOf fo = nf at *
        generalize fo.isSome = sf at *
        clear hg HIF c3
        rcases hor with rfl | ⟨rfl, q1⟩
        all_goals
          go_wp2_with fail
          go_roundw
          case rel => exact ⟨k + 1, d, by omega, by go_num, by omega, HD2, HW1.out, HB1⟩
          case measure => simp [intOf]; omega
    · have hkl : k = h.length := by omega
      have HK := Lib.hid hkl
      clear hkl
      go_wp2_with fail
      go_ret
      refine ⟨_, rfl, ?_, below_all HB0.out HB.out⟩
      have hdk : Ix.readersA h key f = d := by rw [HD.out, HK.out]; exact (Ix.readersTo_all h key f).symm
      rw [hdk]
      exact HW.out.mono HB0.out.size

theorem two_cells9 {W : World} {B : Nat} {ad : Addr} {cc : Nat} {l : List Nat} (ho : W.ownsRow B 3 1 (.slice (some ad) l.length cc) l.length ((ints l).flatMap nC)) (i j : Nat) (hi : i < l.length) (hj : j < l.length) : W.cell? (ad.add i) = some (.int .i64 (l[i] : Int)) ∧ W.cell? (ad.add j) = some (.int .i64 (l[j] : Int)) := by
  obtain ⟨A, c, e, hrow⟩ := nums_spelled (ns_own ho)
  cases e
  obtain ⟨a1, e1, _, h1⟩ := hrow i hi
  obtain ⟨a2, e2, _, h2⟩ := hrow j hj
  cases e1
  cases e2
  exact ⟨h1, h2⟩
set_option maxHeartbeats 2000000 in
theorem rPairs9_at (h : List So.Txn) (u : Value) (w : World) (hv : Txns w u h) (hs : Ix.Small h) : Calls Try.prog 42 #[.agg #[u]] w (RetChs w (Ix.pairsA h)) := by
  obtain ⟨i0, hi0, hz0, hz1, hz2⟩ := info_parts choice_info
  have I0 := Lib.hid hi0
  have I1 := Lib.hid hz0
  have I2 := Lib.hid hz1
  have I3 := Lib.hid hz2
  clear hi0 hz0 hz1 hz2
  have HB0 := Lib.hid (alloc_below w (.cells #[u] 24))
  have HV := Lib.hid hv
  have HS := Lib.hid hs
  obtain ⟨A, c, rfl, -⟩ := hv.spelled
  have HC0 := Lib.hid (Boxed.new w 24 (.slice A h.length c)).cell
  clear hv hs
  have HWR := Lib.hid (fun k W (hw : Txns W (.slice A h.length c) h) => rWriters9_at h _ k W hw HS.out)
  simp only [Ix.writersA_is] at HWR
  have H32 := Lib.hid (Ix.only_len h)
  rw [Ix.pairsA_is]
  generalize Ix.only h = g at *
  go_enter Try.func42, Try.ntmps42
  go_wp2_with fail
  generalize w.alloc (.cells #[.slice A h.length c] 24) = w2 at *
  go_loopw [3, 4] (fun v i wr => ∃ (k : Nat) (d : List (Nat × Nat × Nat)), k ≤ 16 ∧ i = .int .i64 k ∧ d.length ≤ 20000 ∧ Hid (d = Ix.pairsTo g k) ∧ wr.ownsRow w2.heap.size 38 3 v d.length (d.flatMap chC) ∧ Hid (Below w2.heap.size w2 wr)) (fun _ i _ => 16 - (intOf i).toNat)
  case atStart => exact ⟨0, [], Nat.zero_le _, rfl, Nat.zero_le _, rfl, World.ownsRow_nil _ _ _ _, Below.refl _ _⟩
  case round =>
    obtain ⟨k, d, hk, rfl, hdl, HD, hown, HB⟩ := hrel
    have HW := Lib.hid hown
    obtain ⟨A', cp, rfl⟩ := own_form hown
    clear hown
    by_cases hlt : k < 16
    · have d0 : decide ((k : Int) < 16) = true := decide_eq_true (by omega)
      have c3 := cell_stays HB.out HC0.out
      have hwl := Nat.le_trans (Ix.writers_len g (k : Int)) H32.out
      have HM0 := Lib.hid (Ix.midTo_zero g k (Ix.writers g (k : Int)))
      have HMA := Lib.hid (Ix.midTo_all g k)
      go_wp2_with fail
      refine (HWR.out (k : Int) wr (HV.out.below (below_all HB0.out HB.out))).mono ?_
      rintro e w3 ⟨v3, rfl, ho3, hb3⟩
      have HW1 := Lib.hid (own_below HW.out hb3)
      have HB1 := Lib.hid (below_all HB.out hb3)
      obtain ⟨A3, cc3, rfl⟩ := own_form ho3
      generalize wr.heap.size = B3 at ho3
      have HO3 := Lib.hid ho3
      clear ho3 hb3 HW HB c3
      generalize Ix.writers g (k : Int) = l at *
      have HD0 : Hid (d = Ix.midTo g k l 0) := by rw [Hid, HM0.out]; exact HD.out
      go_wp2_with fail
      go_loopw [3, 6] (fun v i wq => ∃ (i' : Nat) (d : List (Nat × Nat × Nat)), i' ≤ l.length ∧ i = .int .i64 i' ∧ d.length ≤ 20000 ∧ Hid (d = Ix.midTo g k l i') ∧ wq.ownsRow w2.heap.size 38 3 v d.length (d.flatMap chC) ∧ Hid (wq.ownsRow B3 3 1 (.slice A3 l.length cc3) l.length ((ints l).flatMap nC)) ∧ Hid (Below w2.heap.size w2 wq)) (fun _ i _ => l.length - (intOf i).toNat)
      case atStart => exact ⟨0, d, Nat.zero_le _, rfl, hdl, HD0, HW1.out, HO3, HB1⟩
      case round =>
        clear HD0 HD HW1 HO3 HB1 hdl
        obtain ⟨i', d2, hi', rfl, hdl2, HD2, hown2, HO2, HBQ⟩ := hrel
        have HW2 := Lib.hid hown2
        obtain ⟨A5, cp5, rfl⟩ := own_form hown2
        clear hown2
        by_cases hlt2 : i' < l.length
        · obtain ⟨_, _, e3, hrow⟩ := nums_spelled (ns_own HO2.out)
          cases e3
          obtain ⟨ad, rfl, -, -⟩ := hrow i' hlt2
          clear hrow
          have HI0 := Lib.hid (Ix.inTo_zero g k l i' l[i'])
          have HIA := Lib.hid (Ix.inTo_all g k l i' hlt2)
          have HIN := Lib.hid (fun j hj => Ix.inTo_next g k l i' l[i'] j hj)
          have HIL := Lib.hid (fun j => Ix.inTo_len H32.out k hlt l hwl i' l[i'] j hlt2)
          have HTC := Lib.hid (fun W ho j hj => @two_cells9 W B3 ad cc3 l ho i' j hlt2 hj)
          generalize l[i'] = a at *
          have HD3 : Hid (d2 = Ix.inTo g k l i' a 0) := by rw [Hid, HI0.out]; exact HD2.out
          go_wp2_with fail
          go_loopw [3, 7] (fun v j wz => ∃ (p : Nat) (d : List (Nat × Nat × Nat)), i' + 1 ≤ p ∧ p ≤ l.length ∧ j = .int .i64 p ∧ d.length ≤ 20000 ∧ Hid (d = Ix.inTo g k l i' a (p - (i' + 1))) ∧ wz.ownsRow w2.heap.size 38 3 v d.length (d.flatMap chC) ∧ Hid (wz.ownsRow B3 3 1 (.slice (some ad) l.length cc3) l.length ((ints l).flatMap nC)) ∧ Hid (Below w2.heap.size w2 wz)) (fun _ j _ => l.length - (intOf j).toNat)
          case atStart => exact ⟨i' + 1, d2, Nat.le_refl _, by omega, by go_num, hdl2, by rw [Nat.sub_self]; exact HD3, HW2.out, HO2, HBQ⟩
          case round =>
            clear HD3 HD2 HW2 HO2 HBQ hdl2
            obtain ⟨p, d3, hp1, hp2, rfl, hdl3, HD4, hown3, HO4, HBZ⟩ := hrel
            have HW4 := Lib.hid hown3
            obtain ⟨A7, cp7, rfl⟩ := own_form hown3
            clear hown3
            by_cases hlt3 : p < l.length
            · have HNX := Lib.hid (HIN.out (p - (i' + 1)) (by rw [List.length_drop]; omega))
              have hel : (l.drop (i' + 1))[p - (i' + 1)]'(by rw [List.length_drop]; omega) = l[p] := by
                rw [List.getElem_drop]
                congr 1
                omega
              rw [hel] at HNX
              have HTP := Lib.hid (fun W ho => HTC.out W ho p hlt3)
              generalize l[p] = b at *
              have hp3 : p + 1 - (i' + 1) = p - (i' + 1) + 1 := by omega
              have hdl5 := HIL.out (p + 1 - (i' + 1))
              have HD5 : Hid (d3 ++ [(k, a, b)] = Ix.inTo g k l i' a (p + 1 - (i' + 1))) := by rw [Hid, hp3, HNX.out, ← HD4.out]
              rw [← HD5.out, List.length_append] at hdl5
              have HBD := Lib.hid (HBZ.out.drew)
              have HOD : Hid ((wr.drew).ownsRow B3 3 1 (.slice (some ad) l.length cc3) l.length ((ints l).flatMap nC)) := own_drewN HO4.out 1
              have HW5 : Hid (((wr.drew).alloc (.cells #[.int .i64 (k : Int), .int .i64 (a : Int), .int .i64 (b : Int)] 38)).ownsRow w2.heap.size 38 3 (.slice A7 d3.length cp7) d3.length (d3.flatMap chC)) := own_drewN (HW4.out.alloc (.cells #[.int .i64 (k : Int), .int .i64 (a : Int), .int .i64 (b : Int)] 38)) 1
              have HO5 : Hid (((wr.drew).alloc (.cells #[.int .i64 (k : Int), .int .i64 (a : Int), .int .i64 (b : Int)] 38)).ownsRow B3 3 1 (.slice (some ad) l.length cc3) l.length ((ints l).flatMap nC)) := own_drewN (HO4.out.alloc (.cells #[.int .i64 (k : Int), .int .i64 (a : Int), .int .i64 (b : Int)] 38)) 1
              have HB5 := Lib.hid (HBD.out.alloc HBD.out.size (.cells #[.int .i64 (k : Int), .int .i64 (a : Int), .int .i64 (b : Int)] 38))
              have HN5 := Lib.hid (new_chC wr.drew (k, a, b) 38)
              clear hel
              go_wp2_with fail
              go_region_held3 (fun w' => w'.cell? (ad.add i') = some (.int .i64 (a : Int)) ∧ w'.cell? (ad.add p) = some (.int .i64 (b : Int)))
                (first | (exact HTP.out _ HOD.out) | (exact HTP.out _ HO5.out) | (exact HTP.out _ HO7.out))
                (first | (refine step_append_lies _ rfl (.tmp 29) (.tmp 40) 25 rfl w2.heap.size 38 i0 _ 3 24 Try.underlying25 I0.out I1.out I2.out I3.out rfl (by decide) (.slice A7 d3.length cp7) d3.length (d3.flatMap chC) (by simp [Act.eval]) HW5.out ⟨wr.heap.size, 0, none⟩ 1 1 (chC (k, a, b)) (by simp [Act.eval]) rfl HN5.out (one_chC _) (by decide) (by simp only [maxLen]; omega) (by omega) HB5.out.size (wr.heap.size + 1) (by simp) ?_; intro g2 cap2 w7 hown7 hgrow7 hat7 hlt7; have HO7 := Lib.hid (HO5.out.kept hgrow7 (own_types HO5.out HW5.out (by decide))); have HW7 := Lib.hid hown7; have HB7 := Lib.hid (below_append HB5.out HB5.out.size HW5.out hgrow7); clear hown7 hgrow7 hat7 hlt7))
              all_goals
                go_wp2_with fail
                go_roundw
                case rel => exact ⟨p + 1, d3 ++ [(k, a, b)], by omega, by omega, by go_num, by rw [List.length_append]; exact hdl5, HD5, chs_snoc HW7.out, HO7, HB7⟩
                case measure => simp [intOf]; omega
            · have hpl : p - (i' + 1) = l.length - (i' + 1) := by omega
              have HD5 : Hid (d3 = Ix.midTo g k l (i' + 1)) := by rw [Hid, HD4.out, hpl]; exact HIA.out
              clear hpl
              go_wp2_with fail
              go_roundw
              case rel => exact ⟨i' + 1, d3, by omega, by go_num, hdl3, HD5, HW4.out, HO4, HBZ⟩
              case measure => simp [intOf]; omega
        · have hil : i' = l.length := by omega
          have HD5 : Hid (d2 = Ix.pairsTo g (k + 1)) := by rw [Hid, HD2.out, hil]; exact HMA.out
          go_wp2_with fail
          go_roundw
          case rel => exact ⟨k + 1, d2, by omega, by go_num, hdl2, HD5, HW2.out, HBQ⟩
          case measure => simp [intOf]; omega
    · have d0 : decide ((k : Int) < 16) = false := decide_eq_false (by omega)
      have hk16 : k = 16 := by omega
      have HK := Lib.hid hk16
      clear hk16
      go_wp2_with fail
      go_ret
      refine ⟨_, rfl, ?_, below_all HB0.out HB.out⟩
      have hdk : Ix.pairsTo g 16 = d := by rw [HD.out, HK.out]
      rw [hdk]
      exact Rows'.own HW.out

set_option maxHeartbeats 1000000 in
theorem rChoices9_at (l : List (Nat × Nat × Nat)) (u v : Value) (w : World) (hu : Chs w u l) (hv : Chs w v l) (hl : l.length ≤ 4294967296) : Calls Try.prog 22 #[u, v] w (RetBool w true) := by
  obtain ⟨A, c, rfl, hf⟩ := hu.spelled
  obtain ⟨B, c', rfl, hg⟩ := hv.spelled
  have HF := Lib.hid hf
  have HG := Lib.hid hg
  clear hf hg hu hv
  have hb : (((l.length : Nat) : Int) != ((l.length : Nat) : Int)) = false := by simp
  go_enter Try.func22, Try.ntmps22
  go_wp2
  go_loopw [5] (fun i wr => ∃ k : Nat, k ≤ l.length ∧ i = .int .i64 k ∧ Below w.heap.size w wr) (fun i _ => l.length - (intOf i).toNat)
  case atStart => exact ⟨0, Nat.zero_le _, rfl, Below.refl _ _⟩
  case round =>
    obtain ⟨k, hk, rfl, hB⟩ := hrel
    have HB := Lib.hid hB
    clear hB
    by_cases hlt : k < l.length
    · obtain ⟨ad, rfl, hblk, hE⟩ := HF.out k hlt
      obtain ⟨ad', rfl, hblk', hE'⟩ := HG.out k hlt
      obtain ⟨c0, c1, c2⟩ := hE.below hblk HB.out
      obtain ⟨d0, d1, d2⟩ := hE'.below hblk' HB.out
      generalize l[k]'hlt = x at *
      obtain ⟨x0, x1, x2⟩ := x
      dsimp only at c0 c1 c2 d0 d1 d2
      generalize (x0 : Int) = y0 at *
      generalize (x1 : Int) = y1 at *
      generalize (x2 : Int) = y2 at *
      have hne : (y0 == y0) = true := by simp
      have hne2 : (y1 == y1) = true := by simp
      have hne3 : (y2 == y2) = true := by simp
      clear hE hE'
      go_wp2_with fail
      go_quiet (fail)
      go_wp2_with fail
      go_roundw
      case rel => exact ⟨k + 1, by omega, by go_num, below_drewN HB.out _⟩
      case measure => simp [intOf]; omega
    · go_wp2_with fail
      go_ret
      exact ⟨rfl, HB.out⟩
end Go.Proofs.Ytahacjfeopjbaaa
