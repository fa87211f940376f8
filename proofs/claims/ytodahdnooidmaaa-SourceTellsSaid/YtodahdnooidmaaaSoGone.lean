/-
  SourceGone answers true for every row of transactions and every key: without those that were given up a history is the same, and so it is with one more that is given up, and writes what nobody else does; the transactions stay as they were.
  Conditions: none.
-/
import Derived.Test.YtodahdnooidmaaaSoAwake
set_option maxRecDepth 4000
namespace Go.Proofs.Ytodahdnooidmaaa
open Go.RowKit

namespace So
theorem hist_small (l : List Gr.Tx) : (histR l).1.length ≤ 4294967296 ∧ ∀ t ∈ (histR l).1, t.writes.length ≤ 4294967296 ∧ t.reads.length ≤ 4294967296 := by
  rcases hist_cases l with h | ⟨hl, h | ⟨p, i, h1, h2, h3, h4, h5⟩⟩
  · rw [hist_many l h]
    exact ⟨by simp, fun t ht => by cases ht⟩
  · rw [hist_ok l hl h]
    refine ⟨?_, fun t ht => ?_⟩
    · show (txns l).length ≤ 4294967296
      rw [txns_len]
      have := List.length_filter_le (·.done) l
      omega
    · obtain ⟨x, _, rfl⟩ := List.mem_map.1 ht
      have h1 := In.writes_len x.ops 16
      have h2 := In.reads_len x.ops 16
      simp only [txnOf, List.length_map]
      omega
  · rw [hist_bad l hl p i h1 h2 h3 h4 h5]
    exact ⟨by simp, fun t ht => by cases ht⟩
/-- An error, and no history; or none, and all is right. -/
theorem hist_two (l : List Gr.Tx) : ((histR l).2.2 ≠ 0 ∧ (histR l).1 = [] ∧ ((histR l).2.1 = 0 ∨ ∃ i : Nat, i < l.length ∧ (histR l).2.1 = (i : Int))) ∨ (l.length ≤ 32 ∧ (∀ p, p < 4 → Clean l p) ∧ histR l = (txns l, 0, 0)) := by
  rcases hist_cases l with h | ⟨hl, h | ⟨p, i, h1, h2, h3, h4, h5⟩⟩
  · rw [hist_many l h]
    exact .inl ⟨by decide, rfl, .inl rfl⟩
  · exact .inr ⟨hl, h, hist_ok l hl h⟩
  · rw [hist_bad l hl p i h1 h2 h3 h4 h5]
    exact .inl ⟨h5, rfl, .inr ⟨i, h2, rfl⟩⟩
theorem txns_left (l : List Gr.Tx) (hl : l.length ≤ 32) (h : ∀ p, p < 4 → Clean l p) : txns (l.filter (·.done)) = txns l := by
  obtain ⟨h1, h2, h3⟩ := hist_left l hl h
  rw [hist_ok _ h2 h1] at h3
  exact congrArg (·.1) h3
/-- One more that is given up, behind those that were committed. -/
theorem hist_gone (l : List Gr.Tx) (hl : l.length ≤ 32) (h : ∀ p, p < 4 → Clean l p) (hn : (l.filter (·.done)).length < 32) (key : Int) (hk : 0 ≤ key ∧ key < 16) (hv : ∀ t ∈ l, ∀ e ∈ t.ops, e.value < 7000000) :
    histR (l.filter (·.done) ++ [⟨0, false, 0, [⟨2, 0, key, 7000000⟩]⟩]) = (txns l, 0, 0) := by
  obtain ⟨h1, h2, _⟩ := hist_left l hl h
  rw [hist_more _ hn h1 _ ?_ rfl ?_, txns_left l hl h]
  · rw [mayT_iff]
    refine ⟨fun e he => ?_, (show (0 : Int) ≤ 0 by decide), (show (0 : Int) < 8 by decide)⟩
    rw [List.mem_singleton.1 he]
    have hr : Ev.right ⟨2, 0, key, 7000000⟩ = true := by
      rw [Ev.right_iff]
      refine ⟨(show (0 : Int) ≤ 2 by decide), (show (2 : Int) < 5 by decide), (show (0 : Int) ≤ 0 by decide), (show (0 : Int) < 8 by decide), ?_⟩
      rw [if_pos (show Ev.hasKey 2 = true by decide)]
      exact ⟨hk.1, hk.2, (show Nm.isNum 7000000 = true by decide)⟩
    rw [hr]
    exact (show (true && Ev.hasKey 2) = true by decide)
  · refine unlike_fresh _ key 7000000 (by decide) fun e he => ?_
    obtain ⟨t, ht, het⟩ := List.mem_flatMap.1 he
    have := hv t (List.mem_filter.1 ht).1 e het
    omega
end So
/-- Those that were committed, of a row beside its rows of ops. -/
def leftP (p : List (Gr.Tx × Value)) (k : Nat) : List (Gr.Tx × Value) := (p.take k).filter (·.1.done)
theorem leftP_succ (p : List (Gr.Tx × Value)) (k : Nat) (hk : k < p.length) : leftP p (k + 1) = leftP p k ++ if p[k].1.done = true then [p[k]] else [] := by
  rw [leftP, List.take_succ_eq_append_getElem hk, List.filter_append, leftP]
  congr 1
  cases h : p[k].1.done <;> simp [h]
theorem leftP_all (p : List (Gr.Tx × Value)) (k : Nat) (hk : p.length ≤ k) : (leftP p k).map (·.1) = (p.map (·.1)).filter (·.done) := by
  rw [leftP, List.take_of_length_le hk, List.filter_map]
  rfl
theorem leftP_len (p : List (Gr.Tx × Value)) (k : Nat) : (leftP p k).length ≤ p.length := Nat.le_trans (List.length_filter_le _ _) (by rw [List.length_take]; omega)
theorem gTx_append {w : World} {base : Nat} {e : TypeId} {v : Value} {q : List (Gr.Tx × Value)} {x : Gr.Tx × Value} (h : w.ownsRow base e 4 v (q.length + 1) (q.flatMap txC ++ txC x)) : w.ownsRow base e 4 v (q ++ [x]).length ((q ++ [x]).flatMap txC) := Rows'.own_snoc h
set_option maxHeartbeats 4000000 in
theorem lawSourceGone (l : List Gr.Tx) (v : Value) (key : Int) (w : World) (hv : Txs w v l) : Calls Try.prog 6 #[v, .int .i64 key] w (RetBool w true) := by
  obtain ⟨j0, hi0, hz0, hz1, hz2⟩ := info_parts gtx_info
  have J0 := Lib.hid hi0
  have J1 := Lib.hid hz0
  have J2 := Lib.hid hz1
  have J3 := Lib.hid hz2
  clear hi0 hz0 hz1 hz2
  have V0 := Lib.hid hv
  obtain ⟨A, c, rfl, _⟩ := hv.spelled
  clear hv
  go_enter Try.func6, Try.ntmps6
  go_wp2_with fail
  refine (soAwake_at w).mono ?_
  rintro e w1 ⟨rfl, hb1⟩
  have V1 := Lib.hid (V0.out.below hb1)
  have B1 := Lib.hid hb1
  clear hb1 V0
  go_wp2_with fail
  refine (few_at l _ _ V1.out).mono ?_
  rintro e w1' ⟨rfl, rfl⟩
  cases hfew : fewB l with
  | false =>
    go_wp2_with fail
    go_ret
    exact ⟨rfl, B1.out⟩
  | true =>
  obtain ⟨h40, ho40⟩ := (fewB_iff l).1 hfew
  have HL : Hid (l.length ≤ 4294967296) := by rw [Hid]; omega
  have HO : Hid (∀ t ∈ l, t.ops.length ≤ 4294967296) := fun t ht => by have := ho40 t ht; omega
  have HO40 := Lib.hid ho40
  clear hfew ho40
  go_wp2_with fail
  refine (hist_at l _ _ V1.out HL.out HO.out).mono ?_
  rintro e w2 ⟨v2, rfl, hs2, hb2⟩
  have HSM := Lib.hid (So.hist_small l)
  rcases So.hist_two l with ⟨hq, hnil, _⟩ | ⟨hl32, hcl, hok⟩
  · have hqb : ((So.histR l).2.2 != 0) = true := by rw [bne_iff_ne]; exact hq
    obtain ⟨A2, c2, rfl⟩ := hs2.none_ hnil
    have B2 := Lib.hid (below_all B1.out hb2)
    generalize (So.histR l).2.2 = q at *
    clear hq hnil hs2 hb2
    go_wp2_with fail
    go_ret
    exact ⟨rfl, below_all B2.out (alloc_below _ _)⟩
  rw [hok] at hs2 HSM ⊢
  dsimp only at hs2 HSM ⊢
  obtain ⟨A2, c2, rfl, _⟩ := hs2.spelled
  have HCL := Lib.hid hcl
  have S2 := Lib.hid (hs2.below (alloc_below w2 (.cells #[.slice A2 (So.txns l).length c2] 27)))
  have N2 := Lib.hid (heap_alloc_new w2 (.cells #[.slice A2 (So.txns l).length c2] 27))
  have hb2' := below_all hb2 (alloc_below w2 (.cells #[.slice A2 (So.txns l).length c2] 27))
  obtain ⟨p, A', c', hp, hve, hev, hform⟩ := (V1.out.below hb2').parts
  have hpl : p.length = l.length := by rw [← hp, List.length_map]
  rw [hpl] at hve
  cases hve
  have HP := Lib.hid hp
  have HEV := Lib.hid hev
  have HF := Lib.hid hform
  have B2 := Lib.hid (below_all B1.out hb2')
  clear hs2 hb2 hb2' hp hev hform hcl hok V1
  go_wp2_with fail
  have hbs : w2.heap.size < (w2.alloc (.cells #[.slice A2 (So.txns l).length c2] 27)).heap.size := by simp
  generalize hW : w2.alloc (.cells #[.slice A2 (So.txns l).length c2] 27) = W at *
  clear hW
  go_loopw [10, 11] (fun v i wr => ∃ k : Nat, k ≤ l.length ∧ i = .int .i64 k ∧ Hid (∀ t ∈ l.take k, ∀ e ∈ t.ops, e.value < 7000000) ∧ wr.ownsRow W.heap.size 37 4 v (leftP p k).length ((leftP p k).flatMap txC) ∧ Below W.heap.size W wr) (fun _ i _ => l.length - (intOf i).toNat)
  case atStart => exact ⟨0, Nat.zero_le _, rfl, (fun t ht => by cases ht), World.ownsRow_nil _ _ _ _, Below.refl _ _⟩
  case round =>
    obtain ⟨k, hk, rfl, hall, hown, hb⟩ := hrel
    have HOW := Lib.hid hown
    have HB := Lib.hid hb
    obtain ⟨A3, c3, rfl⟩ := own_form hown
    have hql := leftP_len p k
    clear hown hb
    by_cases hlt : k < l.length
    · have hkp : k < p.length := by omega
      obtain ⟨ad, rfl, hblk, hT⟩ := HF.out k hkp
      have hU := HEV.out _ (List.getElem_mem hkp)
      have HLS := Lib.hid (leftP_succ p k hkp)
      have HTL : Hid (l[k]'hlt = (p[k]'hkp).1) := by
        have := congrArg (·[k]?) HP.out
        simp only [List.getElem?_map, List.getElem?_eq_getElem hkp, List.getElem?_eq_getElem hlt, Option.map_some, Option.some.injEq] at this
        exact this.symm
      have HOL : Hid ((p[k]'hkp).1.ops.length ≤ 40) := by rw [← HTL.out]; exact HO40.out _ (List.getElem_mem _)
      have HNX : Hid ((∀ e ∈ (p[k]'hkp).1.ops, e.value < 7000000) → ∀ t ∈ l.take (k + 1), ∀ e ∈ t.ops, e.value < 7000000) := fun h t ht => by
        rw [List.take_succ_eq_append_getElem hlt] at ht
        rcases List.mem_append.1 ht with ht | ht
        · exact hall.out t ht
        · rw [List.mem_singleton.1 ht, HTL.out]; exact h
      obtain ⟨x, hx⟩ : ∃ x, x = p[k]'hkp := ⟨_, rfl⟩
      rw [← hx] at hT hU HLS HNX HOL
      obtain ⟨t, u⟩ := x
      dsimp only at hT hU HLS HNX HOL
      have hol := HOL.out
      obtain ⟨Au, cu, rfl, hev⟩ := hU.spelled
      have HE := Lib.hid hev
      have HTI := Lib.hid hT
      obtain ⟨k0, k1, k2, k3⟩ := hT.below hblk HB.out
      clear hT hU hx hev HTL
      cases hd : t.done with
      | true =>
        rw [hd, if_pos rfl] at HLS
        rw [hd] at k1
        have HO3 := Lib.hid (HOW.out.alloc (.cells #[.int .i64 t.session, .bool true, .int .i64 t.first, .slice Au t.ops.length cu] 37))
        have HB3 := Lib.hid (below_all HB.out (alloc_below wr (.cells #[.int .i64 t.session, .bool true, .int .i64 t.first, .slice Au t.ops.length cu] 37)))
        have HNT : Hid (∀ j y, (txC (t, .slice Au t.ops.length cu))[j]? = some y → (wr.alloc (.cells #[.int .i64 t.session, .bool true, .int .i64 t.first, .slice Au t.ops.length cu] 37)).cell? ((⟨wr.heap.size, 0, none⟩ : Addr).add j) = some y) := by
          have := new_tx wr t (.slice Au t.ops.length cu) 37
          rw [hd] at this
          exact this
        go_wp2_with (at_builtin; refine wpList_append_own_at _ rfl _ _ 22 rfl W.heap.size 37 j0 _ 4 48 Try.underlying22 J0.out J1.out J2.out J3.out rfl (by decide) _ (leftP p k).length _ rfl HO3.out ⟨wr.heap.size, 0, none⟩ 1 1 (txC (t, .slice Au t.ops.length cu)) rfl rfl HNT.out (one_txc _ _ _ _) (by simp only [maxLen]; omega) (by omega) HB3.out.size ?_; intro v4 w4 hown4 hgrow4 hnil4 hat4; have HOX : Hid (w4.ownsRow W.heap.size 37 4 v4 (leftP p (k + 1)).length ((leftP p (k + 1)).flatMap txC)) := (by rw [Hid, HLS.out]; exact gTx_append hown4); have HBX := Lib.hid (below_append HB3.out HB3.out.size HO3.out hgrow4); obtain ⟨A4, n4, c4, rfl⟩ := own_any HOX.out; clear hown4 hgrow4 hnil4 hat4)
        generalize hWX : w4 = WX at *
        clear hWX
        go_loopw [12] (fun i wx => WX = wx ∧ ∃ m : Nat, m ≤ t.ops.length ∧ i = .int .i64 m ∧ Hid (∀ e ∈ t.ops.take m, e.value < 7000000)) (fun i _ => t.ops.length - (intOf i).toNat)
        case atStart => exact ⟨rfl, 0, Nat.zero_le _, rfl, fun e he => by cases he⟩
        case round =>
          obtain ⟨rfl, m, hm, rfl, hvs⟩ := hrel
          obtain ⟨_, _, _, g3⟩ := HTI.out.below hblk HBX.out
          by_cases hmt : m < t.ops.length
          · obtain ⟨ad2, rfl, hblk2, hE2⟩ := HE.out m hmt
            obtain ⟨x, hx⟩ : ∃ x, x = t.ops[m]'hmt := ⟨_, rfl⟩
            rw [← hx] at hE2
            obtain ⟨e0, e1, e2, e3⟩ := hE2.below hblk2 HBX.out
            have HX := Lib.hid hx
            clear hE2 hx
            by_cases hv7 : x.value ≥ 7000000
            · have hd7 : decide (x.value ≥ 7000000) = true := by simpa using hv7
              clear hv7
              go_wp2_with fail
              go_ret
              exact ⟨rfl, below_all B2.out HBX.out⟩
            · have hd7 : decide (x.value ≥ 7000000) = false := by simpa using hv7
              have HVN : Hid (∀ e ∈ t.ops.take (m + 1), e.value < 7000000) := fun e he => by
                rw [List.take_succ_eq_append_getElem hmt] at he
                rcases List.mem_append.1 he with he | he
                · exact hvs.out e he
                · rw [List.mem_singleton.1 he, ← HX.out]; omega
              clear hv7
              go_wp2_with fail
              go_roundw
              case rel => exact ⟨trivial, m + 1, by omega, by go_num, HVN⟩
              case measure => simp [intOf]; omega
          · have HALL : Hid (∀ e ∈ t.ops, e.value < 7000000) := fun e he => hvs.out e (by rw [List.take_of_length_le (by omega)]; exact he)
            go_wp2_with fail
            go_roundw
            case rel => exact ⟨k + 1, by omega, by go_num, HNX.out HALL.out, HOX.out, HBX.out⟩
            case measure => simp [intOf]; omega
      | false =>
        rw [hd, if_neg (by simp), List.append_nil] at HLS
        rw [hd] at k1
        have HOX : Hid (wr.ownsRow W.heap.size 37 4 (.slice A3 (leftP p k).length c3) (leftP p (k + 1)).length ((leftP p (k + 1)).flatMap txC)) := by rw [Hid, HLS.out]; exact HOW.out
        have HBX := Lib.hid HB.out
        go_wp2_with fail
        generalize hWX : wr = WX at *
        clear hWX
        go_loopw [12] (fun i wx => WX = wx ∧ ∃ m : Nat, m ≤ t.ops.length ∧ i = .int .i64 m ∧ Hid (∀ e ∈ t.ops.take m, e.value < 7000000)) (fun i _ => t.ops.length - (intOf i).toNat)
        case atStart => exact ⟨rfl, 0, Nat.zero_le _, rfl, fun e he => by cases he⟩
        case round =>
          obtain ⟨rfl, m, hm, rfl, hvs⟩ := hrel
          obtain ⟨_, _, _, g3⟩ := HTI.out.below hblk HBX.out
          by_cases hmt : m < t.ops.length
          · obtain ⟨ad2, rfl, hblk2, hE2⟩ := HE.out m hmt
            obtain ⟨x, hx⟩ : ∃ x, x = t.ops[m]'hmt := ⟨_, rfl⟩
            rw [← hx] at hE2
            obtain ⟨e0, e1, e2, e3⟩ := hE2.below hblk2 HBX.out
            have HX := Lib.hid hx
            clear hE2 hx
            by_cases hv7 : x.value ≥ 7000000
            · have hd7 : decide (x.value ≥ 7000000) = true := by simpa using hv7
              clear hv7
              go_wp2_with fail
              go_ret
              exact ⟨rfl, below_all B2.out HBX.out⟩
            · have hd7 : decide (x.value ≥ 7000000) = false := by simpa using hv7
              have HVN : Hid (∀ e ∈ t.ops.take (m + 1), e.value < 7000000) := fun e he => by
                rw [List.take_succ_eq_append_getElem hmt] at he
                rcases List.mem_append.1 he with he | he
                · exact hvs.out e he
                · rw [List.mem_singleton.1 he, ← HX.out]; omega
              clear hv7
              go_wp2_with fail
              go_roundw
              case rel => exact ⟨trivial, m + 1, by omega, by go_num, HVN⟩
              case measure => simp [intOf]; omega
          · have HALL : Hid (∀ e ∈ t.ops, e.value < 7000000) := fun e he => hvs.out e (by rw [List.take_of_length_le (by omega)]; exact he)
            go_wp2_with fail
            go_roundw
            case rel => exact ⟨k + 1, by omega, by go_num, HNX.out HALL.out, HOX.out, HBX.out⟩
            case measure => simp [intOf]; omega
    · have HLP : Hid ((leftP p k).map (·.1) = l.filter (·.done)) := by rw [Hid, leftP_all p k (by omega), HP.out]
      have HVS : Hid (∀ t ∈ l, ∀ e ∈ t.ops, e.value < 7000000) := by
        have := hall.out
        rw [List.take_of_length_le (by omega)] at this
        exact this
      have HEQ : Hid (∀ x ∈ leftP p k, Evs wr x.2 x.1.ops) := fun x hx => (HEV.out x (List.mem_of_mem_take (List.mem_filter.1 hx).1)).below HB.out
      have HQT : Hid (Txs wr (.slice A3 (leftP p k).length c3) (l.filter (·.done))) := ⟨leftP p k, HLP.out, Sl.own HOW.out, HEQ.out⟩
      have HFL : Hid ((l.filter (·.done)).length = (leftP p k).length) := by rw [Hid, ← HLP.out, List.length_map]
      have HL4 : Hid ((l.filter (·.done)).length ≤ 4294967296 ∧ ∀ t ∈ l.filter (·.done), t.ops.length ≤ 4294967296) := ⟨by have := HFL.out; omega, fun t ht => HO.out t (List.mem_filter.1 ht).1⟩
      have HLEFT := Lib.hid (So.hist_left l hl32 HCL.out).2.2
      have HGONE := Lib.hid (fun hn hk => So.hist_gone l hl32 HCL.out hn key hk HVS.out)
      have NW : Hid (wr.heap[w2.heap.size]? = some (.cells #[.slice A2 (So.txns l).length c2] 27 (0, 0))) := (HB.out.block _ hbs).trans N2.out
      have SW := Lib.hid (S2.out.below HB.out)
      have HWB := Lib.hid HB.out.size
      have BW := Lib.hid (below_all B2.out HB.out)
      clear hall HVS HF
      go_wp2_with fail
      refine (hist_at (l.filter (·.done)) _ _ HQT.out HL4.out.1 HL4.out.2).mono ?_
      rintro e w5 ⟨v5, rfl, hs5, hb5⟩
      rw [HLEFT.out] at hs5 ⊢
      dsimp only at hs5 ⊢
      obtain ⟨A5, c5, rfl, _⟩ := hs5.spelled
      have hb5' := below_all hb5 (alloc_below w5 (.cells #[.slice A5 (So.txns l).length c5] 27))
      have S5 := Lib.hid (hs5.below (alloc_below w5 (.cells #[.slice A5 (So.txns l).length c5] 27)))
      have T5 := Lib.hid (SW.out.below hb5')
      have N5 : Hid ((w5.alloc (.cells #[.slice A5 (So.txns l).length c5] 27)).heap[w2.heap.size]? = some (.cells #[.slice A2 (So.txns l).length c2] 27 (0, 0))) := (hb5'.block _ (lt_of_block NW.out)).trans NW.out
      have O5 := Lib.hid (own_below HOW.out hb5')
      have E5 : Hid (∀ x ∈ leftP p k, Evs (w5.alloc (.cells #[.slice A5 (So.txns l).length c5] 27)) x.2 x.1.ops) := fun x hx => (HEQ.out x hx).below hb5'
      have B5 := Lib.hid (below_all BW.out hb5')
      have HB5 := Lib.hid hb5'
      obtain ⟨d5, _⟩ := one_cell N5.out
      clear hs5 hb5 hb5' HQT HEQ SW NW BW HOW
      go_wp2_with fail
      refine (rSame7_at (So.txns l) _ _ _ S5.out T5.out HSM.out.1 HSM.out.2).mono ?_
      rintro e w6 ⟨rfl, hb6⟩
      have T6 := Lib.hid (T5.out.below hb6)
      have N6 : Hid (w6.heap[w2.heap.size]? = some (.cells #[.slice A2 (So.txns l).length c2] 27 (0, 0))) := (hb6.block _ (lt_of_block N5.out)).trans N5.out
      have O6 := Lib.hid (own_below O5.out hb6)
      have E6 : Hid (∀ x ∈ leftP p k, Evs w6 x.2 x.1.ops) := fun x hx => (E5.out x hx).below hb6
      have B6 := Lib.hid (below_all B5.out hb6)
      have HB6 := Lib.hid (below_all HB5.out hb6)
      clear hb6 d5 S5 T5 N5 O5 E5 B5
      by_cases h32 : ((leftP p k).length : Int) ≥ 32
      · have hd : decide (((leftP p k).length : Int) ≥ 32) = true := by simpa using h32
        clear h32
        go_wp2_with fail
        go_ret
        exact ⟨rfl, B6.out⟩
      have hd : decide (((leftP p k).length : Int) ≥ 32) = false := by simpa using h32
      by_cases hk0 : key < 0
      · have hd0 : decide (key < 0) = true := by simpa using hk0
        clear h32 hk0
        go_wp2_with fail
        go_ret
        exact ⟨rfl, B6.out⟩
      have hd0 : decide (key < 0) = false := by simpa using hk0
      by_cases hk16 : key ≥ 16
      · have hd1 : decide (key ≥ 16) = true := by simpa using hk16
        clear h32 hk0 hk16
        go_wp2_with fail
        go_ret
        exact ⟨rfl, B6.out⟩
      have hd1 : decide (key ≥ 16) = false := by simpa using hk16
      have HG := Lib.hid (HGONE.out (by have := HFL.out; omega) (by omega))
      have O7 := Lib.hid ((O6.out.alloc (.cells #[.int .i64 2, .int .i64 0, .int .i64 key, .int .i64 7000000] 45)).alloc (.cells #[.int .i64 0, .bool false, .int .i64 0, .slice (some ⟨w6.heap.size, 0, none⟩) 1 1] 37))
      have BN := Lib.hid (below_all (alloc_below w6 (.cells #[.int .i64 2, .int .i64 0, .int .i64 key, .int .i64 7000000] 45)) (alloc_below _ (.cells #[.int .i64 0, .bool false, .int .i64 0, .slice (some ⟨w6.heap.size, 0, none⟩) 1 1] 37)))
      have LO : Hid (((w6.alloc (.cells #[.int .i64 2, .int .i64 0, .int .i64 key, .int .i64 7000000] 45)).alloc (.cells #[.int .i64 0, .bool false, .int .i64 0, .slice (some ⟨w6.heap.size, 0, none⟩) 1 1] 37)).ownsRow 0 45 4 (.slice (some ⟨w6.heap.size, 0, none⟩) 1 1) 1 ([(⟨2, 0, key, 7000000⟩ : Ev.Event)].flatMap evCells)) :=
        (World.ownsRow_lit (base := 0) (e := 45) (size := 4) w6 ([(⟨2, 0, key, 7000000⟩ : Ev.Event)].flatMap evCells).toArray 1 (Nat.zero_le _) (by simp [maxLen]) (by simp [evCells])).alloc _
      have BW7 := Lib.hid (((HB.out.trans (HB6.out.mono HWB.out)).trans ((alloc_below w6 (.cells #[.int .i64 2, .int .i64 0, .int .i64 key, .int .i64 7000000] 45)).mono (Nat.le_trans HWB.out HB6.out.size))).trans ((alloc_below _ (.cells #[.int .i64 0, .bool false, .int .i64 0, .slice (some ⟨w6.heap.size, 0, none⟩) 1 1] 37)).mono (by rw [size_new]; exact Nat.le_trans HWB.out (Nat.le_trans HB6.out.size (Nat.le_succ _)))))
      have NT : Hid (∀ j y, (txC (⟨0, false, 0, [⟨2, 0, key, 7000000⟩]⟩, .slice (some ⟨w6.heap.size, 0, none⟩) 1 1))[j]? = some y → ((w6.alloc (.cells #[.int .i64 2, .int .i64 0, .int .i64 key, .int .i64 7000000] 45)).alloc (.cells #[.int .i64 0, .bool false, .int .i64 0, .slice (some ⟨w6.heap.size, 0, none⟩) 1 1] 37)).cell? ((⟨w6.heap.size + 1, 0, none⟩ : Addr).add j) = some y) := by
        have := new_tx (w6.alloc (.cells #[.int .i64 2, .int .i64 0, .int .i64 key, .int .i64 7000000] 45)) ⟨0, false, 0, [⟨2, 0, key, 7000000⟩]⟩ (.slice (some ⟨w6.heap.size, 0, none⟩) 1 1) 37
        rw [size_new] at this
        exact this
      have hW6 := BW7.out.size
      clear h32 hk0 hk16 HGONE
      go_wp2_with (at_builtin; refine wpList_append_own_at _ rfl _ _ 22 rfl W.heap.size 37 j0 _ 4 48 Try.underlying22 J0.out J1.out J2.out J3.out rfl (by decide) _ (leftP p k).length _ rfl O7.out ⟨w6.heap.size + 1, 0, none⟩ 1 1 (txC (⟨0, false, 0, [⟨2, 0, key, 7000000⟩]⟩, .slice (some ⟨w6.heap.size, 0, none⟩) 1 1)) rfl rfl NT.out (one_txc _ _ _ _) (by simp only [maxLen]; omega) (by omega) hW6 ?_; intro v7 w7 hown7 hgrow7 hnil7 hat7; have O8 := Lib.hid (gTx_append hown7); have B8 := Lib.hid (BW7.out.grown hgrow7 BW7.out.size (fun j hj => (O7.out.lt j hj).1)); have LE8 := Lib.hid (Evs.own (l := [⟨2, 0, key, 7000000⟩]) (LO.out.kept hgrow7 (own_types LO.out O7.out (by decide)))); obtain ⟨A7, n7, c7, rfl⟩ := own_any O8.out; clear hown7 hgrow7 hnil7 hat7)
      have HT8 : Hid (Txs w7 (.slice A7 n7 c7) (l.filter (·.done) ++ [⟨0, false, 0, [⟨2, 0, key, 7000000⟩]⟩])) := ⟨leftP p k ++ [(⟨0, false, 0, [⟨2, 0, key, 7000000⟩]⟩, .slice (some ⟨w6.heap.size, 0, none⟩) 1 1)], by rw [List.map_append, HLP.out]; rfl, Sl.own O8.out, fun x hx => by
        rcases List.mem_append.1 hx with hx | hx
        · exact (HEV.out x (List.mem_of_mem_take (List.mem_filter.1 hx).1)).below B8.out
        · rw [List.mem_singleton.1 hx]; exact LE8.out⟩
      have HL8 : Hid ((l.filter (·.done) ++ [(⟨0, false, 0, [⟨2, 0, key, 7000000⟩]⟩ : Gr.Tx)]).length ≤ 4294967296 ∧ ∀ t ∈ l.filter (·.done) ++ [(⟨0, false, 0, [⟨2, 0, key, 7000000⟩]⟩ : Gr.Tx)], t.ops.length ≤ 4294967296) := by
        refine ⟨by have := HFL.out; rw [List.length_append, List.length_singleton]; omega, fun t ht => ?_⟩
        rcases List.mem_append.1 ht with ht | ht
        · exact HL4.out.2 t ht
        · rw [List.mem_singleton.1 ht]; simp
      have N8 : Hid (w7.heap[w2.heap.size]? = some (.cells #[.slice A2 (So.txns l).length c2] 27 (0, 0))) := (B8.out.block _ hbs).trans N2.out
      have S8 := Lib.hid (S2.out.below B8.out)
      have BB8 := Lib.hid (below_all B2.out B8.out)
      clear O7 LO NT hW6 BW7 O8 LE8 B8 HB6 T6 N6 O6 E6 B6
      refine (hist_at _ _ _ HT8.out HL8.out.1 HL8.out.2).mono ?_
      rintro e w9 ⟨v9, rfl, hs9, hb9⟩
      rw [HG.out] at hs9 ⊢
      dsimp only at hs9 ⊢
      obtain ⟨A9, c9, rfl, _⟩ := hs9.spelled
      have hb9' := below_all hb9 (alloc_below w9 (.cells #[.slice A9 (So.txns l).length c9] 27))
      have S9 := Lib.hid (hs9.below (alloc_below w9 (.cells #[.slice A9 (So.txns l).length c9] 27)))
      have T9 := Lib.hid (S8.out.below hb9')
      have d9 : (w9.alloc (.cells #[.slice A9 (So.txns l).length c9] 27)).cell? ⟨w2.heap.size, 0, none⟩ = some (.slice A2 (So.txns l).length c2) := (one_cell ((hb9'.block _ (lt_of_block N8.out)).trans N8.out)).1
      have B9 := Lib.hid (below_all BB8.out hb9')
      clear hs9 hb9 hb9'
      go_wp2_with fail
      refine (rSame7_at (So.txns l) _ _ _ S9.out T9.out HSM.out.1 HSM.out.2).mono ?_
      rintro e w10 ⟨rfl, hb10⟩
      have B10 := Lib.hid (below_all B9.out hb10)
      clear hb10 d9
      go_wp2_with fail
      go_ret
      exact ⟨rfl, B10.out⟩
end Go.Proofs.Ytodahdnooidmaaa
