/-
  InnerMore answers true for every row of ops, key and value: a read of what is there already, behind all, changes nothing; one of another value is told; the ops stay as they were.
  Conditions: none.
-/
import Derived.Test.YtlbpdnaaailpeaaInLawB
import Derived.Test.YtlbpdnaaailpeaaInRefA
namespace Go.Proofs.Ytlbpdnaaailpeaa
open Go.RowKit

namespace In
def hasB (o : Option Int) : Bool := o.isSome
def nowI (o : Option Int) : Int := o.getD 0
theorem says_take (key : Int) (a : List (Int × Int)) (i : Nat) (hi : i < a.length) : says key (a.take (i + 1)) = if a[i].1 = key then some a[i].2 else says key (a.take i) := by
  rw [List.take_succ_eq_append_getElem hi, says_append, says, says]
  by_cases h : a[i].1 = key
  · simp [h]
  · simp [h]
/-- One read more behind all: what the face says of its key, and what becomes of it. -/
theorem more_all {l : List Ev.Event} (hg : good l) (k : Nat) (hk : k < 16) (val : Int) (hr : Ev.right ⟨1, 0, (k : Int), val⟩ = true) :
    (∃ u, says (k : Int) (writesTo l 16) = some u ∧ val = u ∧ lookR (l ++ [⟨1, 0, (k : Int), val⟩]) = ((readsTo l 16, writesTo l 16), 0, 0)) ∨
    (∃ u, says (k : Int) (writesTo l 16) = some u ∧ val ≠ u ∧ lookR (l ++ [⟨1, 0, (k : Int), val⟩]) = (([], []), (l.length : Int), 10)) ∨
    (says (k : Int) (writesTo l 16) = none ∧ ∃ u, says (k : Int) (readsTo l 16) = some u ∧ val = u ∧ lookR (l ++ [⟨1, 0, (k : Int), val⟩]) = ((readsTo l 16, writesTo l 16), 0, 0)) ∨
    (says (k : Int) (writesTo l 16) = none ∧ ∃ u, says (k : Int) (readsTo l 16) = some u ∧ val ≠ u ∧ lookR (l ++ [⟨1, 0, (k : Int), val⟩]) = (([], []), (l.length : Int), 11)) ∨
    (says (k : Int) (writesTo l 16) = none ∧ says (k : Int) (readsTo l 16) = none ∧ ∃ rs ws, lookR (l ++ [⟨1, 0, (k : Int), val⟩]) = ((rs, ws), 0, 0) ∧ rs.length = (readsTo l 16).length + 1) := by
  obtain ⟨x, hx⟩ : ∃ x : Ev.Event, x = ⟨1, 0, (k : Int), val⟩ := ⟨_, rfl⟩
  rw [← hx] at hr ⊢
  have hx1 : x.kind = 1 := by rw [hx]
  have hxk : x.key = (k : Int) := by rw [hx]
  have hxv : x.value = val := by rw [hx]
  rw [says_reads l k hk, says_writes l k hk]
  rcases more_cases hg x hr hx1 k hxk with ⟨u, h1, h2, h3⟩ | ⟨h1, u, h2, h3, h4⟩ | ⟨h1, h2, h3, h4⟩
  · rw [hxk] at h1
    by_cases hu : u = val
    · rw [if_pos (by rw [hxv]; exact hu)] at h2
      exact .inl ⟨u, h1, hu.symm, by rw [look_ok _ (good_snoc hg x hx1 h2), faceR, reads_snoc_same l x h3, writes_snoc l x hx1]⟩
    · rw [if_neg (by rw [hxv]; exact hu)] at h2
      exact .inr (.inl ⟨u, h1, fun e => hu e.symm, by rw [look_snoc_bad hg x hx1 (by rw [h2]; decide), h2]⟩)
  · rw [hxk] at h1
    have h2' : (rd l k).map (·.2) = some u := by rw [h2]; rfl
    by_cases hu : u = val
    · rw [if_pos (by rw [hxv]; exact hu)] at h3
      exact .inr (.inr (.inl ⟨h1, u, h2', hu.symm, by rw [look_ok _ (good_snoc hg x hx1 h3), faceR, reads_snoc_same l x h4, writes_snoc l x hx1]⟩))
    · rw [if_neg (by rw [hxv]; exact hu)] at h3
      exact .inr (.inr (.inr (.inl ⟨h1, u, h2', fun e => hu e.symm, by rw [look_snoc_bad hg x hx1 (by rw [h3]; decide), h3]⟩)))
  · rw [hxk] at h1
    refine .inr (.inr (.inr (.inr ⟨h1, by rw [h2]; rfl, readsTo (l ++ [x]) 16, writesTo (l ++ [x]) 16, ?_, reads_snoc_new l x hx1 k hxk hk h4⟩)))
    rw [look_ok _ (good_snoc hg x hx1 h3)]
    rfl
theorem read_right (k : Nat) (hk : k < 16) (val : Int) (h0 : 0 ≤ val) (h1 : val ≤ 2147483647) : Ev.right ⟨1, 0, (k : Int), val⟩ = true := by
  rw [Ev.right_iff]
  have : Ev.hasKey 1 = true := (Ev.hasKey_iff 1).2 (.inl rfl)
  refine ⟨by show (0 : Int) ≤ 1; omega, by show (1 : Int) < 5; omega, by show (0 : Int) ≤ 0; omega, by show (0 : Int) < 8; omega, ?_⟩
  rw [if_pos this]
  exact ⟨by show (0 : Int) ≤ (k : Int); omega, by show (k : Int) < 16; omega, (Nm.isNum_iff _).2 ⟨h0, h1⟩⟩
end In

/-- The guard that the laws open with, by its tests' truth. -/
theorem guard_ways (n : Nat) (key val : Int) : (decide ((200 : Int) < (n : Int)) = true ∨ decide ((200 : Int) < (n : Int)) = false ∧ (decide (key < 0) = true ∨ decide (key < 0) = false ∧ (decide (16 ≤ key) = true ∨ decide (16 ≤ key) = false ∧ (decide (val < 0) = true ∨ decide (val < 0) = false ∧ decide (2147483647 < val) = true)))) ∨
    (decide ((200 : Int) < (n : Int)) = false ∧ decide (key < 0) = false ∧ decide (16 ≤ key) = false ∧ decide (val < 0) = false ∧ decide (2147483647 < val) = false ∧ n ≤ 200 ∧ 0 ≤ val ∧ val ≤ 2147483647 ∧ ∃ k : Nat, k < 16 ∧ key = (k : Int)) := by
  simp only [decide_eq_true_eq, decide_eq_false_iff_not]
  by_cases h : n ≤ 200 ∧ 0 ≤ key ∧ key < 16 ∧ 0 ≤ val ∧ val ≤ 2147483647
  · exact .inr ⟨by omega, by omega, by omega, by omega, by omega, h.1, h.2.2.2.1, h.2.2.2.2, key.toNat, by omega, by omega⟩
  · exact .inl (by omega)
set_option maxHeartbeats 2000000 in
set_option maxRecDepth 4000 in
theorem lawInnerMore (l : List Ev.Event) (v : Value) (key val : Int) (w : World) (hv : Evs w v l) : Calls Try.prog 5 #[v, .int .i64 key, .int .i64 val] w (RetBool w true) := by
  obtain ⟨i0, hi0, hz0, hz1, hz2⟩ := info_parts ev_info
  have I0 := Lib.hid hi0
  have I1 := Lib.hid hz0
  have I2 := Lib.hid hz1
  have I3 := Lib.hid hz2
  clear hi0 hz0 hz1 hz2
  obtain ⟨A, c, rfl, _⟩ := hv.spelled
  have V0 := Lib.hid hv
  clear hv
  go_enter Try.func5, Try.ntmps5
  go_wp2_with fail
  refine (inAwake_at _).mono ?_
  rintro e w1 ⟨rfl, hb1⟩
  have V1 := Lib.hid (V0.out.below hb1)
  have B1 := Lib.hid hb1
  clear hb1 V0
  rcases guard_ways l.length key val with (g1 | ⟨g1, g2 | ⟨g2, g3 | ⟨g3, g4 | ⟨g4, g5⟩⟩⟩⟩) | ⟨g1, g2, g3, g4, g5, hl2, hv0, hv1, k, hk16, rfl⟩
  · go_wp2_with fail
    go_ret
    exact ⟨rfl, B1.out⟩
  · go_wp2_with fail
    go_ret
    exact ⟨rfl, B1.out⟩
  · go_wp2_with fail
    go_ret
    exact ⟨rfl, B1.out⟩
  · go_wp2_with fail
    go_ret
    exact ⟨rfl, B1.out⟩
  · go_wp2_with fail
    go_ret
    exact ⟨rfl, B1.out⟩
  have hl : l.length ≤ 4294967296 := by omega
  go_wp2_with fail
  refine (look6_at l _ w1 V1.out hl).mono ?_
  rintro e w2 ⟨x, y, rfl, hx, hy, hb2⟩
  rcases In.look_cases l with hg | ⟨j, _, he1, he2⟩
  case inr =>
    have hq : (In.errAt l j != 0) = true := by rw [bne_iff_ne]; exact he1
    rw [In.look_bad l j he2 he1] at hx hy ⊢
    obtain ⟨A1, c1, rfl, _⟩ := hx.spelled
    obtain ⟨A2, c2, rfl, _⟩ := hy.spelled
    have B2 := Lib.hid (below_all B1.out (below_all hb2 (alloc_below w2 (.cells #[.slice A1 0 c1, .slice A2 0 c2] 34))))
    clear hx hy hb2 he1 he2
    dsimp only [List.length_nil]
    go_wp2_with fail
    go_ret
    exact ⟨rfl, B2.out⟩
  rw [In.look_ok l hg] at hx hy ⊢
  have HM := Lib.hid (In.more_all hg k hk16 val (In.read_right k hk16 val hv0 hv1))
  dsimp only [In.faceR] at hx hy ⊢
  have hrl := In.reads_len l 16
  have hwl := In.writes_len l 16
  generalize In.readsTo l 16 = rs at *
  generalize In.writesTo l 16 = ws at *
  obtain ⟨A1, c1, rfl, hf1⟩ := hx.spelled
  obtain ⟨A2, c2, rfl, hf2⟩ := hy.spelled
  obtain ⟨W, hW⟩ : ∃ W, W = w2.alloc (.cells #[.slice A1 rs.length c1, .slice A2 ws.length c2] 34) := ⟨_, rfl⟩
  have HBW : Hid (Below w2.heap.size w2 W) := by rw [hW]; exact alloc_below _ _
  have FW : Hid (W.heap[w2.heap.size]? = some (.cells #[.slice A1 rs.length c1, .slice A2 ws.length c2] 34 (0, 0))) := by rw [hW]; exact heap_alloc_new _ _
  have XW := Lib.hid (hx.below HBW.out)
  have YW := Lib.hid (hy.below HBW.out)
  have VW := Lib.hid (V1.out.below (below_all hb2 HBW.out))
  have BW := Lib.hid (below_all B1.out (below_all hb2 HBW.out))
  have HF1 := Lib.hid hf1
  have HF2 := Lib.hid hf2
  obtain ⟨m0, m1, _⟩ := two_cells FW.out
  clear hx hy hb2 hf1 hf2 V1 B1 hg
  go_wp2_with fail
  rw [← hW]
  clear hW
  go_loop [11, 13, 14] (fun s11 s13 s14 => ∃ i : Nat, i ≤ rs.length ∧ s14 = .int .i64 i ∧ s11 = .bool (In.hasB (In.says (k : Int) (rs.take i))) ∧ s13 = .int .i64 (In.nowI (In.says (k : Int) (rs.take i)))) (fun _ _ s14 => rs.length - (intOf s14).toNat)
  case atStart => exact ⟨0, Nat.zero_le _, rfl, rfl, rfl⟩
  case round =>
    obtain ⟨i, hi, rfl, rfl, rfl⟩ := hrel
    by_cases hlt : i < rs.length
    · obtain ⟨ad, rfl, hblk, hE⟩ := HF1.out i hlt
      obtain ⟨n0, n1⟩ := hE.below hblk HBW.out
      have HS := Lib.hid (In.says_take (k : Int) rs i hlt)
      generalize rs[i]'hlt = y at *
      clear hE
      rcases eql_parts y.1 (k : Int) with ⟨q, hK⟩ | ⟨q, hK⟩
      · go_wp2_with fail
        go_round
        case rel => exact ⟨i + 1, by omega, by go_num, by rw [HS.out, if_neg (by simpa using hK.out)], by rw [HS.out, if_neg (by simpa using hK.out)]⟩
        case measure => simp [intOf]; omega
      · go_wp2_with fail
        go_round
        case rel => exact ⟨i + 1, by omega, by go_num, by rw [HS.out, if_pos (by simpa using hK.out)]; rfl, by rw [HS.out, if_pos (by simpa using hK.out)]; rfl⟩
        case measure => simp [intOf]; omega
    · have HTR : Hid (rs.take i = rs) := List.take_of_length_le (by omega)
      rw [HTR.out]
      clear HTR
      go_wp2_with fail
      go_loop [11, 12, 13, 15] (fun s11 s12 s13 s15 => ∃ j : Nat, j ≤ ws.length ∧ s15 = .int .i64 j ∧ s11 = .bool (In.hasB ((In.says (k : Int) (ws.take j)).or (In.says (k : Int) rs))) ∧ s12 = .bool (In.hasB (In.says (k : Int) (ws.take j))) ∧ s13 = .int .i64 (In.nowI ((In.says (k : Int) (ws.take j)).or (In.says (k : Int) rs)))) (fun _ _ _ s15 => ws.length - (intOf s15).toNat)
      case atStart => exact ⟨0, Nat.zero_le _, rfl, rfl, rfl, rfl⟩
      case round =>
        obtain ⟨j, hj, rfl, rfl, rfl, rfl⟩ := hrel
        by_cases hlt2 : j < ws.length
        · obtain ⟨ad, rfl, hblk, hE⟩ := HF2.out j hlt2
          obtain ⟨n0, n1⟩ := hE.below hblk HBW.out
          have HS := Lib.hid (In.says_take (k : Int) ws j hlt2)
          generalize ws[j]'hlt2 = y at *
          clear hE
          rcases eql_parts y.1 (k : Int) with ⟨q, hK⟩ | ⟨q, hK⟩
          · go_wp2_with fail
            go_round
            case rel => exact ⟨j + 1, by omega, by go_num, by rw [HS.out, if_neg (by simpa using hK.out)], by rw [HS.out, if_neg (by simpa using hK.out)], by rw [HS.out, if_neg (by simpa using hK.out)]⟩
            case measure => simp [intOf]; omega
          · go_wp2_with fail
            go_round
            case rel => exact ⟨j + 1, by omega, by go_num, by rw [HS.out, if_pos (by simpa using hK.out)]; rfl, by rw [HS.out, if_pos (by simpa using hK.out)]; rfl, by rw [HS.out, if_pos (by simpa using hK.out)]; rfl⟩
            case measure => simp [intOf]; omega
        · have HTR : Hid (ws.take j = ws) := List.take_of_length_le (by omega)
          rw [HTR.out]
          clear HTR HF1 HF2
          go_wp2_with (first
            | (at_builtin; refine wpList_append_sl _ rfl (.tmp 93) (.tmp 94) 22 rfl W.heap.size 41 i0 _ 4 32 Try.underlying22 I0.out I1.out I2.out I3.out rfl (by decide) (.slice none 0 0) 0 [] rfl (World.ownsRow_nil _ _ _ _) _ l.length (l.flatMap evCells) rfl VW.out (all_evs l) (by simp only [maxLen]; omega) (by omega) (Nat.le_refl _) ?_; intro v3 w3 hown hgrow hat; have hown3 : w3.ownsRow W.heap.size 41 4 v3 l.length (l.flatMap evCells) := (by simpa using hown); have B3 := Lib.hid (show Below W.heap.size W w3 from (Below.refl _ W).grown hgrow (Nat.le_refl _) (by simp [Value.ownBlock])); obtain ⟨A5, c5, rfl⟩ := own_form hown3; have O3 := Lib.hid (hown3.alloc (.cells #[.int .i64 1, .int .i64 0, .int .i64 (k : Int), .int .i64 val] 41)); have B4 := Lib.hid (B3.out.alloc B3.out.size (.cells #[.int .i64 1, .int .i64 0, .int .i64 (k : Int), .int .i64 val] 41)); clear hown hgrow hat hown3)
            | (at_builtin; refine wpList_append_own_at _ rfl (.tmp 96) (.tmp 100) 22 rfl W.heap.size 41 i0 _ 4 32 Try.underlying22 I0.out I1.out I2.out I3.out rfl (by decide) _ l.length (l.flatMap evCells) rfl O3.out ⟨w3.heap.size, 0, none⟩ 1 1 (evCells ⟨1, 0, (k : Int), val⟩) rfl rfl (new_ev w3 ⟨1, 0, (k : Int), val⟩ _) (one_evs _) (by simp only [maxLen]; omega) (by omega) B4.out.size ?_; intro v5 w5 hown5 hgrow5 hnil5 hat5; have O5 := Lib.hid (Evs.own (Evs.own_snoc hown5)); have B5 := Lib.hid (below_append B4.out B4.out.size O3.out hgrow5); clear hown5 hgrow5 hnil5 hat5))
          refine (look6_at (l ++ [⟨1, 0, (k : Int), val⟩]) _ w5 O5.out (by simp; omega)).mono ?_
          rintro e w6 ⟨x6, y6, rfl, hx6, hy6, hb6⟩
          have hb7 := below_all B5.out hb6
          have F6 := Lib.hid ((hb7.block _ (lt_of_block FW.out)).trans FW.out)
          have s6 := lt_of_block F6.out
          have X6 := Lib.hid (XW.out.below hb7)
          have Y6 := Lib.hid (YW.out.below hb7)
          have B6 := Lib.hid (below_all BW.out hb7)
          obtain ⟨f0, f1, _⟩ := two_cells F6.out
          clear hb6 hb7 m0 m1 XW YW VW BW O3 O5 B3 B4 B5
          rcases HM.out with ⟨u, e1, e2, e3⟩ | ⟨u, e1, e2, e3⟩ | ⟨e0, u, e1, e2, e3⟩ | ⟨e0, u, e1, e2, e3⟩ | ⟨e0, e1, rs', ws', e3, e4⟩
          · have hq : (val == u) = true := beq_iff_eq.2 e2
            rw [e3] at hx6 hy6 ⊢
            rw [e1]
            dsimp only [In.hasB, In.nowI, Option.some_or, Option.none_or, Option.isSome_some, Option.isSome_none, Option.getD_some] at hx6 hy6 ⊢
            obtain ⟨A6, c6, rfl, _⟩ := hx6.spelled
            obtain ⟨A7, c7, rfl, _⟩ := hy6.spelled
            have HAL := Lib.hid (alloc_below w6 (.cells #[.slice A6 rs.length c6, .slice A7 ws.length c7] 34))
            have X7 := Lib.hid (hx6.below HAL.out)
            have Y7 := Lib.hid (hy6.below HAL.out)
            have X8 := Lib.hid (X6.out.below HAL.out)
            have Y8 := Lib.hid (Y6.out.below HAL.out)
            clear e1 e2 e3 hx6 hy6 HM
            go_wp2_with fail
            refine (rSame6_at rs ws _ _ _ _ _ X8.out Y8.out X7.out Y7.out (by omega) (by omega)).mono ?_
            rintro e w7 ⟨rfl, hb7⟩
            have B7 := Lib.hid (below_all B6.out (below_all HAL.out hb7))
            clear hb7
            go_wp2_with fail
            go_ret
            exact ⟨rfl, B7.out⟩
          · have hq : (val == u) = false := beq_eq_false_iff_ne.2 e2
            have hll : ((l.length : Int) == (l.length : Int)) = true := by simp
            rw [e3] at hx6 hy6 ⊢
            rw [e1]
            dsimp only [In.hasB, In.nowI, Option.some_or, Option.none_or, Option.isSome_some, Option.isSome_none, Option.getD_some] at hx6 hy6 ⊢
            obtain ⟨A6, c6, rfl, _⟩ := hx6.spelled
            obtain ⟨A7, c7, rfl, _⟩ := hy6.spelled
            have HAL := Lib.hid (alloc_below w6 (.cells #[.slice A6 0 c6, .slice A7 0 c7] 34))
            clear e1 e2 e3 hx6 hy6 HM
            dsimp only [List.length_nil]
            go_wp2_with fail
            go_ret
            exact ⟨rfl, below_all B6.out HAL.out⟩
          · have hq : (val == u) = true := beq_iff_eq.2 e2
            rw [e3] at hx6 hy6 ⊢
            rw [e0, e1]
            dsimp only [In.hasB, In.nowI, Option.some_or, Option.none_or, Option.isSome_some, Option.isSome_none, Option.getD_some] at hx6 hy6 ⊢
            obtain ⟨A6, c6, rfl, _⟩ := hx6.spelled
            obtain ⟨A7, c7, rfl, _⟩ := hy6.spelled
            have HAL := Lib.hid (alloc_below w6 (.cells #[.slice A6 rs.length c6, .slice A7 ws.length c7] 34))
            have X7 := Lib.hid (hx6.below HAL.out)
            have Y7 := Lib.hid (hy6.below HAL.out)
            have X8 := Lib.hid (X6.out.below HAL.out)
            have Y8 := Lib.hid (Y6.out.below HAL.out)
            clear e1 e2 e3 hx6 hy6 HM
            go_wp2_with fail
            refine (rSame6_at rs ws _ _ _ _ _ X8.out Y8.out X7.out Y7.out (by omega) (by omega)).mono ?_
            rintro e w7 ⟨rfl, hb7⟩
            have B7 := Lib.hid (below_all B6.out (below_all HAL.out hb7))
            clear hb7
            go_wp2_with fail
            go_ret
            exact ⟨rfl, B7.out⟩
          · have hq : (val == u) = false := beq_eq_false_iff_ne.2 e2
            have hll : ((l.length : Int) == (l.length : Int)) = true := by simp
            rw [e3] at hx6 hy6 ⊢
            rw [e0, e1]
            dsimp only [In.hasB, In.nowI, Option.some_or, Option.none_or, Option.isSome_some, Option.isSome_none, Option.getD_some] at hx6 hy6 ⊢
            obtain ⟨A6, c6, rfl, _⟩ := hx6.spelled
            obtain ⟨A7, c7, rfl, _⟩ := hy6.spelled
            have HAL := Lib.hid (alloc_below w6 (.cells #[.slice A6 0 c6, .slice A7 0 c7] 34))
            clear e1 e2 e3 hx6 hy6 HM
            dsimp only [List.length_nil]
            go_wp2_with fail
            go_ret
            exact ⟨rfl, below_all B6.out HAL.out⟩
          · have hq : ((rs'.length : Int) == (rs.length : Int) + 1) = true := by rw [e4]; simp
            rw [e3] at hx6 hy6 ⊢
            rw [e0, e1]
            dsimp only [In.hasB, In.nowI, Option.none_or, Option.isSome_none, Option.getD_none] at hx6 hy6 ⊢
            obtain ⟨A6, c6, rfl, _⟩ := hx6.spelled
            obtain ⟨A7, c7, rfl, _⟩ := hy6.spelled
            have HAL := Lib.hid (alloc_below w6 (.cells #[.slice A6 rs'.length c6, .slice A7 ws'.length c7] 34))
            have n6 : ¬ w2.heap.size = w6.heap.size := by omega
            clear e0 e1 e3 e4 hx6 hy6 HM
            go_wp2_with fail
            go_ret
            exact ⟨rfl, below_all B6.out HAL.out⟩
end Go.Proofs.Ytlbpdnaaailpeaa
