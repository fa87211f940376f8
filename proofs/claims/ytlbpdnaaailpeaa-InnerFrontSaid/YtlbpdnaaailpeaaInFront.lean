/-
  InnerFront answers true for every row of ops, key and value: a read ahead of all is told, if no write behind it has its value, and the first read of its key, ahead of all writes, has it, too; the ops stay as they were.
  Conditions: none.
-/
import Derived.Test.YtlbpdnaaailpeaaInMore
import Derived.Test.YtlbpdnaaailpeaaDiAll
import Derived.Test.YtlbpdnaaailpeaaInLook
namespace Go.Proofs.Ytlbpdnaaailpeaa
open Go.RowKit

namespace In
/-- The place of the first op of the key among the first i. -/
def FirstSo (l : List Ev.Event) (key : Int) (i : Nat) (n : Int) : Prop := (n = -1 ∧ ∀ j (_ : j < l.length), j < i → l[j].key ≠ key) ∨ ∃ f : Nat, n = (f : Int) ∧ f < i ∧ isFirst l key f
theorem firstSo_zero (l : List Ev.Event) (key : Int) : FirstSo l key 0 (-1) := .inl ⟨rfl, fun j _ h => absurd h (by omega)⟩
theorem firstSo_miss {l : List Ev.Event} {key : Int} {i : Nat} {n : Int} (h : FirstSo l key i n) (hi : i < l.length) (hk : l[i].key ≠ key) : FirstSo l key (i + 1) n := by
  rcases h with ⟨h1, h2⟩ | ⟨f, h1, h2, h3⟩
  · refine .inl ⟨h1, fun j hj hji => ?_⟩
    by_cases e : j = i
    · subst e
      exact hk
    · exact h2 j hj (by omega)
  · exact .inr ⟨f, h1, by omega, h3⟩
theorem firstSo_new {l : List Ev.Event} {key : Int} {i : Nat} (h : ∀ j (_ : j < l.length), j < i → l[j].key ≠ key) (hi : i < l.length) (hk : l[i].key = key) : FirstSo l key (i + 1) (i : Int) := .inr ⟨i, rfl, by omega, hi, hk, h⟩
/-- No write of the key's value among the first i. -/
def Clear (l : List Ev.Event) (key val : Int) (i : Nat) : Prop := ∀ j (_ : j < l.length), j < i → ¬ (l[j].kind = 2 ∧ l[j].key = key ∧ l[j].value = val)
theorem clear_zero (l : List Ev.Event) (key val : Int) : Clear l key val 0 := fun j _ h => absurd h (by omega)
theorem clear_succ {l : List Ev.Event} {key val : Int} {i : Nat} (h : Clear l key val i) (hi : i < l.length) (hk : ¬ (l[i].kind = 2 ∧ l[i].key = key ∧ l[i].value = val)) : Clear l key val (i + 1) := fun j hj hji => by
  by_cases e : j = i
  · subst e
    exact hk
  · exact h j hj (by omega)
/-- What one read more ahead of all comes to. -/
theorem front_hit (l : List Ev.Event) (k : Nat) (val : Int) (hr : Ev.right ⟨1, 0, (k : Int), val⟩ = true) (i : Nat) (hi : i < l.length) (h : l[i].kind = 2 ∧ l[i].key = (k : Int) ∧ l[i].value = val) : lookR (⟨1, 0, (k : Int), val⟩ :: l) = (([], []), 0, 9) :=
  front_future ⟨1, 0, (k : Int), val⟩ hr rfl ((future_iff _ _).2 ⟨i, hi, h⟩)
theorem front_all {l : List Ev.Event} (hg : good l) (k : Nat) (val : Int) (hr : Ev.right ⟨1, 0, (k : Int), val⟩ = true) (n : Int) (hf : FirstSo l (k : Int) l.length n) (hc : Clear l (k : Int) val l.length) :
    (n = -1 ∧ ∃ rs, lookR (⟨1, 0, (k : Int), val⟩ :: l) = ((rs, writesTo l 16), 0, 0)) ∨ ∃ f : Nat, ∃ hfl : f < l.length, n = (f : Int) ∧
      (l[f].kind ≠ 1 ∧ (∃ rs, lookR (⟨1, 0, (k : Int), val⟩ :: l) = ((rs, writesTo l 16), 0, 0)) ∨ l[f].kind = 1 ∧ (l[f].value = val ∧ (∃ rs, lookR (⟨1, 0, (k : Int), val⟩ :: l) = ((rs, writesTo l 16), 0, 0)) ∨ l[f].value ≠ val ∧ lookR (⟨1, 0, (k : Int), val⟩ :: l) = (([], []), (f : Int) + 1, 11))) := by
  obtain ⟨x, hx⟩ : ∃ x : Ev.Event, x = ⟨1, 0, (k : Int), val⟩ := ⟨_, rfl⟩
  rw [← hx] at hr ⊢
  have hx1 : x.kind = 1 := by rw [hx]
  have hxk : x.key = (k : Int) := by rw [hx]
  have hxv : x.value = val := by rw [hx]
  have hfu : future x l = false := by
    cases h : future x l with
    | false => rfl
    | true =>
      obtain ⟨j, hj, h1, h2, h3⟩ := (future_iff x l).1 h
      exact absurd ⟨h1, h2.trans hxk, h3.trans hxv⟩ (hc j hj hj)
  have ok : (∀ f (hfl : f < l.length), isFirst l x.key f → l[f].kind = 1 → l[f].value = x.value) → ∃ rs, lookR (x :: l) = ((rs, writesTo l 16), 0, 0) := fun h => by
    refine ⟨readsTo (x :: l) 16, ?_⟩
    rw [look_ok _ (front_good hg x hr hx1 hfu h), faceR, writes_front x hx1 l]
  rcases hf with ⟨h1, h2⟩ | ⟨f, h1, h2, h3⟩
  · refine .inl ⟨h1, ok fun f hfl hff _ => ?_⟩
    have := hff.2.1
    rw [hxk] at this
    exact absurd this (h2 f hfl hfl)
  · have hfl := h3.choose
    have h3' : isFirst l x.key f := by rw [hxk]; exact h3
    refine .inr ⟨f, hfl, h1, ?_⟩
    by_cases hk : l[f].kind = 1
    · refine .inr ⟨hk, ?_⟩
      by_cases hv : l[f].value = val
      · refine .inl ⟨hv, ok fun g hgl hgf _ => ?_⟩
        obtain rfl := first_one h3' hgf
        rw [hxv]
        exact hv
      · refine .inr ⟨hv, ?_⟩
        have := front_bad hg x hr hx1 hfu f hfl h3' hk (by rw [hxv]; exact hv)
        rw [this]
        simp
    · refine .inl ⟨hk, ok fun g hgl hgf hgk => ?_⟩
      obtain rfl := first_one h3' hgf
      exact absurd hgk hk
end In
theorem slice_one (l : List Ev.Event) (A : Option Addr) (c n : Nat) (hn : n = l.length) (hl : 1 ≤ l.length) : ∃ (A' : Option Addr) (c' : Nat), (∀ W : World, (Instr.sliceAt 22 (.slice A n c) (some (.int .i64 1)) none none).run Try.prog W = .ok (.slice A' (n - 1) c') W) ∧
    ∀ W : World, Evs W (.slice A n c) l → Evs W (.slice A' (n - 1) c') (l.drop 1) := by
  refine ⟨_, _, fun W => ?_, fun W h => h.drop 1 hl⟩
  have hel : Try.prog.elem 22 = 41 := by kernel_rfl
  have hsz : (sizeOf 41).run Try.prog W = .ok 4 W := by kernel_rfl
  have hun : Try.prog.underlying 22 = some (.slice (Try.prog.elem 22)) := by rw [hel]; exact Try.underlying22
  rw [run_sliceAt_slice W _ _ _ _ _ hun, run_slice_l W _ _ _ _ hun .i64 1 (by omega) (by omega), hel, hsz]
  rfl
set_option maxHeartbeats 2000000 in
set_option maxRecDepth 4000 in
theorem lawInnerFront (l : List Ev.Event) (v : Value) (key val : Int) (w : World) (hv : Evs w v l) : Calls Try.prog 6 #[v, .int .i64 key, .int .i64 val] w (RetBool w true) := by
  obtain ⟨i0, hi0, hz0, hz1, hz2⟩ := info_parts ev_info
  have I0 := Lib.hid hi0
  have I1 := Lib.hid hz0
  have I2 := Lib.hid hz1
  have I3 := Lib.hid hz2
  clear hi0 hz0 hz1 hz2
  obtain ⟨A, c, rfl, hform⟩ := hv.spelled
  have V0 := Lib.hid hv
  have HF := Lib.hid hform
  clear hv hform
  go_enter Try.func6, Try.ntmps6
  go_wp2_with fail
  refine (inAwake_at _).mono ?_
  rintro e w1 ⟨rfl, hb1⟩
  have V1 := Lib.hid (V0.out.below hb1)
  have B1 := Lib.hid hb1
  clear hb1 V0
  rcases guard_ways l.length key val with (g1 | ⟨g1, g2 | ⟨g2, g3 | ⟨g3, g4 | ⟨g4, g5⟩⟩⟩⟩) | ⟨g1, g2, g3, g4, g5, hl2, hv0, hv1, k, hk16, rfl⟩
  · go_wp2_with fail
    go_ret
    exact ⟨rfl, B1.out⟩
  · go_wp2_with fail
    go_ret
    exact ⟨rfl, B1.out⟩
  · go_wp2_with fail
    go_ret
    exact ⟨rfl, B1.out⟩
  · go_wp2_with fail
    go_ret
    exact ⟨rfl, B1.out⟩
  · go_wp2_with fail
    go_ret
    exact ⟨rfl, B1.out⟩
  have hl : l.length ≤ 4294967296 := by omega
  go_wp2_with fail
  refine (look6_at l _ w1 V1.out hl).mono ?_
  rintro e w2 ⟨x, y, rfl, hx, hy, hb2⟩
  rcases In.look_cases l with hg | ⟨j, _, he1, he2⟩
  case inr =>
    have hq : (In.errAt l j != 0) = true := by rw [bne_iff_ne]; exact he1
    rw [In.look_bad l j he2 he1] at hx hy ⊢
    obtain ⟨A1, c1, rfl, _⟩ := hx.spelled
    obtain ⟨A2, c2, rfl, _⟩ := hy.spelled
    have B2 := Lib.hid (below_all B1.out (below_all hb2 (alloc_below w2 (.cells #[.slice A1 0 c1, .slice A2 0 c2] 34))))
    clear hx hy hb2 he1 he2
    dsimp only [List.length_nil]
    go_wp2_with fail
    go_ret
    exact ⟨rfl, B2.out⟩
  rw [In.look_ok l hg] at hx hy ⊢
  have hright := In.read_right k hk16 val hv0 hv1
  have HHIT := Lib.hid (In.front_hit l k val hright)
  have HALL := Lib.hid (In.front_all hg k val hright)
  dsimp only [In.faceR] at hx hy ⊢
  have hrl := In.reads_len l 16
  have hwl := In.writes_len l 16
  generalize In.readsTo l 16 = rs at *
  generalize In.writesTo l 16 = ws at *
  obtain ⟨A1, c1, rfl, _⟩ := hx.spelled
  obtain ⟨A2, c2, rfl, _⟩ := hy.spelled
  obtain ⟨W, hW⟩ : ∃ W, W = w2.alloc (.cells #[.slice A1 rs.length c1, .slice A2 ws.length c2] 34) := ⟨_, rfl⟩
  have HBW : Hid (Below w2.heap.size w2 W) := by rw [hW]; exact alloc_below _ _
  have FW : Hid (W.heap[w2.heap.size]? = some (.cells #[.slice A1 rs.length c1, .slice A2 ws.length c2] 34 (0, 0))) := by rw [hW]; exact heap_alloc_new _ _
  have YW := Lib.hid (hy.below HBW.out)
  have VW := Lib.hid (V1.out.below (below_all hb2 HBW.out))
  have BW := Lib.hid (below_all B1.out (below_all hb2 HBW.out))
  have N0 := Lib.hid (World.ownsRow_nil (W.alloc (.cells #[.int .i64 1, .int .i64 0, .int .i64 (k : Int), .int .i64 val] 41)) W.heap.size 41 4)
  have BL := Lib.hid ((Below.refl W.heap.size W).alloc (Nat.le_refl _) (.cells #[.int .i64 1, .int .i64 0, .int .i64 (k : Int), .int .i64 val] 41))
  clear hx hy hb2 V1 B1 hg hright
  go_upto_region 9 with fail
  rw [← hW]
  clear hW
  go_wp2_with (first
    | (at_builtin; refine wpList_append_own_at _ rfl (.tmp 48) (.tmp 52) 22 rfl W.heap.size 41 i0 _ 4 32 Try.underlying22 I0.out I1.out I2.out I3.out rfl (by decide) _ 0 [] rfl N0.out ⟨W.heap.size, 0, none⟩ 1 1 (evCells ⟨1, 0, (k : Int), val⟩) rfl rfl (new_ev W ⟨1, 0, (k : Int), val⟩ _) (one_evs _) (by simp only [maxLen]; omega) (by omega) BL.out.size ?_; intro v3 w3 hown3 hgrow3 hnil3 hat3; have hown4 : w3.ownsRow W.heap.size 41 4 v3 1 (evCells ⟨1, 0, (k : Int), val⟩) := (by simpa using hown3); have O3 := Lib.hid hown4; have B3 := Lib.hid (below_append BL.out BL.out.size N0.out hgrow3); have V3 := Lib.hid (VW.out.below B3.out); clear hown3 hgrow3 hnil3 hat3 hown4)
    | (at_builtin; refine wpList_append_sl _ rfl (.tmp 54) (.tmp 55) 22 rfl W.heap.size 41 i0 _ 4 32 Try.underlying22 I0.out I1.out I2.out I3.out rfl (by decide) v3 1 (evCells ⟨1, 0, (k : Int), val⟩) rfl O3.out _ l.length (l.flatMap evCells) rfl V3.out (all_evs l) (by simp only [maxLen]; omega) (by omega) B3.out.size ?_; intro v5 w5 hown5 hgrow5 hat5; have hown6 : w5.ownsRow W.heap.size 41 4 v5 ((⟨1, 0, (k : Int), val⟩ : Ev.Event) :: l).length (((⟨1, 0, (k : Int), val⟩ : Ev.Event) :: l).flatMap evCells) := (by rw [List.length_cons, Nat.add_comm, List.flatMap_cons]; exact hown5); have O5 := Lib.hid (Evs.own hown6); have B5 := Lib.hid (below_append B3.out B3.out.size O3.out hgrow5); clear hown5 hgrow5 hat5 hown6))
  refine (look6_at (⟨1, 0, (k : Int), val⟩ :: l) _ w5 O5.out (by simp; omega)).mono ?_
  rintro e w6 ⟨x6, y6, rfl, hx6, hy6, hb6⟩
  generalize hr : In.lookR (⟨1, 0, (k : Int), val⟩ :: l) = r2 at *
  clear hr
  obtain ⟨⟨rs2, ws2⟩, n2, q2⟩ := r2
  dsimp only at hx6 hy6 ⊢
  obtain ⟨A6, c6, rfl, _⟩ := hx6.spelled
  obtain ⟨A7, c7, rfl, _⟩ := hy6.spelled
  obtain ⟨A5, c5, rfl, _⟩ := O5.out.spelled
  obtain ⟨A8, c8, hsl0, hev0⟩ := slice_one (⟨1, 0, (k : Int), val⟩ :: l) A5 c5 _ rfl (by simp)
  obtain ⟨X, hX⟩ : ∃ X, X = w6.alloc (.cells #[.slice A6 rs2.length c6, .slice A7 ws2.length c7] 34) := ⟨_, rfl⟩
  have HBX : Hid (Below w6.heap.size w6 X) := by rw [hX]; exact alloc_below _ _
  have G6 : Hid (X.heap[w6.heap.size]? = some (.cells #[.slice A6 rs2.length c6, .slice A7 ws2.length c7] 34 (0, 0))) := by rw [hX]; exact heap_alloc_new _ _
  have hb7 := below_all B5.out (below_all hb6 HBX.out)
  have F6 := Lib.hid ((hb7.block _ (lt_of_block FW.out)).trans FW.out)
  have Y7 := Lib.hid (YW.out.below hb7)
  have V7 := Lib.hid (VW.out.below hb7)
  have Z6 := Lib.hid (hy6.below HBX.out)
  have O7 := Lib.hid (hev0 _ (O5.out.below (below_all hb6 HBX.out)))
  have B7 := Lib.hid (below_all BW.out hb7)
  rw [List.drop_succ_cons, List.drop_zero] at O7
  have HFX : Hid (∀ (j : Nat) (hj : j < l.length), ∃ ad : Addr, A = some ad ∧ ad.block < X.heap.size ∧ EvIn X ad j l[j]) := by
    obtain ⟨_, _, hq, hh⟩ := V7.out.spelled
    cases hq
    exact hh
  obtain ⟨_, f1, _⟩ := two_cells F6.out
  obtain ⟨_, p1, _⟩ := two_cells G6.out
  clear hx6 hy6 hb6 hb7 YW VW BW O3 O5 B3 B5 V3 hev0 N0 BL HF
  dsimp only [List.length_cons] at hsl0 O7 ⊢
  rw [Nat.add_sub_cancel] at hsl0 O7
  go_upto_region 13 with fail
  rw [← hX]
  clear hX HBX
  go_wp2_with fail
  go_loop [15, 16] (fun s15 s16 => ∃ (i : Nat) (n : Int), i ≤ l.length ∧ s16 = .int .i64 i ∧ s15 = .int .i64 n ∧ Hid (In.FirstSo l (k : Int) i n) ∧ Hid (In.Clear l (k : Int) val i)) (fun _ s16 => l.length - (intOf s16).toNat)
  case atStart => exact ⟨0, -1, Nat.zero_le _, rfl, rfl, In.firstSo_zero _ _, In.clear_zero _ _ _⟩
  case round =>
    obtain ⟨i, n, hi, rfl, rfl, hfirst, hclear⟩ := hrel
    by_cases hlt : i < l.length
    · obtain ⟨ad, rfl, hblk, hE⟩ := HFX.out i hlt
      have HM := Lib.hid (fun h => In.firstSo_miss hfirst.out hlt h)
      have HNW := Lib.hid (fun h h2 => In.firstSo_new (l := l) (key := (k : Int)) (i := i) h hlt h2)
      have HC := Lib.hid (fun h => In.clear_succ hclear.out hlt h)
      have HH := Lib.hid (fun h => HHIT.out i hlt h)
      generalize l[i]'hlt = y at *
      obtain ⟨n0, n1, n2', n3⟩ := hE
      rcases val_parts y.key (k : Int) with ⟨q1, hK⟩ | ⟨q1, hK⟩
      case inr =>
        have hne : Hid (y.key ≠ (k : Int)) := of_eq_false hK.out
        go_wp2_with fail
        go_round
        case rel => exact ⟨i + 1, n, by omega, by go_num, rfl, HM.out hne.out, HC.out (fun h => hne.out h.2.1)⟩
        case measure => simp [intOf]; omega
      have heq : Hid (y.key = (k : Int)) := by have h := hK.out; rw [Hid]; exact of_eq_true h
      rcases eql_parts y.kind 2 with ⟨q2', hK2⟩ | ⟨q2', hK2⟩
      · have hcl : Hid (In.Clear l (k : Int) val (i + 1)) := HC.out (fun h => by have := hK2.out; rw [decide_eq_false_iff_not] at this; exact this h.1)
        rcases hfirst.out with ⟨rfl, h2⟩ | ⟨f, rfl, h2, h3⟩
        · have HN := Lib.hid (HNW.out h2 heq.out)
          clear h2
          go_wp2_with fail
          go_round
          case rel => exact ⟨i + 1, (i : Int), by omega, by go_num, rfl, HN.out, hcl.out⟩
          case measure => simp [intOf]; omega
        · have HN : Hid (In.FirstSo l (k : Int) (i + 1) (f : Int)) := .inr ⟨f, rfl, by omega, h3⟩
          have hf0 : ¬ ((f : Int) < 0) := by omega
          clear h3
          go_wp2_with fail
          go_round
          case rel => exact ⟨i + 1, (f : Int), by omega, by go_num, rfl, HN.out, hcl.out⟩
          case measure => simp [intOf]; omega
      · rcases eql_parts y.value val with ⟨q3, hV⟩ | ⟨q3, hV⟩
        · have hcl : Hid (In.Clear l (k : Int) val (i + 1)) := HC.out (fun h => by have := hV.out; rw [decide_eq_false_iff_not] at this; exact this h.2.2)
          rcases hfirst.out with ⟨rfl, h2⟩ | ⟨f, rfl, h2, h3⟩
          · have HN := Lib.hid (HNW.out h2 heq.out)
            clear h2
            go_wp2_with fail
            go_round
            case rel => exact ⟨i + 1, (i : Int), by omega, by go_num, rfl, HN.out, hcl.out⟩
            case measure => simp [intOf]; omega
          · have HN : Hid (In.FirstSo l (k : Int) (i + 1) (f : Int)) := .inr ⟨f, rfl, by omega, h3⟩
            have hf0 : ¬ ((f : Int) < 0) := by omega
            clear h3
            go_wp2_with fail
            go_round
            case rel => exact ⟨i + 1, (f : Int), by omega, by go_num, rfl, HN.out, hcl.out⟩
            case measure => simp [intOf]; omega
        · have hh := HH.out ⟨by have := hK2.out; rw [decide_eq_true_eq] at this; exact this, heq.out, by have := hV.out; rw [decide_eq_true_eq] at this; exact this⟩
          simp only [Prod.mk.injEq] at hh
          obtain ⟨_, rfl, rfl⟩ := hh
          go_wp2_with fail
          go_ret
          exact ⟨rfl, B7.out⟩
    · obtain rfl : i = l.length := by omega
      rcases HALL.out n hfirst.out hclear.out with ⟨rfl, rs', hh⟩ | ⟨f, hfl, rfl, hcs⟩
      · simp only [Prod.mk.injEq] at hh
        obtain ⟨⟨rfl, rfl⟩, rfl, rfl⟩ := hh
        have Z7 := Lib.hid Z6.out
        go_wp2_with fail
        refine (rItems_at _ _ _ _ Y7.out Z7.out (by omega)).mono ?_
        rintro e w7 ⟨rfl, hb7⟩
        have O8 := Lib.hid (O7.out.below hb7)
        have V8 := Lib.hid (V7.out.below hb7)
        have B8 := Lib.hid (below_all B7.out hb7)
        clear hb7
        go_wp2_with fail
        refine (rEvSame_at l l _ _ _ O8.out V8.out hl hl).mono ?_
        rintro e w8 ⟨rfl, hb8⟩
        rw [decide_eq_true rfl]
        have B9 := Lib.hid (below_all B8.out hb8)
        clear hb8
        go_wp2_with fail
        go_ret
        exact ⟨rfl, B9.out⟩
      · obtain ⟨ad, rfl, hblk, hE⟩ := HFX.out f hfl
        have hf0 : (0 : Int) ≤ (f : Int) := by omega
        have hff : ((f : Int) + 1 == (f : Int) + 1) = true := by simp
        generalize l[f]'hfl = y at *
        obtain ⟨n0, n1, n2', n3⟩ := hE
        rcases hcs with ⟨hk, rs', hh⟩ | ⟨hk, ⟨hv, rs', hh⟩ | ⟨hv, hh⟩⟩
        · have q1 : (y.kind == 1) = false := beq_eq_false_iff_ne.2 hk
          simp only [Prod.mk.injEq] at hh
          obtain ⟨⟨rfl, rfl⟩, rfl, rfl⟩ := hh
          have Z7 := Lib.hid Z6.out
          clear hk
          go_wp2_with fail
          refine (rItems_at _ _ _ _ Y7.out Z7.out (by omega)).mono ?_
          rintro e w7 ⟨rfl, hb7⟩
          have O8 := Lib.hid (O7.out.below hb7)
          have V8 := Lib.hid (V7.out.below hb7)
          have B8 := Lib.hid (below_all B7.out hb7)
          clear hb7
          go_wp2_with fail
          refine (rEvSame_at l l _ _ _ O8.out V8.out hl hl).mono ?_
          rintro e w8 ⟨rfl, hb8⟩
          rw [decide_eq_true rfl]
          have B9 := Lib.hid (below_all B8.out hb8)
          clear hb8
          go_wp2_with fail
          go_ret
          exact ⟨rfl, B9.out⟩
        · have q1 : (y.kind == 1) = true := beq_iff_eq.2 hk
          have q2' : (y.value != val) = false := by simp [hv]
          simp only [Prod.mk.injEq] at hh
          obtain ⟨⟨rfl, rfl⟩, rfl, rfl⟩ := hh
          have Z7 := Lib.hid Z6.out
          clear hk hv
          go_wp2_with fail
          refine (rItems_at _ _ _ _ Y7.out Z7.out (by omega)).mono ?_
          rintro e w7 ⟨rfl, hb7⟩
          have O8 := Lib.hid (O7.out.below hb7)
          have V8 := Lib.hid (V7.out.below hb7)
          have B8 := Lib.hid (below_all B7.out hb7)
          clear hb7
          go_wp2_with fail
          refine (rEvSame_at l l _ _ _ O8.out V8.out hl hl).mono ?_
          rintro e w8 ⟨rfl, hb8⟩
          rw [decide_eq_true rfl]
          have B9 := Lib.hid (below_all B8.out hb8)
          clear hb8
          go_wp2_with fail
          go_ret
          exact ⟨rfl, B9.out⟩
        · have q1 : (y.kind == 1) = true := beq_iff_eq.2 hk
          have q2' : (y.value != val) = true := by simp [hv]
          simp only [Prod.mk.injEq] at hh
          obtain ⟨_, rfl, rfl⟩ := hh
          clear hk hv
          go_wp2_with fail
          go_ret
          exact ⟨rfl, B7.out⟩
end Go.Proofs.Ytlbpdnaaailpeaa
