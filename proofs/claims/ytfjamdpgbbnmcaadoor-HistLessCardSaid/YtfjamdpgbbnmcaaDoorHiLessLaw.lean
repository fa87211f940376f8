/-
  The walk of HistLess: it answers true, and what was in memory stays as it was.
  Conditions: the argument reads as a history; the variable that lists the kinds' words holds them.
-/
import Derived.Test.YtfjamdpgbbnmcaaDoorHiAwake
import Derived.Test.YtfjamdpgbbnmcaaDoorHiFew
import Derived.Test.YtfjamdpgbbnmcaaDoorHiLess
set_option maxRecDepth 4000
namespace Go.Proofs.YtfjamdpgbbnmcaaDoor
open Go.RowKit

namespace Hi
/-- Does one of the first k transactions read from the one with number m? -/
def readTo (h : List So.Txn) (m k : Nat) : Bool := (h.take k).any fun t => t.reads.any fun y => y.2 == (m : Int)
theorem readTo_succ (h : List So.Txn) (m k : Nat) (hk : k < h.length) : readTo h m (k + 1) = (readTo h m k || h[k].reads.any fun y => y.2 == (m : Int)) := by
  rw [readTo, readTo, List.take_succ_eq_append_getElem hk, List.any_append]
  simp
theorem less_answer (h : List So.Txn) (hr : Right h) (m : Nat) (hm : h.length = m + 1) : rightB (h.take m) = !readTo h m m := by
  have key := right_less h hr m hm
  cases hq : readTo h m m with
  | true =>
    rw [readTo, List.any_eq_true] at hq
    obtain ⟨t, ht, hq⟩ := hq
    rw [List.any_eq_true] at hq
    obtain ⟨y, hy, e⟩ := hq
    obtain ⟨i, hi, rfl⟩ := List.getElem_of_mem ht
    rw [List.length_take] at hi
    rw [List.getElem_take] at hy
    exact rightB_no fun q => key.1 q i (by omega) (by omega) y hy (beq_iff_eq.1 e)
  | false =>
    refine rightB_yes (key.2 fun i hi him y hy e => ?_)
    have : readTo h m m = true := by
      rw [readTo, List.any_eq_true]
      refine ⟨h[i], ?_, List.any_eq_true.2 ⟨y, hy, beq_iff_eq.2 e⟩⟩
      rw [List.mem_take_iff_getElem]
      exact ⟨i, by omega, rfl⟩
    rw [this] at hq
    cases hq
end Hi

theorem txns_take {w : World} {A : Option Addr} {n c : Nat} {h : List So.Txn} (hv : Txns w (.slice A n c) h) (m : Nat) (hm : m ≤ h.length) : Txns w (.slice A m c) (h.take m) := by
  obtain ⟨p, rfl, ⟨h1, A', c', e, hc, hz, hh⟩, h3⟩ := hv
  cases e
  rw [List.length_map] at hm
  refine ⟨p.take m, List.map_take, ⟨?_, A, c, ?_, by rw [List.length_take]; omega, hz, fun h0 => ?_⟩, fun x hx => h3 x (List.mem_of_mem_take hx)⟩
  · rw [flat_len txnC_len]
  · rw [List.length_take, Nat.min_eq_left hm]
  · rw [List.length_take] at h0
    obtain ⟨ad, e, hb, hcell⟩ := hh (by omega)
    refine ⟨ad, e, hb, fun j u hu => hcell j u ?_⟩
    have e2 : p.flatMap txnC = (p.take m).flatMap txnC ++ (p.drop m).flatMap txnC := by rw [← List.flatMap_append, List.take_append_drop]
    rw [e2, List.getElem?_append_left (List.getElem?_eq_some_iff.1 hu).1]
    exact hu
theorem slice_front (A : Option Addr) (n c m : Nat) (hm : m ≤ c) (W : World) : (Instr.sliceAt 22 (.slice A n c) none (some (.int .i64 (m : Int))) none).run Tryd.prog W = .ok (.slice A m c) W := by
  have hel : Tryd.prog.elem 22 = 47 := by kernel_rfl
  have hsz : (sizeOf 47).run Tryd.prog W = .ok 3 W := by kernel_rfl
  have hun : Tryd.prog.underlying 22 = some (.slice (Tryd.prog.elem 22)) := by rw [hel]; exact Tryd.underlying22
  rw [run_sliceAt_slice W _ _ _ _ _ hun, run_slice_h W _ _ _ _ hun .i64 (m : Int) (by omega) (by omega), hel, hsz]
  have e : ∀ B : Option Addr, B.map (·.add (0 * 3)) = B := fun B => by cases B <;> simp [add_zero']
  simp only [Result.andThen, sliced, e, ite_self, Nat.sub_zero, Int.toNat_natCast]
theorem all_txnC {w : World} (p : List (So.Txn × Value × Value)) (h : ∀ x ∈ p, Ns w x.2.1 x.1.writes ∧ Its w x.2.2 x.1.reads) : ∀ u ∈ p.flatMap txnC, u.oneCell' = true := by
  intro u hu
  obtain ⟨⟨t, a, b⟩, hx, hu⟩ := List.mem_flatMap.1 hu
  obtain ⟨h1, h2⟩ := h _ hx
  obtain ⟨A, c, e1, _⟩ := h1.spelled
  obtain ⟨A', c', e2, _⟩ := h2.spelled
  dsimp only at e1 e2
  subst e1
  subst e2
  exact one_txnC _ _ _ _ _ _ _ u hu
/-- A copy of a history with one more, in memory of the call's own: it reads as it should. -/
theorem more_txns {w W : World} {base : Nat} {v : Value} {p : List (So.Txn × Value × Value)} (h : ∀ x ∈ p, Ns w x.2.1 x.1.writes ∧ Its w x.2.2 x.1.reads) (hb : Below w.heap.size w W) (s : Int)
    (ho : W.ownsRow base 47 3 v (p.length + 1) (p.flatMap txnC ++ txnC (⟨s, [], []⟩, .slice none 0 0, .slice none 0 0))) : Txns W v (p.map (·.1) ++ [⟨s, [], []⟩]) := by
  refine ⟨p ++ [(⟨s, [], []⟩, .slice none 0 0, .slice none 0 0)], by simp, ?_, fun x hx => ?_⟩
  · have := Sl.own ho
    rw [List.length_append, List.flatMap_append]
    simpa using this
  · rcases List.mem_append.1 hx with q | q
    · exact ⟨(h x q).1.below hb, (h x q).2.below hb⟩
    · rw [List.mem_singleton.1 q]
      exact ⟨Ns.nil _ _, Its.nil _ _⟩

/-- The variable that holds the copy, and the copy. -/
structure MoreAt (w W : World) (v : Value) (n : Nat) (xs : List Value) : Prop where
  box : Boxed W w.heap.size 24 v
  own : W.ownsRow (w.heap.size + 1) 47 3 v n xs
  below : Below w.heap.size w W
theorem MoreAt.start (w : World) : MoreAt w (w.alloc (.cells #[.slice none 0 0] 24)) (.slice none 0 0) 0 [] := ⟨Boxed.new _ _ _, World.ownsRow_nil _ _ _ _, alloc_below _ _⟩
theorem MoreAt.alloc {w W : World} {v : Value} {n : Nat} {xs : List Value} (h : MoreAt w W v n xs) (o : Obj) : MoreAt w (W.alloc o) v n xs := ⟨h.box.alloc o, h.own.alloc o, below_all h.below (alloc_below _ _)⟩
/-- Behind an append onto the copy: its slice is laid into the variable. -/
theorem MoreAt.grow {w W W' : World} {v v' : Value} {n m : Nat} {xs ys : List Value} (h : MoreAt w W v n xs) (ho : W'.ownsRow (w.heap.size + 1) 47 3 v' m ys) (hg : W.grownBy W' v.ownBlock) :
    ∃ A c, v' = .slice A m c ∧ W'.cell? ⟨w.heap.size, 0, none⟩ = some v ∧ W'.frozen? ⟨w.heap.size, 0, none⟩ = false ∧ MoreAt w (W'.setCell ⟨w.heap.size, 0, none⟩ v') v' m ys := by
  obtain ⟨A, c, e⟩ := own_form ho
  have hb : Boxed W' w.heap.size 24 v := h.box.kept hg (fun e => by
    have := (h.own.lt w.heap.size e.symm).1
    omega)
  have hbw : Below w.heap.size w W' := h.below.grown hg h.below.size (fun k e => by
    have := (h.own.lt k e).1
    omega)
  exact ⟨A, c, e, hb.cell, hb.frozen, hb.set v', own_setCell ho (by omega), hbw.setCell (p := ⟨w.heap.size, 0, none⟩) (Nat.le_refl _) v'⟩
theorem append_more {w W : World} {v : Value} {n : Nat} {xs : List Value} (M : MoreAt w W v n xs) {ops : Array Oper} {rest : List Oper} {o : Oper} {a : Act} {Q : Exit → Act → World → Prop} (hgd : o.guard = none) (s x : Operand)
    (ho : o.op = .call { callee := .builtin .append, args := #[s, x], argTypes := #[22, 22] }) (hs : a.eval s = v) (u : Value) (m : Nat) (news : List Value) (hx : a.eval x = u) (hu : Sl W 3 u m news) (h1 : ∀ x ∈ news, x.oneCell' = true) (k : Nat) (hk : n + m = k) (hl : k ≤ 64) (ys : List Value) (hy : xs ++ news = ys)
    (h : ∀ (A : Option Addr) (c : Nat) (W' : World), W'.cell? ⟨w.heap.size, 0, none⟩ = some v → W'.frozen? ⟨w.heap.size, 0, none⟩ = false → MoreAt w (W'.setCell ⟨w.heap.size, 0, none⟩ (.slice A k c)) (.slice A k c) k ys → wpList Tryd.prog ops Q rest (a.put o.dst (.slice A k c)) W') : wpList Tryd.prog ops Q (o :: rest) a W := by
  obtain ⟨i0, hi, hz, hsz, hby⟩ := info_parts txn_info
  subst hk
  subst hy
  refine wpList_append_sl W hgd s x _ ho (w.heap.size + 1) 47 i0 _ 3 56 Tryd.underlying22 hi hz hsz hby rfl (by decide) v n xs hs M.own u m news hx hu h1 (by simp only [maxLen]; omega) (by omega) (Nat.succ_le_of_lt M.box.lt) fun v' W' ho' hg _ => ?_
  obtain ⟨A, c, rfl, c1, f1, M'⟩ := M.grow ho' hg
  exact h A c W' c1 f1 M'
theorem three_lit (W : World) (b : Nat) (hb : W.heap.size = b) : Sl (W.alloc (.cells #[.int .i64 3, .slice none 0 0, .slice none 0 0] 47)) 3 (.slice (some ⟨b, 0, none⟩) 1 1) 1 (txnC (⟨3, [], []⟩, .slice none 0 0, .slice none 0 0)) := by
  subst hb
  exact Sl.own (World.ownsRow_lit (base := 0) (e := 47) (size := 3) W #[.int .i64 3, .slice none 0 0, .slice none 0 0] 1 (Nat.zero_le _) (by simp [maxLen]) (by simp))

set_option maxHeartbeats 2000000 in
theorem lawHistLess (h : List So.Txn) (u : Value) (w : World) (hK : KW w) (hv : Txns w u h) : Calls Tryd.prog 6 #[.agg #[u]] w (RetBool w true) := by
  obtain ⟨j0, hi0, hz0, hz1, hz2⟩ := info_parts txn_info
  have J0 := Lib.hid hi0
  have J1 := Lib.hid hz0
  have J2 := Lib.hid hz1
  have J3 := Lib.hid hz2
  clear hi0 hz0 hz1 hz2
  have B0 := Lib.hid (alloc_below w (.cells #[u] 24))
  have K0 := Lib.hid (hK.below B0.out)
  have V0 := Lib.hid (hv.below B0.out)
  have N0 := Lib.hid (Boxed.new w 24 u)
  obtain ⟨A, c, rfl, _⟩ := hv.spelled
  clear hK hv
  go_enter Tryd.func6, Tryd.ntmps6
  go_wp2_with fail
  generalize w.alloc (.cells #[.slice A h.length c] 24) = w1 at *
  refine (hiAwake_at w1 K0.out).mono ?_
  rintro e w2 ⟨rfl, hb2⟩
  have B2 := Lib.hid hb2
  have n2 := (Boxed.later N0.out hb2).cell
  clear hb2
  go_wp2_with fail
  refine (few8_at h _ w2 (V0.out.below B2.out)).mono ?_
  rintro e w3 ⟨rfl, hb3⟩
  have B3 := Lib.hid (below_all B2.out hb3)
  have n3 := (Boxed.later N0.out B3.out).cell
  clear hb3 n2
  cases hf : Hi.fewB h with
  | false =>
    clear hf
    go_wp2_with fail
    go_ret
    exact ⟨rfl, below_all B0.out B3.out⟩
  | true =>
  have HS := Lib.hid (Hi.few_small hf)
  clear hf
  go_wp2_with fail
  refine (hRight_at h _ w3 (V0.out.below B3.out) HS.out.2.2).mono ?_
  rintro e w4 ⟨rfl, hb4⟩
  have B4 := Lib.hid (below_all B3.out hb4)
  have n4 := (Boxed.later N0.out B4.out).cell
  clear hb4 n3
  by_cases hr : Hi.Right h
  rotate_left
  · rw [Hi.rightB_no hr]
    clear hr
    go_wp2_with fail
    go_ret
    exact ⟨rfl, below_all B0.out B4.out⟩
  rw [Hi.rightB_yes hr]
  have HR := Lib.hid hr
  have hl32 := hr.1
  clear hr
  obtain ⟨p, hp, hsl, hin⟩ := V0.out.below B4.out
  have HIN := Lib.hid hin
  have HP := Lib.hid hp
  have hpl : p.length ≤ 32 := by
    have := congrArg List.length hp
    rw [List.length_map] at this
    omega
  have M5 := Lib.hid (MoreAt.start w4)
  have HSL := Lib.hid (hsl.below M5.out.below)
  have HALL := Lib.hid (all_txnC p hin)
  have n5 := (Boxed.later (Boxed.later N0.out B4.out) M5.out.below).cell
  have hs5 : Hid ((w4.alloc (.cells #[.slice none 0 0] 24)).heap.size = w4.heap.size + 1) := World.size_alloc _ _
  clear hp hsl hin
  go_wp2_with (first
    | (at_builtin; refine append_more M5.out rfl (.tmp 23) (.tmp 25) rfl rfl _ p.length (p.flatMap txnC) rfl HSL.out HALL.out p.length (Nat.zero_add _) (by omega) (p.flatMap txnC) rfl ?_; intro A6 c6 w6 x6 f6 hM6; have M8 := Lib.hid (hM6.alloc (.cells #[.int .i64 3, .slice none 0 0, .slice none 0 0] 47)); have HN8 := Lib.hid (three_lit (w6.setCell ⟨w4.heap.size, 0, none⟩ (.slice A6 p.length c6)) w6.heap.size (by simp)); clear hM6 n5)
    | (at_builtin; refine append_more M8.out rfl (.tmp 29) (.tmp 31) rfl rfl _ 1 (txnC (⟨3, [], []⟩, .slice none 0 0, .slice none 0 0)) rfl HN8.out (one_txnC _ _ _ _ _ _ _) (p.length + 1) rfl (by omega) _ rfl ?_; intro A9 c9 w9 x9 f9 hM9; have M10 := Lib.hid hM9; clear hM9 x6 f6))
  have B10 := Lib.hid (below_all B4.out M10.out.below)
  have V10 := Lib.hid (V0.out.below B10.out)
  have n10 := (Boxed.later N0.out B10.out).cell
  have m10 := M10.out.box.cell
  have T10 : Hid (Txns (w9.setCell ⟨w4.heap.size, 0, none⟩ (.slice A9 (p.length + 1) c9)) (.slice A9 (p.length + 1) c9) (h ++ [⟨3, [], []⟩])) := by
    have := more_txns HIN.out M10.out.below 3 M10.out.own
    rw [HP.out] at this
    exact this
  have HSM : Hid (∀ t ∈ h ++ [⟨3, [], []⟩], t.writes.length ≤ 4294967296 ∧ t.reads.length ≤ 4294967296) := fun t ht => by
    rcases List.mem_append.1 ht with q | q
    · exact HS.out.2.2 t q
    · rw [List.mem_singleton.1 q]; simp
  have HMORE := Lib.hid (Hi.right_more h HR.out 3 (by omega))
  generalize w9.setCell ⟨w4.heap.size, 0, none⟩ (.slice A9 (p.length + 1) c9) = W at *
  clear M5 HSL HALL M8 HN8 M10 x9 f9 HIN n4
  obtain ⟨r, hrr, hd32⟩ : ∃ r : Bool, Hi.rightB (h ++ [⟨3, [], []⟩]) = r ∧ decide ((h.length : Int) < 32) = r := by
    by_cases hq : h.length < 32
    · exact ⟨true, Hi.rightB_yes (HMORE.out.2 hq), decide_eq_true (by omega)⟩
    · exact ⟨false, Hi.rightB_no (fun q => hq (HMORE.out.1 q)), decide_eq_false (by omega)⟩
  have HRR := Lib.hid hrr
  have HBD := Lib.hid (Below.refl W.heap.size W).drew
  clear hrr
  go_region_held3 (fun w' => w'.cell? ⟨w.heap.size, 0, none⟩ = some (.slice A h.length c) ∧ w'.cell? ⟨w4.heap.size, 0, none⟩ = some (.slice A9 (p.length + 1) c9))
    (first | (exact ⟨n10, m10⟩) | (exact ⟨n11, m11⟩))
    (first | (go_at_call 10; (with_reducible refine (hRight_at (h ++ [⟨3, [], []⟩]) _ _ (T10.out.below HBD.out) HSM.out).mono ?_); rintro e w11 ⟨rfl, hb11⟩; rw [HRR.out]; have B11 := Lib.hid (below_all HBD.out hb11); have n11 : w11.cell? ⟨w.heap.size, 0, none⟩ = some (.slice A h.length c) := (B11.out.cell (World.block_lt_of_cell? W _ n10)).trans n10; have m11 : w11.cell? ⟨w4.heap.size, 0, none⟩ = some (.slice A9 (p.length + 1) c9) := (B11.out.cell (World.block_lt_of_cell? W _ m10)).trans m10; clear hb11))
  all_goals
    have hne : (r != r) = false := by simp
    have B12 := Lib.hid (below_all B10.out B11.out)
    have V12 := Lib.hid (V0.out.below B12.out)
    clear n10 m10 m11 HRR T10 HSM HMORE HBD V10 B11 B10 HP hd32
    rcases Nat.eq_zero_or_pos h.length with h0 | hpos
    · have hz : decide ((h.length : Int) - 1 < 0) = true := decide_eq_true (by omega)
      go_wp2_with fail
      go_ret
      exact ⟨rfl, below_all B0.out B12.out⟩
    obtain ⟨m, hm⟩ : ∃ m, h.length = m + 1 := ⟨h.length - 1, by omega⟩
    have hsub : (h.length : Int) - 1 = (m : Int) := by omega
    have hz : decide ((m : Int) < 0) = false := decide_eq_false (by omega)
    have HANS := Lib.hid (Hi.less_answer h HR.out m hm)
    have hml : (m : Int) < 4294967296 := by omega
    obtain ⟨A', c', e', hform⟩ := V12.out.spelled
    cases e'
    have HF := Lib.hid hform
    have HCAP : Hid (m ≤ c) := by
      obtain ⟨q, hq, ⟨_, A5, c5, e5, hc5, _⟩, _⟩ := V12.out
      simp only [Value.slice.injEq] at e5
      show m ≤ c
      omega
    clear hform hpos
    go_wp2_with fail
    clear hz hne
    go_loop [7, 8] (fun s7 s8 => ∃ k : Nat, k ≤ m ∧ s8 = .int .i64 k ∧ s7 = .bool (Hi.readTo h m k)) (fun _ s8 => m - (intOf s8).toNat)
    case atStart => exact ⟨0, Nat.zero_le _, rfl, rfl⟩
    case round =>
      obtain ⟨k, hk, rfl, rfl⟩ := hrel
      by_cases hlt : k < m
      · have hkh : k < h.length := by omega
        obtain ⟨ad, x, y, rfl, hblk, hT, _, hy⟩ := HF.out k hkh
        have HSC := Lib.hid (Hi.readTo_succ h m k hkh)
        have hrl := (HS.out.2.2 _ (List.getElem_mem hkh)).2
        obtain ⟨_, _, e2⟩ := hT
        generalize h[k].reads = rs at *
        obtain ⟨A2, c2, rfl, hrow⟩ := hy.spelled
        have HRW := Lib.hid hrow
        generalize Hi.readTo h m k = b0 at *
        clear hrow hy
        go_wp2_with fail
        go_loop [7, 9] (fun s7 s9 => ∃ j : Nat, j ≤ rs.length ∧ s9 = .int .i64 j ∧ s7 = .bool (b0 || (rs.take j).any fun y => y.2 == (m : Int))) (fun _ s9 => rs.length - (intOf s9).toNat)
        case atStart => exact ⟨0, Nat.zero_le _, rfl, by simp⟩
        case round =>
          obtain ⟨j, hj, rfl, rfl⟩ := hrel
          by_cases hjl : j < rs.length
          · obtain ⟨ad2, rfl, hblk2, hI⟩ := HRW.out j hjl
            have HJ : Hid ((b0 || (rs.take (j + 1)).any fun y => y.2 == (m : Int)) = ((b0 || (rs.take j).any fun y => y.2 == (m : Int)) || rs[j].2 == (m : Int))) := by
              rw [Hid, List.take_succ_eq_append_getElem hjl, List.any_append]
              simp [Bool.or_assoc]
            obtain ⟨_, i1⟩ := hI
            generalize rs[j].2 = f at *
            generalize (b0 || (rs.take j).any fun y => y.2 == (m : Int)) = b at *
            cases b with
            | true =>
              go_wp2_with fail
              go_round
              case rel => exact ⟨j + 1, by omega, by go_num, by rw [HJ.out]; rfl⟩
              case measure => simp [intOf]; omega
            | false =>
              go_wp2_with fail
              go_round
              case rel => exact ⟨j + 1, by omega, by go_num, by rw [HJ.out, Bool.false_or]⟩
              case measure => simp [intOf]; omega
          · have HJ : Hid ((rs.take j) = rs) := List.take_of_length_le (by omega)
            rw [HJ.out]
            go_wp2_with fail
            go_round
            case rel => exact ⟨k + 1, by omega, by go_num, by rw [HSC.out]⟩
            case measure => simp [intOf]; omega
      · obtain rfl : k = m := by omega
        have hsl := slice_front A h.length c k HCAP.out
        have HT := Lib.hid (txns_take V12.out k (by omega))
        have HSS : Hid (∀ t ∈ h.take k, t.writes.length ≤ 4294967296 ∧ t.reads.length ≤ 4294967296) := fun t ht => HS.out.2.2 t (List.mem_of_mem_take ht)
        generalize Hi.readTo h k k = b at *
        have HRT := Lib.hid (fun w' (hw : Txns w' (.slice A k c) (h.take k)) => hRight_at (h.take k) _ w' hw HSS.out)
        clear HSS hsub hm
        cases b with
        | true =>
          go_wp2_with fail
          refine (HRT.out _ HT.out).mono ?_
          rintro e w13 ⟨rfl, hb13⟩
          rw [show Hi.rightB (h.take k) = false from HANS.out]
          have B13 := Lib.hid (below_all B0.out (below_all B12.out hb13))
          clear hb13
          go_wp2_with fail
          go_ret
          exact ⟨rfl, B13.out⟩
        | false =>
          go_wp2_with fail
          refine (HRT.out _ HT.out).mono ?_
          rintro e w13 ⟨rfl, hb13⟩
          rw [show Hi.rightB (h.take k) = true from HANS.out]
          have B13 := Lib.hid (below_all B0.out (below_all B12.out hb13))
          clear hb13
          go_wp2_with fail
          go_ret
          exact ⟨rfl, B13.out⟩
end Go.Proofs.YtfjamdpgbbnmcaaDoor
