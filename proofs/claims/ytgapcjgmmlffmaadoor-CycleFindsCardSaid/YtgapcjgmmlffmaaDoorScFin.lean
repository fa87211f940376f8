/-
  What the search's call that takes a component off answers, and its calls on the two stacks.
  Conditions: at most 64 nodes; the nodes that wait for a component are different ones; those behind the component's first one are the component.
-/
import Derived.Test.YtgapcjgmmlffmaaDoorScSort
import Derived.Test.YtgapcjgmmlffmaaDoorScStk
set_option maxRecDepth 4000
namespace Go.Proofs.YtgapcjgmmlffmaaDoor
open Go.RowKit

section
variable {base n : Nat} {W W' W0 : World} {P P' : Pl} {ends : Nat → List Nat} {s : Sc.Wk} {Q : List (Nat × Nat)} {S : Nat → Prop}
/-- What turns nothing of the search. -/
theorem Wlk.past (h : Wlk base W P n ends s Q) (ht : Turn S W W') (hS : ∀ k, S k → ¬ P.all k) : Wlk base W' P n ends s Q := by
  have off : ∀ i k, P.fp i k → ¬ S k := fun i k q a => hS k a ⟨i, q⟩
  exact ⟨ht.heap h.blk (off 0 _ rfl), ht.heap h.rank (off 1 _ rfl), ht.heap h.low (off 2 _ rfl), ht.stk h.wait (off 3 _ (.inl rfl)) (fun _ q => off 3 _ (.inr q)), ht.stk h.loose (off 4 _ (.inl rfl)) (fun _ q => off 4 _ (.inr q)),
    ht.ownRR h.rows (fun _ q => off 5 _ (.inl q)) (fun x hx _ q => off 5 _ (.inr ⟨x, hx, q⟩)), h.rowsAre, ht.ownRR h.comps (fun _ q => off 6 _ (.inl q)) (fun x hx _ q => off 6 _ (.inr ⟨x, hx, q⟩)), h.compsAre, h.apart,
    fun i k q => ⟨(h.inside i k q).1, Nat.lt_of_lt_of_le (h.inside i k q).2 ht.size⟩⟩
theorem Went.past (h : Went P P' W0 W) (ht : Turn S W W') (hS : ∀ k, S k → W0.heap.size ≤ k) : Went P P' W0 W' :=
  ⟨⟨ht.os.trans h.turn.os, ht.tape.trans h.turn.tape, ht.output.trans h.turn.output, Nat.le_trans h.turn.size ht.size, fun k hk hn => (ht.block k (Nat.lt_of_lt_of_le hk h.turn.size) fun q => by have := hS k q; omega).trans (h.turn.block k hk hn)⟩, h.b, h.new⟩
theorem scPop_at (h : Wlk base W P n ends s Q) (L : List Nat) (y : Nat) (hl : s.loose = L ++ [y]) (hb : L.length < 4294967296) :
    Calls Tryd.prog 59 #[.pointer (some ⟨P.B2, 0, none⟩)] W fun e W' => e = .returned (.tuple #[.int .i64 (y : Nat), .bool true]) ∧ Wlk base W' P n ends ⟨s.rank, s.low, s.met, L, s.comps⟩ Q ∧ Went P P W W' := by
  have e0 : Bi.nums s.loose = Bi.nums L ++ [(y : Int)] := by rw [hl, Bi.nums_snoc]
  refine (stPop_some W h.loose L.length (by rw [e0, List.length_append, Bi.nums_len]; rfl) hb (y : Int) (by rw [e0, ← Bi.nums_len L]; simp)).mono ?_
  rintro e W' ⟨rfl, hs, hT⟩
  have e1 : (Bi.nums s.loose).take L.length = Bi.nums L := by rw [e0, ← Bi.nums_len L, List.take_left]
  rw [e1] at hs
  obtain ⟨h1, g1⟩ := h.setLoose hs (Moved.refl _ _) hT
  exact ⟨rfl, h1, g1⟩
theorem scTake_at (h : Wlk base W P n ends s Q) (L : List (Nat × Nat)) (y d : Nat) (hl : Q = L ++ [(y, d)]) (hb : L.length < 4294967296) :
    Calls Tryd.prog 40 #[.pointer (some ⟨P.B1, 0, none⟩)] W fun e W' => e = .returned (.tuple #[.agg #[.int .i64 (y : Nat), .int .i64 (d : Nat)], .bool true]) ∧ Wlk base W' P n ends s L ∧ Went P P W W' := by
  have e0 : Gf.eI Q = Gf.eI L ++ [((y : Int), (d : Int))] := by rw [hl, Gf.eI_snoc]
  refine (stpPop_some W h.wait L.length (by rw [e0, List.length_append, Gf.eI_len]; rfl) hb (y : Int) (d : Int) (by rw [e0, ← Gf.eI_len L]; simp)).mono ?_
  rintro e W' ⟨rfl, hs, hT⟩
  have e1 : (Gf.eI Q).take L.length = Gf.eI L := by rw [e0, ← Gf.eI_len L, List.take_left]
  rw [e1] at hs
  obtain ⟨h1, g1⟩ := h.setWait hs (Moved.refl _ _) hT
  exact ⟨rfl, h1, g1⟩
theorem scTake_none (h : Wlk base W P n ends s []) :
    Calls Tryd.prog 40 #[.pointer (some ⟨P.B1, 0, none⟩)] W fun e W' => e = .returned (.tuple #[.agg #[.int .i64 0, .int .i64 0], .bool false]) ∧ Wlk base W' P n ends s [] ∧ Went P P W W' := by
  refine (stpPop_none W h.wait rfl).mono ?_
  rintro e W' ⟨rfl, hb⟩
  exact ⟨rfl, h.later hb, Went.of_below P hb⟩
theorem scPut_at (h : Wlk base W P n ends s Q) (y d : Nat) (hb : Q.length < n) (hn : n ≤ 64) :
    Calls Tryd.prog 41 #[.pointer (some ⟨P.B1, 0, none⟩), .agg #[.int .i64 (y : Nat), .int .i64 (d : Nat)]] W fun e W' => e = .returned (.bool true) ∧ ∃ P', Wlk base W' P' n ends s (Q ++ [(y, d)]) ∧ Went P P' W W' := by
  refine (stpPush_yes (y : Int) (d : Int) W h.wait (by rw [Gf.eI_len]; omega) (by rw [Gf.eI_len]; omega)).mono ?_
  rintro e W' ⟨rfl, r6, hs, hm, hT⟩
  have hs7 : Stk 91 67 2 itC P.B1 (n : Nat) r6 (Gf.eI (Q ++ [(y, d)])) W' := by rw [Gf.eI_snoc]; exact hs
  obtain ⟨h1, g1⟩ := h.setWait hs7 hm hT
  exact ⟨rfl, _, h1, g1⟩
end
theorem scr_info : (Tryd.prog.info? 26).map (fun i => (i.zero, i.size, i.bytes)) = some (some (.slice none 0 0), 1, 24) := by kernel_rfl
theorem sci_info : (Tryd.prog.info? 3).map (fun i => (i.zero, i.size, i.bytes)) = some (some (.int .i64 0), 1, 8) := by kernel_rfl
def rowLen : Value → Nat | .slice _ n _ => n | _ => 0
theorem upd_more (f : Nat → Nat) (N : List Nat) (y v : Nat) : Sc.upd (fun z => if z ∈ N then v else f z) y v = fun z => if z ∈ y :: N then v else f z := by
  funext z
  unfold Sc.upd
  by_cases e : z = y
  · subst e; simp
  · simp [e]
theorem upd_nil (f : Nat → Nat) (v : Nat) : (fun z => if z ∈ ([] : List Nat) then v else f z) = f := by
  funext z
  simp
theorem front_nil {x : Nat} {B M N : List Nat} (h : x :: B = M ++ x :: N) (hn : (x :: B).Nodup) : M = [] ∧ N = B := by
  cases M with
  | nil => simp at h; exact ⟨rfl, h.symm⟩
  | cons m M =>
    rw [List.cons_append] at h
    injection h with h1 h2
    exact absurd (show x ∈ B by rw [h2]; simp) (List.nodup_cons.1 hn).1
theorem front_cons {x y : Nat} {B M N : List Nat} (h : x :: B = M ++ y :: N) (hne : y ≠ x) : ∃ M' y2, M = M' ++ [y2] := by
  rcases List.eq_nil_or_concat M with rfl | ⟨M', y2, e⟩
  · simp at h; exact absurd h.1.symm hne
  · exact ⟨M', y2, by simpa using e⟩
theorem own_lower {w : World} {b1 b2 size n : Nat} {e : TypeId} {v : Value} {xs : List Value} (h : w.ownsRow b1 e size v n xs) (hb : b2 ≤ b1) : w.ownsRow b2 e size v n xs :=
  ⟨h.1, h.2.imp id fun ⟨g, cap, cur, e1, h1, r⟩ => ⟨g, cap, cur, e1, Nat.le_trans hb h1, r⟩⟩

set_option maxHeartbeats 4000000 in
theorem scFinish_at (base n : Nat) (W : World) (P : Pl) (ends : Nat → List Nat) (s : Sc.Wk) (Q : List (Nat × Nat)) (x : Nat) (A B c : List Nat) (h : Wlk base W P n ends s Q) (hn : n ≤ 64) (hl : s.loose = A ++ x :: B) (hnd : s.loose.Nodup) (hlt : ∀ u ∈ s.loose, u < n) (hln : s.loose.length ≤ 64) (hcl : s.comps.length ≤ 64) (hc : c.Pairwise (· < ·)) (hcm : ∀ u, u ∈ c ↔ u ∈ x :: B) :
    Calls Tryd.prog 42 #[.pointer (some ⟨P.b, 0, none⟩), .int .i64 (x : Nat)] W fun e W' => e = .returned (.tuple #[]) ∧ ∃ P', Wlk base W' P' n ends (s.fin n A (x :: B) c) Q ∧ Went P P' W W' := by
  obtain ⟨i0, hi0, hz0, hz1, hz2⟩ := info_parts sci_info
  have I0 := Lib.hid hi0
  have I1 := Lib.hid hz0
  have I2 := Lib.hid hz1
  have I3 := Lib.hid hz2
  clear hi0 hz0 hz1 hz2
  obtain ⟨j0, hi0, hz0, hz1, hz2⟩ := info_parts scr_info
  have J0 := Lib.hid hi0
  have J1 := Lib.hid hz0
  have J2 := Lib.hid hz1
  have J3 := Lib.hid hz2
  clear hi0 hz0 hz1 hz2
  have HIN := Lib.hid (fun i k q => (h.inside i k q).2)
  have HBS := Lib.hid (show base ≤ W.heap.size by have := h.inside 0 _ rfl; omega)
  have HND : Hid ((x :: B).Nodup) := by rw [hl, List.nodup_append] at hnd; exact hnd.2.1
  have HNL : Hid (A.length + (B.length + 1) ≤ 64) := by rw [hl, List.length_append, List.length_cons] at hln; exact hln
  have HLT : Hid (∀ u ∈ x :: B, u < n) := fun u hu => hlt u (by rw [hl]; exact List.mem_append_right _ hu)
  have HCL := Lib.hid hcl
  have HC := Lib.hid hc
  have HCM := Lib.hid hcm
  have HCA := Lib.hid h.compsAre
  have H := Lib.hid h
  obtain ⟨-, -, -, -, c4, -, -⟩ := h.cells
  obtain ⟨M0, y0, HX0⟩ : ∃ M y, Hid (x :: B = M ++ [y]) := by
    rcases List.eq_nil_or_concat (x :: B) with e | ⟨M, y, e⟩
    · cases e
    · exact ⟨M, y, by rw [Hid, e]; simp⟩
  have HM0 : Hid ((A ++ M0).length < 4294967296) := by
    have e1 := HX0.out
    have e2 := congrArg List.length e1
    rw [List.length_append, List.length_cons] at e2
    have := HNL.out
    rw [Hid, List.length_append]
    omega
  have HL0 : Hid (s.loose = (A ++ M0) ++ [y0]) := by rw [Hid, hl, HX0.out, List.append_assoc]
  clear h hl hnd hlt hln hcl hc hcm
  go_enter Tryd.func42, Tryd.ntmps42
  go_wp2_with fail
  refine (scPop_at H.out (A ++ M0) y0 HL0.out HM0.out).mono ?_
  rintro e W1 ⟨rfl, h1, g1⟩
  have H1 : Hid (Wlk base W1 P n ends ⟨s.rank, fun z => if z ∈ ([] : List Nat) then n + 1 else s.low z, s.met, A ++ M0, s.comps⟩ Q) := by rw [upd_nil]; exact h1
  have G1 := Lib.hid g1
  clear h1 g1 c4 HL0 HM0 H
  go_wp2_with fail
  go_loopw [4, 5, 6] (fun v y q wr => ∃ (M N : List Nat) (y' : Nat), y = .int .i64 (y' : Nat) ∧ q = .bool true ∧ Hid (x :: B = M ++ y' :: N) ∧ Hid (wr.ownsRow W.heap.size 3 1 v N.length ((Bi.nums N.reverse).flatMap nC)) ∧ Hid (Wlk base wr P n ends ⟨s.rank, fun z => if z ∈ N then n + 1 else s.low z, s.met, A ++ M, s.comps⟩ Q) ∧ Hid (Went P P W wr)) (fun v _ _ _ => B.length + 1 - rowLen v)
  case atStart => exact ⟨M0, [], y0, rfl, rfl, HX0.out, World.ownsRow_nil _ _ _ _, H1.out, G1.out⟩
  case round =>
    clear H1 G1 HX0
    obtain ⟨M, N, y', rfl, rfl, HX, HO, HW, HG⟩ := hrel
    obtain ⟨AV, cV, hv⟩ := own_form HO.out
    subst hv
    have hyn : y' < n := HLT.out y' (by rw [HX.out]; simp)
    have hNl : M.length + (N.length + 1) = B.length + 1 := by
      have := congrArg List.length HX.out
      rw [List.length_append, List.length_cons, List.length_cons] at this
      omega
    have hBl := HNL.out
    have b2 := alloc_below wr (.cells #[.int .i64 (y' : Int)] 3)
    have HO2 : Hid ((wr.alloc (.cells #[.int .i64 (y' : Int)] 3)).ownsRow W.heap.size 3 1 (.slice AV N.length cV) N.length ((Bi.nums N.reverse).flatMap nC)) := own_below HO.out b2
    have HW2 := Lib.hid (HW.out.later b2)
    have HG2 := Lib.hid (HG.out.trans (Went.of_below P b2))
    have HNW := Lib.hid (new_nC wr (y' : Int) 3)
    have HF : Hid (∀ k, (Value.slice AV N.length cV).ownBlock = some k → W.heap.size ≤ k) := fun k q => (HO.out.lt k q).1
    have HSZ := Lib.hid HG2.out.turn.size
    clear b2 HO HW HG
    go_upto_region 5 with (at_builtin; refine wpList_append_own_at _ rfl _ _ 26 rfl W.heap.size 3 i0 _ 1 8 Tryd.underlying26 I0.out I1.out I2.out I3.out rfl (by decide) _ N.length _ rfl HO2.out ⟨wr.heap.size, 0, none⟩ 1 1 (nC (y' : Int)) rfl rfl HNW.out (one_nC _) (by simp only [maxLen]; omega) (by omega) HSZ.out ?_; intro v3 w3 hown3 hgrow3 hnil3 hat3; have HO3 := Lib.hid hown3; have HT3 := Lib.hid (Turn.of_grown hgrow3); clear hown3 hgrow3 hnil3 hat3)
    have HFP : Hid (∀ k, (Value.slice AV N.length cV).ownBlock = some k → ¬ P.all k) := fun k q ⟨i, q'⟩ => by have := HF.out k q; have := HIN.out i k q'; omega
    have HW3 := Lib.hid (HW2.out.past HT3.out HFP.out)
    have HG3 := Lib.hid (HG2.out.past HT3.out HF.out)
    have HO4 : Hid (w3.ownsRow W.heap.size 3 1 v3 (y' :: N).length ((Bi.nums (y' :: N).reverse).flatMap nC)) := by
      rw [Hid, List.reverse_cons, Bi.nums_snoc, flat_snoc]
      exact HO3.out
    have HF4 : Hid (∀ k, v3.ownBlock = some k → ¬ P.all k) := fun k q ⟨i, q'⟩ => by have := HO4.out.lt k q; have := HIN.out i k q'; omega
    obtain ⟨n1, hn1⟩ : ∃ n1, n1 = n + 1 := ⟨_, rfl⟩
    have HN1 := Lib.hid hn1
    obtain ⟨h4, g4⟩ := HW3.out.setLow y' n1
    have HW4 := Lib.hid (h4.later (Below.refl _ _).drew)
    have HG4 := Lib.hid ((HG3.out.trans g4).trans (Went.of_below P (Below.refl _ _).drew))
    have HO5 := Lib.hid (own_below (g4.own HO4.out HF4.out).1 (Below.refl _ _).drew)
    obtain ⟨-, -, c2, -, -, -, -⟩ := HW3.out.cells
    have k2 := HW3.out.low.cell hyn
    have f2 := HW3.out.low.frozen y'
    have hw1 : IntKind.i64.wrap (n1 : Int) = (n1 : Int) := by rw [IntWalk.i64_in _ (by omega)]
    have hw2 : (n : Int) + 1 = (n1 : Int) := by omega
    clear hn1
    clear h4 g4 HO2 HW2 HG2 HO3 HT3 HW3 HG3 HO4 HFP HF HNW HSZ
    dsimp only at k2
    go_region_law fail
    all_goals
      generalize (w3.setCell ⟨P.lw, y', none⟩ (.int .i64 (n1 : Nat))).drew = w4 at *
      have HW5 : Hid (Wlk base w4 P n ends ⟨s.rank, fun z => if z ∈ y' :: N then n + 1 else s.low z, s.met, A ++ M, s.comps⟩ Q) := by
        have e1 := HW4.out
        rw [HN1.out] at e1
        dsimp only at e1
        rw [upd_more] at e1
        exact e1
      clear HW4 c2 k2 f2 hw1 hw2 HN1
      obtain ⟨A5, c5, rfl⟩ := own_form HO5.out
      obtain ⟨-, -, -, -, c4, -, c6⟩ := HW5.out.cells
      by_cases e : y' = x
      · subst e
        obtain ⟨rfl, rfl⟩ := front_nil HX.out HND.out
        rw [List.append_nil] at HW5
        have HO6 : Hid (w4.ownsRow W.heap.size 3 1 (.slice A5 (y' :: N).length c5) (y' :: N).reverse.length ((Bi.nums (y' :: N).reverse).flatMap nC)) := by rw [Hid, List.length_reverse]; exact HO5.out
        have F6 := Lib.hid (fun h1 => scSort_at W.heap.size (.slice A5 (y' :: N).length c5) (y' :: N).reverse c w4 HO6.out h1 HC.out (List.pairwise_reverse.2 (List.Pairwise.imp (fun q => Ne.symm q) HND.out)) (fun z => by rw [List.mem_reverse, HCM.out]))
        have hq : ((y' : Int) == (y' : Int)) = true := by simp
        clear c4 c6
        have HRL : Hid ((y' :: N).reverse.length ≤ 4294967296) := by rw [Hid, List.length_reverse, List.length_cons]; omega
        go_wp2_with fail
        refine (F6.out HRL.out).mono ?_
        rintro e w5 ⟨rfl, ho5, hg5⟩
        have HW6 := Lib.hid (HW5.out.past (Turn.of_grown hg5) HF4.out)
        have HG6 := Lib.hid (HG4.out.past (Turn.of_grown hg5) (fun k q => (HO6.out.lt k q).1))
        have HU6 := Lib.hid ho5
        have HUB := Lib.hid (own_lower ho5 HBS.out)
        obtain ⟨-, -, -, -, -, -, c6⟩ := HW6.out.cells
        have HC7 := Lib.hid (own_below HW6.out.comps.row (alloc_below w5 (.cells #[.slice A5 (y' :: N).length c5] 26)))
        have HV7 := Lib.hid (alloc_below w5 (.cells #[.slice A5 (y' :: N).length c5] 26))
        have HN7 := Lib.hid (show ∀ j u, (rrC (c, .slice A5 (y' :: N).length c5))[j]? = some u → (w5.alloc (.cells #[.slice A5 (y' :: N).length c5] 26)).cell? ((⟨w5.heap.size, 0, none⟩ : Addr).add j) = some u from new_row w5 (rrC (c, .slice A5 (y' :: N).length c5)) 26)
        have HZ7 : Hid (base ≤ (w5.alloc (.cells #[.slice A5 (y' :: N).length c5] 26)).heap.size) := by have := HBS.out; have := HG6.out.turn.size; rw [Hid]; simp; omega
        have hpc : P.pc.length ≤ 64 := by have e1 := congrArg List.length HCA.out; rw [List.length_map] at e1; rw [e1]; exact HCL.out
        clear ho5 hg5 HW5 HG4 HO5 HO6 F6
        go_wp2_with (at_builtin; refine wpList_append_own_at _ rfl _ _ 41 rfl base 26 j0 _ 1 24 Tryd.underlying41 J0.out J1.out J2.out J3.out rfl (by decide) _ P.pc.length _ rfl HC7.out ⟨w5.heap.size, 0, none⟩ 1 1 (rrC (c, .slice A5 (y' :: N).length c5)) rfl rfl HN7.out (one_rrC _ _ _ _) (by simp only [maxLen]; omega) (by omega) HZ7.out ?_; intro v8 w8 hown8 hgrow8 hnil8 hat8; obtain ⟨A8, c8, rfl⟩ := own_form hown8; obtain ⟨⟨z8, hz8⟩, f8, hW8, hT8, hA8⟩ := HW6.out.addComp HUB.out HF4.out HV7.out hown8 hgrow8 hat8; have HW8 := Lib.hid hW8; have HT8 := Lib.hid hT8; have HA8 := Lib.hid hA8; clear hown8 hgrow8 hnil8 hat8 hW8 hT8 hA8)
        go_end0
        exact ⟨rfl, _, HW8.out, HG6.out.turn.trans HT8.out, rfl, fun k q => (HA8.out k q).elim .inl fun a => .inr (a.elim (fun a => (HU6.out.lt k a).1) fun a => Nat.le_trans HG6.out.turn.size a)⟩
      · obtain ⟨M', y2, rfl⟩ := front_cons HX.out e
        have hq : ((y' : Int) == (x : Int)) = false := by rw [beq_eq_false_iff_ne]; omega
        have hq2 : (y' == x) = false := by rw [beq_eq_false_iff_ne]; exact e
        clear c6 e
        have HAM : Hid ((A ++ M').length < 4294967296) := by rw [Hid]; rw [List.length_append] at hNl ⊢; omega
        go_wp2_with fail
        refine (scPop_at HW5.out (A ++ M') y2 (List.append_assoc _ _ _).symm HAM.out).mono ?_
        rintro e w5 ⟨rfl, h5, g5⟩
        have HW6 := Lib.hid h5
        have HG6 := Lib.hid (HG4.out.trans g5)
        have HO6 := Lib.hid (g5.own HO5.out HF4.out).1
        clear h5 g5 c4 HW5 HG4 HO5
        go_wp2_with fail
        go_roundw
        case rel => exact ⟨M', y' :: N, y2, rfl, rfl, by rw [Hid, HX.out]; simp, HO6.out, HW6.out, HG6.out⟩
        case measure => simp [rowLen]; omega
end Go.Proofs.YtgapcjgmmlffmaaDoor
