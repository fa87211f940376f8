/-
  What source's methods writer and takes answer: whose a value is that is read (So.fromR), and the reads of a face with those who wrote them, or the first error; what was in memory stays as it was.
  Conditions: a row has at most 2^32 elements; keys are 0 to 15, values numbers of their kind.
-/
import Derived.Test.YtodahdnooidmaaaSoWalkB
set_option maxRecDepth 4000
namespace Go.Proofs.Ytodahdnooidmaaa
open Go.RowKit

theorem mem_writes (ops : List Ev.Event) (y : Int × Int) (j : Nat) (hj : j < 16) (hy : y.1 = (j : Int)) : y ∈ In.writesTo ops 16 ↔ In.lastOf 2 y.1 ops = some y.2 := by
  constructor
  · intro h
    obtain ⟨k, hk, hw⟩ := List.mem_filterMap.1 h
    have hky := In.wr_key ops k y hw
    rw [In.wr] at hw
    cases hl : In.lastOf 2 (k : Int) ops with
    | none => rw [hl] at hw; cases hw
    | some u =>
      rw [hl] at hw
      cases hw
      exact hl
  · intro h
    refine So.mem_keys _ j 16 hj y ?_
    rw [In.wr, ← hy, h]
    rfl
/-- A variable of four cells. -/
def Four (w : World) (b : Nat) (x0 x1 x2 x3 : Value) : Prop := w.cell? ⟨b, 0, none⟩ = some x0 ∧ w.cell? ⟨b, 1, none⟩ = some x1 ∧ w.cell? ⟨b, 2, none⟩ = some x2 ∧ w.cell? ⟨b, 3, none⟩ = some x3
theorem four_new (w : World) (x0 x1 x2 x3 : Value) (t : TypeId) : Four (w.alloc (.cells #[x0, x1, x2, x3] t)) w.heap.size x0 x1 x2 x3 := ⟨new_cell w _ _ 0 _ rfl, new_cell w _ _ 1 _ rfl, new_cell w _ _ 2 _ rfl, new_cell w _ _ 3 _ rfl⟩
theorem Four.below {w w' : World} {b : Nat} {x0 x1 x2 x3 : Value} (h : Four w b x0 x1 x2 x3) (hlt : b < w.heap.size) (hb : Below w.heap.size w w') : Four w' b x0 x1 x2 x3 :=
  ⟨(hb.cell hlt).trans h.1, (hb.cell hlt).trans h.2.1, (hb.cell hlt).trans h.2.2.1, (hb.cell hlt).trans h.2.2.2⟩
theorem Four.grown {w w' : World} {b : Nat} {x0 x1 x2 x3 : Value} {row : Option Nat} (h : Four w b x0 x1 x2 x3) (hg : w.grownBy w' row) (hne : some b ≠ row) : Four w' b x0 x1 x2 x3 :=
  ⟨hg.cell h.1 hne, hg.cell h.2.1 hne, hg.cell h.2.2.1 hne, hg.cell h.2.2.2 hne⟩
set_option maxHeartbeats 2000000 in
theorem writer_at (l : List Gr.Tx) (U : Value) (b : Nat) (F N : Value) (y : Int × Int) (w : World) (h : PastAt w l U b F N) (j : Nat) (hj : j < 16) (hy : y.1 = (j : Int)) (hv : okN y.2) : Calls Try.prog 37 #[.agg #[U, .map (some b), F, N], .agg #[.int .i64 y.1, .int .i64 y.2]] w (RetTwo w (So.fromR l y)) := by
  obtain ⟨A, c, rfl, hT⟩ := h.txs.spelled
  obtain ⟨A2, c2, rfl, hFa⟩ := h.faces.spelled
  obtain ⟨A3, c3, rfl, hN⟩ := h.nums.spelled
  rw [List.length_map] at *
  rw [numsTo_len] at *
  obtain ⟨n, D, hmap, hwrs⟩ := h.map
  have hk : okN y.1 := okN_small (by omega) (by omega)
  have HT := Lib.hid hT
  have HFA := Lib.hid hFa
  have HN := Lib.hid hN
  have HMAP := Lib.hid ((hmap.alloc (.cells #[.slice A l.length c, .map (some b), .slice A2 l.length c2, .slice A3 l.length c3] 58)).alloc (.cells #[.int .i64 y.1, .int .i64 y.2] 74))
  have HB := Lib.hid (below_all (alloc_below w (.cells #[.slice A l.length c, .map (some b), .slice A2 l.length c2, .slice A3 l.length c3] 58)) (alloc_below _ (.cells #[.int .i64 y.1, .int .i64 y.2] 74)))
  have HK := Lib.hid (item_key hk hv)
  by_cases h0 : y.2 = 0
  · have HR : Hid (So.fromR l y = (-1, 0)) := by rw [Hid, So.fromR, if_pos h0]
    have q0 : (y.2 == 0) = true := by rw [h0]; rfl
    clear h hT hFa hN hmap hwrs h0 hy hv hk HT HFA HN
    go_enter Try.func37, Try.ntmps37
    go_wp2_with fail
    go_ret2
    exact RetTwo.mk HR.out HB.out
  have q0 : (y.2 == 0) = false := by rw [beq_eq_false_iff_ne]; exact h0
  have HFR : Hid (So.fromR l y = So.fromGo y.1 y.2 0 l) := by rw [Hid, So.fromR, if_neg h0]
  rcases hwrs.who y.1 y.2 hk hv with ⟨hhas, hgo⟩ | ⟨m, hm, hhas, hat, hw, hgo⟩
  · have HAT : Hid (D.atKey (itemLit y.1 y.2) (.lit (.int .i64 0)) = .lit (.int .i64 0)) := Maps.atKey_of_not_has hhas _
    have HHAS := Lib.hid hhas
    have HR : Hid (So.fromR l y = (0, 12)) := by rw [Hid, HFR.out, hgo]
    clear h hT hFa hN hmap hwrs h0 hy hv hk HT HFA HN hhas hgo HFR
    go_enter Try.func37, Try.ntmps37
    go_wp2_with (at_lookup; refine wpList_look _ rfl _ _ 50 rfl 74 3 item_law Try.underlying50 Try.underlying3 (int_zero _) b n D rfl HMAP.out _ _ rfl HK.out 0 false HAT.out HHAS.out ?_)
    go_ret2
    exact RetTwo.mk HR.out HB.out
  have HAT := Lib.hid hat
  have HHAS := Lib.hid hhas
  have HGO := Lib.hid hgo
  have hm0 : (0 : Int) ≤ (m : Int) := by omega
  have hm1 : (m : Int) < (l.length : Int) := by omega
  obtain ⟨ad, u, rfl, hblk, hTm, hUm⟩ := HT.out m hm
  obtain ⟨ad2, fx, fy, rfl, hblk2, hFm, _, hfy⟩ := HFA.out m (by rw [List.length_map]; exact hm)
  obtain ⟨ad3, rfl, hblk3, hNm⟩ := HN.out m (by rw [numsTo_len]; exact hm)
  have hnum : (numsTo l l.length)[m]'(by rw [numsTo_len]; exact hm) = (((l.take m).filter (·.done)).length : Int) := by simp [numsTo]
  have hface : (l.map faceT)[m]'(by rw [List.length_map]; exact hm) = faceT l[m] := by simp
  rw [hnum] at hNm
  rw [hface] at hfy
  obtain ⟨t, ht⟩ : ∃ t, t = l[m]'hm := ⟨_, rfl⟩
  rw [← ht] at hTm hUm hfy HGO
  obtain ⟨k0, k1, k2, k3⟩ := hTm.below hblk HB.out
  cases hd : t.done with
  | false =>
    have HR : Hid (So.fromR l y = (0, 13)) := by rw [Hid, HFR.out, HGO.out, if_pos hd]
    rw [hd] at k1
    clear h hT hFa hN hmap hwrs h0 hy hv hk HT HFA HN hhas hgo HFR hat hw hTm hUm hFm hfy hNm hnum hface ht k0 k2 k3
    go_enter Try.func37, Try.ntmps37
    go_wp2_with (at_lookup; refine wpList_look _ rfl _ _ 50 rfl 74 3 item_law Try.underlying50 Try.underlying3 (int_zero _) b n D rfl HMAP.out _ _ rfl HK.out (m : Int) true HAT.out HHAS.out ?_)
    go_ret2
    exact RetTwo.mk HR.out HB.out
  | true =>
    rw [hd] at k1
    have hfy2 : Its w fy (In.writesTo t.ops 16) := by rw [faceT, hd] at hfy; exact hfy
    have HMEM := Lib.hid (mem_writes t.ops y j hj hy)
    obtain ⟨Ay, cy, rfl, _⟩ := hfy2.spelled
    have hyl := In.writes_len t.ops 16
    obtain ⟨f0, f1⟩ := hFm.below hblk2 HB.out
    have HIT := Lib.hid ((hfy2.below HB.out).below ((Below.refl _ ((w.alloc (.cells #[.slice (some ad) l.length c, .map (some b), .slice (some ad2) l.length c2, .slice (some ad3) l.length c3] 58)).alloc (.cells #[.int .i64 y.1, .int .i64 y.2] 74))).drew))
    have HNM := Lib.hid hNm
    have g2 : ((w.alloc (.cells #[.slice (some ad) l.length c, .map (some b), .slice (some ad2) l.length c2, .slice (some ad3) l.length c3] 58)).alloc (.cells #[.int .i64 y.1, .int .i64 y.2] 74)).cell? ⟨w.heap.size, 2, none⟩ = some (.slice (some ad2) l.length c2) := cell_new (new_cell w _ _ 2 _ rfl) _
    have g4 : ((w.alloc (.cells #[.slice (some ad) l.length c, .map (some b), .slice (some ad2) l.length c2, .slice (some ad3) l.length c3] 58)).alloc (.cells #[.int .i64 y.1, .int .i64 y.2] 74)).cell? ⟨w.heap.size + 1, 0, none⟩ = some (.int .i64 y.1) := by
      have := new_cell (w.alloc (.cells #[.slice (some ad) l.length c, .map (some b), .slice (some ad2) l.length c2, .slice (some ad3) l.length c3] 58)) #[.int .i64 y.1, .int .i64 y.2] 74 0 _ rfl
      rwa [size_new] at this
    have g5 : ((w.alloc (.cells #[.slice (some ad) l.length c, .map (some b), .slice (some ad2) l.length c2, .slice (some ad3) l.length c3] 58)).alloc (.cells #[.int .i64 y.1, .int .i64 y.2] 74)).cell? ⟨w.heap.size + 1, 1, none⟩ = some (.int .i64 y.2) := by
      have := new_cell (w.alloc (.cells #[.slice (some ad) l.length c, .map (some b), .slice (some ad2) l.length c2, .slice (some ad3) l.length c3] 58)) #[.int .i64 y.1, .int .i64 y.2] 74 1 _ rfl
      rwa [size_new] at this
    have HBD := Lib.hid (below_all HB.out ((Below.refl _ ((w.alloc (.cells #[.slice (some ad) l.length c, .map (some b), .slice (some ad2) l.length c2, .slice (some ad3) l.length c3] 58)).alloc (.cells #[.int .i64 y.1, .int .i64 y.2] 74))).drew))
    have HBX : Hid (((w.alloc (.cells #[.slice (some ad) l.length c, .map (some b), .slice (some ad2) l.length c2, .slice (some ad3) l.length c3] 58)).alloc (.cells #[.int .i64 y.1, .int .i64 y.2] 74)).drew.cell? ⟨w.heap.size, 3, none⟩ = some (.slice (some ad3) l.length c3)) := cell_new (new_cell w _ _ 3 _ rfl) _
    have hlt3 : w.heap.size < ((w.alloc (.cells #[.slice (some ad) l.length c, .map (some b), .slice (some ad2) l.length c2, .slice (some ad3) l.length c3] 58)).alloc (.cells #[.int .i64 y.1, .int .i64 y.2] 74)).drew.heap.size := by simp [World.drew]; omega
    have HG2 : Hid (So.fromR l y = if In.lastOf 2 y.1 t.ops ≠ some y.2 then (0, 14) else ((((l.take m).filter (·.done)).length : Int), 0)) := by rw [Hid, HFR.out, HGO.out, if_neg (by rw [hd]; simp)]
    clear h hT hFa hN hmap hwrs h0 hy hv hk HT HFA HN hhas hgo HFR hat hw hTm hUm hFm hfy hfy2 hNm hnum hface ht k0 k2 k3 HGO
    go_enter Try.func37, Try.ntmps37
    go_wp2_with (at_lookup; refine wpList_look _ rfl _ _ 50 rfl 74 3 item_law Try.underlying50 Try.underlying3 (int_zero _) b n D rfl HMAP.out _ _ rfl HK.out (m : Int) true HAT.out HHAS.out ?_)
    clear HMAP HB k1
    generalize (w.alloc (.cells #[.slice (some ad) l.length c, .map (some b), .slice (some ad2) l.length c2, .slice (some ad3) l.length c3] 58)).alloc (.cells #[.int .i64 y.1, .int .i64 y.2] 74) = W0 at *
    go_still_tail 7, (by kernel_rfl)
    change wpList _ _ _ _ _ W0.drew
    clear f0 f1 g2 g4 g5
    generalize W0.drew = W at *
    by_cases hlo : In.lastOf 2 y.1 t.ops = some y.2
    · have HR : Hid (So.fromR l y = ((((l.take m).filter (·.done)).length : Int), 0)) := by rw [Hid, HG2.out, if_neg (by simpa using hlo)]
      have HIN : Hid (decide (y ∈ In.writesTo t.ops 16) = true) := decide_eq_true (HMEM.out.2 hlo)
      clear hlo HG2 HMEM
      go_wp2_with (go_at_call 47; refine (contains_at (In.writesTo t.ops 16) y _ _ HIT.out (by omega)).mono ?_; rintro e w3 ⟨rfl, hb3⟩; rw [HIN.out]; have hc3 := (hb3.cell hlt3).trans HBX.out; have HB3 := Lib.hid (below_all HBD.out hb3); have hn3 : w3.cell? (ad3.add m) = some (.int .i64 (((l.take m).filter (·.done)).length : Int)) := (HB3.out.cell (by rw [add_block]; exact hblk3)).trans HNM.out; clear hb3)
      go_ret2
      exact RetTwo.mk HR.out HB3.out
    · have HR : Hid (So.fromR l y = (0, 14)) := by rw [Hid, HG2.out, if_pos (by simpa using hlo)]
      have HIN : Hid (decide (y ∈ In.writesTo t.ops 16) = false) := decide_eq_false (fun h => hlo (HMEM.out.1 h))
      clear hlo HG2 HMEM
      go_wp2_with (go_at_call 47; refine (contains_at (In.writesTo t.ops 16) y _ _ HIT.out (by omega)).mono ?_; rintro e w3 ⟨rfl, hb3⟩; rw [HIN.out]; have HB3 := Lib.hid (below_all HBD.out hb3); clear hb3)
      go_ret2
      exact RetTwo.mk HR.out HB3.out

/-- The reads of a face, each with the one who wrote it, and an error. -/
def takesL (l : List Gr.Tx) (ys : List (Int × Int)) : List (Int × Int) := ys.map fun y => (y.1, (So.fromR l y).1)
def RetTakes (w : World) (l : List Gr.Tx) (ys : List (Int × Int)) (e : Ending) (w' : World) : Prop := ∃ A n c, e = .returned (.tuple #[.slice A n c, .int .i64 (So.readsErr l ys)]) ∧ (So.readsErr l ys = 0 → w'.ownsRow w.heap.size 43 2 (.slice A n c) (takesL l ys).length ((takesL l ys).flatMap itC)) ∧ Below w.heap.size w w'
theorem RetTakes.mk {w w' : World} {l : List Gr.Tx} {ys : List (Int × Int)} (v : Value) (A : Option Addr) (n c : Nat) (q : Int) (hv : v = .slice A n c) (h : So.readsErr l ys = q) (hf : So.readsErr l ys = 0 → w'.ownsRow w.heap.size 43 2 v (takesL l ys).length ((takesL l ys).flatMap itC)) (hb : Below w.heap.size w w') : RetTakes w l ys (.returned (.tuple #[v, .int .i64 q])) w' := by
  subst hv
  exact ⟨A, n, c, by rw [h], hf, hb⟩
theorem take_info : (Try.prog.info? 43).map (fun i => (i.zero, i.size, i.bytes)) = some (some (.agg #[.int .i64 0, .int .i64 0]), 2, 16) := by kernel_rfl
theorem takesL_take (l : List Gr.Tx) (ys : List (Int × Int)) (k : Nat) (hk : k < ys.length) : takesL l (ys.take (k + 1)) = takesL l (ys.take k) ++ [(ys[k].1, (So.fromR l ys[k]).1)] := by rw [takesL, List.take_succ_eq_append_getElem hk, List.map_append]; rfl
theorem takesL_len (l : List Gr.Tx) (ys : List (Int × Int)) (k : Nat) (hk : k ≤ ys.length) : (takesL l (ys.take k)).length = k := by simp [takesL]; omega
set_option maxHeartbeats 2000000 in
theorem takes_at (l : List Gr.Tx) (U : Value) (b : Nat) (F N : Value) (ys : List (Int × Int)) (v : Value) (w : World) (h : PastAt w l U b F N) (hv : Its w v ys) (hys : ys.length ≤ 4294967296) (hok : ∀ y ∈ ys, (∃ j : Nat, j < 16 ∧ y.1 = (j : Int)) ∧ okN y.2) :
    Calls Try.prog 27 #[.agg #[U, .map (some b), F, N], v] w (RetTakes w l ys) := by
  obtain ⟨i0, hi0, hz0, hz1, hz2⟩ := info_parts take_info
  have I0 := Lib.hid hi0
  have I1 := Lib.hid hz0
  have I2 := Lib.hid hz1
  have I3 := Lib.hid hz2
  clear hi0 hz0 hz1 hz2
  obtain ⟨A, c, rfl, hform⟩ := hv.spelled
  have HF := Lib.hid hform
  have HOK := Lib.hid hok
  obtain ⟨AU, cU, rfl, _⟩ := h.txs.spelled
  obtain ⟨AF, cF, rfl, _⟩ := h.faces.spelled
  obtain ⟨AN, cN, rfl, _⟩ := h.nums.spelled
  rw [List.length_map, numsTo_len] at *
  have HP := Lib.hid h
  have HW0 := Lib.hid (four_new w (.slice AU l.length cU) (.map (some b)) (.slice AF l.length cF) (.slice AN l.length cN) 58)
  clear hform hv hok h
  go_enter Try.func27, Try.ntmps27
  go_wp2
  go_loopw [6, 13] (fun v i wr => ∃ k : Nat, k ≤ ys.length ∧ i = .int .i64 k ∧ Hid (So.readsErr l ys = So.readsErr l (ys.drop k)) ∧ wr.ownsRow (w.heap.size + 1) 43 2 v (takesL l (ys.take k)).length ((takesL l (ys.take k)).flatMap itC) ∧ Four wr w.heap.size (.slice AU l.length cU) (.map (some b)) (.slice AF l.length cF) (.slice AN l.length cN) ∧ Below w.heap.size w wr) (fun _ i _ => ys.length - (intOf i).toNat)
  case atStart => exact ⟨0, Nat.zero_le _, rfl, rfl, World.ownsRow_nil _ _ _ _, HW0.out, alloc_below _ _⟩
  case round =>
    clear HW0
    obtain ⟨k, hk, rfl, hre, hown, hbox, hb⟩ := hrel
    have HO := Lib.hid hown
    have HB := Lib.hid hb
    have HX := Lib.hid hbox
    obtain ⟨A', cp, rfl⟩ := own_form hown
    obtain ⟨b0, b1, b2, b3⟩ := hbox
    have HS := Lib.hid (World.block_lt_of_cell? wr _ b0)
    clear hown hb
    by_cases hlt : k < ys.length
    · obtain ⟨ad, rfl, hblk, hT⟩ := HF.out k hlt
      obtain ⟨y, hy⟩ : ∃ y, y = ys[k]'hlt := ⟨_, rfl⟩
      obtain ⟨⟨j, hj, hyj⟩, hyv⟩ := HOK.out (ys[k]'hlt) (List.getElem_mem _)
      have HST := Lib.hid (So.readsErr_step l ys k hlt)
      have HTK := Lib.hid (takesL_take l ys k hlt)
      have HLN := Lib.hid (takesL_len l ys k hk)
      rw [← hy] at hT HST HTK hyj hyv
      obtain ⟨c0, c1⟩ := hT.below hblk HB.out
      have HPA := Lib.hid ((HP.out.below HB.out).below (alloc_below wr (.cells #[.int .i64 y.1, .int .i64 y.2] 74)))
      obtain ⟨g0, g1, g2, g3⟩ := HX.out.below HS.out (alloc_below wr (.cells #[.int .i64 y.1, .int .i64 y.2] 74))
      have HYJ := Lib.hid hyj
      have HYV := Lib.hid hyv
      clear hT hy hyj hyv
      generalize takesL l (ys.take k) = d at *
      go_wp2_with fail
      refine (writer_at l _ b _ _ y _ HPA.out j hj HYJ.out HYV.out).mono ?_
      rintro e w1 ⟨rfl, hb1⟩
      have HB1 := Lib.hid (below_all HB.out (below_new hb1))
      by_cases hq : (So.fromR l y).2 = 0
      · have HRE : Hid (So.readsErr l ys = So.readsErr l (ys.drop (k + 1))) := by rw [Hid, hre.out, HST.out, if_neg (by simpa using hq)]
        rw [hq]
        generalize (So.fromR l y).1 = r at *
        have d0 : w1.cell? ⟨wr.heap.size, 0, none⟩ = some (.int .i64 y.1) := (hb1.cell (by simp)).trans (new_cell wr _ _ 0 _ rfl)
        have HO1 := Lib.hid ((own_below (HO.out.alloc (.cells #[.int .i64 y.1, .int .i64 y.2] 74)) hb1).alloc (.cells #[.int .i64 y.1, .int .i64 r] 43))
        have HB2 := Lib.hid (below_all HB1.out (alloc_below w1 (.cells #[.int .i64 y.1, .int .i64 r] 43)))
        have HX1 := Lib.hid ((HX.out.below HS.out (below_new hb1)).below (Nat.lt_of_lt_of_le HS.out (below_new hb1).size) (alloc_below w1 (.cells #[.int .i64 y.1, .int .i64 r] 43)))
        have HN := Lib.hid (new_row w1 (itC (y.1, r)) 43)
        have hS1 : w.heap.size + 1 ≤ (w1.alloc (.cells #[.int .i64 y.1, .int .i64 r] 43)).heap.size := by have := HS.out; have := (below_new hb1).size; simp; omega
        have HS1 : Hid (w.heap.size < (w1.alloc (.cells #[.int .i64 y.1, .int .i64 r] 43)).heap.size) := by rw [Hid]; omega
        clear hb1 hq b0 b1 b2 b3 c0 c1 g0 g1 g2 g3
        go_wp2_with (at_builtin; refine wpList_append_own_at _ rfl _ _ 39 rfl (w.heap.size + 1) 43 i0 _ 2 16 Try.underlying39 I0.out I1.out I2.out I3.out rfl (by decide) _ d.length _ rfl HO1.out ⟨w1.heap.size, 0, none⟩ 1 1 (itC (y.1, r)) rfl rfl HN.out (one_its _) (by have := HLN.out; simp only [maxLen]; omega) (by have := HLN.out; omega) hS1 ?_; intro v2 w2 hown2 hgrow2 hnil2 hat2; have HO2 := Lib.hid hown2; have HB3 := Lib.hid (HB2.out.grown hgrow2 HB2.out.size (fun k hk => Nat.le_of_succ_le (HO1.out.lt k hk).1)); have HX2 := Lib.hid (HX1.out.grown hgrow2 (fun e => absurd (HO1.out.lt _ e.symm).1 (by omega))); clear hown2 hgrow2 hnil2 hat2)
        go_roundw
        case rel =>
          refine ⟨k + 1, by omega, by go_num, HRE, ?_, HX2.out, HB3.out⟩
          rw [HTK.out]
          exact Rows'.own_snoc HO2.out
        case measure => simp [intOf]; omega
      · have hqb : ((So.fromR l y).2 != 0) = true := by rw [bne_iff_ne]; exact hq
        have HRE : Hid (So.readsErr l ys = (So.fromR l y).2) := by rw [Hid, hre.out, HST.out, if_pos (by simpa using hq)]
        have HNZ := Lib.hid hq
        clear hb1 hq
        go_wp2_with fail
        go_ret2
        exact RetTakes.mk _ none 0 0 _ rfl HRE.out (fun h => absurd (HRE.out.symm.trans h) HNZ.out) HB1.out
    · have HRE : Hid (So.readsErr l ys = 0) := by rw [Hid, hre.out, So.readsErr_end _ _ _ (by omega)]
      have HTA : Hid (ys.take k = ys) := List.take_of_length_le (by omega)
      go_wp2_with fail
      go_ret2
      refine RetTakes.mk _ _ _ _ _ rfl HRE.out (fun _ => ?_) HB.out
      have h2 := HO.out.mono (Nat.le_succ w.heap.size)
      rw [HTA.out] at h2
      simpa [HTA.out] using h2
end Go.Proofs.Ytodahdnooidmaaa
