/-
  What the reference's Rw of layer 18 answers.
  Conditions: choices that may be, of a history that may be.
-/
import Derived.Test.YtahacjfeopjbaaaChRow
import Derived.Test.YtahacjfeopjbaaaKnRefC
import Derived.Test.YtahacjfeopjbaaaIxRef
import Derived.Test.YtahacjfeopjbaaaStAll
import Derived.Deep.RegionHeld3
set_option maxRecDepth 4000
namespace Go.Proofs.Ytahacjfeopjbaaa
open Go.RowKit

namespace Ch
open Gf So
/-- The edges behind i choices, and j of the next one's readers R, whose writer is y. -/
def rwB' (h : List Txn) (l : List (Int × Int × Int)) (i : Nat) (R : List Nat) (y j a b : Nat) : Bool := rwB h (l.take i) a b || (decide (b = y) && (decide (a ≠ b) && decide (a ∈ R.take j)))
def rwTo (h : List Txn) (l : List (Int × Int × Int)) (i : Nat) (R : List Nat) (y j : Nat) : List Nat := build h.length (rwB' h l i R y j)
section
variable {h : List Txn} {l : List (Int × Int × Int)} {R : List Nat} {i j y : Nat}
theorem rwTo_start (hn : h.length ≤ 64) : build h.length (rwB h (l.take 0)) = Kn.initR h := Kn.build_same hn fun a b _ _ => by simp [rwB]
theorem rwTo_zero (hn : h.length ≤ 64) : rwTo h l i R y 0 = build h.length (rwB h (l.take i)) := Kn.build_same hn fun a b _ _ => by simp [rwB']
theorem rwTo_skip (hn : h.length ≤ 64) (hj : j < R.length) (e : R[j] = y) : rwTo h l i R y j = rwTo h l i R y (j + 1) := Kn.build_same hn fun a b _ _ => by
  rw [rwB', rwB', List.take_succ_eq_append_getElem hj, e]
  congr 1
  by_cases hb : b = y
  · subst hb
    by_cases ha : a = b
    · simp [ha]
    · simp [ha]
  · simp [hb]
theorem rwTo_next (hn : h.length ≤ 64) (hj : j < R.length) (hne : R[j] ≠ y) (hx : R[j] < h.length) (hy : y < h.length) (hb : R[j] < (rwTo h l i R y j).length) : (rwTo h l i R y j).set R[j] (Bi.withN (rwTo h l i R y j)[R[j]] (y : Int)) = rwTo h l i R y (j + 1) := by
  unfold rwTo at hb ⊢
  rw [Kn.build_with hn _ hx hy hb]
  refine Kn.build_same hn fun a b _ _ => ?_
  rw [rwB', rwB', List.take_succ_eq_append_getElem hj, Bool.or_assoc]
  congr 1
  rw [Bool.eq_iff_iff]
  simp only [Bool.or_eq_true, Bool.and_eq_true, decide_eq_true_iff, List.mem_append, List.mem_singleton]
  constructor
  · rintro (⟨h1, h2, h3⟩ | ⟨h1, h2⟩)
    · exact ⟨h1, h2, .inl h3⟩
    · exact ⟨h2, fun q => hne (by rw [← h1, q, h2]), .inr h1⟩
  · rintro ⟨h1, h2, h3 | h3⟩
    · exact .inl ⟨h1, h2, h3⟩
    · exact .inr ⟨h3, h1⟩
theorem rwTo_all (hr : Hi.Right h) (hi : i < l.length) {x : Nat} {k : Int} (e : l[i] = (k, (x : Int), (y : Int))) (hR : R = Ix.readers h k x) : rwTo h l i R y R.length = build h.length (rwB h (l.take (i + 1))) := Kn.build_same (Kn.len64 hr) fun a b ha _ => by
  rw [rwB', List.take_length, rwB, rwB, List.take_succ_eq_append_getElem hi, List.any_append, e, Bool.or_assoc]
  congr 1
  simp only [List.any_cons, List.any_nil, Bool.or_false]
  congr 1
  have h1 : decide ((y : Int) = (b : Int)) = decide (b = y) := by
    by_cases q : b = y
    · rw [q]; simp
    · rw [decide_eq_false q, decide_eq_false (by omega)]
  rw [h1]
  congr 1
  congr 1
  rw [hR, Bool.eq_iff_iff, decide_eq_true_iff, Ix.mem_readers hr, beq_iff_eq, Ix.from_iff hr]
end
end Ch
/-- Behind a call that hands back a graph: it lies in a variable. -/
theorem mk_from {W W1 : World} {n : Nat} {v : Value} {b : Nat} {r : List Nat} (hr : r.length = n) (hbs : b < W.heap.size) (hb : Below W.heap.size W W1) (ho : OwnU W1 W.heap.size v r) : ∃ A c, v = .slice A n c ∧ Mk W (W1.alloc (.cells #[.int .i64 (n : Int), .slice A n c] 30)) b W1.heap.size n A c r := by
  obtain ⟨A, c, e⟩ := ho.form
  rw [hr] at e
  subst e
  have b1 := alloc_below W1 (.cells #[.int .i64 (n : Int), .slice A n c] 30)
  unfold OwnU at ho
  rw [hr] at ho
  have hsz := hb.size
  exact ⟨A, c, rfl, Two.new _ _ _ _, (own_below ho b1).mono (by omega), hr, by omega, (hb.mono (by omega)).trans (b1.mono (by omega))⟩

set_option maxHeartbeats 4000000 in
theorem rRw18_at (h : List So.Txn) (u : Value) (l : List (Int × Int × Int)) (v : Value) (w : World) (hv : Txns w u h) (hl : Tris w v l) (hr : Hi.Right h) (ho : ∀ c ∈ l, Ch.oneB h c = true) (hs : Ix.Small h) (hn : l.length ≤ 4294967296) : Calls Try.prog 19 #[.agg #[u], v] w (RetR w h.length (Ch.rwR h l)) := by
  have hn64 := Kn.len64 hr
  have HV := Lib.hid hv
  obtain ⟨A0, c0', rfl, -⟩ := hv.spelled
  obtain ⟨B, d, rfl, hf⟩ := hl.spelled
  have HF := Lib.hid hf
  have HZ := Lib.hid (Ch.rwTo_start (l := l) hn64)
  have HE : Hid (Gf.build h.length (Ch.rwB h (l.take l.length)) = Ch.rwR h l) := by rw [Hid, List.take_length]; rfl
  have HS : Hid (∀ i (hi : i < l.length), ∃ (k : Int) (x y : Nat), l[i] = (k, (x : Int), (y : Int)) ∧ x < h.length ∧ y < h.length) := fun i hi => by
    obtain ⟨a, b, e, _, h1, h2⟩ := Ch.oneB_iff.1 (ho _ (List.getElem_mem hi))
    exact ⟨_, a, b, e, Ch.wr_lt h1, Ch.wr_lt h2⟩
  have H0 := Lib.hid (fun (i : Nat) (R : List Nat) (y : Nat) => Ch.rwTo_zero (h := h) (l := l) (i := i) (R := R) (y := y) hn64)
  have HSK := Lib.hid (fun (i : Nat) (R : List Nat) (y j : Nat) hj e => Ch.rwTo_skip (h := h) (l := l) (i := i) (R := R) (y := y) (j := j) hn64 hj e)
  have HNX := Lib.hid (fun (i : Nat) (R : List Nat) (y j : Nat) hj hne hx hy hb => Ch.rwTo_next (h := h) (l := l) (i := i) (R := R) (y := y) (j := j) hn64 hj hne hx hy hb)
  have HAL := Lib.hid (fun (i : Nat) (R : List Nat) (y x : Nat) (k : Int) (hi : i < l.length) e hR => Ch.rwTo_all (l := l) (R := R) (y := y) hr hi (x := x) (k := k) e hR)
  have HLT : Hid (∀ i R y j, ∀ s ∈ Ch.rwTo h l i R y j, s < 18446744073709551616) := fun i R y j s hs => (Gf.build_ok hn64 _).small hs
  have HLN : Hid (∀ i R y j, (Ch.rwTo h l i R y j).length = h.length) := fun _ _ _ _ => Gf.build_len _ _
  have HRA : Hid (∀ k f, Ix.readersA h k f = Ix.readers h k f) := fun k f => Ix.readersA_yes ((Hi.rightB_iff _).2 hr) k f
  have HRM : Hid (∀ k f, ∀ x ∈ Ix.readers h k f, x < h.length) := fun k f x hx => ((Ix.mem_readers hr).1 hx).1
  have HRL : Hid (∀ k f, (Ix.readers h k f).length ≤ h.length) := fun k f => Nat.le_trans (List.length_filter_le _ _) (by rw [List.length_range]; exact Nat.le_refl _)
  have F1 := Lib.hid (fun w hw => rInit17_at h (.slice A0 h.length c0') w hw hr)
  have FD := Lib.hid (fun w k f hw => rReaders9_at h (.slice A0 h.length c0') k f w hw hs)
  clear hv hl hf hr ho
  go_enter Try.func19, Try.ntmps19
  go_wp2_with fail
  obtain ⟨t0, t1, bw⟩ := kn_one w (.slice A0 h.length c0') rfl
  have T0 := Lib.hid t0
  have T1 := Lib.hid t1
  have BW := Lib.hid bw
  have a0 := t0.cell
  clear t0 t1 bw
  generalize (w.alloc (.cells #[.slice A0 h.length c0'] 24)).alloc (.cells #[.int .i64 0, .slice none 0 0] 30) = W at *
  go_wp2_with fail
  refine (F1.out _ (HV.out.below BW.out)).mono ?_
  rintro e w1 ⟨v1, rfl, ho1, hb1⟩
  obtain ⟨A, c, rfl, hmk⟩ := mk_from (Kn.init_len h) T1.out.lt hb1 ho1
  have HM := Lib.hid hmk
  clear hmk ho1 hb1 a0
  rw [← HZ.out] at HM
  go_wp2_with fail
  generalize w1.alloc (.cells #[.int .i64 (h.length : Int), .slice A h.length c] 30) = w2 at *
  generalize w1.heap.size = o at *
  go_loopw [6, 7, 8] (fun i s7 s8 wr => ∃ x : Nat, x ≤ l.length ∧ i = .int .i64 x ∧ Hid (Mk W wr (w.heap.size + 1) o h.length A c (Gf.build h.length (Ch.rwB h (l.take x))))) (fun i _ _ _ => l.length - (intOf i).toNat)
  case atStart => exact ⟨0, Nat.zero_le _, rfl, HM.out⟩
  case round =>
    clear HM
    obtain ⟨i, hi, rfl, HM⟩ := hrel
    by_cases hlt : i < l.length
    · have HBQ := Lib.hid (HM.out.below BW.out (by omega))
      obtain ⟨ad, rfl, hbl, hin⟩ := HF.out i hlt
      obtain ⟨k, x, y, e, hx, hy⟩ := HS.out i hlt
      have HALX := Lib.hid (fun R hR => HAL.out i R y x k hlt e hR)
      have HIN : Hid (∀ W', Below w.heap.size w W' → W'.cell? (ad.add (i * 3)) = some (.int .i64 k) ∧ W'.cell? ⟨(ad.add (i * 3)).block, (ad.add (i * 3)).off + 1, none⟩ = some (.int .i64 (x : Int)) ∧ W'.cell? ⟨(ad.add (i * 3)).block, (ad.add (i * 3)).off + 2, none⟩ = some (.int .i64 (y : Int))) := fun W' hb => by
        have h3 := hin.below hbl hb
        rw [e] at h3
        exact ⟨h3.c0, h3.c1, h3.c2⟩
      have FX := Lib.hid (fun w hw => FD.out w k (x : Int) hw)
      rw [HRA.out] at FX
      have HRM1 := Lib.hid (HRM.out k (x : Int))
      have hrl := HRL.out k (x : Int)
      have HALY := Lib.hid (HALX.out _ rfl)
      generalize Ix.readers h k (x : Int) = R at *
      have hi1 : (0 : Int) ≤ (i : Int) := Int.natCast_nonneg _
      have hi2 : (i : Int) < (l.length : Int) := by omega
      obtain ⟨y0, y1, -⟩ := HIN.out _ HBQ.out
      have b0 := (box_at T0.out HM.out.low (by omega)).cell
      clear e hin
      go_wp2_with fail
      have D := Lib.hid (Below.refl wr.heap.size wr).drew
      have VQ := Lib.hid (HV.out.below HBQ.out)
      have HK : Hid (∀ W', Below wr.heap.size wr W' → W'.cell? ⟨w.heap.size, 0, none⟩ = some (.slice A0 h.length c0') ∧ W'.cell? (ad.add (i * 3)) = some (.int .i64 k) ∧ W'.cell? ⟨(ad.add (i * 3)).block, (ad.add (i * 3)).off + 1, none⟩ = some (.int .i64 (x : Int))) := fun W' hb => ⟨st_stays hb b0, st_stays hb y0, st_stays hb y1⟩
      go_region_held3 (fun W' => W'.cell? ⟨w.heap.size, 0, none⟩ = some (.slice A0 h.length c0') ∧ W'.cell? (ad.add (i * 3)) = some (.int .i64 k) ∧ W'.cell? ⟨(ad.add (i * 3)).block, (ad.add (i * 3)).off + 1, none⟩ = some (.int .i64 (x : Int)))
        (first | (exact ⟨b0, y0, y1⟩) | (exact HK.out _ D.out) | (exact HK.out _ Y1.out))
        (first | (go_at_call 47; (with_reducible refine (FX.out _ (VQ.out.below D.out)).mono ?_); rintro e z1 ⟨v1, rfl, ho1, hz⟩; have Y1 := Lib.hid (below_all D.out hz); obtain ⟨AR, cR, hv1⟩ := own_form ho1; subst hv1; have HO1 := Lib.hid ho1; have HDW := Lib.hid (show wr.drew.heap.size = wr.heap.size from rfl); clear hz ho1))
      have HM1 := Lib.hid (HM.out.later Y1.out)
      rw [← H0.out i R y] at HM1
      have HGL : Hid (∀ g : Nat, A = some ⟨g, 0, none⟩ → g < wr.heap.size) := fun g e => by
        have := HM.out.row.lt g (by rw [e]; rfl)
        exact this.2
      have HO2 : Hid (z1.ownsRow wr.heap.size 3 1 (.slice AR R.length cR) R.length ((ints R).flatMap nC)) := HO1.out
      generalize wr.heap.size = base at *
      clear HM HBQ HK D VQ Y1 HO1 HDW b0 y0 y1
      go_wp2_with fail
      go_loopw [8] (fun ix wq => ∃ j : Nat, j ≤ R.length ∧ ix = .int .i64 j ∧ Hid (Mk W wq (w.heap.size + 1) o h.length A c (Ch.rwTo h l i R y j)) ∧ Hid (wq.ownsRow base 3 1 (.slice AR R.length cR) R.length ((ints R).flatMap nC))) (fun ix _ => R.length - (intOf ix).toNat)
      case atStart => exact ⟨0, Nat.zero_le _, rfl, HM1.out, HO2.out⟩
      case round =>
        clear HM1 HO2
        obtain ⟨j, hj, rfl, HM, HO⟩ := hrel
        by_cases hlt2 : j < R.length
        · have HBQ := Lib.hid (HM.out.below BW.out (by omega))
          have hrow : Ns wr (.slice AR R.length cR) (ints R) := Rows'.own (base := base) (e := 3) (by rw [ints_len]; exact HO.out)
          obtain ⟨A', c', e', hh⟩ := hrow.spelled
          obtain ⟨adr, hadr, -, r0⟩ := hh j (by rw [ints_len]; exact hlt2)
          rw [ints_nth _ _ hlt2] at r0
          rw [ints_len] at e'
          cases e'
          subst hadr
          obtain ⟨-, -, y2⟩ := HIN.out _ HBQ.out
          have hj1 : (0 : Int) ≤ (j : Int) := Int.natCast_nonneg _
          have hj2 : (j : Int) < (R.length : Int) := by omega
          have hxr := HRM1.out _ (List.getElem_mem hlt2)
          have HSK1 := Lib.hid (HSK.out i R y j hlt2)
          have HNX1 := Lib.hid (fun hne hb => HNX.out i R y j hlt2 hne hxr hy hb)
          have HRJ : Hid (∀ W' : World, W'.ownsRow base 3 1 (.slice (some adr) R.length cR) R.length ((ints R).flatMap nC) → W'.cell? (adr.add j) = some (.int .i64 ((R[j]'hlt2 : Nat) : Int))) := fun W' ho => by
            have hrow : Ns W' (.slice (some adr) R.length cR) (ints R) := Rows'.own (base := base) (e := 3) (by rw [ints_len]; exact ho)
            obtain ⟨A', c', e', hh⟩ := hrow.spelled
            obtain ⟨ad', hadr, -, q0⟩ := hh j (by rw [ints_len]; exact hlt2)
            rw [ints_nth _ _ hlt2] at q0
            rw [ints_len] at e'
            cases e'
            cases hadr
            exact q0
          generalize R[j]'hlt2 = z at *
          clear hh hrow
          by_cases hzy : z = y
          · have q1 : ((z : Int) != (y : Int)) = false := by rw [bne_eq_false_iff_eq]; omega
            have q2 : (z != y) = false := by rw [bne_eq_false_iff_eq]; exact hzy
            have HS2 := Lib.hid (HSK1.out hzy)
            clear hzy
            go_wp2_with fail
            go_quiet (fail)
            have bq := below_drewN (Below.refl wr.heap.size wr) nq
            have HM2 := Lib.hid (HM.out.later bq)
            have HO2 := Lib.hid (own_below HO.out bq)
            clear bq
            go_wp2_with fail
            go_roundw
            case rel => exact ⟨j + 1, by omega, by go_num, by rw [Hid, ← HS2.out]; exact HM2.out, HO2.out⟩
            case measure => simp [intOf]; omega
          · have q1 : ((z : Int) != (y : Int)) = true := by rw [bne_iff_ne]; omega
            have q2 : (z != y) = true := by rw [bne_iff_ne]; exact hzy
            go_wp2_with fail
            go_quiet (fail)
            have bq := below_drewN (Below.refl wr.heap.size wr) nq
            have HM2 := Lib.hid (HM.out.later bq)
            have HO2 := Lib.hid (own_below HO.out bq)
            have r3 : (wr.drewN nq).cell? (adr.add j) = some (.int .i64 (z : Int)) := r0
            have y3 : (wr.drewN nq).cell? ⟨(ad.add (i * 3)).block, (ad.add (i * 3)).off + 2, none⟩ = some (.int .i64 (y : Int)) := y2
            clear bq r0 y2 HM HO HBQ
            generalize wr.drewN nq = w3 at *
            obtain ⟨g, hA, e2, f2, hput⟩ := HM2.out.put z hxr
            have hb : z < (Ch.rwTo h l i R y j).length := by rw [HLN.out]; exact hxr
            have hnx := HNX1.out hzy hb
            have F3 := Lib.hid (fun w => rWith10_at ((Ch.rwTo h l i R y j)[z]'hb) (y : Int) w (HLT.out i R y j _ (List.getElem_mem hb)))
            have hm4 := hput (Bi.withN ((Ch.rwTo h l i R y j)[z]'hb) (y : Int))
            rw [hnx] at hm4
            have HM4 := Lib.hid hm4
            have HO4 := Lib.hid (own_setCell HO2.out (HGL.out g hA) (o := z) (x := .int .u64 (Bi.withN ((Ch.rwTo h l i R y j)[z]'hb) (y : Int) : Nat)))
            clear hm4 hnx hput HNX1 HSK1 hzy q1 q2
            obtain ⟨e0, e1⟩ := HM2.out.out.cells
            subst hA
            have hz1 : (0 : Int) ≤ (z : Int) := Int.natCast_nonneg _
            have hz2 : (z : Int) < (h.length : Int) := by omega
            generalize Bi.withN ((Ch.rwTo h l i R y j)[z]'hb) (y : Int) = s' at *
            generalize (Ch.rwTo h l i R y j)[z]'hb = s at *
            go_wp2_with fail
            have SB : Hid ((w3.setCell ⟨g, z, none⟩ (.int .u64 (s' : Int))).cell? ⟨o, 1, none⟩ = some (.slice (some ⟨g, 0, none⟩) h.length c) ∧ (w3.setCell ⟨g, z, none⟩ (.int .u64 (s' : Int))).cell? (adr.add j) = some (.int .i64 (z : Int)) ∧ (w3.setCell ⟨g, z, none⟩ (.int .u64 (s' : Int))).cell? ⟨(ad.add (i * 3)).block, (ad.add (i * 3)).off + 2, none⟩ = some (.int .i64 (y : Int))) := ⟨HM4.out.out.cells.2, HRJ.out _ HO4.out, (HIN.out _ (HM4.out.below BW.out (by omega))).2.2⟩
            refine wp_region_held_drew (S := fun W' => W'.cell? ⟨o, 1, none⟩ = some (.slice (some ⟨g, 0, none⟩) h.length c) ∧ W'.cell? (adr.add j) = some (.int .i64 (z : Int)) ∧ W'.cell? ⟨(ad.add (i * 3)).block, (ad.add (i * 3)).off + 2, none⟩ = some (.int .i64 (y : Int))) (by kernel_rfl) (⟨e1, r3, y3⟩) (fun hHeld => ?_)
            refine wpAnyH_take (i := 0) (oi := ({ dst := some 45, op := Op.fieldAddr 30 (Operand.tmp 5) 1, type := 0, pos := "ref.go:56", after := #[], guard := none } : Oper)) (v := ?_) rfl (by kernel_rfl) (by kernel_rfl) (by kernel_rfl) (fun _ _ _ h => h) (Or.inl ⟨by rfl, ?_⟩) (by assumption) ?_
            rotate_left
            · intro w hSw; (try dsimp only at hSw); go_simp
              try (with_reducible rfl)
            try simp only [Act.put, List.setIfInBounds_toArray, List.set_cons_zero, List.set_cons_succ]
            refine wpAnyH_take (i := 1) (oi := ({ dst := some 46, op := Op.load 28 (Operand.tmp 45), type := 28, pos := "ref.go:56", after := #[{ on := 0, ground := Ground.data }], guard := none } : Oper)) (v := ?_) rfl (by kernel_rfl) (by kernel_rfl) (by kernel_rfl) (fun _ _ _ h => h) (Or.inl ⟨by rfl, ?_⟩) (by assumption) ?_
            rotate_left
            · intro w hSw; (try dsimp only at hSw); go_simp
              try (with_reducible rfl)
            try simp only [Act.put, List.setIfInBounds_toArray, List.set_cons_zero, List.set_cons_succ]
            refine wpAnyH_take (i := 2) (oi := ({ dst := some 47, op := Op.move (Operand.tmp 7), type := 46, pos := "ref.go:56", after := #[], guard := none } : Oper)) (v := ?_) rfl (by kernel_rfl) (by kernel_rfl) (by kernel_rfl) (fun _ _ _ h => h) (Or.inl ⟨by rfl, ?_⟩) (by assumption) ?_
            rotate_left
            · intro w hSw; (try dsimp only at hSw); go_simp
              try (with_reducible rfl)
            try simp only [Act.put, List.setIfInBounds_toArray, List.set_cons_zero, List.set_cons_succ]
            refine wpAnyH_take (i := 3) (oi := ({ dst := some 48, op := Op.move (Operand.tmp 8), type := 3, pos := "ref.go:56", after := #[], guard := none } : Oper)) (v := ?_) rfl (by kernel_rfl) (by kernel_rfl) (by kernel_rfl) (fun _ _ _ h => h) (Or.inl ⟨by rfl, ?_⟩) (by assumption) ?_
            rotate_left
            · intro w hSw; (try dsimp only at hSw); go_simp
              try (with_reducible rfl)
            try simp only [Act.put, List.setIfInBounds_toArray, List.set_cons_zero, List.set_cons_succ]
            refine wpAnyH_take (i := 4) (oi := ({ dst := some 49, op := Op.indexAddr 46 (Operand.tmp 47) (Operand.tmp 48), type := 0, pos := "ref.go:56", after := #[{ on := 2, ground := Ground.data }, { on := 3, ground := Ground.data }], guard := none } : Oper)) (v := ?_) rfl (by kernel_rfl) (by kernel_rfl) (by kernel_rfl) (fun _ _ _ h => h) (Or.inl ⟨by rfl, ?_⟩) (by assumption) ?_
            rotate_left
            · intro w hSw; (try dsimp only at hSw); go_simp
              try (with_reducible rfl)
            try simp only [Act.put, List.setIfInBounds_toArray, List.set_cons_zero, List.set_cons_succ]
            refine wpAnyH_take (i := 5) (oi := ({ dst := some 50, op := Op.load 3 (Operand.tmp 49), type := 3, pos := "ref.go:56", after := #[{ on := 4, ground := Ground.data }], guard := none } : Oper)) (v := ?_) rfl (by kernel_rfl) (by kernel_rfl) (by kernel_rfl) (fun _ _ _ h => h) (Or.inl ⟨by rfl, ?_⟩) (by assumption) ?_
            rotate_left
            · intro w hSw; (try dsimp only at hSw); go_simp
              try (with_reducible rfl)
            try simp only [Act.put, List.setIfInBounds_toArray, List.set_cons_zero, List.set_cons_succ]
            refine wpAnyH_take (i := 6) (oi := ({ dst := some 51, op := Op.fieldAddr 30 (Operand.tmp 5) 1, type := 0, pos := "ref.go:56", after := #[], guard := none } : Oper)) (v := ?_) rfl (by kernel_rfl) (by kernel_rfl) (by kernel_rfl) (fun _ _ _ h => h) (Or.inl ⟨by rfl, ?_⟩) (by assumption) ?_
            rotate_left
            · intro w hSw; (try dsimp only at hSw); go_simp
              try (with_reducible rfl)
            try simp only [Act.put, List.setIfInBounds_toArray, List.set_cons_zero, List.set_cons_succ]
            refine wpAnyH_take (i := 7) (oi := ({ dst := some 52, op := Op.load 28 (Operand.tmp 51), type := 28, pos := "ref.go:56", after := #[{ on := 6, ground := Ground.data }], guard := none } : Oper)) (v := ?_) rfl (by kernel_rfl) (by kernel_rfl) (by kernel_rfl) (fun _ _ _ h => h) (Or.inl ⟨by rfl, ?_⟩) (by assumption) ?_
            rotate_left
            · intro w hSw; (try dsimp only at hSw); go_simp
              try (with_reducible rfl)
            try simp only [Act.put, List.setIfInBounds_toArray, List.set_cons_zero, List.set_cons_succ]
            refine wpAnyH_take (i := 8) (oi := ({ dst := some 53, op := Op.move (Operand.tmp 7), type := 46, pos := "ref.go:56", after := #[], guard := none } : Oper)) (v := ?_) rfl (by kernel_rfl) (by kernel_rfl) (by kernel_rfl) (fun _ _ _ h => h) (Or.inl ⟨by rfl, ?_⟩) (by assumption) ?_
            rotate_left
            · intro w hSw; (try dsimp only at hSw); go_simp
              try (with_reducible rfl)
            try simp only [Act.put, List.setIfInBounds_toArray, List.set_cons_zero, List.set_cons_succ]
            refine wpAnyH_take (i := 9) (oi := ({ dst := some 54, op := Op.move (Operand.tmp 8), type := 3, pos := "ref.go:56", after := #[], guard := none } : Oper)) (v := ?_) rfl (by kernel_rfl) (by kernel_rfl) (by kernel_rfl) (fun _ _ _ h => h) (Or.inl ⟨by rfl, ?_⟩) (by assumption) ?_
            rotate_left
            · intro w hSw; (try dsimp only at hSw); go_simp
              try (with_reducible rfl)
            try simp only [Act.put, List.setIfInBounds_toArray, List.set_cons_zero, List.set_cons_succ]
            refine wpAnyH_take (i := 10) (oi := ({ dst := some 55, op := Op.indexAddr 46 (Operand.tmp 53) (Operand.tmp 54), type := 0, pos := "ref.go:56", after := #[{ on := 8, ground := Ground.data }, { on := 9, ground := Ground.data }], guard := none } : Oper)) (v := ?_) rfl (by kernel_rfl) (by kernel_rfl) (by kernel_rfl) (fun _ _ _ h => h) (Or.inl ⟨by rfl, ?_⟩) (by assumption) ?_
            rotate_left
            · intro w hSw; (try dsimp only at hSw); go_simp
              try (with_reducible rfl)
            try simp only [Act.put, List.setIfInBounds_toArray, List.set_cons_zero, List.set_cons_succ]
            refine wpAnyH_take (i := 11) (oi := ({ dst := some 56, op := Op.load 3 (Operand.tmp 55), type := 3, pos := "ref.go:56", after := #[{ on := 10, ground := Ground.data }], guard := none } : Oper)) (v := ?_) rfl (by kernel_rfl) (by kernel_rfl) (by kernel_rfl) (fun _ _ _ h => h) (Or.inl ⟨by rfl, ?_⟩) (by assumption) ?_
            rotate_left
            · intro w hSw; (try dsimp only at hSw); go_simp
              try (with_reducible rfl)
            try simp only [Act.put, List.setIfInBounds_toArray, List.set_cons_zero, List.set_cons_succ]
            refine wpAnyH_take (i := 12) (oi := ({ dst := some 57, op := Op.indexAddr 28 (Operand.tmp 52) (Operand.tmp 56), type := 0, pos := "ref.go:56", after := #[{ on := 7, ground := Ground.data }, { on := 11, ground := Ground.data }], guard := none } : Oper)) (v := ?_) rfl (by kernel_rfl) (by kernel_rfl) (by kernel_rfl) (fun _ _ _ h => h) (Or.inl ⟨by rfl, ?_⟩) (by assumption) ?_
            rotate_left
            · intro w hSw; (try dsimp only at hSw); go_simp
              try (with_reducible rfl)
            try simp only [Act.put, List.setIfInBounds_toArray, List.set_cons_zero, List.set_cons_succ]
            refine wpAnyH_take (i := 14) (oi := ({ dst := some 59, op := Op.move (Operand.tmp 1), type := 25, pos := "ref.go:56", after := #[], guard := none } : Oper)) (v := ?_) rfl (by kernel_rfl) (by kernel_rfl) (by kernel_rfl) (fun _ _ _ h => h) (Or.inl ⟨by rfl, ?_⟩) (by assumption) ?_
            rotate_left
            · intro w hSw; (try dsimp only at hSw); go_simp
              try (with_reducible rfl)
            try simp only [Act.put, List.setIfInBounds_toArray, List.set_cons_zero, List.set_cons_succ]
            refine wpAnyH_take (i := 15) (oi := ({ dst := some 60, op := Op.move (Operand.tmp 6), type := 3, pos := "ref.go:56", after := #[], guard := none } : Oper)) (v := ?_) rfl (by kernel_rfl) (by kernel_rfl) (by kernel_rfl) (fun _ _ _ h => h) (Or.inl ⟨by rfl, ?_⟩) (by assumption) ?_
            rotate_left
            · intro w hSw; (try dsimp only at hSw); go_simp
              try (with_reducible rfl)
            try simp only [Act.put, List.setIfInBounds_toArray, List.set_cons_zero, List.set_cons_succ]
            refine wpAnyH_take (i := 16) (oi := ({ dst := some 61, op := Op.indexAddr 25 (Operand.tmp 59) (Operand.tmp 60), type := 0, pos := "ref.go:56", after := #[{ on := 14, ground := Ground.data }, { on := 15, ground := Ground.data }], guard := none } : Oper)) (v := ?_) rfl (by kernel_rfl) (by kernel_rfl) (by kernel_rfl) (fun _ _ _ h => h) (Or.inl ⟨by rfl, ?_⟩) (by assumption) ?_
            rotate_left
            · intro w hSw; (try dsimp only at hSw); go_simp
              try (with_reducible rfl)
            try simp only [Act.put, List.setIfInBounds_toArray, List.set_cons_zero, List.set_cons_succ]
            refine wpAnyH_take (i := 17) (oi := ({ dst := some 62, op := Op.fieldAddr 38 (Operand.tmp 61) 2, type := 0, pos := "ref.go:56", after := #[{ on := 16, ground := Ground.data }], guard := none } : Oper)) (v := ?_) rfl (by kernel_rfl) (by kernel_rfl) (by kernel_rfl) (fun _ _ _ h => h) (Or.inl ⟨by rfl, ?_⟩) (by assumption) ?_
            rotate_left
            · intro w hSw; (try dsimp only at hSw); go_simp
              try (with_reducible rfl)
            try simp only [Act.put, List.setIfInBounds_toArray, List.set_cons_zero, List.set_cons_succ]
            refine wpAnyH_take (i := 18) (oi := ({ dst := some 63, op := Op.load 3 (Operand.tmp 62), type := 3, pos := "ref.go:56", after := #[{ on := 17, ground := Ground.data }], guard := none } : Oper)) (v := ?_) rfl (by kernel_rfl) (by kernel_rfl) (by kernel_rfl) (fun _ _ _ h => h) (Or.inl ⟨by rfl, ?_⟩) (by assumption) ?_
            rotate_left
            · intro w hSw; (try dsimp only at hSw); go_simp
              try (with_reducible rfl)
            try simp only [Act.put, List.setIfInBounds_toArray, List.set_cons_zero, List.set_cons_succ]
            refine wpAnyH_ready (rs := [13]) (by kernel_rfl) (by simp) ?_
            refine AllReadyH.cons (o := ({ dst := some 58, op := Op.load 58 (Operand.tmp 57), type := 58, pos := "ref.go:56", after := #[{ on := 12, ground := Ground.data }], guard := none } : Oper)) rfl (fun K hK => ?_) AllReadyH.nil
            go_simp
            refine hK.out _ _ (hHeld) (fun hHeld => ?_)
            clear hK K
            try simp only [Act.put, List.setIfInBounds_toArray, List.set_cons_zero, List.set_cons_succ]
            refine wpAnyH_ready (rs := [19]) (by kernel_rfl) (by simp) ?_
            refine AllReadyH.cons (o := ({ dst := some 64, op := Op.call { callee := Callee.value (Operand.func 45), args := #[Operand.tmp 58, Operand.tmp 63], argTypes := #[58, 3] }, type := 58, pos := "ref.go:56", after := #[{ on := 13, ground := Ground.data }, { on := 18, ground := Ground.data }], guard := none } : Oper)) rfl (fun K hK => ?_) AllReadyH.nil
            go_simp
            refine (F3.out _).mono ?_
            rintro e w5 ⟨rfl, rfl⟩
            dsimp only
            refine hK.out _ _ (hHeld) (fun hHeld => ?_)
            clear hK K
            try simp only [Act.put, List.setIfInBounds_toArray, List.set_cons_zero, List.set_cons_succ]
            refine wpAnyH_take (i := 20) (oi := ({ dst := some 65, op := Op.indexAddr 28 (Operand.tmp 46) (Operand.tmp 50), type := 0, pos := "ref.go:56", after := #[{ on := 1, ground := Ground.data }, { on := 5, ground := Ground.data }, { on := 0, ground := Ground.phase }, { on := 1, ground := Ground.phase }, { on := 2, ground := Ground.phase }, { on := 3, ground := Ground.phase }, { on := 4, ground := Ground.phase }, { on := 5, ground := Ground.phase }, { on := 6, ground := Ground.phase }, { on := 7, ground := Ground.phase }, { on := 8, ground := Ground.phase }, { on := 9, ground := Ground.phase }, { on := 10, ground := Ground.phase }, { on := 11, ground := Ground.phase }, { on := 12, ground := Ground.phase }, { on := 13, ground := Ground.phase }, { on := 14, ground := Ground.phase }, { on := 15, ground := Ground.phase }, { on := 16, ground := Ground.phase }, { on := 17, ground := Ground.phase }, { on := 18, ground := Ground.phase }, { on := 19, ground := Ground.phase }], guard := none } : Oper)) (v := ?_) rfl (by kernel_rfl) (by kernel_rfl) (by kernel_rfl) (fun _ _ _ h => h) (Or.inl ⟨by rfl, ?_⟩) (by assumption) ?_
            rotate_left
            · intro w hSw; (try dsimp only at hSw); go_simp
              try (with_reducible rfl)
            try simp only [Act.put, List.setIfInBounds_toArray, List.set_cons_zero, List.set_cons_succ]
            refine wpAnyH_ready (rs := [21]) (by kernel_rfl) (by simp) ?_
            refine AllReadyH.cons (o := ({ dst := none, op := Op.store 58 (Operand.tmp 65) (Operand.tmp 64), type := 0, pos := "ref.go:56", after := #[{ on := 20, ground := Ground.data }, { on := 19, ground := Ground.data }, { on := 19, ground := Ground.chain }, { on := 0, ground := Ground.phase }, { on := 1, ground := Ground.phase }, { on := 2, ground := Ground.phase }, { on := 3, ground := Ground.phase }, { on := 4, ground := Ground.phase }, { on := 5, ground := Ground.phase }, { on := 6, ground := Ground.phase }, { on := 7, ground := Ground.phase }, { on := 8, ground := Ground.phase }, { on := 9, ground := Ground.phase }, { on := 10, ground := Ground.phase }, { on := 11, ground := Ground.phase }, { on := 12, ground := Ground.phase }, { on := 13, ground := Ground.phase }, { on := 14, ground := Ground.phase }, { on := 15, ground := Ground.phase }, { on := 16, ground := Ground.phase }, { on := 17, ground := Ground.phase }, { on := 18, ground := Ground.phase }, { on := 19, ground := Ground.phase }], guard := none } : Oper)) rfl (fun K hK => ?_) AllReadyH.nil
            go_simp
            refine hK.out _ _ (SB.out) (fun hHeld => ?_)
            clear hK K
            try simp only [Act.put, List.setIfInBounds_toArray, List.set_cons_zero, List.set_cons_succ]
            refine wpAnyH_done (by kernel_rfl) ?_ _
            clear e0 e1 e2 f2 r3 y3
            go_wp2_with fail
            go_roundw
            case rel => exact ⟨j + 1, by omega, by go_num, HM4.out.later (Below.refl _ _).drew, own_below HO4.out (Below.refl _ _).drew⟩
            case measure => simp [intOf]; omega
        · have hjn : j = R.length := by omega
          subst hjn
          rw [HALY.out] at HM
          go_wp2_with fail
          go_roundw
          case rel => exact ⟨i + 1, by omega, by go_num, HM.out⟩
          case measure => simp [intOf]; omega
    · have hxn : i = l.length := by omega
      subst hxn
      obtain ⟨e0, e1⟩ := HM.out.out.cells
      have TR := Lib.hid (two_at T1.out HM.out.low (by omega))
      obtain ⟨r0, r1⟩ := TR.out.cells
      have f0 := TR.out.frozen 0
      have f1 := TR.out.frozen 1
      rw [HE.out] at HM
      go_wp2_with fail
      exact end_r (p := 4) rfl TR.out HM.out.own (by omega) (HM.out.below BW.out (by omega)) (Nat.le_succ _) _ rfl
end Go.Proofs.Ytahacjfeopjbaaa
