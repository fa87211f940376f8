/-
  What the reference's Open of layer 18 answers.
  Conditions: a history that may be; a row of at most 4294967296.
-/
import Derived.Test.YtahacjfeopjbaaaChRefD
import Derived.Test.YtahacjfeopjbaaaIxRef
set_option maxRecDepth 4000
namespace Go.Proofs.Ytahacjfeopjbaaa
open Go.RowKit

/-- A choice and whether there is one. -/
def RetOpen (w : World) (o : Option (Nat × Nat × Nat)) (e : Ending) (w' : World) : Prop := e = .returned (.tuple #[.agg #[.int .i64 (((o.map (·.1)).getD 0 : Nat) : Int), .int .i64 (((o.map (·.2.1)).getD 0 : Nat) : Int), .int .i64 (((o.map (·.2.2)).getD 0 : Nat) : Int)], .bool o.isSome]) ∧ Below w.heap.size w w'
theorem end_open {w X : World} {o : Option (Nat × Nat × Nat)} {x0 x1 x2 u0 u1 u2 : Int} {q : Bool} (e0 : (((o.map (·.1)).getD 0 : Nat) : Int) = x0) (e1 : (((o.map (·.2.1)).getD 0 : Nat) : Int) = x1) (e2 : (((o.map (·.2.2)).getD 0 : Nat) : Int) = x2) (eq : o.isSome = q) {b : Nat}
    (hT : Three X b 38 (.int .i64 u0) (.int .i64 u1) (.int .i64 u2)) (hB : Below w.heap.size w X) (hb : w.heap.size ≤ b) (tmps : Array Value) (hp : tmps.getD 4 undef = .pointer (some ⟨b, 0, none⟩)) (hq : tmps.getD 5 undef = .bool q) :
    bodyPost Try.prog Try.f16 (RetOpen w o) Exit.ret { tmps := tmps, defers := [] } (((X.setCell ⟨b, 0, none⟩ (.int .i64 x0)).setCell ⟨b, 1, none⟩ (.int .i64 x1)).setCell ⟨b, 2, none⟩ (.int .i64 x2)) := by
  obtain ⟨p0, p1, p2⟩ := (show Three (((X.setCell ⟨b, 0, none⟩ (.int .i64 x0)).setCell ⟨b, 1, none⟩ (.int .i64 x1)).setCell ⟨b, 2, none⟩ (.int .i64 x2)) b 38 _ _ _ from hT.put).cells
  refine bodyPost_ret (v := .tuple #[.agg #[.int .i64 x0, .int .i64 x1, .int .i64 x2], .bool q]) ?_ rfl ⟨by rw [e0, e1, e2, eq], ((hB.setCell (p := ⟨b, 0, none⟩) hb _).setCell (p := ⟨b, 1, none⟩) hb _).setCell (p := ⟨b, 2, none⟩) hb _⟩
  rw [Array.getD_eq_getD_getElem?] at hp hq
  simp [results, Try.results16, hp, hq, asAddr, go_sem, p0, p1, p2]
set_option maxHeartbeats 4000000 in
theorem rOpen18_at (h : List So.Txn) (u : Value) (l : List (Int × Int × Int)) (v : Value) (w : World) (hv : Txns w u h) (hl : Tris w v l) (hr : Hi.Right h) (hs : Ix.Small h) (hn : l.length ≤ 4294967296) : Calls Try.prog 16 #[.agg #[u], v] w (RetOpen w (Ch.openR h l)) := by
  have HV := Lib.hid hv
  have HL := Lib.hid hl
  obtain ⟨A0, c0', rfl, -⟩ := hv.spelled
  obtain ⟨B, d, rfl, -⟩ := hl.spelled
  have F1 := Lib.hid (fun w hw => rPairs9_at h (.slice A0 h.length c0') w hw hs)
  rw [Ix.pairsA_yes ((Hi.rightB_iff _).2 hr)] at F1
  have FI := Lib.hid (fun k a b w hw => rIn18_at l (.slice B l.length d) k a b w hw hn)
  have hpl : (Ix.pairs h).length ≤ 20000 := by
    have := Ix.pairsTo_len (h := h) hr.1 16
    exact Nat.le_trans this (by decide)
  have HFY : Hid (∀ (i : Nat) (hi : i < (Ix.pairs h).length), Ch.openB l (Ix.pairs h)[i] = true → (∀ j (hj : j < (Ix.pairs h).length), j < i → Ch.openB l (Ix.pairs h)[j] = false) → Ch.openR h l = some (Ix.pairs h)[i]) := fun i hi hy hno => by
    unfold Ch.openR
    rw [List.find?_eq_some_iff_getElem]
    exact ⟨hy, i, hi, rfl, fun j hj => by rw [hno j (by omega) hj]; rfl⟩
  have HFN : Hid ((∀ j (hj : j < (Ix.pairs h).length), Ch.openB l (Ix.pairs h)[j] = false) → Ch.openR h l = none) := fun hno => by
    unfold Ch.openR
    rw [List.find?_eq_none]
    intro p hp
    obtain ⟨j, hj, rfl⟩ := List.getElem_of_mem hp
    rw [hno j hj]
    simp
  generalize Ch.openR h l = res at *
  generalize Ix.pairs h = P at *
  clear hv hl hr
  have T0 := Lib.hid (Boxed.later (Boxed.new w 24 (.slice A0 h.length c0')) (alloc_below (w.alloc (.cells #[.slice A0 h.length c0'] 24)) (.cells #[.int .i64 0, .int .i64 0, .int .i64 0] 38)))
  have t1 := Three.new (w.alloc (.cells #[.slice A0 h.length c0'] 24)) 38 (.int .i64 0) (.int .i64 0) (.int .i64 0)
  rw [World.size_alloc] at t1
  have T1 := Lib.hid t1
  have BW := Lib.hid (below_all (alloc_below w (.cells #[.slice A0 h.length c0'] 24)) (alloc_below (w.alloc (.cells #[.slice A0 h.length c0'] 24)) (.cells #[.int .i64 0, .int .i64 0, .int .i64 0] 38)))
  clear t1
  go_enter Try.func16, Try.ntmps16
  go_upto_region 1 with fail
  generalize (w.alloc (.cells #[.slice A0 h.length c0'] 24)).alloc (.cells #[.int .i64 0, .int .i64 0, .int .i64 0] 38) = W at *
  have a0 := T0.out.cell
  go_wp2_with fail
  refine (F1.out _ (HV.out.below BW.out)).mono ?_
  rintro e w1 ⟨vp, rfl, hc, hb1⟩
  have HC := Lib.hid hc
  obtain ⟨Ap, cp, rfl, hp⟩ := hc.spelled
  have HP := Lib.hid hp
  have B1 := Lib.hid (below_all BW.out hb1)
  have T2 := Lib.hid (T1.out.later hb1)
  clear hc hp hb1 a0
  go_wp2_with fail
  go_loopw [7] (fun ix wr => ∃ i : Nat, i ≤ P.length ∧ ix = .int .i64 i ∧ Hid (∀ j (hj : j < P.length), j < i → Ch.openB l P[j] = false) ∧ Hid (Below w1.heap.size w1 wr)) (fun ix _ => P.length - (intOf ix).toNat)
  case atStart => exact ⟨0, Nat.zero_le _, rfl, fun j _ q => absurd q (Nat.not_lt_zero j), Below.refl _ _⟩
  case round =>
    obtain ⟨i, hi, rfl, HI, HB⟩ := hrel
    by_cases hlt : i < P.length
    · obtain ⟨ad, rfl, hbl, hin⟩ := HP.out i hlt
      have HIN : Hid (∀ W', Below w1.heap.size w1 W' → W'.cell? (ad.add (i * 3)) = some (.int .i64 ((P[i]'hlt).1 : Int)) ∧ W'.cell? ⟨(ad.add (i * 3)).block, (ad.add (i * 3)).off + 1, none⟩ = some (.int .i64 ((P[i]'hlt).2.1 : Int)) ∧ W'.cell? ⟨(ad.add (i * 3)).block, (ad.add (i * 3)).off + 2, none⟩ = some (.int .i64 ((P[i]'hlt).2.2 : Int))) := fun W' hb => by
        obtain ⟨h1, h2, h3⟩ := hin.below hbl hb
        exact ⟨h1, h2, h3⟩
      have HO : Hid (Ch.openB l (P[i]'hlt) = (!l.contains (((P[i]'hlt).1 : Int), ((P[i]'hlt).2.1 : Int), ((P[i]'hlt).2.2 : Int)) && !l.contains (((P[i]'hlt).1 : Int), ((P[i]'hlt).2.2 : Int), ((P[i]'hlt).2.1 : Int)))) := rfl
      have HYX := Lib.hid (fun hy => HFY.out i hlt hy fun j hj hji => HI.out j hj hji)
      have HNX : Hid (Ch.openB l (P[i]'hlt) = false → ∀ j (hj : j < P.length), j < i + 1 → Ch.openB l P[j] = false) := fun hno j hj hji => by
        rcases Nat.lt_succ_iff_lt_or_eq.1 hji with q | q
        · exact HI.out j hj q
        · subst q; exact hno
      generalize P[i]'hlt = z at *
      obtain ⟨zk, za, zb⟩ := z
      dsimp only at HIN HO HYX
      have hi1 : (0 : Int) ≤ (i : Int) := Int.natCast_nonneg _
      have hi2 : (i : Int) < (P.length : Int) := by omega
      have FA := Lib.hid (fun w hw => FI.out (zk : Int) (za : Int) (zb : Int) w hw)
      have FB := Lib.hid (fun w hw => FI.out (zk : Int) (zb : Int) (za : Int) w hw)
      generalize l.contains ((zk : Int), (za : Int), (zb : Int)) = p at *
      generalize l.contains ((zk : Int), (zb : Int), (za : Int)) = q at *
      clear hin
      obtain ⟨z0, z1, z2⟩ := HIN.out _ HB.out
      go_wp2_with fail
      refine (FA.out _ (HL.out.below (below_all B1.out HB.out))).mono ?_
      rintro e w2 ⟨rfl, hb2⟩
      have HB2 := Lib.hid (below_all HB.out hb2)
      clear hb2 z0 z1 z2
      obtain ⟨z0, z1, z2⟩ := HIN.out _ HB2.out
      go_wp2_with fail
      refine (rBack18_at _ _ _ _).mono ?_
      rintro e w3 ⟨rfl, hb3⟩
      have HB3 := Lib.hid (below_all HB2.out hb3)
      clear hb3 z0 z1 z2
      go_wp2_with fail
      refine (FB.out _ (HL.out.below (below_all B1.out HB3.out))).mono ?_
      rintro e w4 ⟨rfl, hb4⟩
      have HB4 := Lib.hid (below_all HB3.out hb4)
      clear hb4
      cases p with
      | true =>
        have HN2 := Lib.hid (HNX.out HO.out)
        go_wp2_with fail
        go_roundw
        case rel => exact ⟨i + 1, by omega, by go_num, HN2.out, HB4.out⟩
        case measure => simp [intOf]; omega
      | false =>
        cases q with
        | true =>
          have HN2 := Lib.hid (HNX.out HO.out)
          go_wp2_with fail
          go_roundw
          case rel => exact ⟨i + 1, by omega, by go_num, HN2.out, HB4.out⟩
          case measure => simp [intOf]; omega
        | false =>
          have HRS := Lib.hid (HYX.out HO.out)
          have T5 := Lib.hid (T2.out.later HB4.out)
          have f0 := T5.out.frozen 0
          have f1 := T5.out.frozen 1
          have f2 := T5.out.frozen 2
          obtain ⟨s0, s1, s2⟩ := T5.out.cells
          obtain ⟨z0, z1, z2⟩ := HIN.out _ HB4.out
          go_wp2_with fail
          exact end_open (by rw [HRS.out]; rfl) (by rw [HRS.out]; rfl) (by rw [HRS.out]; rfl) (by rw [HRS.out]; rfl) T5.out (below_all B1.out HB4.out) (Nat.le_succ _) _ rfl rfl
    · have HRS := Lib.hid (HFN.out fun j hj => HI.out j hj (by omega))
      have T5 := Lib.hid (T2.out.later HB.out)
      have f0 := T5.out.frozen 0
      have f1 := T5.out.frozen 1
      have f2 := T5.out.frozen 2
      obtain ⟨s0, s1, s2⟩ := T5.out.cells
      go_wp2_with fail
      exact end_open (by rw [HRS.out]; rfl) (by rw [HRS.out]; rfl) (by rw [HRS.out]; rfl) (by rw [HRS.out]; rfl) T5.out (below_all B1.out HB.out) (Nat.le_succ _) _ rfl rfl
end Go.Proofs.Ytahacjfeopjbaaa
