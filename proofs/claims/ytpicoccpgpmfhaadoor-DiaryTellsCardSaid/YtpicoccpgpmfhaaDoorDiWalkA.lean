/-
  What diary.stopAt, linesOf and eventsOf do, for every input: they hand back what they should, or panic with the fault that tells the line and its error; what was in memory stays as it was.
  Conditions: the variable that lists the kinds' words holds them (eventsOf); a string's length is at most the model's greatest; a row has at most 400 lines (eventsOf).
-/
import Derived.Test.YtpicoccpgpmfhaaDoorDiPlain
import Derived.Test.YtpicoccpgpmfhaaDoorDiMem
import Derived.Test.YtpicoccpgpmfhaaDoorEvWalkD
import Derived.Test.YtpicoccpgpmfhaaDoorLnWalkB
namespace Go.Proofs.YtpicoccpgpmfhaaDoor
open Go.RowKit

/-- The panic's value: a line's number, and its error. -/
def faultV (n q : Int) : Value := .iface 40 (.agg #[.int .i64 n, .int .i64 q])
def thrown (n q : Int) : Ending := .panicked [{ v := faultV n q, recovered := false }]

theorem stopAt_ok (n : Int) (w : World) : Calls Tryd.prog 31 #[.int .i64 n, .int .i64 0] w fun e w' => e = .returned (.tuple #[]) ∧ w = w' := by
  go_enter Tryd.func31, Tryd.ntmps31
  go_wp2
  go_end0
  exact ⟨rfl, rfl⟩

theorem stopAt_bad (n q : Int) (w : World) (hq : q ≠ 0) : Calls Tryd.prog 31 #[.int .i64 n, .int .i64 q] w fun e w' => e = thrown n q ∧ w = w' := by
  have hb : (q != 0) = true := by rw [bne_iff_ne]; exact hq
  clear hq
  go_enter Tryd.func31, Tryd.ntmps31
  go_wp2
  exact ⟨rfl, rfl, rfl⟩

theorem linesOf_ok (s : List UInt8) (w : World) (hs : s.length ≤ maxLen) (h : (Ln.splitR s).2 = 0) : Calls Tryd.prog 17 #[.string (Ln.bs s)] w fun e w' => ∃ v, e = .returned v ∧ Strs w' v (Ln.splitR s).1 ∧ Below w.heap.size w w' := by
  have HS := Lib.hid hs
  have HQ := Lib.hid h
  clear hs h
  go_enter Tryd.func17, Tryd.ntmps17
  go_wp2_with fail
  refine (split_at s w HS.out).mono ?_
  rintro e w1 ⟨v1, rfl, hs1, hb1⟩
  rw [HQ.out]
  have S1 := Lib.hid hs1
  have B1 := Lib.hid hb1
  clear hs1 hb1
  go_wp2_with fail
  refine (stopAt_ok 0 w1).mono ?_
  rintro e w2 ⟨rfl, rfl⟩
  go_wp2_with fail
  go_ret
  exact ⟨_, rfl, S1.out, B1.out⟩

theorem linesOf_bad (s : List UInt8) (w : World) (hs : s.length ≤ maxLen) (h : (Ln.splitR s).2 ≠ 0) : Calls Tryd.prog 17 #[.string (Ln.bs s)] w fun e w' => e = thrown 0 (Ln.splitR s).2 ∧ Below w.heap.size w w' := by
  have HS := Lib.hid hs
  have HQ := Lib.hid h
  clear hs h
  go_enter Tryd.func17, Tryd.ntmps17
  go_wp2_with fail
  refine (split_at s w HS.out).mono ?_
  rintro e w1 ⟨v1, rfl, hs1, hb1⟩
  have B1 := Lib.hid hb1
  clear hs1 hb1
  go_wp2_with fail
  refine (stopAt_bad 0 _ w1 HQ.out).mono ?_
  rintro e w2 ⟨rfl, rfl⟩
  unfold thrown
  go_wp2_with fail
  exact ⟨rfl, rfl, B1.out⟩

theorem ev_info : (Tryd.prog.info? 35).map (fun i => (i.zero, i.size, i.bytes)) = some (some (evV Ev.zero), 4, 32) := by kernel_rfl

/-- What eventsOf's loop holds at the head of each round. -/
def EventsRel (w : World) (l : List (List UInt8)) (v i : Value) (wr : World) : Prop :=
  ∃ k : Nat, k ≤ l.length ∧ i = .int .i64 k ∧ Di.bad (l.take k) = 0 ∧ wr.ownsRow w.heap.size 35 4 v (Di.evs (l.take k)).length ((Di.evs (l.take k)).flatMap evCells) ∧ Below w.heap.size w wr
/-- The four cells of a new block. -/
theorem new_ev (w : World) (x : Ev.Event) (e : TypeId) : ∀ j u, (evCells x)[j]? = some u → (w.alloc (.cells #[.int .i64 x.kind, .int .i64 x.session, .int .i64 x.key, .int .i64 x.value] e)).cell? ((⟨w.heap.size, 0, none⟩ : Addr).add j) = some u := by
  intro j u hj
  have e1 : (⟨w.heap.size, 0, none⟩ : Addr).add j = ⟨w.heap.size, j, none⟩ := by
    unfold Addr.add
    split
    · rename_i h; rw [h]
    · simp
  rw [e1]
  exact new_cell w _ _ j u (by rw [← hj, evCells, ← List.getElem?_toArray])

theorem new_ev2 (w : World) (o : Obj) (x : Ev.Event) (e : TypeId) : ∀ j u, (evCells x)[j]? = some u → ((w.alloc o).alloc (.cells #[.int .i64 x.kind, .int .i64 x.session, .int .i64 x.key, .int .i64 x.value] e)).cell? ((⟨w.heap.size + 1, 0, none⟩ : Addr).add j) = some u := by
  rw [← size_new w o]
  exact new_ev (w.alloc o) x e

set_option maxHeartbeats 1000000 in
/-- Either all lines are events', and these are handed back, or the first one that is not is told. -/
theorem eventsOf_at (l : List (List UInt8)) (v : Value) (w : World) (hv : Strs w v l) (hK : KW w) (hl : l.length ≤ 400) (hm : ∀ x ∈ l, x.length ≤ maxLen) : Calls Tryd.prog 16 #[v] w fun e w' => Below w.heap.size w w' ∧ (Di.bad l = 0 ∧ (∃ v', e = .returned v' ∧ w'.ownsRow w.heap.size 35 4 v' (Di.evs l).length ((Di.evs l).flatMap evCells)) ∨ Di.bad l ≠ 0 ∧ e = thrown (Di.place l : Int) (Di.bad l)) := by
  obtain ⟨i0, hi0, hz0, hz1, hz2⟩ := info_parts ev_info
  have I0 := Lib.hid hi0
  have I1 := Lib.hid hz0
  have I2 := Lib.hid hz1
  have I3 := Lib.hid hz2
  clear hi0 hz0 hz1 hz2
  obtain ⟨A, c, rfl, hform⟩ := hv.form
  have HF := Lib.hid hform
  have HK := Lib.hid hK
  have HM := Lib.hid hm
  clear hform hv hK hm
  go_enter Tryd.func16, Tryd.ntmps16
  go_wp2
  go_loopw [3, 11] (fun v i wr => EventsRel w l v i wr) (fun _ i _ => l.length - (intOf i).toNat)
  case atStart =>
    exact ⟨0, Nat.zero_le _, rfl, rfl, World.ownsRow_lit w #[] 0 (Nat.le_refl _) (by simp [maxLen]) (by simp), (Below.refl _ _).alloc (Nat.le_refl _) _⟩
  case round =>
    obtain ⟨k, hk, rfl, hbad, hown, hb⟩ := hrel
    have HA := Lib.hid hbad
    have HO := Lib.hid hown
    have HB := Lib.hid hb
    obtain ⟨A', cp, rfl⟩ := own_form hown
    clear hbad hown hb
    by_cases hlt : k < l.length
    · obtain ⟨ad, rfl, hblk, hcell⟩ := HF.out k hlt
      obtain ⟨x, hx⟩ : ∃ x, x = l[k]'hlt := ⟨_, rfl⟩
      have hc2 : wr.cell? (ad.add k) = some (.string (Ln.bs x)) := by rw [hx]; exact (HB.out.cell (by rw [add_block]; exact hblk)).trans hcell
      have HKR := Lib.hid (KW.below HK.out HB.out)
      have HXM : Hid (x.length ≤ maxLen) := by rw [hx]; exact HM.out _ (List.getElem_mem _)
      have HBT := Lib.hid (Di.bad_take l k hlt HA.out)
      have HET := Lib.hid (Di.evs_take l k hlt)
      rw [← hx] at HBT HET
      have hdl : (Di.evs (l.take k)).length ≤ 400 := by rw [Di.evs_len, List.length_take]; omega
      generalize Di.evs (l.take k) = d at *
      clear hcell hx
      go_wp2_with fail
      refine (evParse_at x _ HXM.out HKR.out).mono ?_
      rintro e w1 ⟨rfl, hb1⟩
      have HB1 := Lib.hid (HB.out.trans (hb1.mono HB.out.size))
      have HO1 := Lib.hid (own_below HO.out hb1)
      obtain ⟨y, hy⟩ : ∃ y, y = (Ev.parseR x).1 := ⟨_, rfl⟩
      rw [← hy] at HET ⊢
      unfold evV
      clear hb1 hy HO
      by_cases hq : (Ev.parseR x).2 = 0
      · rw [hq]
        have HA1 : Hid (Di.bad (l.take (k + 1)) = 0) := HBT.out.1.trans hq
        clear hq HBT
        have HO2 := Lib.hid ((HO1.out.alloc (.cells #[.int .i64 y.kind, .int .i64 y.session, .int .i64 y.key, .int .i64 y.value] 35)).alloc (.cells #[.int .i64 y.kind, .int .i64 y.session, .int .i64 y.key, .int .i64 y.value] 35))
        have HB2 := Lib.hid ((HB1.out.alloc HB1.out.size (.cells #[.int .i64 y.kind, .int .i64 y.session, .int .i64 y.key, .int .i64 y.value] 35)).alloc (Nat.le_trans HB1.out.size (by simp)) (.cells #[.int .i64 y.kind, .int .i64 y.session, .int .i64 y.key, .int .i64 y.value] 35))
        go_wp2_with fail
        refine (stopAt_ok _ _).mono ?_
        rintro e w2 ⟨rfl, rfl⟩
        go_wp2_with (at_builtin; refine wpList_append_own_at _ rfl _ _ 22 rfl w.heap.size 35 i0 _ 4 32 Tryd.underlying22 I0.out I1.out I2.out I3.out rfl (by decide) _ d.length (d.flatMap evCells) rfl HO2.out ⟨w1.heap.size + 1, 0, none⟩ 1 1 (evCells y) rfl rfl (new_ev2 w1 _ y _) (one_evs y) (by simp only [maxLen]; omega) (by omega) HB2.out.size ?_; intro v' w3 hown' hgrow hnil hat; have HO3 := Lib.hid hown'; have HG3 := Lib.hid hgrow; clear hown' hgrow hnil hat)
        go_roundw
        case rel =>
          refine ⟨k + 1, by omega, by go_num, HA1.out, ?_, below_append HB2.out HB2.out.size HO2.out HG3.out⟩
          rw [HET.out]
          exact Evs.own_snoc HO3.out
        case measure => simp [intOf]; omega
      · obtain ⟨e1, e2⟩ := HBT.out.2 hq
        have HE1 := Lib.hid e1
        have HE2 := Lib.hid e2
        have HQ := Lib.hid hq
        clear e1 e2 hq HBT
        go_wp2_with fail
        refine (stopAt_bad _ _ _ HQ.out).mono ?_
        rintro e w2 ⟨rfl, rfl⟩
        unfold thrown
        go_wp2_with fail
        refine ⟨rfl, HB1.out.alloc HB1.out.size _, .inr ⟨by rw [HE1.out]; exact HQ.out, ?_⟩⟩
        rw [HE1.out, HE2.out]
        rfl
    · have HKE : Hid (Di.evs (l.take k) = Di.evs l ∧ Di.bad l = 0) := by
        have h : l.take k = l := List.take_of_length_le (by omega)
        have h2 := HA.out
        rw [h] at h2
        exact ⟨by rw [h], h2⟩
      generalize Di.evs (l.take k) = d at *
      go_wp2
      go_ret
      exact ⟨HB.out, .inl ⟨HKE.out.2, .slice A' d.length cp, rfl, by rw [← HKE.out.1]; exact HO.out⟩⟩
end Go.Proofs.YtpicoccpgpmfhaaDoor
