/-
  What the laws' and the reference's small functions of layer 6 answer: items (a row of items as the reference has it), plain (a face so), Items and Same (of two that are the same they say true); what was in memory stays as it was.
  Conditions: a row has at most 2^32 elements.
-/
import Derived.Test.YtlbpdnaaailpeaaInMem
import Derived.Deep.RegionHeld3
namespace Go.Proofs.Ytlbpdnaaailpeaa
open Go.RowKit

theorem rit_info : (Try.prog.info? 43).map (fun i => (i.zero, i.size, i.bytes)) = some (some (.agg #[.int .i64 0, .int .i64 0]), 2, 16) := by kernel_rfl
theorem ItIn.on {w w' : World} {ad : Addr} {k : Nat} {y : Int × Int} (h : ItIn w ad k y) (hlt : ad.block < w.heap.size) (hb : Below w.heap.size w w') : w'.cell? (ad.add (k * 2)) = some (.int .i64 y.1) ∧ w'.cell? ⟨(ad.add (k * 2)).block, (ad.add (k * 2)).off + 1, none⟩ = some (.int .i64 y.2) := by
  have h2 := h.below hlt hb
  exact ⟨h2.c0, h2.c1⟩
theorem own_its {w : World} {base : Nat} {e : TypeId} {v : Value} (p : List (Int × Int)) (k : Nat) (hk : k < p.length) (h : w.ownsRow base e 2 v (k + 1) ((p.take k).flatMap itC ++ itC p[k])) : w.ownsRow base e 2 v (k + 1) ((p.take (k + 1)).flatMap itC) := by
  rw [List.take_succ_eq_append_getElem hk, flat_snoc]
  exact h
/-- A row of items that the call made. -/
def OwnIts (w : World) (base : Nat) (v : Value) (l : List (Int × Int)) : Prop := w.ownsRow base 43 2 v l.length (l.flatMap itC)
theorem OwnIts.its {w : World} {base : Nat} {v : Value} {l : List (Int × Int)} (h : OwnIts w base v l) : Its w v l := Rows'.own h
theorem OwnIts.below {w w' : World} {base : Nat} {v : Value} {l : List (Int × Int)} (h : OwnIts w base v l) (hb : Below w.heap.size w w') : OwnIts w' base v l := own_below h hb
theorem OwnIts.less {w : World} {base base' : Nat} {v : Value} {l : List (Int × Int)} (h : OwnIts w base v l) (hb : base' ≤ base) : OwnIts w base' v l := by
  obtain ⟨h1, h2⟩ := h
  refine ⟨h1, h2.imp id ?_⟩
  rintro ⟨g, cap, cur, e1, e2, r⟩
  exact ⟨g, cap, cur, e1, Nat.le_trans hb e2, r⟩
theorem OwnIts.set {w : World} {base : Nat} {v : Value} {l : List (Int × Int)} (h : OwnIts w base v l) {a : Addr} (ha : a.block < base) (u : Value) : OwnIts (w.setCell a u) base v l := ownsRow_setCell_below h ha u
theorem OwnIts.form {w : World} {base : Nat} {v : Value} {l : List (Int × Int)} (h : OwnIts w base v l) : ∃ A c, v = .slice A l.length c := own_form h
def RetIts (w : World) (l : List (Int × Int)) (e : Ending) (w' : World) : Prop := ∃ v, e = .returned v ∧ OwnIts w' w.heap.size v l ∧ Below w.heap.size w w'
theorem set_far {w : World} {a p : Addr} {v : Value} (h : a.block ≠ p.block) : (w.setCell p v).cell? a = w.cell? a := World.cell?_of_block (Below.heap_setCell w p v a.block h)

theorem items_at (l : List (Int × Int)) (v : Value) (w : World) (hv : Its w v l) (hl : l.length ≤ 4294967296) : Calls Try.prog 19 #[v] w (RetIts w l) := by
  obtain ⟨j0, hi0, hz0, hz1, hz2⟩ := info_parts rit_info
  have J0 := Lib.hid hi0
  have J1 := Lib.hid hz0
  have J2 := Lib.hid hz1
  have J3 := Lib.hid hz2
  clear hi0 hz0 hz1 hz2
  obtain ⟨A, c, rfl, hform⟩ := hv.spelled
  have HF := Lib.hid hform
  clear hform hv
  go_enter Try.func19, Try.ntmps19
  go_wp2
  go_loopw [3, 4] (fun v i wr => ∃ k : Nat, k ≤ l.length ∧ i = .int .i64 k ∧ wr.ownsRow w.heap.size 43 2 v k ((l.take k).flatMap itC) ∧ Below w.heap.size w wr) (fun _ i _ => l.length - (intOf i).toNat)
  case atStart => exact ⟨0, Nat.zero_le _, rfl, World.ownsRow_nil _ _ _ _, Below.refl _ _⟩
  case round =>
    obtain ⟨k, hk, rfl, hown, hb⟩ := hrel
    have HO := Lib.hid hown
    have HB := Lib.hid hb
    obtain ⟨A', cp, rfl⟩ := own_form hown
    clear hown hb
    by_cases hlt : k < l.length
    · obtain ⟨ad, rfl, hblk, hT⟩ := HF.out k hlt
      obtain ⟨y, hy⟩ : ∃ y, y = l[k]'hlt := ⟨_, rfl⟩
      have HTC := Lib.hid (fun (W : World) (V : Value) => own_its (w := W) (base := w.heap.size) (e := 43) (v := V) l k hlt)
      rw [← hy] at hT HTC
      obtain ⟨p, q⟩ := y
      have HT := Lib.hid hT
      have HBD := Lib.hid (HB.out.drew)
      have HBA := Lib.hid ((HBD.out).alloc HBD.out.size (.cells #[.int .i64 p, .int .i64 q] 43))
      have HO1 := Lib.hid (own_drewN (HO.out.alloc (.cells #[.int .i64 p, .int .i64 q] 43)) 1)
      have HNT := Lib.hid (new_row wr (itC (p, q)) 43)
      clear hT hy
      go_wp2_with fail
      go_region_held3 (fun w' => w'.cell? (ad.add (k * 2)) = some (.int .i64 p) ∧ w'.cell? ⟨(ad.add (k * 2)).block, (ad.add (k * 2)).off + 1, none⟩ = some (.int .i64 q))
        (first | (exact HT.out.on hblk HBD.out) | (exact HT.out.on hblk HBA.out) | (exact HT.out.on hblk HB2.out))
        (first | (refine step_append_lies _ rfl (.tmp 11) (.tmp 23) 32 rfl w.heap.size 43 j0 _ 2 16 Try.underlying32 J0.out J1.out J2.out J3.out rfl (by decide) (.slice A' k cp) k ((l.take k).flatMap itC) (by simp [Act.eval]) HO1.out ⟨wr.heap.size, 0, none⟩ 1 1 (itC (p, q)) (by simp [Act.eval]) rfl HNT.out (one_its _) (by decide) (by simp only [maxLen]; omega) (by omega) HBA.out.size (wr.heap.size + 1) (by simp) ?_; intro g2 cap2 w2 hown2 hgrow2 hat2 hlt2; have HO2 := Lib.hid hown2; have HB2 := Lib.hid (below_append HBA.out HBA.out.size HO1.out hgrow2); clear hown2 hgrow2 hat2 hlt2))
      all_goals
        go_wp2_with fail
        go_roundw
        case rel => exact ⟨k + 1, by omega, by go_num, HTC.out _ _ HO2.out, HB2.out⟩
        case measure => simp [intOf]; omega
    · have HK : Hid (l.take k = l ∧ k = l.length) := ⟨List.take_of_length_le (by omega), by omega⟩
      go_wp2_with fail
      go_ret
      have h := HO.out
      rw [HK.out.1] at h
      refine ⟨_, rfl, ?_, HB.out⟩
      rw [OwnIts]
      rw [HK.out.2] at h ⊢
      exact h
/-- A face as the laws hold it: two rows in memory of the call's own. -/
def RetPlain (w : World) (rs ws : List (Int × Int)) (e : Ending) (w' : World) : Prop := ∃ u v, e = .returned (.agg #[u, v]) ∧ OwnIts w' w.heap.size u rs ∧ OwnIts w' w.heap.size v ws ∧ Below w.heap.size w w'
theorem plain6_at (rs ws : List (Int × Int)) (u v : Value) (w : World) (hu : Its w u rs) (hv : Its w v ws) (hr : rs.length ≤ 4294967296) (hw : ws.length ≤ 4294967296) : Calls Try.prog 11 #[.agg #[u, v]] w (RetPlain w rs ws) := by
  obtain ⟨A, c, rfl, _⟩ := hu.spelled
  obtain ⟨A', c', rfl, _⟩ := hv.spelled
  obtain ⟨W, hW⟩ : ∃ W, W = (w.alloc (.cells #[.slice A rs.length c, .slice A' ws.length c'] 28)).alloc (.cells #[.slice none 0 0, .slice none 0 0] 34) := ⟨_, rfl⟩
  have HBW : Hid (Below w.heap.size w W) := by rw [hW]; exact below_new (alloc_below _ _)
  have HU := Lib.hid ((hu.below HBW.out).below ((Below.refl _ W).drew))
  have HV := Lib.hid ((hv.below HBW.out).below ((Below.refl _ W).drew))
  have k0 : W.cell? ⟨w.heap.size, 0, none⟩ = some (.slice A rs.length c) := by rw [hW]; simp [go_sem]
  have k1 : W.cell? ⟨w.heap.size, 1, none⟩ = some (.slice A' ws.length c') := by rw [hW]; simp [go_sem]
  have HZ : Hid (W.heap[w.heap.size + 1]? = some (.cells #[.slice none 0 0, .slice none 0 0] 34 (0, 0))) := by
    rw [hW, ← size_new w (.cells #[.slice A rs.length c, .slice A' ws.length c'] 28)]
    exact heap_alloc_new _ _
  clear hu hv
  go_enter Try.func11, Try.ntmps11
  go_wp2_with fail
  rw [← hW]
  clear hW
  have hlt := lt_of_block HZ.out
  go_region_held3 (fun w' => w'.cell? ⟨w.heap.size, 0, none⟩ = some (.slice A rs.length c) ∧ w'.cell? ⟨w.heap.size, 1, none⟩ = some (.slice A' ws.length c'))
    (first | (exact ⟨k0, k1⟩) | (exact ⟨(set_far (by show w.heap.size ≠ w.heap.size + 1; omega)).trans ((set_far (by show w.heap.size ≠ w.heap.size + 1; omega)).trans ((HB2.out.cell (by show w.heap.size < W.heap.size; omega)).trans k0)), (set_far (by show w.heap.size ≠ w.heap.size + 1; omega)).trans ((set_far (by show w.heap.size ≠ w.heap.size + 1; omega)).trans ((HB2.out.cell (by show w.heap.size < W.heap.size; omega)).trans k1))⟩) | (exact ⟨(hb1.cell (by show w.heap.size < W.heap.size; omega)).trans k0, (hb1.cell (by show w.heap.size < W.heap.size; omega)).trans k1⟩) | (exact ⟨(HB2.out.cell (by show w.heap.size < W.heap.size; omega)).trans k0, (HB2.out.cell (by show w.heap.size < W.heap.size; omega)).trans k1⟩))
    (first
      | (go_at_call 19; (with_reducible refine (items_at rs (.slice A rs.length c) _ HU.out hr).mono ?_); rintro e w1 ⟨v1, rfl, hs1, hb1⟩; obtain ⟨A1, c1, rfl⟩ := hs1.form; have S1 := Lib.hid hs1; have HV2 := Lib.hid (HV.out.below hb1); have HB1 := Lib.hid (below_all ((Below.refl _ W).drew) hb1); clear hs1)
      | (go_at_call 19; (with_reducible refine (items_at ws (.slice A' ws.length c') _ HV2.out hw).mono ?_); rintro e w2 ⟨v2, rfl, hs2, hb2⟩; obtain ⟨A2, c2, rfl⟩ := hs2.form; have S2 := Lib.hid hs2; have S1' := Lib.hid (S1.out.below hb2); have HB2 := Lib.hid (below_all HB1.out hb2); clear hs2 hb2; have hz2 := two_cells ((HB2.out.block _ hlt).trans HZ.out); obtain ⟨z0, z1, z2⟩ := hz2; have y0 := z2 0; have y1 := z2 1; clear z2))
  all_goals
    go_wp2_with fail
    have hs1 := ((S1'.out.less (base' := w.heap.size + 2) (by show w.heap.size + 2 ≤ W.heap.size; omega)).set (a := ⟨w.heap.size + 1, 0, none⟩) (by show w.heap.size + 1 < w.heap.size + 2; omega) (.slice A1 rs.length c1)).set (a := ⟨w.heap.size + 1, 1, none⟩) (by show w.heap.size + 1 < w.heap.size + 2; omega) (.slice A2 ws.length c2)
    have hs2 := ((S2.out.less (base' := w.heap.size + 2) (by have := HB1.out.size; omega)).set (a := ⟨w.heap.size + 1, 0, none⟩) (by show w.heap.size + 1 < w.heap.size + 2; omega) (.slice A1 rs.length c1)).set (a := ⟨w.heap.size + 1, 1, none⟩) (by show w.heap.size + 1 < w.heap.size + 2; omega) (.slice A2 ws.length c2)
    obtain ⟨e0, e1, _⟩ := two_cells (two_set (two_set ((HB2.out.block _ hlt).trans HZ.out) (.slice A1 rs.length c1)).1 (.slice A2 ws.length c2)).2
    have hB := ((below_all HBW.out HB2.out).setCell (p := ⟨w.heap.size + 1, 0, none⟩) (by show w.heap.size ≤ w.heap.size + 1; omega) (.slice A1 rs.length c1)).setCell (p := ⟨w.heap.size + 1, 1, none⟩) (by show w.heap.size ≤ w.heap.size + 1; omega) (.slice A2 ws.length c2)
    exact bodyPost_ret (v := .agg #[.slice A1 rs.length c1, .slice A2 ws.length c2]) (by simp [results, Try.results11, go_sem, e0, e1]) rfl ⟨_, _, rfl, hs1.less (by omega), hs2.less (by omega), hB⟩
/-- Of two rows that are the same Items says true. -/
theorem rItems_at (l : List (Int × Int)) (u v : Value) (w : World) (hu : Its w u l) (hv : Its w v l) (hl : l.length ≤ 4294967296) : Calls Try.prog 13 #[u, v] w (RetBool w true) := by
  obtain ⟨A, c, rfl, hf⟩ := hu.spelled
  obtain ⟨B, c', rfl, hg⟩ := hv.spelled
  have HF := Lib.hid hf
  have HG := Lib.hid hg
  clear hf hg hu hv
  have hb : (((l.length : Nat) : Int) != ((l.length : Nat) : Int)) = false := by simp
  go_enter Try.func13, Try.ntmps13
  go_wp2
  go_loopw [5] (fun i wr => ∃ k : Nat, k ≤ l.length ∧ i = .int .i64 k ∧ Below w.heap.size w wr) (fun i _ => l.length - (intOf i).toNat)
  case atStart => exact ⟨0, Nat.zero_le _, rfl, Below.refl _ _⟩
  case round =>
    obtain ⟨k, hk, rfl, hB⟩ := hrel
    have HB := Lib.hid hB
    clear hB
    by_cases hlt : k < l.length
    · obtain ⟨ad, rfl, hblk, hE⟩ := HF.out k hlt
      obtain ⟨ad', rfl, hblk', hE'⟩ := HG.out k hlt
      obtain ⟨hc0, hc1⟩ := hE.below hblk HB.out
      obtain ⟨hd0, hd1⟩ := hE'.below hblk' HB.out
      generalize l[k]'hlt = y at *
      clear hE hE'
      go_wp2
      go_quiet (fail)
      go_wp2
      go_roundw
      case rel => exact ⟨k + 1, by omega, by go_num, below_drewN HB.out _⟩
      case measure => simp [intOf]; omega
    · go_wp2
      go_ret
      exact ⟨rfl, HB.out⟩
/-- Of two faces that are the same Same says true. -/
theorem rSame6_at (rs ws : List (Int × Int)) (u v x y : Value) (w : World) (hu : Its w u rs) (hv : Its w v ws) (hx : Its w x rs) (hy : Its w y ws) (hr : rs.length ≤ 4294967296) (hw : ws.length ≤ 4294967296) : Calls Try.prog 10 #[.agg #[u, v], .agg #[x, y]] w (RetBool w true) := by
  obtain ⟨A, c, rfl, _⟩ := hu.spelled
  obtain ⟨A', c', rfl, _⟩ := hv.spelled
  obtain ⟨B, d, rfl, _⟩ := hx.spelled
  obtain ⟨B', d', rfl, _⟩ := hy.spelled
  have HB0 := Lib.hid (below_new (alloc_below (w.alloc (.cells #[.slice A rs.length c, .slice A' ws.length c'] 34)) (.cells #[.slice B rs.length d, .slice B' ws.length d'] 34)))
  have HU := Lib.hid (hu.below HB0.out)
  have HV := Lib.hid (hv.below HB0.out)
  have HX := Lib.hid (hx.below HB0.out)
  have HY := Lib.hid (hy.below HB0.out)
  clear hu hv hx hy
  go_enter Try.func10, Try.ntmps10
  go_wp2_with fail
  refine (rItems_at rs _ _ _ HU.out HX.out hr).mono ?_
  rintro e w1 ⟨rfl, hb1⟩
  have d1 : w1.cell? ⟨w.heap.size, 1, none⟩ = some (.slice A' ws.length c') := (hb1.cell (by simp; omega)).trans (by simp [go_sem])
  have e1 : w1.cell? ⟨w.heap.size + 1, 1, none⟩ = some (.slice B' ws.length d') := (hb1.cell (by simp)).trans (by simp [go_sem])
  have HV1 := Lib.hid (HV.out.below hb1)
  have HY1 := Lib.hid (HY.out.below hb1)
  have HB1 := Lib.hid (below_all HB0.out hb1)
  clear hb1 HU HV HX HY
  go_wp2_with fail
  refine (rItems_at ws _ _ _ HV1.out HY1.out hw).mono ?_
  rintro e w2 ⟨rfl, hb2⟩
  have HB2 := Lib.hid (below_all HB1.out hb2)
  clear hb2
  go_wp2_with fail
  go_ret
  exact ⟨rfl, HB2.out⟩
end Go.Proofs.Ytlbpdnaaailpeaa
