/-
  What the reference's Past of layer 17 answers.
  Conditions: a history that may be.
-/
import Derived.Test.YtahacjfeopjbaaaKnRefC
import Derived.Test.YtahacjfeopjbaaaAnyOrd
set_option maxRecDepth 4000
namespace Go.Proofs.Ytahacjfeopjbaaa
open Go.RowKit

/-- What is known of the four parts, whichever have come up. -/
structure Pst (W X : World) (n : Nat) (so wr past : List Nat) (c0 c1 c2 c3 c4 : Bool) (v0 v1 v2 v3 : Value) : Prop where
  low : Below W.heap.size W X
  so : c4 = false → c0 = true → ∃ A c, v0 = .agg #[.int .i64 (n : Int), .slice A n c] ∧ Us X (.slice A n c) so
  wr : c4 = false → c1 = true → ∃ A c, v1 = .agg #[.int .i64 (n : Int), .slice A n c] ∧ Us X (.slice A n c) wr
  un : c2 = true → ∃ A c, v2 = .agg #[.int .i64 (n : Int), .slice A n c] ∧ OwnU X W.heap.size (.slice A n c) past
  al : c3 = true → c4 = false → ∃ b, v3 = .pointer (some ⟨b, 0, none⟩) ∧ W.heap.size ≤ b ∧ Two X b 30 (.int .i64 0) (.slice none 0 0)
  st : c4 = true → (c0 = true ∧ c1 = true ∧ c2 = true ∧ c3 = true) ∧ ∃ b A c, v3 = .pointer (some ⟨b, 0, none⟩) ∧ Two X b 30 (.int .i64 (n : Int)) (.slice A n c) ∧ OwnU X W.heap.size (.slice A n c) past
theorem own_aside {X : World} {base b o : Nat} {v u : Value} {l : List Nat} (h : OwnU X base v l) (hne : v.ownBlock ≠ some b) : OwnU (X.setCell ⟨b, o, none⟩ u) base v l :=
  World.ownsRow.kept h (row := some b) ⟨rfl, rfl, rfl, by rw [World.size_setCell]; exact Nat.le_refl _, fun k _ hk => Below.heap_setCell X ⟨b, o, none⟩ u k fun e => hk (congrArg some e)⟩ (.inr hne)
theorem own_not_two {X : World} {base b : Nat} {v u0 u1 : Value} {l : List Nat} (h : OwnU X base v l) (ht : Two X b 30 u0 u1) (e : v.ownBlock = some b) : False := by
  rcases h.2 with ⟨hv, _⟩ | ⟨g, cap, cur, hv, _, hg, _⟩
  · rw [hv] at e
    cases e
  · rw [hv] at e
    cases e
    have h2 : X.heap[g]? = some (.cells #[u0, u1] 30 (0, 0)) := ht
    rw [hg] at h2
    cases h2
theorem Pst.start {W X : World} {n : Nat} {so wr past : List Nat} {v0 v1 v2 v3 : Value} (h : Below W.heap.size W X) : Pst W X n so wr past false false false false false v0 v1 v2 v3 :=
  ⟨h, (fun _ q => by cases q), (fun _ q => by cases q), (fun q => by cases q), (fun q => by cases q), (fun q => by cases q)⟩
theorem Pst.later {W X Y : World} {n : Nat} {so wr past : List Nat} {c0 c1 c2 c3 : Bool} {v0 v1 v2 v3 : Value} (h : Pst W X n so wr past c0 c1 c2 c3 false v0 v1 v2 v3) (hb : Below X.heap.size X Y) : Pst W Y n so wr past c0 c1 c2 c3 false v0 v1 v2 v3 :=
  ⟨below_all h.low hb, (fun _ q => by obtain ⟨A, c, e, hu⟩ := h.so rfl q; exact ⟨A, c, e, hu.below hb⟩), (fun _ q => by obtain ⟨A, c, e, hu⟩ := h.wr rfl q; exact ⟨A, c, e, hu.below hb⟩), (fun q => by obtain ⟨A, c, e, hu⟩ := h.un q; exact ⟨A, c, e, hu.below hb⟩), (fun q _ => by obtain ⟨b, e, h1, h2⟩ := h.al q rfl; exact ⟨b, e, h1, h2.later hb⟩), (fun q => by cases q)⟩

set_option maxHeartbeats 4000000 in
theorem rPast17_at (h : List So.Txn) (u : Value) (w : World) (hv : Txns w u h) (hr : Hi.Right h) : Calls Try.prog 49 #[.agg #[u]] w (RetR w h.length (Kn.pastR h)) := by
  have HV := Lib.hid hv
  have HR := Lib.hid hr
  obtain ⟨A0, c0', rfl, -⟩ := hv.spelled
  have F1 := Lib.hid (fun w hv => rSo17_at h (.slice A0 h.length c0') w hv hr)
  have F2 := Lib.hid (fun w hv => rWr17_at h (.slice A0 h.length c0') w hv hr)
  have F3 := Lib.hid (fun u v w hu hv => rUnion12_at h.length u v _ _ w hu hv (Kn.so_ok hr) (Kn.wr_ok hr))
  rw [← Kn.past_union hr] at F3
  have HSL : Hid ((Kn.soR h).length = h.length) := (Kn.so_ok hr).2.1
  have HWL : Hid ((Kn.wrR h).length = h.length) := (Kn.wr_ok hr).2.1
  have HPL : Hid ((Kn.pastR h).length = h.length) := (Kn.past_ok hr).2.1
  clear hv hr
  go_enter Try.func49, Try.ntmps49
  go_wp2_with fail
  obtain ⟨t0, t1, bw⟩ := kn_one w (.slice A0 h.length c0') rfl
  have T0 := Lib.hid t0
  have T1 := Lib.hid t1
  have BW := Lib.hid bw
  clear t0 t1 bw
  generalize (w.alloc (.cells #[.slice A0 h.length c0'] 24)).alloc (.cells #[.int .i64 0, .slice none 0 0] 30) = W at *
  have HK : Hid (∀ W', Below W.heap.size W W' → W'.cell? ⟨w.heap.size, 0, none⟩ = some (.slice A0 h.length c0')) := fun W' hb => st_stays hb T0.out.cell
  have D := Lib.hid (Below.refl W.heap.size W).drew
  refine wp_region_held_drew (S := fun W' => W'.cell? ⟨w.heap.size, 0, none⟩ = some (.slice A0 h.length c0')) (by kernel_rfl) (HK.out _ D.out) (fun hHeld => ?_)
  refine wpAnyH_take (i := 0) (oi := ({ dst := some 4, op := Op.load 24 (Operand.tmp 1), type := 24, pos := "ref.go:57", after := #[], guard := none } : Oper)) (v := ?_) rfl (by kernel_rfl) (by kernel_rfl) (by kernel_rfl) (fun _ _ _ h => h) (Or.inl ⟨by rfl, ?_⟩) (by assumption) ?_
  rotate_left
  · intro w hSw; (try dsimp only at hSw); go_simp
    try (with_reducible rfl)
  try simp only [Act.put, List.setIfInBounds_toArray, List.set_cons_zero, List.set_cons_succ]
  refine wpAnyH_take (i := 2) (oi := ({ dst := some 6, op := Op.load 24 (Operand.tmp 1), type := 24, pos := "ref.go:57", after := #[], guard := none } : Oper)) (v := ?_) rfl (by kernel_rfl) (by kernel_rfl) (by kernel_rfl) (fun _ _ _ h => h) (Or.inl ⟨by rfl, ?_⟩) (by assumption) ?_
  rotate_left
  · intro w hSw; (try dsimp only at hSw); go_simp
    try (with_reducible rfl)
  try simp only [Act.put, List.setIfInBounds_toArray, List.set_cons_zero, List.set_cons_succ]
  refine anyOrder (fun listed a X => ∃ (c0 c1 c2 c3 c4 : Bool) (v0 v1 v2 v3 : Value), listed = #[true, c0, true, c1, c2, c3, c4] ∧ a = ⟨#[.agg #[.slice A0 h.length c0'], .pointer (some ⟨w.heap.size, 0, none⟩), .pointer (some ⟨w.heap.size + 1, 0, none⟩), v3, .agg #[.slice A0 h.length c0'], v0, .agg #[.slice A0 h.length c0'], v1, v2, undef], []⟩ ∧ Hid (Pst W X h.length (Kn.soR h) (Kn.wrR h) (Kn.pastR h) c0 c1 c2 c3 c4 v0 v1 v2 v3)) (by kernel_rfl) ?size ?fuel ?start ?fin ?step
  case size => rintro listed a X ⟨c0, c1, c2, c3, c4, v0, v1, v2, v3, rfl, -⟩; rfl
  case fuel => exact Nat.le_of_eq (by kernel_rfl)
  case start => exact ⟨false, false, false, false, false, undef, undef, undef, undef, by kernel_rfl, rfl, Pst.start D.out⟩
  case fin =>
    rintro listed a X ⟨c0, c1, c2, c3, c4, v0, v1, v2, v3, rfl, rfl, HP⟩ hall
    have h4 : c4 = true := hall 6 (by decide)
    obtain ⟨-, b, A, c, hv3, tb, ob⟩ := HP.out.st h4
    subst hv3
    obtain ⟨p0, p1⟩ := tb.cells
    have TR := Lib.hid (T1.out.later HP.out.low)
    obtain ⟨r0, r1⟩ := TR.out.cells
    have f0 := TR.out.frozen 0
    have f1 := TR.out.frozen 1
    have OB := Lib.hid ob
    have LOW := Lib.hid (below_all BW.out HP.out.low)
    have hlt := T1.out.lt
    clear tb ob HP hall hHeld
    go_wp2_with fail
    exact end_r (p := 2) rfl TR.out OB.out hlt LOW.out (by omega) _ rfl
  case step =>
    intro i o ho listed a X hj hu haf K hK
    obtain ⟨c0, c1, c2, c3, c4, v0, v1, v2, v3, rfl, rfl, HP⟩ := hj
    have hi : i < 7 := (Array.getElem?_eq_some_iff.1 ho).1
    have hcases : i = 1 ∨ i = 3 ∨ i = 4 ∨ i = 5 ∨ i = 6 := by
      clear ho haf hK HP
      match i, hi, hu with
      | 0, _, h => cases h
      | 1, _, _ => simp
      | 2, _, h => cases h
      | 3, _, _ => simp
      | 4, _, _ => simp
      | 5, _, _ => simp
      | 6, _, _ => simp
      | (k + 7), h, _ => omega
    clear hHeld
    rcases hcases with rfl | rfl | rfl | rfl | rfl
    · obtain rfl : ({ dst := some 5, op := Op.call { callee := Callee.value (Operand.func 84), args := #[Operand.tmp 4], argTypes := #[24] }, type := 30, pos := "ref.go:57", after := #[{ on := 0, ground := Ground.data }], guard := none } : Oper) = o := Option.some.inj ho
      have hu0 : c0 = false := hu
      have hc4 : c4 = false := by
        cases e : c4 with
        | false => rfl
        | true => exact absurd (HP.out.st e).1.1 (by rw [hu0]; simp)
      clear hu
      subst hc4 hu0
      clear ho haf
      go_simp
      go_at_call 84
      refine (F1.out X (HV.out.below (below_all BW.out HP.out.low))).mono ?_
      rintro e z ⟨v, rfl, hv, hz⟩
      obtain ⟨A, c, rfl, hus⟩ := own_is hv HSL.out
      have h1 := HP.out.later hz
      have HP2 : Hid (Pst W z h.length (Kn.soR h) (Kn.wrR h) (Kn.pastR h) true c1 c2 c3 false (.agg #[.int .i64 (h.length : Int), .slice A h.length c]) v1 v2 v3) := ⟨h1.low, fun _ _ => ⟨A, c, rfl, hus⟩, h1.wr, h1.un, h1.al, (fun q => by cases q)⟩
      clear h1 hv hus hz HP
      try go_simp
      exact hK.out _ _ ⟨HK.out _ HP2.out.low, true, c1, c2, c3, false, _, v1, v2, v3, rfl, rfl, HP2.out⟩
    · obtain rfl : ({ dst := some 7, op := Op.call { callee := Callee.value (Operand.func 85), args := #[Operand.tmp 6], argTypes := #[24] }, type := 30, pos := "ref.go:57", after := #[{ on := 2, ground := Ground.data }, { on := 1, ground := Ground.chain }], guard := none } : Oper) = o := Option.some.inj ho
      have hu0 : c1 = false := hu
      have hc4 : c4 = false := by
        cases e : c4 with
        | false => rfl
        | true => exact absurd (HP.out.st e).1.2.1 (by rw [hu0]; simp)
      clear hu
      subst hc4 hu0
      clear ho haf
      go_simp
      go_at_call 85
      refine (F2.out X (HV.out.below (below_all BW.out HP.out.low))).mono ?_
      rintro e z ⟨v, rfl, hv, hz⟩
      obtain ⟨A, c, rfl, hus⟩ := own_is hv HWL.out
      have h1 := HP.out.later hz
      have HP2 : Hid (Pst W z h.length (Kn.soR h) (Kn.wrR h) (Kn.pastR h) c0 true c2 c3 false v0 (.agg #[.int .i64 (h.length : Int), .slice A h.length c]) v2 v3) := ⟨h1.low, h1.so, fun _ _ => ⟨A, c, rfl, hus⟩, h1.un, h1.al, (fun q => by cases q)⟩
      clear h1 hv hus hz HP
      try go_simp
      exact hK.out _ _ ⟨HK.out _ HP2.out.low, c0, true, c2, c3, false, v0, _, v2, v3, rfl, rfl, HP2.out⟩
    · obtain rfl : ({ dst := some 8, op := Op.call { callee := Callee.value (Operand.func 48), args := #[Operand.tmp 5, Operand.tmp 7], argTypes := #[30, 30] }, type := 30, pos := "ref.go:57", after := #[{ on := 1, ground := Ground.data }, { on := 3, ground := Ground.data }, { on := 3, ground := Ground.chain }], guard := none } : Oper) = o := Option.some.inj ho
      have hu0 : c2 = false := hu
      have hc4 : c4 = false := by
        cases e : c4 with
        | false => rfl
        | true => exact absurd (HP.out.st e).1.2.2.1 (by rw [hu0]; simp)
      clear hu
      subst hc4 hu0
      have k0 : c0 = true := haf ⟨1, .data⟩ (by simp) rfl
      have k1 : c1 = true := haf ⟨3, .data⟩ (by simp) rfl
      obtain ⟨A1, d1, e1, u1⟩ := HP.out.so rfl k0
      obtain ⟨A2, d2, e2, u2⟩ := HP.out.wr rfl k1
      subst e1 e2
      have U1 := Lib.hid u1
      have U2 := Lib.hid u2
      clear ho haf k0 k1 u1 u2
      go_simp
      go_at_call 48
      refine (F3.out _ _ X U1.out U2.out).mono ?_
      rintro e z ⟨v, rfl, hv, hz⟩
      obtain ⟨A, c, rfl⟩ := hv.form
      rw [HPL.out] at hv
      have h1 := HP.out.later hz
      have hbs := HP.out.low.size
      have HP2 : Hid (Pst W z h.length (Kn.soR h) (Kn.wrR h) (Kn.pastR h) c0 c1 true c3 false (.agg #[.int .i64 (h.length : Int), .slice A1 h.length d1]) (.agg #[.int .i64 (h.length : Int), .slice A2 h.length d2]) (.agg #[.int .i64 (h.length : Int), .slice A h.length c]) v3) := ⟨h1.low, h1.so, h1.wr, fun _ => ⟨A, c, rfl, World.ownsRow.mono hv hbs⟩, h1.al, (fun q => by cases q)⟩
      have HL2 : Hid (Value.slice A (Kn.pastR h).length c = .slice A h.length c) := by rw [Hid, HPL.out]
      clear h1 hv hz HP hbs
      try go_simp
      exact hK.out _ _ ⟨HK.out _ HP2.out.low, c0, c1, true, c3, false, _, _, _, v3, rfl, (by rw [HL2.out]), HP2.out⟩
    · obtain rfl : ({ dst := some 3, op := Op.alloc 30, type := 0, pos := "ref.go:57", after := #[], guard := none } : Oper) = o := Option.some.inj ho
      have hu0 : c3 = false := hu
      have hc4 : c4 = false := by
        cases e : c4 with
        | false => rfl
        | true => exact absurd (HP.out.st e).1.2.2.2 (by rw [hu0]; simp)
      clear hu
      subst hc4 hu0
      clear ho haf
      have h1 := HP.out.later (alloc_below X (.cells #[.int .i64 0, .slice none 0 0] 30))
      have hbs := HP.out.low.size
      have HP2 : Hid (Pst W (X.alloc (.cells #[.int .i64 0, .slice none 0 0] 30)) h.length (Kn.soR h) (Kn.wrR h) (Kn.pastR h) c0 c1 c2 true false v0 v1 v2 (.pointer (some ⟨X.heap.size, 0, none⟩))) := ⟨h1.low, h1.so, h1.wr, h1.un, fun _ _ => ⟨_, rfl, hbs, Two.new _ _ _ _⟩, (fun q => by cases q)⟩
      clear h1 hbs HP
      go_simp
      exact hK.out _ _ ⟨HK.out _ HP2.out.low, c0, c1, c2, true, false, v0, v1, v2, _, rfl, rfl, HP2.out⟩
    · obtain rfl : ({ dst := none, op := Op.store 30 (Operand.tmp 3) (Operand.tmp 8), type := 0, pos := "ref.go:57", after := #[{ on := 5, ground := Ground.data }, { on := 4, ground := Ground.data }, { on := 4, ground := Ground.chain }, { on := 0, ground := Ground.phase }, { on := 1, ground := Ground.phase }, { on := 2, ground := Ground.phase }, { on := 3, ground := Ground.phase }, { on := 4, ground := Ground.phase }, { on := 5, ground := Ground.phase }], guard := none } : Oper) = o := Option.some.inj ho
      obtain rfl : c4 = false := hu
      have k2 : c2 = true := haf ⟨4, .data⟩ (by simp) rfl
      have k3 : c3 = true := haf ⟨5, .data⟩ (by simp) rfl
      obtain ⟨A, c, e2, ou⟩ := HP.out.un k2
      obtain ⟨b, e3, hbb, tb⟩ := HP.out.al k3 rfl
      have k0 : c0 = true := haf ⟨0 + 1, .phase⟩ (by simp) rfl
      have k1 : c1 = true := haf ⟨3, .phase⟩ (by simp) rfl
      subst e2 e3
      obtain ⟨p0, p1⟩ := tb.cells
      have f0 := tb.frozen 0
      have f1 := tb.frozen 1
      have hne : (Value.slice A h.length c).ownBlock ≠ some b := fun e => own_not_two ou tb e
      have HP2 : Hid (Pst W ((X.setCell ⟨b, 0, none⟩ (.int .i64 (h.length : Int))).setCell ⟨b, 1, none⟩ (.slice A h.length c)) h.length (Kn.soR h) (Kn.wrR h) (Kn.pastR h) c0 c1 c2 c3 true v0 v1 (.agg #[.int .i64 (h.length : Int), .slice A h.length c]) (.pointer (some ⟨b, 0, none⟩))) :=
        ⟨(HP.out.low.setCell (p := ⟨b, 0, none⟩) hbb _).setCell (p := ⟨b, 1, none⟩) hbb _, fun q => (by cases q), fun q => (by cases q), fun _ => ⟨A, c, rfl, own_aside (own_aside ou hne) hne⟩, fun _ q => (by cases q), fun _ => ⟨⟨k0, k1, k2, k3⟩, b, A, c, rfl, tb.put, own_aside (own_aside ou hne) hne⟩⟩
      clear ho haf k0 k1 k2 k3 ou tb hne HP hbb
      go_simp
      exact hK.out _ _ ⟨HK.out _ HP2.out.low, c0, c1, c2, c3, true, v0, v1, _, _, rfl, rfl, HP2.out⟩
end Go.Proofs.Ytahacjfeopjbaaa
