/-
  What layer 17's Past answers.
  Conditions: a history of at most 2^32 transactions, reads and writes.
-/
import Derived.Test.YtahacjfeopjbaaaKnThree
import Derived.Test.YtahacjfeopjbaaaKnRefD
set_option maxRecDepth 4000
namespace Go.Proofs.Ytahacjfeopjbaaa
open Go.RowKit

/-- As all_came, where what waits for a later one does so in another mode alone. -/
theorem all_came2 {md : Region.Mode} {ops : Array Oper} {listed : Array Bool} (hs : listed.size = ops.size) (hac : ((List.range ops.size).all fun i => ((ops[i]?).map fun o => o.after.all fun e => decide (e.on < i) || !Region.binds md e).getD true) = true)
    (h0 : Region.ready md ops listed = []) : ∀ i, i < ops.size → listed.getD i true = true := by
  intro i
  induction i using Nat.strongRecOn with
  | _ i ih =>
    intro hi
    cases hu : listed.getD i true with
    | true => rfl
    | false =>
      have hm : i ∈ Region.ready md ops listed := by
        refine mem_ready.2 ⟨hu, ops[i], Array.getElem?_eq_getElem hi, fun e he hbe => ?_⟩
        have h1 := List.all_eq_true.1 hac i (List.mem_range.2 hi)
        rw [Array.getElem?_eq_getElem hi] at h1
        have h2' := Array.all_eq_true_iff_forall_mem.1 h1 e he
        rw [hbe] at h2'
        have h2 : e.on < i := by simpa using h2'
        have h3 := ih e.on h2 (Nat.lt_trans h2 hi)
        have h4 : e.on < listed.size := by rw [hs]; exact Nat.lt_trans h2 hi
        rw [Array.getD_eq_getD_getElem?, Array.getElem?_eq_getElem h4] at h3 ⊢
        exact h3
      rw [h0] at hm
      cases hm
theorem anyOrder2 {P : Program} {md : Region.Mode} {ops : Array Oper} {Q : Exit → Act → World → Prop} {S : World → Prop} {listed : Array Bool} {a : Act} {w : World} {fuel : Nat} (J : Array Bool → Act → World → Prop)
    (hac : ((List.range ops.size).all fun i => ((ops[i]?).map fun o => o.after.all fun e => decide (e.on < i) || !Region.binds md e).getD true) = true)
    (hsize : ∀ listed a w, J listed a w → listed.size = ops.size)
    (hfuel : ((List.range ops.size).filter fun j => !listed.getD j true).length ≤ fuel)
    (hstart : J listed a w)
    (hend : ∀ listed a w, J listed a w → (∀ i, i < ops.size → listed.getD i true = true) → Q .normal a w)
    (hstep : ∀ i o, ops[i]? = some o → ∀ listed a w, J listed a w → listed.getD i true = false → (∀ e ∈ o.after, Region.binds md e = true → listed.getD e.on false = true) →
      ∀ K : Act → World → Prop, Shut (∀ a w, S w ∧ J (listed.setIfInBounds i true) a w → K a w) → if Region.wanted o (yielded ops a.tmps) = true then Oper.wp P o a w K Q else K (a.put o.dst undef) w) :
    wpAnyH P md ops Q S fuel listed a w :=
  anyOrder_held J (fun listed a w i hj hi => by
      obtain ⟨h1, o, ho, h2⟩ := mem_ready.1 hi
      exact wpOp_step ho fun K hK => hstep i o ho listed a w hj h1 h2 K hK)
    (fun listed a w hj h0 => hend listed a w hj (all_came2 (hsize _ _ _ hj) hac h0)) fuel listed a w hfuel hstart

/-- What is known between the operations, whichever have come up. -/
structure Pq (W X : World) (n : Nat) (so wr past : List Nat) (c1 c3 c4 c5 c6 c7 c8 c9 : Bool) (v7 v9 v10 v5 v11 v12 v3 : Value) : Prop where
  low : Below W.heap.size W X
  so : c9 = false → c1 = true → ∃ A c, v7 = .agg #[.int .i64 (n : Int), .slice A n c] ∧ Us X (.slice A n c) so
  wr : c9 = false → c3 = true → ∃ A c, v9 = .agg #[.int .i64 (n : Int), .slice A n c] ∧ Us X (.slice A n c) wr
  un : c4 = true → ∃ A c, v10 = .tuple #[.agg #[.int .i64 (n : Int), .slice A n c], .int .i64 0] ∧ OwnU X W.heap.size (.slice A n c) past ∧ (c5 = true → v5 = .tuple #[.agg #[.int .i64 (n : Int), .slice A n c], .int .i64 0]) ∧ (c6 = true → v11 = .agg #[.int .i64 (n : Int), .slice A n c])
  s5 : c5 = true → c4 = true
  s6 : c6 = true → c4 = true
  er : c7 = true → v12 = .int .i64 0
  al : c8 = true → c9 = false → ∃ b, v3 = .pointer (some ⟨b, 0, none⟩) ∧ W.heap.size ≤ b ∧ Two X b 32 (.int .i64 0) (.slice none 0 0)
  st : c9 = true → (c1 = true ∧ c3 = true ∧ c4 = true ∧ c5 = true ∧ c6 = true ∧ c8 = true) ∧ ∃ b A c, v3 = .pointer (some ⟨b, 0, none⟩) ∧ Two X b 32 (.int .i64 (n : Int)) (.slice A n c) ∧ OwnU X W.heap.size (.slice A n c) past
theorem own_not_gr {X : World} {base b : Nat} {v u0 u1 : Value} {l : List Nat} (h : OwnU X base v l) (ht : Two X b 32 u0 u1) (e : v.ownBlock = some b) : False := by
  rcases h.2 with ⟨hv, _⟩ | ⟨g, cap, cur, hv, _, hg, _⟩
  · rw [hv] at e
    cases e
  · rw [hv] at e
    cases e
    have h2 : X.heap[g]? = some (.cells #[u0, u1] 32 (0, 0)) := ht
    rw [hg] at h2
    cases h2
section
variable {W X Y : World} {n : Nat} {so wr past : List Nat} {c1 c3 c4 c5 c6 c7 c8 c9 : Bool} {v7 v9 v10 v5 v11 v12 v3 : Value}
theorem Pq.start (h : Below W.heap.size W X) : Pq W X n so wr past false false false false false false false false v7 v9 v10 v5 v11 v12 v3 :=
  ⟨h, (fun _ q => by cases q), (fun _ q => by cases q), (fun q => by cases q), (fun q => by cases q), (fun q => by cases q), (fun q => by cases q), (fun q => by cases q), (fun q => by cases q)⟩
theorem Pq.later (h : Pq W X n so wr past c1 c3 c4 c5 c6 c7 c8 false v7 v9 v10 v5 v11 v12 v3) (hb : Below X.heap.size X Y) : Pq W Y n so wr past c1 c3 c4 c5 c6 c7 c8 false v7 v9 v10 v5 v11 v12 v3 :=
  ⟨below_all h.low hb, (fun _ q => by obtain ⟨A, c, e, hu⟩ := h.so rfl q; exact ⟨A, c, e, hu.below hb⟩), (fun _ q => by obtain ⟨A, c, e, hu⟩ := h.wr rfl q; exact ⟨A, c, e, hu.below hb⟩), (fun q => by obtain ⟨A, c, e, hu, h5, h6⟩ := h.un q; exact ⟨A, c, e, hu.below hb, h5, h6⟩), h.s5, h.s6, h.er, (fun q _ => by obtain ⟨b, e, h1, h2⟩ := h.al q rfl; exact ⟨b, e, h1, h2.later hb⟩), (fun q => by cases q)⟩
/-- What has not come up yet shows that the last store has not. -/
theorem Pq.ahead (h : Pq W X n so wr past c1 c3 c4 c5 c6 c7 c8 c9 v7 v9 v10 v5 v11 v12 v3) (hq : c1 = false ∨ c3 = false ∨ c4 = false ∨ c5 = false ∨ c6 = false ∨ c8 = false) : c9 = false := by
  cases e : c9 with
  | false => rfl
  | true =>
    obtain ⟨h1, h3, h4, h5, h6, h8⟩ := (h.st e).1
    rcases hq with q | q | q | q | q | q
    · rw [h1] at q; cases q
    · rw [h3] at q; cases q
    · rw [h4] at q; cases q
    · rw [h5] at q; cases q
    · rw [h6] at q; cases q
    · rw [h8] at q; cases q
end

set_option maxHeartbeats 4000000 in
theorem knPast_at (h : List So.Txn) (u : Value) (w : World) (hu : Txns w u h) (hs : Ix.Small h) : Calls Try.prog 34 #[.agg #[u]] w (RetR w (Kn.nA h) (Kn.pastA h)) := by
  have HV := Lib.hid hu
  obtain ⟨A0, c0', rfl, -⟩ := hu.spelled
  obtain ⟨n, so, wr, past, HOS, HOW, HP, en, es, ew, ep⟩ : ∃ (n : Nat) (so wr past : List Nat), Gf.Ok n so ∧ Gf.Ok n wr ∧ (Gf.Ok n past ∧ past = Gf.unionR n so wr) ∧ Kn.nA h = (n : Int) ∧ Kn.soA h = so ∧ Kn.wrA h = wr ∧ Kn.pastA h = past := by
    cases hb : Hi.rightB h with
    | true =>
      obtain ⟨e0, e1, e2, e3, e4⟩ := Kn.all_yes hb
      have hr := (Hi.rightB_iff h).1 hb
      exact ⟨h.length, Kn.soR h, Kn.wrR h, Kn.pastR h, Kn.so_ok hr, Kn.wr_ok hr, ⟨Kn.past_ok hr, Kn.past_union hr⟩, e0, e1, e2, e4⟩
    | false =>
      obtain ⟨e0, e1, e2, e3, e4⟩ := Kn.all_no hb
      have h0 : Gf.Ok 0 [] := ⟨by omega, rfl, fun s hs => by cases hs⟩
      exact ⟨0, [], [], [], h0, h0, ⟨h0, rfl⟩, e0, e1, e2, e4⟩
  have F1 := Lib.hid (fun w hv => knSo_at h (.slice A0 h.length c0') w hv hs)
  have F2 := Lib.hid (fun w hv => knWr_at h (.slice A0 h.length c0') w hv hs)
  rw [en, es] at F1
  rw [en, ew] at F2
  rw [en, ep]
  have F3 := Lib.hid (fun u v w hu hv => gfUnion_at n u v so wr w hu hv HOS HOW)
  rw [← HP.2] at F3
  have HSL : Hid (so.length = n) := HOS.2.1
  have HWL : Hid (wr.length = n) := HOW.2.1
  have HPL : Hid (past.length = n) := HP.1.2.1
  clear hu hs HOS HOW HP en es ew ep
  go_enter Try.func34, Try.ntmps34
  go_wp2_with fail
  obtain ⟨t0, t1, bw⟩ := kn_made w (.slice A0 h.length c0') rfl
  have T0 := Lib.hid t0
  have T1 := Lib.hid t1
  have BW := Lib.hid bw
  clear t0 t1 bw
  generalize (w.alloc (.cells #[.slice A0 h.length c0'] 24)).alloc (.cells #[.int .i64 0, .slice none 0 0] 32) = W at *
  have HK : Hid (∀ W', Below W.heap.size W W' → W'.cell? ⟨w.heap.size, 0, none⟩ = some (.slice A0 h.length c0')) := fun W' hb => st_stays hb T0.out.cell
  have D := Lib.hid (Below.refl W.heap.size W).drew
  refine wp_region_held_drew (S := fun W' => W'.cell? ⟨w.heap.size, 0, none⟩ = some (.slice A0 h.length c0')) (by kernel_rfl) (HK.out _ D.out) (fun hHeld => ?_)
  refine wpAnyH_take (i := 0) (oi := ({ dst := some 6, op := Op.load 24 (Operand.tmp 1), type := 24, pos := "known.go:52", after := #[], guard := none } : Oper)) (v := ?_) rfl (by kernel_rfl) (by kernel_rfl) (by kernel_rfl) (fun _ _ _ h => h) (Or.inl ⟨by rfl, ?_⟩) (by assumption) ?_
  rotate_left
  · intro w hSw; (try dsimp only at hSw); go_simp
    try (with_reducible rfl)
  try simp only [Act.put, List.setIfInBounds_toArray, List.set_cons_zero, List.set_cons_succ]
  refine wpAnyH_take (i := 2) (oi := ({ dst := some 8, op := Op.load 24 (Operand.tmp 1), type := 24, pos := "known.go:52", after := #[], guard := none } : Oper)) (v := ?_) rfl (by kernel_rfl) (by kernel_rfl) (by kernel_rfl) (fun _ _ _ h => h) (Or.inl ⟨by rfl, ?_⟩) (by assumption) ?_
  rotate_left
  · intro w hSw; (try dsimp only at hSw); go_simp
    try (with_reducible rfl)
  try simp only [Act.put, List.setIfInBounds_toArray, List.set_cons_zero, List.set_cons_succ]
  refine anyOrder2 (fun listed a X => ∃ (c1 c3 c4 c5 c6 c7 c8 c9 c10 : Bool) (v7 v9 v10 v5 v11 v12 v3 v4 : Value), listed = #[true, c1, true, c3, c4, c5, c6, c7, c8, c9, c10] ∧ a = ⟨#[.agg #[.slice A0 h.length c0'], .pointer (some ⟨w.heap.size, 0, none⟩), .pointer (some ⟨w.heap.size + 1, 0, none⟩), v3, v4, v5, .agg #[.slice A0 h.length c0'], v7, .agg #[.slice A0 h.length c0'], v9, v10, v11, v12, undef], []⟩ ∧ Hid (Pq W X n so wr past c1 c3 c4 c5 c6 c7 c8 c9 v7 v9 v10 v5 v11 v12 v3)) (by kernel_rfl) ?size ?fuel ?start ?fin ?step
  case size => rintro listed a X ⟨c1, c3, c4, c5, c6, c7, c8, c9, c10, v7, v9, v10, v5, v11, v12, v3, v4, rfl, -⟩; rfl
  case fuel => exact Nat.le_of_eq (by kernel_rfl)
  case start => exact ⟨false, false, false, false, false, false, false, false, false, undef, undef, undef, undef, undef, undef, undef, undef, by kernel_rfl, rfl, Pq.start D.out⟩
  case fin =>
    rintro listed a X ⟨c1, c3, c4, c5, c6, c7, c8, c9, c10, v7, v9, v10, v5, v11, v12, v3, v4, rfl, rfl, HP⟩ hall
    have h9 : c9 = true := hall 9 (by decide)
    obtain ⟨-, b, A, c, hv3, tb, ob⟩ := HP.out.st h9
    subst hv3
    obtain ⟨p0, p1⟩ := tb.cells
    have TR := Lib.hid (T1.out.later HP.out.low)
    obtain ⟨r0, r1⟩ := TR.out.cells
    have f0 := TR.out.frozen 0
    have f1 := TR.out.frozen 1
    have OB := Lib.hid ob
    have LOW := Lib.hid (below_all BW.out HP.out.low)
    have hlt := T1.out.lt
    clear tb ob HP hall hHeld
    go_wp2_with fail
    exact end_gr (p := 2) rfl TR.out OB.out hlt LOW.out (by omega) _ rfl
  case step =>
    intro i o ho listed a X hj hu haf K hK
    obtain ⟨c1, c3, c4, c5, c6, c7, c8, c9, c10, v7, v9, v10, v5, v11, v12, v3, v4, rfl, rfl, HP⟩ := hj
    have hi : i < 11 := (Array.getElem?_eq_some_iff.1 ho).1
    have hcases : i = 1 ∨ i = 3 ∨ i = 4 ∨ i = 5 ∨ i = 6 ∨ i = 7 ∨ i = 8 ∨ i = 9 ∨ i = 10 := by
      clear ho haf hK HP
      match i, hi, hu with
      | 0, _, h => cases h
      | 2, _, h => cases h
      | 1, _, _ | 3, _, _ | 4, _, _ | 5, _, _ | 6, _, _ | 7, _, _ | 8, _, _ | 9, _, _ | 10, _, _ => simp
      | (k + 11), h, _ => omega
    clear hHeld
    rcases hcases with rfl | rfl | rfl | rfl | rfl | rfl | rfl | rfl | rfl
    · obtain rfl : ({ dst := some 7, op := Op.call { callee := Callee.value (Operand.func 69), args := #[Operand.tmp 6], argTypes := #[24] }, type := 32, pos := "known.go:52", after := #[{ on := 0, ground := Ground.data }], guard := none } : Oper) = o := Option.some.inj ho
      have hu0 : c1 = false := hu
      have hc9 : c9 = false := HP.out.ahead (.inl hu0)
      clear hu
      subst hc9 hu0
      clear ho haf
      go_simp
      go_at_call 69
      refine (F1.out X (HV.out.below (below_all BW.out HP.out.low))).mono ?_
      rintro e z ⟨v, rfl, hv, hz⟩
      obtain ⟨A, c, rfl, hus⟩ := own_is hv HSL.out
      have h1 := HP.out.later hz
      have HP2 : Hid (Pq W z n so wr past true c3 c4 c5 c6 c7 c8 false (.agg #[.int .i64 (n : Int), .slice A n c]) v9 v10 v5 v11 v12 v3) := ⟨h1.low, fun _ _ => ⟨A, c, rfl, hus⟩, h1.wr, h1.un, h1.s5, h1.s6, h1.er, h1.al, (fun q => by cases q)⟩
      clear h1 hv hus hz HP
      try go_simp
      exact hK.out _ _ ⟨HK.out _ HP2.out.low, true, c3, c4, c5, c6, c7, c8, false, c10, _, v9, v10, v5, v11, v12, v3, v4, rfl, rfl, HP2.out⟩
    · obtain rfl : ({ dst := some 9, op := Op.call { callee := Callee.value (Operand.func 70), args := #[Operand.tmp 8], argTypes := #[24] }, type := 32, pos := "known.go:52", after := #[{ on := 2, ground := Ground.data }, { on := 1, ground := Ground.chain }], guard := none } : Oper) = o := Option.some.inj ho
      have hu0 : c3 = false := hu
      have hc9 : c9 = false := HP.out.ahead (.inr (.inl hu0))
      clear hu
      subst hc9 hu0
      clear ho haf
      go_simp
      go_at_call 70
      refine (F2.out X (HV.out.below (below_all BW.out HP.out.low))).mono ?_
      rintro e z ⟨v, rfl, hv, hz⟩
      obtain ⟨A, c, rfl, hus⟩ := own_is hv HWL.out
      have h1 := HP.out.later hz
      have HP2 : Hid (Pq W z n so wr past c1 true c4 c5 c6 c7 c8 false v7 (.agg #[.int .i64 (n : Int), .slice A n c]) v10 v5 v11 v12 v3) := ⟨h1.low, h1.so, fun _ _ => ⟨A, c, rfl, hus⟩, h1.un, h1.s5, h1.s6, h1.er, h1.al, (fun q => by cases q)⟩
      clear h1 hv hus hz HP
      try go_simp
      exact hK.out _ _ ⟨HK.out _ HP2.out.low, c1, true, c4, c5, c6, c7, c8, false, c10, v7, _, v10, v5, v11, v12, v3, v4, rfl, rfl, HP2.out⟩
    · obtain rfl : ({ dst := some 10, op := Op.call { callee := Callee.value (Operand.func 68), args := #[Operand.tmp 7, Operand.tmp 9], argTypes := #[32, 32] }, type := 35, pos := "known.go:52", after := #[{ on := 1, ground := Ground.data }, { on := 3, ground := Ground.data }, { on := 3, ground := Ground.chain }], guard := none } : Oper) = o := Option.some.inj ho
      have hu0 : c4 = false := hu
      have hc9 : c9 = false := HP.out.ahead (.inr (.inr (.inl hu0)))
      have n5 : c5 = false := by
        cases e : c5 with
        | false => rfl
        | true => exact absurd (HP.out.s5 e) (by rw [hu0]; simp)
      have n6 : c6 = false := by
        cases e : c6 with
        | false => rfl
        | true => exact absurd (HP.out.s6 e) (by rw [hu0]; simp)
      clear hu
      subst hc9 hu0
      have k0 : c1 = true := haf ⟨1, .data⟩ (by simp) rfl
      have k1 : c3 = true := haf ⟨3, .data⟩ (by simp) rfl
      obtain ⟨A1, d1, e1, u1⟩ := HP.out.so rfl k0
      obtain ⟨A2, d2, e2, u2⟩ := HP.out.wr rfl k1
      subst e1 e2
      have U1 := Lib.hid u1
      have U2 := Lib.hid u2
      clear ho haf k0 k1 u1 u2
      go_simp
      go_at_call 68
      refine (F3.out _ _ X U1.out U2.out).mono ?_
      rintro e z ⟨v, rfl, hv, hz⟩
      obtain ⟨A, c, rfl⟩ := hv.form
      rw [HPL.out] at hv ⊢
      have h1 := HP.out.later hz
      have hbs := HP.out.low.size
      have HP2 : Hid (Pq W z n so wr past c1 c3 true c5 c6 c7 c8 false (.agg #[.int .i64 (n : Int), .slice A1 n d1]) (.agg #[.int .i64 (n : Int), .slice A2 n d2]) (.tuple #[.agg #[.int .i64 (n : Int), .slice A n c], .int .i64 0]) v5 v11 v12 v3) := ⟨h1.low, h1.so, h1.wr, fun _ => ⟨A, c, rfl, World.ownsRow.mono hv hbs, (fun q => by rw [n5] at q; cases q), (fun q => by rw [n6] at q; cases q)⟩, fun _ => rfl, fun _ => rfl, h1.er, h1.al, (fun q => by cases q)⟩
      clear h1 hv hz HP hbs
      try go_simp
      exact hK.out _ _ ⟨HK.out _ HP2.out.low, c1, c3, true, c5, c6, c7, c8, false, c10, _, _, _, v5, v11, v12, v3, v4, rfl, rfl, HP2.out⟩
    · obtain rfl : ({ dst := some 5, op := Op.move (Operand.tmp 10), type := 35, pos := "known.go:52", after := #[{ on := 4, ground := Ground.data }], guard := none } : Oper) = o := Option.some.inj ho
      have hu0 : c5 = false := hu
      have hc9 : c9 = false := HP.out.ahead (.inr (.inr (.inr (.inl hu0))))
      clear hu
      subst hc9 hu0
      have k4 : c4 = true := haf ⟨4, .data⟩ (by simp) rfl
      obtain ⟨A, c, e10, ho10, h5, h6⟩ := HP.out.un k4
      subst e10
      have h1 := HP.out
      have HP2 : Hid (Pq W X n so wr past c1 c3 c4 true c6 c7 c8 false v7 v9 (.tuple #[.agg #[.int .i64 (n : Int), .slice A n c], .int .i64 0]) (.tuple #[.agg #[.int .i64 (n : Int), .slice A n c], .int .i64 0]) v11 v12 v3) := ⟨h1.low, h1.so, h1.wr, fun _ => ⟨A, c, rfl, ho10, fun _ => rfl, h6⟩, fun _ => k4, h1.s6, h1.er, h1.al, (fun q => by cases q)⟩
      clear ho haf h1 HP k4 ho10 h5 h6
      go_simp
      exact hK.out _ _ ⟨HK.out _ HP2.out.low, c1, c3, c4, true, c6, c7, c8, false, c10, v7, v9, _, _, v11, v12, v3, v4, rfl, rfl, HP2.out⟩
    · obtain rfl : ({ dst := some 11, op := Op.extract (Operand.tmp 5) 0, type := 32, pos := "known.go:52", after := #[{ on := 5, ground := Ground.data }], guard := none } : Oper) = o := Option.some.inj ho
      have hu0 : c6 = false := hu
      have hc9 : c9 = false := HP.out.ahead (.inr (.inr (.inr (.inr (.inl hu0)))))
      clear hu
      subst hc9 hu0
      have k5 : c5 = true := haf ⟨5, .data⟩ (by simp) rfl
      have k4 := HP.out.s5 k5
      obtain ⟨A, c, e10, ho10, h5, h6⟩ := HP.out.un k4
      have e5 := h5 k5
      subst e10 e5
      have h1 := HP.out
      have HP2 : Hid (Pq W X n so wr past c1 c3 c4 c5 true c7 c8 false v7 v9 (.tuple #[.agg #[.int .i64 (n : Int), .slice A n c], .int .i64 0]) (.tuple #[.agg #[.int .i64 (n : Int), .slice A n c], .int .i64 0]) (.agg #[.int .i64 (n : Int), .slice A n c]) v12 v3) := ⟨h1.low, h1.so, h1.wr, fun _ => ⟨A, c, rfl, ho10, fun _ => rfl, fun _ => rfl⟩, h1.s5, fun _ => k4, h1.er, h1.al, (fun q => by cases q)⟩
      clear ho haf h1 HP k4 k5 ho10 h5 h6
      go_simp
      exact hK.out _ _ ⟨HK.out _ HP2.out.low, c1, c3, c4, c5, true, c7, c8, false, c10, v7, v9, _, _, _, v12, v3, v4, rfl, rfl, HP2.out⟩
    · obtain rfl : ({ dst := some 12, op := Op.extract (Operand.tmp 5) 1, type := 34, pos := "known.go:52", after := #[{ on := 5, ground := Ground.data }, { on := 9, ground := Ground.gcOnly Departure.lateStores }], guard := none } : Oper) = o := Option.some.inj ho
      have hu0 : c7 = false := hu
      clear hu
      subst hu0
      have k5 : c5 = true := haf ⟨5, .data⟩ (by simp) rfl
      have k4 := HP.out.s5 k5
      obtain ⟨A, c, e10, ho10, h5, h6⟩ := HP.out.un k4
      have e5 := h5 k5
      subst e10 e5
      have h1 := HP.out
      have HP2 : Hid (Pq W X n so wr past c1 c3 c4 c5 c6 true c8 c9 v7 v9 (.tuple #[.agg #[.int .i64 (n : Int), .slice A n c], .int .i64 0]) (.tuple #[.agg #[.int .i64 (n : Int), .slice A n c], .int .i64 0]) v11 (.int .i64 0) v3) := ⟨h1.low, h1.so, h1.wr, fun _ => ⟨A, c, rfl, ho10, fun _ => rfl, h6⟩, h1.s5, h1.s6, fun _ => rfl, h1.al, h1.st⟩
      clear ho haf h1 HP k4 k5 ho10 h5 h6
      go_simp
      exact hK.out _ _ ⟨HK.out _ HP2.out.low, c1, c3, c4, c5, c6, true, c8, c9, c10, v7, v9, _, _, v11, _, v3, v4, rfl, rfl, HP2.out⟩
    · obtain rfl : ({ dst := some 3, op := Op.alloc 32, type := 0, pos := "known.go:52", after := #[], guard := none } : Oper) = o := Option.some.inj ho
      have hu0 : c8 = false := hu
      have hc9 : c9 = false := HP.out.ahead (.inr (.inr (.inr (.inr (.inr hu0)))))
      clear hu
      subst hc9 hu0
      clear ho haf
      have h1 := HP.out.later (alloc_below X (.cells #[.int .i64 0, .slice none 0 0] 32))
      have hbs := HP.out.low.size
      have HP2 : Hid (Pq W (X.alloc (.cells #[.int .i64 0, .slice none 0 0] 32)) n so wr past c1 c3 c4 c5 c6 c7 true false v7 v9 v10 v5 v11 v12 (.pointer (some ⟨X.heap.size, 0, none⟩))) := ⟨h1.low, h1.so, h1.wr, h1.un, h1.s5, h1.s6, h1.er, fun _ _ => ⟨_, rfl, hbs, Two.new _ _ _ _⟩, (fun q => by cases q)⟩
      clear h1 hbs HP
      go_simp
      exact hK.out _ _ ⟨HK.out _ HP2.out.low, c1, c3, c4, c5, c6, c7, true, false, c10, v7, v9, v10, v5, v11, v12, _, v4, rfl, rfl, HP2.out⟩
    · obtain rfl : ({ dst := none, op := Op.store 32 (Operand.tmp 3) (Operand.tmp 11), type := 0, pos := "known.go:52", after := #[{ on := 8, ground := Ground.data }, { on := 6, ground := Ground.data }, { on := 4, ground := Ground.chain }, { on := 0, ground := Ground.phase }, { on := 1, ground := Ground.phase }, { on := 2, ground := Ground.phase }, { on := 3, ground := Ground.phase }, { on := 4, ground := Ground.phase }, { on := 5, ground := Ground.phase }, { on := 6, ground := Ground.phase }, { on := 7, ground := Ground.textOnly Departure.lateStores }, { on := 8, ground := Ground.phase }], guard := none } : Oper) = o := Option.some.inj ho
      have hu0 : c9 = false := hu
      clear hu
      subst hu0
      have k8 : c8 = true := haf ⟨8, .data⟩ (by simp) rfl
      have k6 : c6 = true := haf ⟨6, .data⟩ (by simp) rfl
      have k4 : c4 = true := haf ⟨4, .chain⟩ (by simp) rfl
      have k1 : c1 = true := haf ⟨0 + 1, .phase⟩ (by simp) rfl
      have k3 : c3 = true := haf ⟨3, .phase⟩ (by simp) rfl
      have k5 : c5 = true := haf ⟨5, .phase⟩ (by simp) rfl
      obtain ⟨A, c, e10, ou, h5, h6⟩ := HP.out.un k4
      have e5 := h5 k5
      have e11 := h6 k6
      obtain ⟨b, e3, hbb, tb⟩ := HP.out.al k8 rfl
      subst e10 e5 e11 e3
      obtain ⟨p0, p1⟩ := tb.cells
      have f0 := tb.frozen 0
      have f1 := tb.frozen 1
      have hne : (Value.slice A n c).ownBlock ≠ some b := fun e => own_not_gr ou tb e
      have h1 := HP.out
      have HP2 : Hid (Pq W ((X.setCell ⟨b, 0, none⟩ (.int .i64 (n : Int))).setCell ⟨b, 1, none⟩ (.slice A n c)) n so wr past c1 c3 c4 c5 c6 c7 c8 true v7 v9 (.tuple #[.agg #[.int .i64 (n : Int), .slice A n c], .int .i64 0]) (.tuple #[.agg #[.int .i64 (n : Int), .slice A n c], .int .i64 0]) (.agg #[.int .i64 (n : Int), .slice A n c]) v12 (.pointer (some ⟨b, 0, none⟩))) :=
        ⟨(h1.low.setCell (p := ⟨b, 0, none⟩) hbb _).setCell (p := ⟨b, 1, none⟩) hbb _, fun q => (by cases q), fun q => (by cases q), fun _ => ⟨A, c, rfl, own_aside (own_aside ou hne) hne, fun _ => rfl, fun _ => rfl⟩, h1.s5, h1.s6, h1.er, fun _ q => (by cases q), fun _ => ⟨⟨k1, k3, k4, k5, k6, k8⟩, b, A, c, rfl, tb.put, own_aside (own_aside ou hne) hne⟩⟩
      clear ho haf k1 k3 k4 k5 k6 k8 ou tb hne HP hbb h1 h5 h6
      go_simp
      exact hK.out _ _ ⟨HK.out _ HP2.out.low, c1, c3, c4, c5, c6, c7, c8, true, c10, v7, v9, _, _, _, v12, _, v4, rfl, rfl, HP2.out⟩
    · obtain rfl : ({ dst := some 4, op := Op.assign (Operand.tmp 12), type := 34, pos := "known.go:52", after := #[{ on := 7, ground := Ground.data }, { on := 9, ground := Ground.chain }, { on := 0, ground := Ground.phase }, { on := 1, ground := Ground.phase }, { on := 2, ground := Ground.phase }, { on := 3, ground := Ground.phase }, { on := 4, ground := Ground.phase }, { on := 5, ground := Ground.phase }, { on := 6, ground := Ground.phase }, { on := 7, ground := Ground.phase }, { on := 8, ground := Ground.phase }, { on := 9, ground := Ground.phase }], guard := none } : Oper) = o := Option.some.inj ho
      have hu0 : c10 = false := hu
      clear hu
      subst hu0
      have k7 : c7 = true := haf ⟨7, .data⟩ (by simp) rfl
      have e12 := HP.out.er k7
      subst e12
      clear ho haf k7
      go_simp
      exact hK.out _ _ ⟨HK.out _ HP.out.low, c1, c3, c4, c5, c6, c7, c8, c9, true, v7, v9, v10, v5, v11, _, v3, _, rfl, rfl, HP.out⟩
end Go.Proofs.Ytahacjfeopjbaaa
