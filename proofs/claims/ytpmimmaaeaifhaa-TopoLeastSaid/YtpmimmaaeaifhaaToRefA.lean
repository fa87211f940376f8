/-
  What the reference's in, free and Order of layer 16 answer.
  Conditions: the graph is valid, or Order says no.
-/
import Derived.Test.YtpmimmaaeaifhaaCyPlain
import Derived.Test.YtpmimmaaeaifhaaGfRef
set_option maxRecDepth 4000
namespace Go.Proofs.Ytpmimmaaeaifhaa
open Go.RowKit
namespace To
open Gf Rc
/-- Does an edge lead to v from one of the first y nodes that is not there yet? -/
def ledTo (g d : List Nat) (v y : Nat) : Bool := (List.range y).any fun x => bit g x v && !d.contains x
theorem led_zero (g d : List Nat) (v : Nat) : ledTo g d v 0 = false := rfl
theorem led_next (g d : List Nat) (v y : Nat) : ledTo g d v (y + 1) = (ledTo g d v y || (bit g y v && !d.contains y)) := by
  simp [ledTo, List.range_succ]
theorem free_led (n : Nat) (g d : List Nat) (v : Nat) : freeB n g d v = (!(d.contains v) && !ledTo g d v n) := by
  rw [freeB]
  congr 1
  rw [ledTo, List.not_any_eq_all_not]
  congr 1
  funext x
  cases bit g x v <;> cases d.contains x <;> rfl
def freeI (n : Nat) (g d : List Nat) : Int := match free n g d with
  | none => -1
  | some v => v
theorem freeI_some {n : Nat} {g d : List Nat} {v : Nat} (hv : v < n) (hp : freeB n g d v = true) (hl : ∀ u, u < v → freeB n g d u = false) : freeI n g d = v := by
  rw [freeI, show free n g d = some v from Cy.first_is hv hp hl]
theorem freeI_none {n : Nat} {g d : List Nat} (hl : ∀ u, u < n → freeB n g d u = false) : freeI n g d = -1 := by
  rw [freeI, show free n g d = none from List.find?_eq_none.2 fun u hu => by rw [hl u (List.mem_range.1 hu)]; simp]
end To

theorem rIn16_at (l : List Nat) (x : Nat) (v : Value) (w : World) (hv : Ns w v (Bi.nums l)) (hl : l.length ≤ 4294967296) : Calls Try.prog 20 #[v, .int .i64 x] w fun e w' => e = .returned (.bool (l.contains x)) ∧ w = w' := by
  obtain ⟨A, c, rfl, hform⟩ := hv.nums
  have HF := Lib.hid hform
  clear hform hv
  go_enter Try.func20, Try.ntmps20
  go_wp2
  go_loopw [5] (fun i wr => ∃ k : Nat, k ≤ l.length ∧ i = .int .i64 k ∧ Hid (∀ j (hj : j < l.length), j < k → l[j] ≠ x) ∧ w = wr) (fun i _ => l.length - (intOf i).toNat)
  case atStart => exact ⟨0, Nat.zero_le _, rfl, fun j _ hj => absurd hj (by omega), rfl⟩
  case round =>
    obtain ⟨k, hk, rfl, hno, rfl⟩ := hrel
    by_cases hlt : k < l.length
    · obtain ⟨ad, rfl, hblk, hE⟩ := HF.out k hlt
      obtain ⟨z, hz⟩ : ∃ z, z = l[k]'hlt := ⟨_, rfl⟩
      rw [← hz] at hE
      have HZ := Lib.hid hz
      clear hz
      by_cases he : z = x
      · have HM : Hid (l.contains x = true) := by rw [Hid, List.contains_eq_mem, decide_eq_true_iff, ← he, HZ.out]; exact List.getElem_mem hlt
        subst he
        have hq : ((z : Int) == (z : Int)) = true := by rw [beq_iff_eq]
        have hq2 : (z == z) = true := by rw [beq_iff_eq]
        go_wp2_with fail
        go_ret
        exact ⟨ret_bool HM.out.symm, rfl⟩
      · have hq : ((z : Int) == (x : Int)) = false := by rw [beq_eq_false_iff_ne]; omega
        have hq2 : (z == x) = false := beq_eq_false_iff_ne.2 he
        have HN : Hid (∀ j (hj : j < l.length), j < k + 1 → l[j] ≠ x) := fun j hj hjk => by
          by_cases e : j = k
          · subst e; rw [← HZ.out]; exact he
          · exact hno.out j hj (by omega)
        clear he
        go_wp2_with fail
        go_roundw
        case rel => exact ⟨k + 1, by omega, by go_num, HN, trivial⟩
        case measure => simp [intOf]; omega
    · have HM : Hid (l.contains x = false) := by
        rw [Hid, List.contains_eq_mem, decide_eq_false_iff_not]
        intro q
        obtain ⟨j, hj, e⟩ := List.getElem_of_mem q
        exact hno.out j hj (by omega) e
      go_wp2_with fail
      go_ret
      exact ⟨ret_bool HM.out.symm, rfl⟩

set_option maxHeartbeats 4000000 in
theorem rFree16_at (n : Nat) (u : Value) (g d : List Nat) (v : Value) (w : World) (hu : Us w u g) (hg : Gf.Ok n g) (hv : Ns w v (Bi.nums d)) (hl : d.length ≤ 4294967296) :
    Calls Try.prog 17 #[.agg #[.int .i64 n, u], v] w fun e w' => e = .returned (.int .i64 (To.freeI n g d)) ∧ Below w.heap.size w w' := by
  have HU := Lib.hid hu
  have HV := Lib.hid hv
  have T0 := Lib.hid (Two.new w 27 (.int .i64 n) u)
  have BW := Lib.hid (alloc_below w (.cells #[.int .i64 n, u] 27))
  obtain ⟨A0, c0', rfl, -⟩ := hu.spelled
  obtain ⟨A1, c1', rfl, -⟩ := hv.nums
  have h64 := hg.1
  have HLN := Lib.hid hg.2.1
  have FH : Hid (∀ (w : World) (x y : Nat), x < n → y < n → Us w (.slice A0 g.length c0') g → Calls Try.prog 22 #[.agg #[.int .i64 n, .slice A0 g.length c0'], .int .i64 x, .int .i64 y] w (RetBool w (Gf.bit g x y))) := fun w x y hx hy hw => by
    have hxl : x < g.length := by rw [hg.2.1]; exact hx
    have := rHas12_at n (.slice A0 g.length c0') g x y w hw hxl (hg.small (List.getElem_mem hxl))
    rw [Bi.has_nat _ y (by omega), ← Gf.bit_at hxl] at this
    exact this
  have FI := Lib.hid (fun w x (h : Ns w (.slice A1 d.length c1') (Bi.nums d)) => rIn16_at d x _ w h hl)
  have HFS := Lib.hid (fun v h1 h2 h3 => To.freeI_some (n := n) (g := g) (d := d) (v := v) h1 h2 h3)
  have HFN := Lib.hid (To.freeI_none (n := n) (g := g) (d := d))
  have HFL := Lib.hid (fun v => To.free_led n g d v)
  have HLZ := Lib.hid (fun v => To.led_zero g d v)
  have HLX := Lib.hid (fun v y => To.led_next g d v y)
  clear hu hv hg
  generalize To.freeI n g d = res at *
  go_enter Try.func17, Try.ntmps17
  go_wp2_with fail
  generalize w.alloc (.cells #[.int .i64 n, .slice A0 g.length c0'] 27) = W at *
  go_loopw [5] (fun i wr => ∃ x : Nat, x ≤ n ∧ i = .int .i64 x ∧ Hid (∀ y, y < x → To.freeB n g d y = false) ∧ Hid (Below W.heap.size W wr)) (fun i _ => n - (intOf i).toNat)
  case atStart => exact ⟨0, Nat.zero_le _, rfl, fun y h => absurd h (Nat.not_lt_zero _), Below.refl _ _⟩
  case round =>
    obtain ⟨x, hx, rfl, HN, HB⟩ := hrel
    obtain ⟨a0, a1⟩ := (T0.out.later HB.out).cells
    by_cases hlt : x < n
    · have HFX := Lib.hid (HFL.out x)
      have HFSX := Lib.hid (fun h => HFS.out x hlt h HN.out)
      go_wp2_with fail
      refine (FI.out _ x (HV.out.below (below_all BW.out HB.out))).mono ?_
      rintro e w1 ⟨rfl, rfl⟩
      obtain ⟨q, hq⟩ : ∃ q, q = d.contains x := ⟨_, rfl⟩
      rw [← hq]
      rw [← hq] at HFX
      clear hq
      cases q with
      | true =>
        have HN2 : Hid (∀ y, y < x + 1 → To.freeB n g d y = false) := fun y hy => by
          rcases Nat.lt_succ_iff_lt_or_eq.1 hy with h | h
          · exact HN.out y h
          · rw [h, HFX.out]; rfl
        go_wp2_with fail
        go_roundw
        case rel => exact ⟨x + 1, by omega, by go_num, HN2, HB.out⟩
        case measure => simp [intOf]; omega
      | false =>
        go_wp2_with fail
        generalize hwk : wr = WK at *
        clear hwk a0 a1
        have HLX2 := Lib.hid (fun y => HLX.out x y)
        go_loopw [7, 8] (fun q i wq => ∃ (y : Nat) (s : Bool), y ≤ n ∧ i = .int .i64 y ∧ q = .bool s ∧ Hid (s = To.ledTo g d x y) ∧ Hid (Below WK.heap.size WK wq)) (fun _ i _ => n - (intOf i).toNat)
        case atStart => exact ⟨0, false, Nat.zero_le _, rfl, rfl, (HLZ.out x).symm, Below.refl _ _⟩
        case round =>
          obtain ⟨y, s, hy, rfl, rfl, HS, HBQ⟩ := hrel
          have HB2 := Lib.hid (below_all HB.out HBQ.out)
          obtain ⟨a0, a1⟩ := (T0.out.later HB2.out).cells
          by_cases hlty : y < n
          · have HSN : Hid (To.ledTo g d x (y + 1) = (s || (Gf.bit g y x && !d.contains y))) := by rw [Hid, HLX2.out y, ← HS.out]
            have G := Lib.hid (fun w h => FH.out w y x hlty hlt h)
            go_wp2_with fail
            refine (FI.out _ y (HV.out.below (below_all BW.out HB2.out))).mono ?_
            rintro e w3 ⟨rfl, rfl⟩
            obtain ⟨r, hr⟩ : ∃ r, r = d.contains y := ⟨_, rfl⟩
            rw [← hr]
            rw [← hr] at HSN
            clear hr
            obtain ⟨p, hp⟩ : ∃ p, p = Gf.bit g y x := ⟨_, rfl⟩
            rw [← hp] at HSN G
            clear hp
            go_wp2_with fail
            refine (G.out _ (HU.out.below (below_all BW.out HB2.out))).mono ?_
            rintro e w4 ⟨rfl, hb4⟩
            have HBQ2 := Lib.hid (below_all HBQ.out hb4)
            clear hb4 a0 a1
            cases s with
            | true =>
              go_wp2_with fail
              go_roundw
              case rel => exact ⟨y + 1, true, by omega, by go_num, rfl, by rw [Hid, HSN.out]; rfl, HBQ2.out⟩
              case measure => simp [intOf]; omega
            | false =>
              cases p with
              | false =>
                go_wp2_with fail
                go_roundw
                case rel => exact ⟨y + 1, false, by omega, by go_num, rfl, by rw [Hid, HSN.out]; rfl, HBQ2.out⟩
                case measure => simp [intOf]; omega
              | true =>
                go_wp2_with fail
                go_roundw
                case rel => exact ⟨y + 1, _, by omega, by go_num, rfl, by rw [Hid, HSN.out]; cases r <;> rfl, HBQ2.out⟩
                case measure => simp [intOf]; omega
          · have hyn : y = n := by omega
            subst hyn
            rw [← HS.out] at HFX
            cases s with
            | true =>
              have HN2 : Hid (∀ u, u < x + 1 → To.freeB y g d u = false) := fun u hu => by
                rcases Nat.lt_succ_iff_lt_or_eq.1 hu with h | h
                · exact HN.out u h
                · rw [h, HFX.out]; rfl
              go_wp2_with fail
              go_roundw
              case rel => exact ⟨x + 1, by omega, by go_num, HN2, HB2.out⟩
              case measure => simp [intOf]; omega
            | false =>
              have HR := Lib.hid (HFSX.out HFX.out)
              go_wp2_with fail
              go_ret
              exact ⟨ret_int HR.out.symm, below_all BW.out HB2.out⟩
    · have hxn : x = n := by omega
      subst hxn
      have HR := Lib.hid (HFN.out HN.out)
      go_wp2_with fail
      go_ret
      exact ⟨ret_int HR.out.symm, below_all BW.out HB.out⟩

/-- An order, or none. -/
def RetOrd (w : World) (o : Option (List Nat)) (e : Ending) (w' : World) : Prop := ∃ v, e = .returned (.tuple #[v, .bool o.isSome]) ∧ Ns w' v (Bi.nums (o.getD [])) ∧ Below w.heap.size w w'
theorem rOrder16_no (n : Int) (u : Value) (g : List Nat) (w : World) (hu : Us w u g) (hs : ∀ x ∈ g, x < 18446744073709551616) (hn : Gf.okB n g = false) : Calls Try.prog 9 #[.agg #[.int .i64 n, u]] w (RetOrd w none) := by
  have HU := Lib.hid hu
  have BW := Lib.hid (alloc_below w (.cells #[.int .i64 n, u] 27))
  have T0 := Lib.hid (Two.new w 27 (.int .i64 n) u)
  obtain ⟨A0, c0', rfl, -⟩ := hu.spelled
  have FR := Lib.hid (fun w h => rRight12_at n (.slice A0 g.length c0') g w h hs)
  rw [hn] at FR
  clear hu
  go_enter Try.func9, Try.ntmps9
  go_wp2_with fail
  generalize w.alloc (.cells #[.int .i64 n, .slice A0 g.length c0'] 27) = W at *
  refine (FR.out _ (HU.out.below BW.out)).mono ?_
  rintro e w1 ⟨rfl, hb1⟩
  have B1 := Lib.hid (below_all BW.out hb1)
  clear hb1
  go_wp2_with fail
  go_ret2
  exact ⟨_, rfl, Ns.nil _ _, B1.out⟩

set_option maxHeartbeats 4000000 in
theorem rOrder16_at (n : Nat) (u : Value) (g : List Nat) (w : World) (hu : Us w u g) (hg : Gf.Ok n g) : Calls Try.prog 9 #[.agg #[.int .i64 n, u]] w (RetOrd w (To.orderR n g)) := by
  obtain ⟨i0, hi0, hz0, hz1, hz2⟩ := info_parts int_info
  have I0 := Lib.hid hi0
  have I1 := Lib.hid hz0
  have I2 := Lib.hid hz1
  have I3 := Lib.hid hz2
  clear hi0 hz0 hz1 hz2
  have HU := Lib.hid hu
  have BW := Lib.hid (alloc_below w (.cells #[.int .i64 n, u] 27))
  have T0 := Lib.hid (Two.new w 27 (.int .i64 n) u)
  obtain ⟨A0, c0', rfl, -⟩ := hu.spelled
  have h64 := hg.1
  have FR := Lib.hid (fun w h => rRight12_at (n : Int) (.slice A0 g.length c0') g w h (fun x hx => hg.small hx))
  rw [show Gf.okB (n : Int) g = true from Gf.okB_iff.2 ⟨n, rfl, hg⟩] at FR
  have FF := Lib.hid (fun w d v h hv hl => rFree16_at n (.slice A0 g.length c0') g d v w h hg hv hl)
  have HFI : Hid (∀ d, (To.free n g d = none ∧ To.freeI n g d = -1) ∨ ∃ v, To.free n g d = some v ∧ To.freeI n g d = (v : Int) ∧ v < n) := fun d => by
    rw [To.freeI]
    cases h : To.free n g d with
    | none => exact .inl ⟨rfl, rfl⟩
    | some v => exact .inr ⟨v, rfl, rfl, (To.free_some h).1⟩
  have HFS := Lib.hid (fun m d v h => To.fill_some (n := n) (m := m) (g := g) (d := d) (v := v) h)
  have HFN := Lib.hid (fun m d h => To.fill_none (n := n) (m := m) (g := g) (d := d) h)
  have HF0 : Hid (∀ d, To.fill n g 0 d = some d) := fun d => rfl
  have HOR : Hid (To.fill n g n [] = To.orderR n g) := rfl
  clear hu hg
  generalize To.orderR n g = res at *
  go_enter Try.func9, Try.ntmps9
  go_wp2_with fail
  generalize w.alloc (.cells #[.int .i64 n, .slice A0 g.length c0'] 27) = W at *
  refine (FR.out _ (HU.out.below BW.out)).mono ?_
  rintro e w1 ⟨rfl, hb1⟩
  have T1 := Lib.hid (T0.out.later hb1)
  have B1 := Lib.hid (below_all BW.out hb1)
  clear hb1 T0 BW
  go_wp2_with fail
  go_loopw [5] (fun v wr => ∃ (m : Nat) (d : List Nat), d.length + m = n ∧ (intOf (.int .i64 d.length)).toNat + m = n ∧ Hid (To.fill n g m d = res) ∧ Hid (wr.ownsRow w1.heap.size 3 1 v d.length ((Bi.nums d).flatMap nC)) ∧ Hid (Below w1.heap.size w1 wr)) (fun v _ => n - (match v with | .slice _ k _ => k | _ => 0))
  case atStart => exact ⟨n, [], by simp, by simp [intOf], HOR.out, World.ownsRow_nil _ _ _ _, Below.refl _ _⟩
  case round =>
    obtain ⟨m, d, hm, -, HD, HO, HB⟩ := hrel
    obtain ⟨AV, cV, hv⟩ := own_form HO.out
    subst hv
    obtain ⟨a0, a1⟩ := (T1.out.later HB.out).cells
    have HM := Lib.hid hm
    by_cases hlt : d.length < n
    · obtain ⟨m, rfl⟩ := Nat.exists_eq_succ_of_ne_zero (show m ≠ 0 by omega)
      have G := Lib.hid (fun w h hv => FF.out w d (.slice AV d.length cV) h hv (by omega))
      have HV := Lib.hid (nums_own HO.out)
      clear hm
      rcases HFI.out d with ⟨hf, hi⟩ | ⟨x, hf, hi, hx⟩
      · have HR := Lib.hid ((HFN.out m d hf).symm.trans HD.out)
        rw [hi] at G
        clear hf hi
        go_wp2_with fail
        refine (G.out _ (HU.out.below (below_all B1.out HB.out)) HV.out).mono ?_
        rintro e w2 ⟨rfl, hb2⟩
        have B2 := Lib.hid (below_all B1.out (below_all HB.out hb2))
        clear hb2 a0 a1
        go_wp2_with fail
        go_ret2
        rw [← HR.out]
        exact ⟨_, rfl, Ns.nil _ _, B2.out⟩
      · have HD2 : Hid (To.fill n g m (d ++ [x]) = res) := by rw [Hid, ← HFS.out m d x hf]; exact HD.out
        rw [hi] at G
        clear hf hi
        go_wp2_with fail
        refine (G.out _ (HU.out.below (below_all B1.out HB.out)) HV.out).mono ?_
        rintro e w4 ⟨rfl, hb4⟩
        have b5 := alloc_below w4 (.cells #[.int .i64 (x : Int)] 3)
        have HO5 := Lib.hid (own_below HO.out (below_all hb4 b5))
        have HB5 := Lib.hid (below_all HB.out (below_all hb4 b5))
        have HNW := Lib.hid (new_nC w4 (x : Int) 3)
        clear b5 hb4 a0 a1
        go_wp2_with (at_builtin; refine wpList_append_own_at _ rfl _ _ 25 rfl w1.heap.size 3 i0 _ 1 8 Try.underlying25 I0.out I1.out I2.out I3.out rfl (by decide) _ d.length _ rfl HO5.out ⟨w4.heap.size, 0, none⟩ 1 1 (nC (x : Int)) rfl rfl HNW.out (one_nC _) (by simp only [maxLen]; omega) (by omega) HB5.out.size ?_; intro v6 w6 hown6 hgrow6 hnil6 hat6; have HO6 := Lib.hid hown6; have HB6 := Lib.hid (below_append HB5.out HB5.out.size HO5.out hgrow6); obtain ⟨A6, c6, rfl⟩ := own_form hown6; clear hown6 hgrow6 hnil6 hat6)
        go_roundw
        case rel => exact ⟨m, d ++ [x], by have := HM.out; simp; omega, by have := HM.out; simp [intOf]; omega, HD2.out, nums_more HO6.out, HB6.out⟩
        case measure => simp; omega
    · have hm0 : m = 0 := by omega
      subst hm0
      have HR := Lib.hid ((HF0.out d).symm.trans HD.out)
      clear hm
      go_wp2_with fail
      go_ret2
      rw [← HR.out]
      exact ⟨_, rfl, nums_own HO.out, below_all B1.out HB.out⟩
end Go.Proofs.Ytpmimmaaeaifhaa
