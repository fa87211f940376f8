/-
  GroupApart answers true for every row of events and every session: one session's events alone are that session's transactions: what others do between plays no part.
  Conditions: each event's session is a number of its kind.
-/
import Derived.Test.YtkeaibngofbkhaaGrBack
namespace Go.Proofs.Ytkeaibngofbkhaa
open Go.RowKit

theorem int_info : (Try.prog.info? 3).map (fun i => (i.zero, i.size, i.bytes)) = some (some (.int .i64 0), 1, 8) := by kernel_rfl
def intC (l : List Nat) : List Value := l.map fun n : Nat => Value.int .i64 (n : Int)
theorem one_int (n : Nat) : ∀ u ∈ intC [n], u.oneCell' = true := by
  intro u hu
  rw [List.mem_singleton.1 hu]
  rfl
theorem own_ints_snoc {w : World} {base : Nat} {e : TypeId} {v : Value} {d : List Nat} {n : Nat} (h : w.ownsRow base e 1 v (d.length + 1) (intC d ++ intC [n])) : w.ownsRow base e 1 v (d ++ [n]).length (intC (d ++ [n])) := by
  rw [List.length_append, intC, List.map_append]
  exact h

namespace Gr
theorem places_append (s : Int) (i : Nat) (a b : List Ev.Event) : places s i (a ++ b) = places s i a ++ places s (i + a.length) b := by
  induction a generalizing i with
  | nil => rfl
  | cons e a ih =>
    rw [List.cons_append, places, places, ih (i + 1), List.length_cons, show i + 1 + a.length = i + (a.length + 1) by omega]
    split <;> rfl
theorem places_len (s : Int) (i : Nat) (a : List Ev.Event) : (places s i a).length = (a.filter (ofS s)).length := by
  induction a generalizing i with
  | nil => rfl
  | cons e a ih =>
    rw [places]
    cases h : ofS s e with
    | true => rw [if_pos rfl, List.length_cons, ih, List.filter_cons_of_pos h, List.length_cons]
    | false => rw [if_neg (by simp), ih, List.filter_cons_of_neg (by rw [h]; simp)]
theorem places_take (s : Int) (l : List Ev.Event) (k : Nat) (hk : k < l.length) : places s 0 (l.take (k + 1)) = places s 0 (l.take k) ++ (if ofS s l[k] = true then [k] else []) := by
  rw [List.take_succ_eq_append_getElem hk, places_append, Nat.zero_add]
  have : (l.take k).length = k := by rw [List.length_take]; omega
  rw [this]
  rfl
theorem filter_take (s : Int) (l : List Ev.Event) (k : Nat) (hk : k < l.length) : (l.take (k + 1)).filter (ofS s) = (l.take k).filter (ofS s) ++ (if ofS s l[k] = true then [l[k]] else []) := by
  rw [List.take_succ_eq_append_getElem hk, List.filter_append]
  congr 1
  cases h : ofS s l[k] with
  | true => rw [if_pos rfl, List.filter_cons_of_pos h]; rfl
  | false => rw [if_neg (by simp), List.filter_cons_of_neg (by rw [h]; simp)]; rfl

def isS (s : Int) (t : Tx) : Bool := decide (t.session = s)
/-- How many of a session are ahead of place i. -/
def ahead (s : Int) (a : List Tx) (i : Nat) : Nat := ((a.take i).filter (isS s)).length
theorem ahead_succ (s : Int) (a : List Tx) (i : Nat) (hi : i < a.length) : ahead s a (i + 1) = ahead s a i + (if isS s a[i] = true then 1 else 0) := by
  rw [ahead, ahead, List.take_succ_eq_append_getElem hi, List.filter_append, List.length_append]
  congr 1
  cases h : isS s a[i] with
  | true => rw [List.filter_cons_of_pos h]; rfl
  | false => rw [List.filter_cons_of_neg (by rw [h]; simp)]; rfl
theorem ahead_at (s : Int) (a : List Tx) (i : Nat) (hi : i < a.length) (h : isS s a[i] = true) : (a.filter (isS s))[ahead s a i]? = some a[i] := by
  have e : a = a.take i ++ (a[i] :: a.drop (i + 1)) := by simp
  have e2 : a.filter (isS s) = (a.take i).filter (isS s) ++ (a[i] :: (a.drop (i + 1)).filter (isS s)) := by
    conv => lhs; rw [e]
    rw [List.filter_append, List.filter_cons_of_pos h]
  rw [e2, ahead, List.getElem?_append_right (Nat.le_refl _), Nat.sub_self]
  rfl
/-- What the law asks of the transaction at place i. -/
theorem apart_at (s : Int) (l : List Ev.Event) (h : run 0 [] l = none) (i : Nat) (hi : i < (txs l).length) (hs : isS s (txs l)[i] = true) :
    ∃ hk : ahead s (txs l) i < (txs (l.filter (ofS s))).length, core (txs l)[i] = core (txs (l.filter (ofS s)))[ahead s (txs l) i] ∧
      ∃ n : Nat, ∃ hn : n < (places s 0 l).length, (txs (l.filter (ofS s)))[ahead s (txs l) i].first = (n : Int) ∧ (txs l)[i].first = ((places s 0 l)[n] : Int) := by
  obtain ⟨_, h2, h3⟩ := apart s l h
  have h4 := ahead_at s (txs l) i hi hs
  have h2' : (txs l).filter (isS s) = (txs (l.filter (ofS s))).map (fun t => { t with first := look (places s 0 l) t.first }) := h2
  rw [h2', List.getElem?_map] at h4
  have hk : ahead s (txs l) i < (txs (l.filter (ofS s))).length := by
    rcases Nat.lt_or_ge (ahead s (txs l) i) (txs (l.filter (ofS s))).length with h' | h'
    · exact h'
    · rw [List.getElem?_eq_none h'] at h4; cases h4
  rw [List.getElem?_eq_getElem hk, Option.map_some, Option.some.injEq] at h4
  obtain ⟨_, f0, f1⟩ := h3 _ (List.getElem_mem hk)
  refine ⟨hk, by rw [← h4]; rfl, ?_⟩
  obtain ⟨n, hn⟩ := Int.eq_ofNat_of_zero_le f0
  refine ⟨n, by omega, hn, ?_⟩
  rw [← h4]
  show look (places s 0 l) (txs (l.filter (ofS s)))[ahead s (txs l) i].first = _
  rw [hn, look, Int.toNat_natCast, List.getD_eq_getElem?_getD, List.getElem?_eq_getElem (by omega)]
  rfl
theorem apart_len (s : Int) (l : List Ev.Event) (h : run 0 [] l = none) : ahead s (txs l) (txs l).length = (txs (l.filter (ofS s))).length := by
  have h2 := congrArg List.length (apart s l h).2.1
  rw [List.length_map] at h2
  rw [ahead, List.take_length]
  exact h2
end Gr

/-- What the first loop holds: the session's events, and their places. -/
def ApartRel (w : World) (l : List Ev.Event) (s : Int) (vo vp i : Value) (wr : World) : Prop :=
  ∃ k : Nat, k ≤ l.length ∧ i = .int .i64 k ∧ wr.ownsRow w.heap.size 44 4 vo ((l.take k).filter (Gr.ofS s)).length (((l.take k).filter (Gr.ofS s)).flatMap evCells) ∧
    wr.ownsRow w.heap.size 3 1 vp (Gr.places s 0 (l.take k)).length (intC (Gr.places s 0 (l.take k))) ∧ Below w.heap.size w wr

set_option maxHeartbeats 4000000 in
set_option maxRecDepth 4000 in
theorem lawGroupApart (l : List Ev.Event) (v : Value) (s : Int) (w : World) (hv : Evs w v l) (hwf : ∀ x ∈ l, evWf x) : Calls Try.prog 5 #[v, .int .i64 s] w (RetBool w true) := by
  obtain ⟨i0, hi0, hz0, hz1, hz2⟩ := info_parts ev_info
  have I0 := Lib.hid hi0
  have I1 := Lib.hid hz0
  have I2 := Lib.hid hz1
  have I3 := Lib.hid hz2
  clear hi0 hz0 hz1 hz2
  obtain ⟨j0, hi0, hz0, hz1, hz2⟩ := info_parts int_info
  have J0 := Lib.hid hi0
  have J1 := Lib.hid hz0
  have J2 := Lib.hid hz1
  have J3 := Lib.hid hz2
  clear hi0 hz0 hz1 hz2
  have V0 := Lib.hid hv
  have HW := Lib.hid hwf
  obtain ⟨A, c, rfl, _⟩ := hv.form
  clear hv hwf
  go_enter Try.func5, Try.ntmps5
  go_wp2_with fail
  refine (grAwake_at w).mono ?_
  rintro e w1 ⟨rfl, hb1⟩
  have V1 := Lib.hid (V0.out.below hb1)
  have B1 := Lib.hid hb1
  clear hb1 V0
  by_cases h6 : 600 < l.length
  · have hd : decide ((600 : Int) < (l.length : Int)) = true := by simp; omega
    go_wp2_with fail
    go_ret
    exact ⟨rfl, B1.out⟩
  have hd : decide ((600 : Int) < (l.length : Int)) = false := by simp; omega
  have HL : Hid (l.length ≤ 4294967296) := by rw [Hid]; omega
  have hl6 : l.length ≤ 600 := by omega
  go_wp2_with fail
  refine (group_at l _ w1 V1.out HL.out HW.out).mono ?_
  rintro e w2 ⟨v2, rfl, hs2, hb2⟩
  have V2 := Lib.hid (V1.out.below hb2)
  have B2 := Lib.hid (below_all B1.out hb2)
  cases hrun : Gr.run 0 [] l with
  | some pq =>
    obtain ⟨k, q⟩ := pq
    obtain ⟨_, hk2, hq, _, _⟩ := Gr.run_some 0 [] l k q hrun
    rw [Gr.group_bad l k q hrun] at hs2 ⊢
    obtain ⟨A2, c2, rfl⟩ := hs2.none_ rfl
    dsimp only
    have hqb : (q != 0) = true := by rw [bne_iff_ne]; exact hq
    clear hs2 hb2 hq hk2 hrun
    go_wp2_with fail
    go_ret
    exact ⟨rfl, B2.out⟩
  | none =>
    have HSM := Lib.hid (Gr.group_small l)
    rw [Gr.group_ok' l hrun] at hs2 HSM ⊢
    have HRU := Lib.hid hrun
    have S2 := Lib.hid hs2
    obtain ⟨A2, c2, rfl, _⟩ := hs2.spelled
    obtain ⟨_, _, hv2, hform⟩ := V2.out.spelled
    cases hv2
    have HF := Lib.hid hform
    clear hform hs2 hb2 hrun
    dsimp only at *
    go_wp2_with fail
    go_loopw [9, 10, 11] (fun vo vp i wr => ApartRel w2 l s vo vp i wr) (fun _ _ i _ => l.length - (intOf i).toNat)
    case atStart => exact ⟨0, Nat.zero_le _, rfl, World.ownsRow_nil _ _ _ _, World.ownsRow_nil _ _ _ _, Below.refl _ _⟩
    case round =>
      obtain ⟨k, hk, rfl, hown, hpl, hb⟩ := hrel
      have HO := Lib.hid hown
      have HP := Lib.hid hpl
      have HB := Lib.hid hb
      obtain ⟨Ao, co, rfl⟩ := own_form hown
      obtain ⟨Ap, cp, rfl⟩ := own_form hpl
      clear hown hpl hb
      by_cases hlt : k < l.length
      · obtain ⟨ad, rfl, hblk, hE⟩ := HF.out k hlt
        obtain ⟨x, hx⟩ : ∃ x, x = l[k]'hlt := ⟨_, rfl⟩
        have HFT := Lib.hid (Gr.filter_take s l k hlt)
        have HPT := Lib.hid (Gr.places_take s l k hlt)
        rw [← hx] at hE HFT HPT
        have HE := Lib.hid (hE.below hblk HB.out)
        have hc0 := HE.out.c0
        have hc1 := HE.out.c1
        have hc2 := HE.out.c2
        have hc3 := HE.out.c3
        have hn1 : ((l.take k).filter (Gr.ofS s)).length ≤ 600 := Nat.le_trans (List.length_filter_le _ _) (by rw [List.length_take]; omega)
        have hn2 : (Gr.places s 0 (l.take k)).length ≤ 600 := by rw [Gr.places_len]; exact hn1
        generalize (l.take k).filter (Gr.ofS s) = f at *
        generalize Gr.places s 0 (l.take k) = q at *
        clear hE hx
        by_cases hs : x.session = s
        · have hsb : (x.session == s) = true := by rw [beq_iff_eq]; exact hs
          have ho : Gr.ofS s x = true := by rw [Gr.ofS, decide_eq_true_eq]; exact hs
          rw [ho, if_pos rfl] at HFT HPT
          have HO1 := Lib.hid (HO.out.alloc (.cells #[.int .i64 x.kind, .int .i64 x.session, .int .i64 x.key, .int .i64 x.value] 44))
          have HP1 := Lib.hid (HP.out.alloc (.cells #[.int .i64 x.kind, .int .i64 x.session, .int .i64 x.key, .int .i64 x.value] 44))
          have HB1 := Lib.hid (HB.out.alloc HB.out.size (.cells #[.int .i64 x.kind, .int .i64 x.session, .int .i64 x.key, .int .i64 x.value] 44))
          clear hs ho
          go_wp2_with (first
            | (at_builtin; refine wpList_append_own_at _ rfl (.tmp 50) (.tmp 55) 22 rfl w2.heap.size 44 i0 _ 4 32 Try.underlying22 I0.out I1.out I2.out I3.out rfl (by decide) _ f.length (f.flatMap evCells) rfl HO1.out ⟨wr.heap.size, 0, none⟩ 1 1 (evCells x) rfl rfl (new_ev wr x _) (one_evs x) (by simp only [maxLen]; omega) (by omega) HB1.out.size ?_; intro v3 w3 hown' hgrow hnil hat; have HO3 := Lib.hid (Evs.own_snoc hown'); have HB3 := Lib.hid (below_append HB1.out HB1.out.size HO1.out hgrow); have HP3 := Lib.hid ((HP1.out.kept hgrow (own_types HP1.out HO1.out (by decide))).alloc (.cells #[.int .i64 (k : Int)] 3)); have HO4 := Lib.hid (HO3.out.alloc (.cells #[.int .i64 (k : Int)] 3)); have HB4 := Lib.hid (HB3.out.alloc HB3.out.size (.cells #[.int .i64 (k : Int)] 3)); clear hown' hgrow hnil hat)
            | (at_builtin; refine wpList_append_own_at _ rfl (.tmp 57) (.tmp 59) 42 rfl w2.heap.size 3 j0 _ 1 8 Try.underlying42 J0.out J1.out J2.out J3.out rfl (by decide) _ q.length (intC q) rfl HP3.out ⟨w3.heap.size, 0, none⟩ 1 1 (intC [k]) rfl rfl (new_one _ _ _) (one_int k) (by simp only [maxLen]; omega) (by omega) HB4.out.size ?_; intro v5 w5 hown' hgrow hnil hat; have HP5 := Lib.hid (own_ints_snoc hown'); have HB5 := Lib.hid (below_append HB4.out HB4.out.size HP3.out hgrow); have HO5 := Lib.hid (HO4.out.kept hgrow (own_types HO4.out HP3.out (by decide))); clear hown' hgrow hnil hat))
          go_roundw
          case rel => exact ⟨k + 1, by omega, by go_num, by rw [HFT.out]; exact HO5.out, by rw [HPT.out]; exact HP5.out, HB5.out⟩
          case measure => simp [intOf]; omega
        · have hsb : (x.session == s) = false := by rw [beq_eq_false_iff_ne]; exact hs
          have ho : Gr.ofS s x = false := by rw [Gr.ofS, decide_eq_false_iff_not]; exact hs
          rw [ho, if_neg (by simp), List.append_nil] at HFT HPT
          clear hs ho
          go_wp2_with fail
          go_roundw
          case rel => exact ⟨k + 1, by omega, by go_num, by rw [HFT.out]; exact HO.out, by rw [HPT.out]; exact HP.out, HB.out⟩
          case measure => simp [intOf]; omega
      · have hT : l.take k = l := List.take_of_length_le (by omega)
        rw [hT] at HO HP ⊢
        clear hT
        have hrunF := (Gr.apart s l HRU.out).1
        have HGE := Lib.hid (Gr.group_ok' _ hrunF)
        have HAP := Lib.hid (Gr.apart_at s l HRU.out)
        have HAL := Lib.hid (Gr.apart_len s l HRU.out)
        have hfl : (l.filter (Gr.ofS s)).length ≤ 600 := Nat.le_trans (List.length_filter_le _ _) hl6
        have HFL : Hid ((l.filter (Gr.ofS s)).length ≤ 4294967296) := by rw [Hid]; omega
        have HFW : Hid (∀ x ∈ l.filter (Gr.ofS s), evWf x) := fun x hx => HW.out x (List.mem_filter.1 hx).1
        have HFS := Lib.hid (Gr.group_small (l.filter (Gr.ofS s)))
        rw [HGE.out] at HFS
        have HEV := Lib.hid (Evs.own HO.out)
        have HOL : Hid (∀ x ∈ Gr.txs l, x.ops.length ≤ 4294967296) := fun x hx => Nat.le_trans (HSM.out.2 x hx) HL.out
        have ha32 : (Gr.txs l).length ≤ 32 := HSM.out.1
        have hb32 : (Gr.txs (l.filter (Gr.ofS s))).length ≤ 32 := HFS.out.1
        have hpl6 : (Gr.places s 0 l).length ≤ 600 := by rw [Gr.places_len]; exact hfl
        have HLX : Hid ((Gr.txs l).length ≤ 4294967296) := by rw [Hid]; omega
        have HLY : Hid ((Gr.txs (l.filter (Gr.ofS s))).length ≤ 4294967296) := by rw [Hid]; omega
        have HAA : Hid (∀ i, Gr.ahead s (Gr.txs l) i ≤ 32) := fun i => Nat.le_trans (List.length_filter_le _ _) (by rw [List.length_take]; omega)
        have S3 := Lib.hid (S2.out.below HB.out)
        have B3 := Lib.hid (below_all B2.out HB.out)
        have HAS := Lib.hid (Gr.ahead_succ s (Gr.txs l))
        clear hrunF HRU HSM HFS hfl S2 B2 V1 V2 HO HF
        generalize hq : Gr.places s 0 l = q at *
        generalize hf : l.filter (Gr.ofS s) = f at *
        clear hq hf
        generalize hb : Gr.txs f = b at *
        generalize ha : Gr.txs l = a at *
        clear ha
        have HBE := Lib.hid hb
        clear hb
        go_wp2_with fail
        refine (group_at f _ wr HEV.out HFL.out HFW.out).mono ?_
        rintro e w4 ⟨v4, rfl, hs4, hb4⟩
        rw [HGE.out] at hs4 ⊢
        have S4 := Lib.hid (S3.out.below hb4)
        have T4 := Lib.hid hs4
        have P4 := Lib.hid (own_below HP.out hb4)
        have B4 := Lib.hid (below_all B3.out hb4)
        obtain ⟨A4, c4, rfl, _⟩ := hs4.spelled
        clear hb4 hs4 S3 B3 HP HEV
        dsimp only
        go_wp2_with fail
        refine (plain_at a _ w4 S4.out HLX.out).mono ?_
        rintro e w5 ⟨v5, rfl, hs5, hb5⟩
        have T5 := Lib.hid (T4.out.below hb5)
        have Q5 := Lib.hid hs5
        have P5 := Lib.hid (own_below P4.out hb5)
        have B5 := Lib.hid (below_all B4.out hb5)
        clear hb5 hs5 S4 T4 B4 P4
        go_wp2_with fail
        refine (plain_at b _ w5 T5.out HLY.out).mono ?_
        rintro e w6 ⟨v6, rfl, hs6, hb6⟩
        have Q6 := Lib.hid (Q5.out.below hb6)
        have R6 := Lib.hid hs6
        have P6 := Lib.hid (own_below P5.out hb6)
        have B6 := Lib.hid (below_all B5.out hb6)
        clear hb6 hs6 T5 Q5 B5 P5
        obtain ⟨X, cx, rfl, hfx⟩ := Q6.out.spelled
        obtain ⟨Y, cy, rfl, hfy⟩ := R6.out.spelled
        have HFX := Lib.hid hfx
        have HFY := Lib.hid hfy
        clear hfx hfy
        go_wp2_with fail
        go_loopw [15, 18] (fun n i wr => ∃ k : Nat, k ≤ a.length ∧ i = .int .i64 k ∧ n = .int .i64 (Gr.ahead s a k : Int) ∧ Below w6.heap.size w6 wr) (fun _ i _ => a.length - (intOf i).toNat)
        case atStart => exact ⟨0, Nat.zero_le _, rfl, rfl, Below.refl _ _⟩
        case round =>
          obtain ⟨kk, hkk2, rfl, rfl, hB'⟩ := hrel
          have HB' := Lib.hid hB'
          clear hB'
          by_cases hltk : kk < a.length
          · obtain ⟨ad, y, rfl, hblk, hE, hy⟩ := HFX.out kk hltk
            have HAK := Lib.hid (HAS.out kk hltk)
            have HAN := HAA.out kk
            have HAN' := HAA.out (kk + 1)
            by_cases hs : (a[kk]'hltk).session = s
            · have his : Gr.isS s (a[kk]'hltk) = true := by rw [Gr.isS, decide_eq_true_eq]; exact hs
              rw [his, if_pos rfl] at HAK
              obtain ⟨hkb, hcore, n, hn, hfst, hfst2⟩ := HAP.out kk hltk his
              have hsb : ((a[kk]'hltk).session != s) = false := by rw [hs]; simp
              have HOK := Lib.hid (HOL.out _ (List.getElem_mem hltk))
              generalize Gr.ahead s a kk = m at *
              obtain ⟨ad', z, rfl, hblk', hE', hz⟩ := HFY.out m hkb
              have HCO := Lib.hid hcore
              generalize a[kk]'hltk = t at *
              generalize b[m]'hkb = t' at *
              obtain ⟨gp, cpl, hvp, hcell⟩ : ∃ gp cpl, Value.slice Ap q.length cp = .slice (some ⟨gp, 0, none⟩) q.length cpl ∧ ∀ W, Below w6.heap.size w6 W → W.cell? ⟨gp, n, none⟩ = some (.int .i64 (q[n] : Int)) := by
                have h0 := P6.out
                rcases P6.out.2 with ⟨_, h1⟩ | ⟨g, cap, cur, hv', _⟩
                · omega
                · refine ⟨g, cap, hv', fun W hW => ?_⟩
                  rw [hv'] at h0
                  rw [(own_below h0 hW).cellAt n (by omega), intC, List.getElem?_map, List.getElem?_eq_getElem hn]
                  rfl
              cases hvp
              have HCL := Lib.hid hcell
              have hnn : ((q[n]'hn : Nat) : Int) = t.first := hfst2.symm
              rw [hnn] at HCL
              have hq1 : decide ((n : Int) < 0) = false := by simp
              have hq2 : decide ((q.length : Int) ≤ (n : Int)) = false := by simp; omega
              have hq3 : (t.first != t.first) = false := by simp
              have hq4 : decide ((b.length : Int) ≤ (m : Int)) = false := by simp; omega
              have HY := Lib.hid ((hy.below HB'.out).below (Below.refl _ wr).drew)
              have HZ := Lib.hid ((hz.below HB'.out).below (Below.refl _ wr).drew)
              have HE := Lib.hid (hE.below hblk HB'.out)
              have HE' := Lib.hid (hE'.below hblk' HB'.out)
              have hbw : ad.block < wr.heap.size := Nat.lt_of_lt_of_le hblk HB'.out.size
              have hbw' : ad'.block < wr.heap.size := Nat.lt_of_lt_of_le hblk' HB'.out.size
              obtain ⟨Ay, cy', rfl, hyf⟩ := hy.form
              obtain ⟨Az, cz', rfl, hzf⟩ := hz.form
              have hc0 := HE.out.c0
              have hc1 := HE.out.c1
              have hc2 := HE.out.c2
              have hc3 := HE.out.c3
              have hd0 := HE'.out.c0
              have hd1 := HE'.out.c1
              have hd2 := HE'.out.c2
              have hd3 := HE'.out.c3
              have HFS := Lib.hid hfst
              clear hE hE' hy hz hyf hzf hcore hfst hfst2 hnn hcell his hs
              go_wp2_with fail
              go_region_law (go_simp; go_at_call 15; refine (rOne_at t t' _ _ _ HY.out HZ.out HOK.out HCO.out).mono ?_; rintro e w7 ⟨rfl, hb7⟩; have HB7 := Lib.hid (below_all (Below.refl _ wr).drew hb7); clear hb7)
              all_goals
                have HE2 := Lib.hid (HE.out.below hbw HB7.out)
                have HE2' := Lib.hid (HE'.out.below hbw' HB7.out)
                have e2 := HE2.out.c2
                have f2 := HE2'.out.c2
                rw [HFS.out] at f2
                have HB8 := Lib.hid (below_all HB'.out HB7.out)
                have g2 := HCL.out w7 HB8.out
                clear hc0 hc1 hc2 hc3 hd0 hd1 hd2 hd3 HE HE' HE2 HE2' HB7
                go_wp2_with fail
                go_quiet (fail)
                go_wp2_with fail
                go_roundw
                case rel => exact ⟨kk + 1, by omega, by go_num, by rw [HAK.out]; go_num, below_drewN HB8.out _⟩
                case measure => simp [intOf]; omega
            · have his : Gr.isS s (a[kk]'hltk) = false := by rw [Gr.isS, decide_eq_false_iff_not]; exact hs
              rw [his, if_neg (by simp)] at HAK
              have hsb : ((a[kk]'hltk).session != s) = true := by rw [bne_iff_ne]; exact hs
              have HE := Lib.hid (hE.below hblk HB'.out)
              have hc0 := HE.out.c0
              generalize (a[kk]'hltk).session = z at *
              clear hE hy HE his hs
              go_wp2_with fail
              go_roundw
              case rel => exact ⟨kk + 1, by omega, by go_num, by rw [HAK.out]; rfl, HB'.out⟩
              case measure => simp [intOf]; omega
          · have HKA : Hid (Gr.ahead s a kk = b.length) := by
              have : kk = a.length := by omega
              rw [Hid, this]; exact HAL.out
            rw [HKA.out]
            have hqq : (((b.length : Nat) : Int) == ((b.length : Nat) : Int)) = true := by simp
            go_wp2_with fail
            go_ret
            exact ⟨rfl, below_all B6.out HB'.out⟩
end Go.Proofs.Ytkeaibngofbkhaa
