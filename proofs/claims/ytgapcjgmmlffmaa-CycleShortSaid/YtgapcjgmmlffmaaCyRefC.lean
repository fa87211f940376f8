/-
  What the reference's Is of layer 15 answers.
  Conditions: rows of at most 4294967296.
-/
import Derived.Test.YtgapcjgmmlffmaaCyRefB
set_option maxRecDepth 4000
namespace Go.Proofs.Ytgapcjgmmlffmaa
open Go.RowKit

/-- A yes or no that is yes just if P. -/
def RetIff (w : World) (P : Prop) (e : Ending) (w' : World) : Prop := ∃ b, e = .returned (.bool b) ∧ (b = true ↔ P) ∧ Below w.heap.size w w'
theorem ret_iff_no {w w' : World} {P : Prop} (h : ¬ P) (hb : Below w.heap.size w w') : RetIff w P (.returned (.bool false)) w' := ⟨false, rfl, ⟨fun q => (by cases q), fun q => absurd q h⟩, hb⟩
theorem ret_iff_yes {w w' : World} {P : Prop} (h : P) (hb : Below w.heap.size w w') : RetIff w P (.returned (.bool true)) w' := ⟨true, rfl, ⟨fun _ => h, fun _ => rfl⟩, hb⟩
/-- Numbers that are all nodes. -/
theorem nums_back {n : Nat} : ∀ {l : List Int}, (∀ j (hj : j < l.length), Gf.isN (n : Int) l[j] = true) → ∃ m : List Nat, l = Bi.nums m ∧ ∀ x ∈ m, x < n
  | [], _ => ⟨[], rfl, fun x h => by cases h⟩
  | a :: l, h => by
    obtain ⟨m, e, hm⟩ := nums_back (l := l) fun j hj => h (j + 1) (by simp only [List.length_cons]; omega)
    obtain ⟨k, hk, hkn⟩ := Gf.isN_nat (h 0 (by simp))
    refine ⟨k :: m, ?_, fun x hx => ?_⟩
    · rw [e, show a = (k : Int) from hk]; rfl
    · rcases List.mem_cons.1 hx with rfl | q
      · exact hkn
      · exact hm x q
namespace Cy
open Gf Rc To
def IsC (n : Int) (g : List Nat) (l : List Int) : Prop := ∃ k : Nat, n = (k : Int) ∧ Ok k g ∧ ∃ m : List Nat, l = Bi.nums m ∧ IsCyc k g m
theorem IsC.right {n : Int} {g : List Nat} {l : List Int} (h : IsC n g l) : okB n g = true := by
  obtain ⟨k, rfl, hg, _⟩ := h
  exact okB_iff.2 ⟨k, rfl, hg⟩
theorem IsC.some {n : Int} {g : List Nat} {l : List Int} (h : IsC n g l) : l.length ≠ 0 := by
  obtain ⟨k, rfl, hg, m, rfl, hm⟩ := h
  rw [Bi.nums_len]
  exact fun e => hm.pos (List.length_eq_zero_iff.1 e)
theorem IsC.isNode {n : Int} {g : List Nat} {l : List Int} (h : IsC n g l) (j : Nat) (hj : j < l.length) : isN n l[j] = true := by
  obtain ⟨k, rfl, hg, m, rfl, hm⟩ := h
  have hj' : j < m.length := by rw [Bi.nums_len] at hj; exact hj
  rw [Bi.nums_at m j hj']
  exact isN_yes (hm.node _ (List.getElem_mem hj'))
theorem IsC.one {n : Int} {g : List Nat} {l : List Int} (h : IsC n g l) (a b : Nat) (ha : a < l.length) (hb : b < l.length) (hab : a < b) : l[a] ≠ l[b] := by
  obtain ⟨k, rfl, hg, m, rfl, hm⟩ := h
  have ha' : a < m.length := by rw [Bi.nums_len] at ha; exact ha
  have hb' : b < m.length := by rw [Bi.nums_len] at hb; exact hb
  rw [Bi.nums_at m a ha', Bi.nums_at m b hb']
  intro e
  have e' : m[a] = m[b] := by omega
  exact List.pairwise_iff_getElem.1 hm.once a b ha' hb' hab e'
theorem nums_inj {m m' : List Nat} (h : Bi.nums m = Bi.nums m') : m = m' := by
  have hl : m.length = m'.length := by rw [← Bi.nums_len m, h, Bi.nums_len]
  refine List.ext_getElem hl fun i h1 h2 => ?_
  have e1 := Bi.nums_at m i h1
  have e2 := Bi.nums_at m' i h2
  simp only [h] at e1
  rw [e1] at e2
  omega
theorem IsC.edge {n : Int} {g m : List Nat} (h : IsC n g (Bi.nums m)) (i : Nat) (hi : i < m.length) : bit g m[i] (m[(i + 1) % m.length]'(Nat.mod_lt _ (Nat.zero_lt_of_lt hi))) = true := by
  obtain ⟨k, rfl, hg, m', e, hm⟩ := h
  obtain rfl := nums_inj e
  exact hm.edge i hi
theorem IsC.all {k : Nat} {g m : List Nat} (hg : Ok k g) (hn : ∀ x ∈ m, x < k) (h0 : m.length ≠ 0) (h1 : ∀ a b (ha : a < (Bi.nums m).length) (hb : b < (Bi.nums m).length), a < b → (Bi.nums m)[a] ≠ (Bi.nums m)[b])
    (h2 : ∀ i (hi : i < m.length), bit g m[i] (m[(i + 1) % m.length]'(Nat.mod_lt _ (Nat.zero_lt_of_lt hi))) = true) : IsC (k : Int) g (Bi.nums m) := by
  refine ⟨k, rfl, hg, m, rfl, ⟨fun e => h0 (by rw [e]; rfl), hn, ?_, h2⟩⟩
  refine List.pairwise_iff_getElem.2 fun a b ha hb hab e => ?_
  have := h1 a b (by rw [Bi.nums_len]; exact ha) (by rw [Bi.nums_len]; exact hb) hab
  rw [Bi.nums_at m a ha, Bi.nums_at m b hb] at this
  exact this (by rw [e])
end Cy

set_option maxHeartbeats 4000000 in
theorem rIs15_at (n : Int) (u : Value) (g : List Nat) (l : List Int) (v : Value) (w : World) (hu : Us w u g) (hs : ∀ x ∈ g, x < 18446744073709551616) (hv : Ns w v l) (hl : l.length ≤ 4294967296) :
    Calls Try.prog 10 #[.agg #[.int .i64 n, u], v] w (RetIff w (Cy.IsC n g l)) := by
  have HU := Lib.hid hu
  have BW := Lib.hid (alloc_below w (.cells #[.int .i64 n, u] 27))
  have T0 := Lib.hid (Two.new w 27 (.int .i64 n) u)
  obtain ⟨A0, c0', rfl, -⟩ := hu.spelled
  have FR := Lib.hid (fun w h => rRight12_at n (.slice A0 g.length c0') g w h hs)
  have HRI := Lib.hid (fun h : Cy.IsC n g l => h.right)
  have HSO := Lib.hid (fun h : Cy.IsC n g l => h.some)
  have HND := Lib.hid (fun h : Cy.IsC n g l => h.isNode)
  have HON := Lib.hid (fun h : Cy.IsC n g l => h.one)
  obtain ⟨A1, c1', rfl, hform⟩ := hv.spelled
  have HF := Lib.hid hform
  clear hu hv hform
  go_enter Try.func10, Try.ntmps10
  go_wp2_with fail
  generalize w.alloc (.cells #[.int .i64 n, .slice A0 g.length c0'] 27) = W at *
  refine (FR.out _ (HU.out.below BW.out)).mono ?_
  rintro e w1 ⟨rfl, hb1⟩
  have T1 := Lib.hid (T0.out.later hb1)
  have B1 := Lib.hid (below_all BW.out hb1)
  clear hb1 T0 BW FR
  cases hok : Gf.okB n g with
  | false =>
    go_wp2_with fail
    go_ret
    exact ret_iff_no (fun h => by rw [HRI.out h] at hok; cases hok) B1.out
  | true =>
    obtain ⟨a0, a1⟩ := T1.out.cells
    by_cases hl0 : l.length = 0
    · have hz : ((l.length : Int) == 0) = true := by rw [beq_iff_eq]; omega
      have hz2 : (l.length == 0) = true := by rw [beq_iff_eq]; exact hl0
      go_wp2_with fail
      go_ret
      exact ret_iff_no (fun h => HSO.out h hl0) B1.out
    · have hz : ((l.length : Int) == 0) = false := by rw [beq_eq_false_iff_ne]; omega
      have hz2 : (l.length == 0) = false := by rw [beq_eq_false_iff_ne]; exact hl0
      have HF1 : Hid (∀ (k : Nat) (hk : k < l.length), ∃ ad : Addr, A1 = some ad ∧ ad.block < w1.heap.size ∧ w1.cell? (ad.add k) = some (.int .i64 (l[k]'hk))) := fun k hk => by
        obtain ⟨ad, e1, e2, e3⟩ := HF.out k hk
        exact ⟨ad, e1, Nat.lt_of_lt_of_le e2 B1.out.size, (B1.out.cell (by rw [add_block]; exact e2)).trans e3⟩
      have HL0 := Lib.hid hl0
      go_wp2_with fail
      clear hz hz2 a0 a1 hl0
      go_loopw [6] (fun i wr => ∃ x : Nat, x ≤ l.length ∧ i = .int .i64 x ∧ Hid (∀ j (hj : j < l.length), j < x → Gf.isN n l[j] = true) ∧ Hid (∀ a b (ha : a < l.length) (hb : b < l.length), a < b → b < x → l[a] ≠ l[b]) ∧ Hid (Below w1.heap.size w1 wr)) (fun i _ => l.length - (intOf i).toNat)
      case atStart => exact ⟨0, Nat.zero_le _, rfl, fun j _ h => absurd h (Nat.not_lt_zero _), fun a b _ _ _ h => absurd h (Nat.not_lt_zero _), Below.refl _ _⟩
      case round =>
        obtain ⟨x, hx, rfl, HN, HO, HB⟩ := hrel
        obtain ⟨a0, a1⟩ := (T1.out.later HB.out).cells
        by_cases hlt : x < l.length
        · obtain ⟨ad, rfl, hblk, hE⟩ := HF1.out x hlt
          have e0 := (HB.out.cell (by rw [add_block]; exact hblk)).trans hE
          obtain ⟨z, hz⟩ : ∃ z, z = l[x]'hlt := ⟨_, rfl⟩
          rw [← hz] at e0
          have HZ := Lib.hid hz
          clear hE hz
          go_wp2_with fail
          go_region_law (go_simp; go_at_call 19; refine (rNode12_at n (.slice A0 g.length c0') z _).mono ?_; rintro e w2 ⟨rfl, hb2⟩; have HB2 := Lib.hid (below_all (Below.refl _ wr).drew hb2); clear hb2)
          all_goals
            have HB3 := Lib.hid (below_all HB.out HB2.out)
            clear e0 a0 a1 HB2
            cases hn : Gf.isN n z with
            | false =>
              go_wp2_with fail
              go_ret
              exact ret_iff_no (fun h => by have := HND.out h x hlt; rw [← HZ.out, hn] at this; cases this) (below_all B1.out HB3.out)
            | true =>
              have HN2 : Hid (∀ j (hj : j < l.length), j < x + 1 → Gf.isN n l[j] = true) := fun j hj hjx => by
                rcases Nat.lt_succ_iff_lt_or_eq.1 hjx with q | q
                · exact HN.out j hj q
                · subst q; rw [← HZ.out]; exact hn
              clear hn
              go_wp2_with fail
              generalize hwk : w2 = WK at *
              clear hwk
              go_loopw [7] (fun i wr => ∃ k : Nat, k ≤ x ∧ i = .int .i64 k ∧ Hid (∀ j (hj : j < l.length), j < k → l[j] ≠ z) ∧ Hid (Below w1.heap.size w1 wr)) (fun i _ => x - (intOf i).toNat)
              case atStart => exact ⟨0, Nat.zero_le _, rfl, fun j _ h => absurd h (Nat.not_lt_zero _), HB3.out⟩
              case round =>
                obtain ⟨k, hk, rfl, HK, HBQ⟩ := hrel
                by_cases hltk : k < x
                · obtain ⟨ad1, had, hblk1, hE1⟩ := HF1.out k (by omega)
                  cases had
                  obtain ⟨ad2, had, hblk2, hE2⟩ := HF1.out x hlt
                  cases had
                  have e0 := (HBQ.out.cell (by rw [add_block]; exact hblk1)).trans hE1
                  have e1 := (HBQ.out.cell (by rw [add_block]; exact hblk2)).trans hE2
                  rw [← HZ.out] at e1
                  obtain ⟨y, hy⟩ : ∃ y, y = l[k]'(by omega) := ⟨_, rfl⟩
                  rw [← hy] at e0
                  have HY := Lib.hid hy
                  clear hE1 hE2 hy
                  by_cases hyz : y = z
                  · have hqq : (y == z) = true := by rw [beq_iff_eq]; exact hyz
                    go_wp2_with fail
                    go_quiet (fail)
                    go_wp2_with fail
                    go_ret
                    exact ret_iff_no (fun h => HON.out h k x (by omega) hlt hltk (by rw [← HY.out, ← HZ.out]; exact hyz)) (below_all B1.out (below_drewN HBQ.out _))
                  · have hqq : (y == z) = false := by rw [beq_eq_false_iff_ne]; exact hyz
                    have HK2 : Hid (∀ j (hj : j < l.length), j < k + 1 → l[j] ≠ z) := fun j hj hjk => by
                      rcases Nat.lt_succ_iff_lt_or_eq.1 hjk with q | q
                      · exact HK.out j hj q
                      · subst q; rw [← HY.out]; exact hyz
                    clear hyz
                    go_wp2_with fail
                    go_quiet (fail)
                    go_wp2_with fail
                    go_roundw
                    case rel => exact ⟨k + 1, by omega, by go_num, HK2.out, below_drewN HBQ.out _⟩
                    case measure => simp [intOf]; omega
                · have hkx : k = x := by omega
                  have HO2 : Hid (∀ a b (ha : a < l.length) (hb : b < l.length), a < b → b < x + 1 → l[a] ≠ l[b]) := fun a b ha hb hab hbx => by
                    rcases Nat.lt_succ_iff_lt_or_eq.1 hbx with q | q
                    · exact HO.out a b ha hb hab q
                    · subst q; rw [← HZ.out]; exact HK.out a ha (by omega)
                  clear hkx
                  go_wp2_with fail
                  go_roundw
                  case rel => exact ⟨x + 1, by omega, by go_num, HN2.out, HO2.out, HBQ.out⟩
                  case measure => simp [intOf]; omega
        · have hxl : x = l.length := by omega
          obtain ⟨k, hnk, hg⟩ := Gf.okB_iff.1 hok
          subst hnk
          obtain ⟨m, hm, hmk⟩ := nums_back (fun j hj => HN.out j hj (by omega))
          subst hm
          have hml := Bi.nums_len m
          have HO2 : Hid (∀ a b (ha : a < (Bi.nums m).length) (hb : b < (Bi.nums m).length), a < b → (Bi.nums m)[a] ≠ (Bi.nums m)[b]) := fun a b ha hb hab => HO.out a b ha hb hab (by omega)
          have HALL : Hid ((∀ i (hi : i < m.length), Gf.bit g m[i] (m[(i + 1) % m.length]'(Nat.mod_lt _ (Nat.zero_lt_of_lt hi))) = true) → Cy.IsC (k : Int) g (Bi.nums m)) := fun h => Cy.IsC.all hg hmk (by have := HL0.out; rwa [hml] at this) HO2.out h
          have HEG := Lib.hid (fun (h : Cy.IsC (k : Int) g (Bi.nums m)) => h.edge)
          have h64 := hg.1
          have FH : Hid (∀ (w : World) (x y : Nat), x < k → y < k → Us w (.slice A0 g.length c0') g → Calls Try.prog 20 #[.agg #[.int .i64 k, .slice A0 g.length c0'], .int .i64 x, .int .i64 y] w (RetBool w (Gf.bit g x y))) := fun w x y hx hy hw => by
            have hxl : x < g.length := by rw [hg.2.1]; exact hx
            have := rHas12_at k (.slice A0 g.length c0') g x y w hw hxl (hg.small (List.getElem_mem hxl))
            rw [Bi.has_nat _ y (by omega), ← Gf.bit_at hxl] at this
            exact this
          have HMK := Lib.hid hmk
          have HF2 : Hid (∀ (k : Nat) (hk : k < m.length), ∃ ad : Addr, A1 = some ad ∧ ad.block < w1.heap.size ∧ w1.cell? (ad.add k) = some (.int .i64 (m[k] : Int))) := fun k hk => by
            obtain ⟨ad, e1, e2, e3⟩ := HF1.out k (by omega)
            rw [Bi.nums_at m k hk] at e3
            exact ⟨ad, e1, e2, e3⟩
          have HM0 : Hid (0 < m.length) := by have := HL0.out; rw [Hid]; omega
          clear hxl HN HO HO2 HF HF1 hmk hg hok HRI HSO HND HON HL0
          have HMM := Lib.hid hml
          clear hml
          go_wp2_with fail
          have hml := HMM.out
          clear HMM
          generalize (Bi.nums m).length = L at *
          subst hml
          have HB1 := Lib.hid HB.out
          clear HB a0 a1 hlt hx
          generalize hwk : wr = WK at *
          clear hwk
          go_loopw [8] (fun i wr => ∃ j : Nat, j ≤ m.length ∧ i = .int .i64 j ∧ Hid (∀ i (hi : i < m.length), i < j → Gf.bit g m[i] (m[(i + 1) % m.length]'(Nat.mod_lt _ (Nat.zero_lt_of_lt hi))) = true) ∧ Hid (Below w1.heap.size w1 wr)) (fun i _ => m.length - (intOf i).toNat)
          case atStart => exact ⟨0, Nat.zero_le _, rfl, fun j _ h => absurd h (Nat.not_lt_zero _), HB1.out⟩
          case round =>
            obtain ⟨j, hj, rfl, HE, HB⟩ := hrel
            obtain ⟨a0, a1⟩ := (T1.out.later HB.out).cells
            by_cases hltj : j < m.length
            · have hmpos := HM0.out
              have hrl : (j + 1) % m.length < m.length := Nat.mod_lt _ hmpos
              obtain ⟨ad1, had, hblk1, hE1⟩ := HF2.out j hltj
              cases had
              obtain ⟨ad2, had, hblk2, hE2⟩ := HF2.out _ hrl
              cases had
              have HEJ := Lib.hid (fun h => HEG.out h j hltj)
              have hmod : ((j : Int) + 1).tmod (m.length : Int) = (((j + 1) % m.length : Nat) : Int) := by
                rw [Int.tmod_eq_emod_of_nonneg (by omega)]
                rfl
              have hmod2 : (IntKind.i64.wrap ((j : Int) + 1)).tmod (m.length : Int) = (((j + 1) % m.length : Nat) : Int) := by
                rw [IntWalk.i64_in _ (by omega)]
                exact hmod
              have hne0 : ((m.length : Int) == 0) = false := by rw [beq_eq_false_iff_ne]; omega
              have hne1 : (m.length == 0) = false := by rw [beq_eq_false_iff_ne]; omega
              have hne2 : ¬ ((m.length : Int) = 0) := by omega
              have hne3 : ¬ (m.length = 0) := by omega
              have hp1 := HMK.out _ (List.getElem_mem hltj)
              have hp2 := HMK.out _ (List.getElem_mem hrl)
              have e0 := (HB.out.cell (by rw [add_block]; exact hblk1)).trans hE1
              have e1 := (HB.out.cell (by rw [add_block]; exact hblk2)).trans hE2
              have HEN : Hid (Gf.bit g (m[j]'hltj) (m[(j + 1) % m.length]'hrl) = true → ∀ i (hi : i < m.length), i < j + 1 → Gf.bit g m[i] (m[(i + 1) % m.length]'(Nat.mod_lt _ (Nat.zero_lt_of_lt hi))) = true) := fun h i hi hij => by
                rcases Nat.lt_succ_iff_lt_or_eq.1 hij with q | q
                · exact HE.out i hi q
                · subst q; exact h
              generalize m[(j + 1) % m.length]'hrl = y at *
              generalize m[j]'hltj = z at *
              generalize (j + 1) % m.length = r at *
              have HU2 := Lib.hid (((HU.out.below (below_all B1.out HB.out))).below (Below.refl _ wr).drew)
              clear hE1 hE2 hblk1 hblk2
              go_wp2_with fail
              go_region_law (go_simp; go_at_call 20; refine (FH.out _ z y hp1 hp2 HU2.out).mono ?_; rintro e w2 ⟨rfl, hb2⟩; have HB2 := Lib.hid (below_all (Below.refl _ wr).drew hb2); clear hb2)
              all_goals
                have HB3 := Lib.hid (below_all HB.out HB2.out)
                clear e0 e1 a0 a1 HB2
                cases hb : Gf.bit g z y with
                | false =>
                  go_wp2_with fail
                  go_ret
                  exact ret_iff_no (fun h => by have := HEJ.out h; rw [hb] at this; cases this) (below_all B1.out HB3.out)
                | true =>
                  have HEN2 := Lib.hid (HEN.out hb)
                  clear hb
                  go_wp2_with fail
                  go_roundw
                  case rel => exact ⟨j + 1, by omega, by go_num, HEN2.out, HB3.out⟩
                  case measure => simp [intOf]; omega
            · have hjm : j = m.length := by omega
              have HR := Lib.hid (HALL.out fun i hi => HE.out i hi (by omega))
              clear hjm
              go_wp2_with fail
              go_ret
              exact ret_iff_yes HR.out (below_all B1.out HB.out)
end Go.Proofs.Ytgapcjgmmlffmaa
