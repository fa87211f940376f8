/-
  A graph in a variable that a function literal of layer 17's program fills, edge by edge: the literal that adds an edge, and addEach.
  Conditions: the graph may be, its nodes are those of the edges.
-/
import Derived.Test.YtahacjfeopjbaaaKnDraw
import Derived.Test.YtahacjfeopjbaaaKnRef
import Derived.Test.YtahacjfeopjbaaaGfAll
import Derived.Test.YtahacjfeopjbaaaInAll
import Derived.Test.YtahacjfeopjbaaaIxAll
set_option maxRecDepth 4000
namespace Go.Proofs.Ytahacjfeopjbaaa
open Go.RowKit

theorem save_block {b : Nat} {w w' : World} (h : Save b (b + 1) w w') {k : Nat} (hk : k < w.heap.size) (hne : k ≠ b) : w'.heap[k]? = w.heap[k]? := h.block k hk (by omega)
theorem save_cell {b : Nat} {w w' : World} (h : Save b (b + 1) w w') {p : Addr} {v : Value} (hp : p.block ≠ b) (hc : w.cell? p = some v) : w'.cell? p = some v := by
  have e := save_block h (World.block_lt_of_cell? w p hc) hp
  unfold World.cell? at hc ⊢
  rw [e]
  exact hc
/-- The graph of n nodes with these sets lies in the variable at block b. -/
def GV (W : World) (base b n : Nat) (r : List Nat) : Prop := Gf.Ok n r ∧ ∃ A c, Two W b 32 (.int .i64 (n : Int)) (.slice A n c) ∧ OwnU W base (.slice A n c) r
section
variable {W W' : World} {base b n : Nat} {r : List Nat}
theorem GV.ok (h : GV W base b n r) : Gf.Ok n r := h.1
theorem GV.lt (h : GV W base b n r) : b < W.heap.size := by
  obtain ⟨-, A, c, t, -⟩ := h
  exact t.lt
theorem GV.later (h : GV W base b n r) (hb : Below W.heap.size W W') : GV W' base b n r := by
  obtain ⟨hok, A, c, t, o⟩ := h
  exact ⟨hok, A, c, t.later hb, o.below hb⟩
end
/-- What a function that draws into it leaves. -/
def Drawn (W : World) (base b n : Nat) (r : List Nat) (e : Ending) (W' : World) : Prop := e = .returned (.tuple #[]) ∧ GV W' base b n r ∧ Save b (b + 1) W W'

theorem knAdd_at (base b n : Nat) (r : List Nat) (x y : Nat) (w : World) (hG : GV w base b n r) (hx : x < n) (hy : y < n) (hbase : base ≤ w.heap.size) :
    Calls Try.prog 91 #[.int .i64 (x : Int), .int .i64 (y : Int), .pointer (some ⟨b, 0, none⟩)] w (Drawn w base b n (Kn.addE r (x, y))) := by
  have OKE : Hid (Gf.Ok n (Kn.addE r (x, y))) := Kn.addE_ok hG.ok hx hy
  obtain ⟨hok, A, c, t, o⟩ := hG
  have F1 := Lib.hid (fun w hu => gfHas_at (n : Int) (.slice A n c) r (x : Int) (y : Int) w hu (fun s hs => hok.small hs))
  rw [Gf.hasR_nat hok hx hy] at F1
  have F2 := Lib.hid (fun w hu => gfAdd_at n (.slice A n c) r x y w hu hok hx hy)
  have HAL : Hid ((Gf.addR r x y).length = n) := (Gf.add_ok hok hx hy).2.1
  have T := Lib.hid t
  have O := Lib.hid o
  have HLT := Lib.hid t.lt
  have HBS := Lib.hid hbase
  obtain ⟨c0, c1⟩ := t.cells
  clear t o hok hbase hx hy
  cases hbit : Gf.bit r x y with
  | true =>
    rw [hbit] at F1
    have HE : Kn.addE r (x, y) = r := if_pos hbit
    rw [HE] at OKE ⊢
    clear hbit HE F2
    go_enter Try.func91, Try.ntmps91
    go_wp2_with fail
    refine (F1.out _ O.out.us).mono ?_
    rintro e w1 ⟨rfl, hb1⟩
    have HG : Hid (GV w1 base b n r) := ⟨OKE.out, A, c, T.out.later hb1, O.out.below hb1⟩
    have HS := Lib.hid (Save.of_below (a := b) (b := b + 1) hb1)
    clear hb1 c0 c1
    go_wp2_with fail
    go_end0
    exact ⟨rfl, HG.out, HS.out⟩
  | false =>
    rw [hbit] at F1
    have HE : Kn.addE r (x, y) = Gf.addR r x y := if_neg (by rw [hbit]; simp)
    rw [HE] at OKE ⊢
    clear hbit HE
    go_enter Try.func91, Try.ntmps91
    go_wp2_with fail
    refine (F1.out _ O.out.us).mono ?_
    rintro e w1 ⟨rfl, hb1⟩
    have T1 := Lib.hid (T.out.later hb1)
    have O1 := Lib.hid (O.out.below hb1)
    have B1 := Lib.hid hb1
    clear hb1 c0 c1
    obtain ⟨c0, c1⟩ := T1.out.cells
    go_wp2_with fail
    refine (F2.out _ O1.out.us).mono ?_
    rintro e w2 ⟨v2, rfl, ho2, hb2⟩
    obtain ⟨A2, c2, rfl⟩ := ho2.form
    have T2 := Lib.hid (T1.out.later hb2)
    have B2 := Lib.hid (B1.out.trans (hb2.mono B1.out.size))
    have HL1 := Lib.hid T1.out.lt
    rw [HAL.out] at ho2 ⊢
    have HO2 := Lib.hid (ho2.mono (Nat.le_trans HBS.out B1.out.size))
    have HO3 := Lib.hid (own_setCell (o := 1) (x := .slice A2 n c2) (own_setCell (o := 0) (x := .int .i64 (n : Int)) ho2 HL1.out) HL1.out)
    clear ho2 hb2 c0 c1
    obtain ⟨p0, p1⟩ := T2.out.cells
    have f0 := T2.out.frozen 0
    have f1 := T2.out.frozen 1
    go_wp2_with fail
    go_end0
    exact ⟨rfl, ⟨OKE.out, A2, c2, T2.out.put, HO3.out.mono (Nat.le_trans HBS.out B1.out.size)⟩, ((Save.of_below B2.out).setCell (p := ⟨b, 0, none⟩) ⟨Nat.le_refl _, Nat.lt_succ_self _⟩ _).setCell (p := ⟨b, 1, none⟩) ⟨Nat.le_refl _, Nat.lt_succ_self _⟩ _⟩

/-- A number that is less than n does not lie in the graph's variable. -/
theorem num_aside {W : World} {b n x m c : Nat} {A : Option Addr} {p : Addr} (hT : Two W b 32 (.int .i64 (n : Int)) (.slice A m c)) (hc : W.cell? p = some (.int .i64 (x : Int))) (hx : x < n) : p.block ≠ b := by
  rintro rfl
  obtain ⟨g, o, q⟩ := p
  have h : W.heap[g]? = some (.cells #[.int .i64 (n : Int), .slice A m c] 32 (0, 0)) := hT
  cases q with
  | some q => simp [World.cell?, h] at hc
  | none =>
    match o with
    | 0 =>
      simp [World.cell?, h] at hc
      omega
    | 1 => simp [World.cell?, h] at hc
    | o + 2 => simp [World.cell?, h] at hc
/-- A row of nodes beside it, as long as nothing else turns. -/
theorem nums_aside {W : World} {base b n : Nat} {r : List Nat} (hG : GV W base b n r) {v : Value} {l : List Nat} (hv : Ns W v (ints l)) (hl : ∀ x ∈ l, x < n) :
    ∃ A c, v = .slice A l.length c ∧ ∀ (k : Nat) (hk : k < l.length), ∃ ad : Addr, A = some ad ∧ ∀ W', Save b (b + 1) W W' → W'.cell? (ad.add k) = some (.int .i64 (l[k] : Int)) := by
  obtain ⟨-, A', c', t, -⟩ := hG
  obtain ⟨A, c, hv, hh⟩ := hv.spelled
  refine ⟨A, c, by rw [hv, ints_len], fun k hk => ?_⟩
  obtain ⟨ad, e, hb, hc⟩ := hh k (by rw [ints_len]; exact hk)
  rw [ints_nth l k hk] at hc
  exact ⟨ad, e, fun W' hs => save_cell hs (num_aside t hc (hl _ (List.getElem_mem hk))) hc⟩

set_option maxHeartbeats 1000000 in
theorem knEach_at (base b n : Nat) (r : List Nat) (rs ws : List Nat) (u v : Value) (w : World) (hG : GV w base b n r) (hu : Ns w u (ints rs)) (hv : Ns w v (ints ws)) (hr : ∀ x ∈ rs, x < n) (hw : ∀ x ∈ ws, x < n) (hrl : rs.length ≤ 64) (hwl : ws.length ≤ 64) (hbase : base ≤ w.heap.size) :
    Calls Try.prog 65 #[.func (.func 91) #[] #[.pointer (some ⟨b, 0, none⟩)], u, v] w (Drawn w base b n (Kn.addAll r (Kn.eachOf rs ws))) := by
  obtain ⟨A, c, rfl, hf⟩ := nums_aside hG hu hr
  obtain ⟨A', c', rfl, hf'⟩ := nums_aside hG hv hw
  have HF := Lib.hid hf
  have HF' := Lib.hid hf'
  have HG0 : Hid (GV w base b n (Kn.addAll r (Kn.eachTo rs ws 0 0))) := by rw [Hid, Kn.eachTo_zero]; exact hG
  have HE := Lib.hid (congrArg (Kn.addAll r) (Kn.eachTo_all rs ws))
  have HN := Lib.hid (fun i (hi : i < rs.length) => congrArg (Kn.addAll r) (Kn.eachTo_next (ws := ws) hi))
  have HY := Lib.hid (fun i j (hi : i < rs.length) (hj : j < ws.length) hne => (congrArg (Kn.addAll r) (Kn.eachTo_yes hi hj hne)).trans Kn.addAll_snoc)
  have HNO := Lib.hid (fun i j (hi : i < rs.length) (hj : j < ws.length) he => congrArg (Kn.addAll r) (Kn.eachTo_no hi hj he))
  have HRN := Lib.hid (fun i (hi : i < rs.length) => hr _ (List.getElem_mem hi))
  have HWN := Lib.hid (fun i (hi : i < ws.length) => hw _ (List.getElem_mem hi))
  have HBS := Lib.hid hbase
  rw [← HE.out]
  clear hf hf' hG hu hv hr hw hbase HE
  go_enter Try.func65, Try.ntmps65
  go_wp2_with fail
  go_loopw [12] (fun i wr => ∃ x : Nat, x ≤ rs.length ∧ i = .int .i64 x ∧ Hid (GV wr base b n (Kn.addAll r (Kn.eachTo rs ws x 0))) ∧ Hid (Save b (b + 1) w wr)) (fun i _ => rs.length - (intOf i).toNat)
  case atStart => exact ⟨0, Nat.zero_le _, rfl, HG0.out, Save.refl _ _ _⟩
  case round =>
    clear HG0
    obtain ⟨x, hx, rfl, HG, HS⟩ := hrel
    by_cases hlt : x < rs.length
    · obtain ⟨ad, hA, hcell⟩ := HF.out x hlt
      subst hA
      have a0 := hcell wr HS.out
      have HXN := HRN.out x hlt
      have HNX := Lib.hid (HN.out x hlt)
      have HYX := Lib.hid (fun j hj hne => HY.out x j hlt hj hne)
      have HOX := Lib.hid (fun j hj he => HNO.out x j hlt hj he)
      generalize rs[x]'hlt = rx at *
      clear hcell
      go_wp2_with fail
      clear a0
      go_loopw [18] (fun i wq => ∃ y : Nat, y ≤ ws.length ∧ i = .int .i64 y ∧ Hid (GV wq base b n (Kn.addAll r (Kn.eachTo rs ws x y))) ∧ Hid (Save b (b + 1) w wq)) (fun i _ => ws.length - (intOf i).toNat)
      case atStart => exact ⟨0, Nat.zero_le _, rfl, HG.out, HS.out⟩
      case round =>
        clear HG HS
        obtain ⟨y, hy, rfl, HG, HS⟩ := hrel
        by_cases hlt2 : y < ws.length
        · obtain ⟨ad2, hA2, hcell2⟩ := HF'.out y hlt2
          subst hA2
          have b0 := hcell2 wr HS.out
          have HYN := HWN.out y hlt2
          have HY1 := Lib.hid (fun hne => HYX.out y hlt2 hne)
          have HO1 := Lib.hid (fun he => HOX.out y hlt2 he)
          generalize ws[y]'hlt2 = wy at *
          clear hcell2
          by_cases hq : wy = rx
          · have h1 : ((wy : Int) != (rx : Int)) = false := by rw [hq]; simp
            have HN2 := Lib.hid (HO1.out hq)
            clear hq HO1 HY1
            go_wp2_with fail
            go_roundw
            case rel => exact ⟨y + 1, by omega, by go_num, by rw [Hid, HN2.out]; exact HG.out, HS.out⟩
            case measure => simp [intOf]; omega
          · have h1 : ((wy : Int) != (rx : Int)) = true := bne_iff_ne.2 fun q => hq (Int.ofNat.inj q)
            have HN2 := Lib.hid (HY1.out hq)
            have F := Lib.hid (knAdd_at base b n _ rx wy wr HG.out HXN HYN (Nat.le_trans HBS.out HS.out.size))
            rw [← HN2.out] at F
            clear hq HO1 HY1 HN2
            go_wp2_with fail
            refine F.out.mono ?_
            rintro e w5 ⟨rfl, hg5, hs5⟩
            have HG5 := Lib.hid hg5
            have HS5 := Lib.hid (HS.out.trans hs5)
            clear hg5 hs5 HG HS F b0
            go_wp2_with fail
            go_roundw
            case rel => exact ⟨y + 1, by omega, by go_num, HG5.out, HS5.out⟩
            case measure => simp [intOf]; omega
        · have hyn : y = ws.length := by omega
          subst hyn
          rw [HNX.out] at HG
          go_wp2_with fail
          go_roundw
          case rel => exact ⟨x + 1, by omega, by go_num, HG.out, HS.out⟩
          case measure => simp [intOf]; omega
    · have hxn : x = rs.length := by omega
      subst hxn
      go_wp2_with fail
      go_end0
      exact ⟨rfl, HG.out, HS.out⟩
end Go.Proofs.Ytahacjfeopjbaaa
