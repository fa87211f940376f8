/-
  The law TopoHas: there is an order just if no way leads back; what is told is one.
  Conditions: rows hold sets below 2^64; the library's table for the lowest bit holds what its text says.
-/
import Derived.Test.YtpmimmaaeaifhaaDoorToAwake
import Derived.Test.YtpmimmaaeaifhaaDoorRcAll
set_option maxRecDepth 4000
namespace Go.Proofs.YtpmimmaaeaifhaaDoor
open Go.RowKit
set_option maxHeartbeats 8000000 in
theorem lawTopoHas (n : Int) (u : Value) (l : List Nat) (w : World) (hT : TZ w) (hu : Us w u l) (hs : ∀ x ∈ l, x < 18446744073709551616) : Calls Tryd.prog 3 #[.agg #[.int .i64 n, u]] w (RetBool w true) := by
  have HU := Lib.hid hu
  have HS := Lib.hid hs
  have HT := Lib.hid hT
  obtain ⟨A, c, rfl, -⟩ := hu.spelled
  have T_g := Lib.hid (Two.new w 24 (.int .i64 n) (.slice A l.length c))
  have BW := Lib.hid (alloc_below w (.cells #[.int .i64 n, .slice A l.length c] 24))
  clear hu hs hT
  go_enter Tryd.func3, Tryd.ntmps3
  go_wp2_with fail
  generalize w.alloc (.cells #[.int .i64 n, .slice A l.length c] 24) = W0 at *
  go_wp2_with fail
  refine (toAwake_at _).mono ?_
  rintro e W1 ⟨rfl, hb⟩
  have S1 := Lib.hid hb
  clear hb
  obtain ⟨g0, g1⟩ := (T_g.out.later S1.out).cells
  by_cases h70 : 70 < l.length
  ·
    go_wp2_with fail
    go_ret
    exact ⟨rfl, (below_all BW.out S1.out)⟩
  have FO := Lib.hid (fun w h1 => toOrder_at n (.slice A l.length c) l w h1 HS.out)
  have FR := Lib.hid (fun w h => gfRight_at n (.slice A l.length c) l w h HS.out)
  have FC := Lib.hid (fun w h0 h1 => rcCyclic_at n (.slice A l.length c) l w h0 h1 HS.out)
  cases hp : Gf.okB n l with
  | false =>
    rw [To.orderA_no hp] at FO
    rw [hp] at FR
    clear hp
    go_wp2_with fail
    refine (FO.out _ (HU.out.below (below_all BW.out S1.out))).mono ?_
    rintro e W2 ⟨v1, rfl, hn1, hb⟩
    have S2 := Lib.hid hb
    clear hb
    clear g0 g1
    obtain ⟨A1, c1, rfl, -⟩ := hn1.spelled
    dsimp only [Bi.nums, List.map, List.length_nil, Option.isSome, Option.getD]
    clear hn1
    obtain ⟨g0, g1⟩ := (T_g.out.later (below_all S1.out S2.out)).cells
    go_wp2_with fail
    refine (FR.out _ (HU.out.below (below_all BW.out (below_all S1.out S2.out)))).mono ?_
    rintro e W3 ⟨rfl, hb⟩
    have S3 := Lib.hid hb
    clear hb
    clear g0 g1
    go_wp2_with fail
    go_ret
    exact ⟨rfl, (below_all BW.out (below_all (below_all S1.out S2.out) S3.out))⟩
  | true =>
    obtain ⟨k, hnk, hok⟩ := Gf.okB_iff.1 hp
    subst hnk
    rw [To.orderA_yes hok] at FO
    rw [hp] at FR
    have hca : Rc.cyclicA (k : Int) l = Rc.cyclicR k l := by rw [Rc.cyclicA, hp, Int.toNat_natCast]; rfl
    rw [hca] at FC
    have HOK := Lib.hid hok
    have h64 := hok.1
    clear hca hp
    cases hcy : Rc.cyclicR k l with
    | true =>
      have hon : To.orderR k l = none := by
        have := To.order_not (n := (k : Int)) (g := l) (by rw [Int.toNat_natCast, hcy, Bool.not_true, Bool.and_false])
        rw [To.orderA_yes hok] at this
        exact this
      rw [hon] at FO
      rw [hcy] at FC
      clear hon hcy hok
      go_wp2_with fail
      refine (FO.out _ (HU.out.below (below_all BW.out S1.out))).mono ?_
      rintro e W2 ⟨v1, rfl, hn1, hb⟩
      have S2 := Lib.hid hb
      clear hb
      clear g0 g1
      obtain ⟨A1, c1, rfl, -⟩ := hn1.spelled
      dsimp only [Bi.nums, List.map, List.length_nil, Option.isSome, Option.getD]
      clear hn1
      obtain ⟨g0, g1⟩ := (T_g.out.later (below_all S1.out S2.out)).cells
      go_wp2_with fail
      refine (FR.out _ (HU.out.below (below_all BW.out (below_all S1.out S2.out)))).mono ?_
      rintro e W3 ⟨rfl, hb⟩
      have S3 := Lib.hid hb
      clear hb
      clear g0 g1
      obtain ⟨g0, g1⟩ := (T_g.out.later (below_all (below_all S1.out S2.out) S3.out)).cells
      go_wp2_with fail
      refine (FC.out _ (HT.out.below (below_all BW.out (below_all (below_all S1.out S2.out) S3.out))) (HU.out.below (below_all BW.out (below_all (below_all S1.out S2.out) S3.out)))).mono ?_
      rintro e W4 ⟨rfl, hb⟩
      have S4 := Lib.hid hb
      clear hb
      clear g0 g1
      go_wp2_with fail
      go_ret
      exact ⟨rfl, (below_all BW.out (below_all (below_all (below_all S1.out S2.out) S3.out) S4.out))⟩
    | false =>
      obtain ⟨lo, hlo, hord⟩ := To.order_has hok hcy
      have HIA := Lib.hid (To.IsA.of hok hord)
      have HLO := Lib.hid hord.len
      rw [hlo] at FO
      rw [hcy] at FC
      clear hlo hcy hord hok
      go_wp2_with fail
      refine (FO.out _ (HU.out.below (below_all BW.out S1.out))).mono ?_
      rintro e W2 ⟨v1, rfl, hn1, hb⟩
      have S2 := Lib.hid hb
      clear hb
      clear g0 g1
      obtain ⟨A1, c1, rfl, -⟩ := (show Ns _ _ (Bi.nums lo) from hn1).spelled
      have N1 := Lib.hid (show Ns _ _ (Bi.nums lo) from hn1)
      dsimp only [Option.isSome, Option.getD]
      clear hn1
      obtain ⟨g0, g1⟩ := (T_g.out.later (below_all S1.out S2.out)).cells
      go_wp2_with fail
      refine (FR.out _ (HU.out.below (below_all BW.out (below_all S1.out S2.out)))).mono ?_
      rintro e W3 ⟨rfl, hb⟩
      have S3 := Lib.hid hb
      clear hb
      clear g0 g1
      obtain ⟨g0, g1⟩ := (T_g.out.later (below_all (below_all S1.out S2.out) S3.out)).cells
      go_wp2_with fail
      refine (FC.out _ (HT.out.below (below_all BW.out (below_all (below_all S1.out S2.out) S3.out))) (HU.out.below (below_all BW.out (below_all (below_all S1.out S2.out) S3.out)))).mono ?_
      rintro e W4 ⟨rfl, hb⟩
      have S4 := Lib.hid hb
      clear hb
      clear g0 g1
      obtain ⟨g0, g1⟩ := (T_g.out.later (below_all (below_all (below_all S1.out S2.out) S3.out) S4.out)).cells
      go_wp2_with fail
      refine (toIs_at k (.slice A l.length c) l (Bi.nums lo) _ _ (HU.out.below (below_all BW.out (below_all (below_all (below_all S1.out S2.out) S3.out) S4.out))) HS.out (N1.out.below (below_all S3.out S4.out)) (by rw [Bi.nums_len, HLO.out]; omega)).mono ?_
      rintro e W5 ⟨b, rfl, hi, hb⟩
      have S5 := Lib.hid hb
      clear hb
      clear g0 g1
      obtain rfl : b = true := hi.2 HIA.out
      clear hi
      go_wp2_with fail
      go_ret
      exact ⟨rfl, (below_all BW.out (below_all (below_all (below_all (below_all S1.out S2.out) S3.out) S4.out) S5.out))⟩
end Go.Proofs.YtpmimmaaeaifhaaDoor
