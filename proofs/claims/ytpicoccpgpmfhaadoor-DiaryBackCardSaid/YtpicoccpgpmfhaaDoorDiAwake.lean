/-
  The laws' live example of layer 4 holds: awake answers true; what was in memory stays as it was.
  Conditions: the variable that lists the kinds' words holds them.
-/
import Derived.Test.YtpicoccpgpmfhaaDoorDiWalkC
import Derived.Test.YtpicoccpgpmfhaaDoorDiWalkD
import Derived.Test.YtpicoccpgpmfhaaDoorDiRefB
namespace Go.Proofs.YtpicoccpgpmfhaaDoor
open Go.RowKit

/-- The document's example: 'begin 1', 'commit 1'; and with 'begin 9' behind it. -/
def exT : List UInt8 := [98, 101, 103, 105, 110, 32, 49, 10, 99, 111, 109, 109, 105, 116, 32, 49, 10]
def exU : List UInt8 := [98, 101, 103, 105, 110, 32, 49, 10, 99, 111, 109, 109, 105, 116, 32, 49, 10, 98, 101, 103, 105, 110, 32, 57, 10]
def exE : List Ev.Event := [⟨0, 1, 0, 0⟩, ⟨3, 1, 0, 0⟩]
theorem di_ex : Di.parseR exT = (exE, 0, 0) := by decide
theorem di_ex2 : Di.parseR exU = ([], 3, 4) := by decide
theorem di_ex3 : Di.showR exE = (exT, 0) := by
  have h := Di.parse_own exT (by rw [di_ex])
  rw [di_ex] at h
  exact h

/-- A literal of events. -/
theorem lit_evs (w : World) (e : TypeId) (l : List Ev.Event) (hl : l.length ≤ maxLen) : Evs (w.alloc (.cells (l.flatMap evCells).toArray e)) (.slice (some ⟨w.heap.size, 0, none⟩) l.length l.length) l := by
  have h := World.ownsRow_lit (base := 0) (e := e) (size := 4) w (l.flatMap evCells).toArray l.length (Nat.zero_le _) hl (by rw [List.size_toArray, evCells_len])
  exact Evs.own h

set_option maxHeartbeats 1000000 in
theorem diAwake_at (w : World) (hK : KW w) : Calls Tryd.prog 7 #[] w (RetBool w true) := by
  have K0 := Lib.hid hK
  clear hK
  go_enter Tryd.func7, Tryd.ntmps7
  go_wp2_with fail
  refine (diParse_at exT w (by decide) K0.out).mono ?_
  rintro e w1 ⟨v1, rfl, hs1, hb1⟩
  rw [di_ex] at hs1 ⊢
  have K1 := Lib.hid (K0.out.below hb1)
  have B1 := Lib.hid hb1
  have S1 := Lib.hid hs1
  clear hb1 hs1
  go_wp2_with fail
  refine (diParse_at exU w1 (by decide) K1.out).mono ?_
  rintro e w2 ⟨v2, rfl, hs2, hb2⟩
  rw [di_ex2] at hs2 ⊢
  have K2 := Lib.hid (K1.out.below hb2)
  have B2 := Lib.hid (below_all B1.out hb2)
  have S2 := Lib.hid (S1.out.below hb2)
  clear hb2 hs2
  go_wp2_with fail
  refine (diShow_at exE v1 w2 S2.out K2.out).mono ?_
  rintro e w3 ⟨rfl, hb3⟩
  rw [di_ex3]
  have B3 := Lib.hid (below_all B2.out hb3)
  have S3 := Lib.hid (S2.out.below hb3)
  clear hb3
  have L4 := Lib.hid (lit_evs w3 35 exE (by decide))
  have S4 := Lib.hid (S3.out.below (alloc_below w3 (.cells (exE.flatMap evCells).toArray 35)))
  have hjx : (Ln.bs exT).toList = exT := by rw [Lib.toList_data, Ln.bs_data]
  go_wp2_with fail
  refine (rEvSame_at exE exE v1 _ _ S4.out L4.out (by decide) (by decide)).mono ?_
  rintro e w5 ⟨rfl, hb5⟩
  rw [decide_eq_true rfl]
  have B5 := Lib.hid (below_all B3.out (below_new hb5))
  clear hb5
  unfold exT at hjx ⊢
  go_wp2_with fail
  go_ret
  exact ⟨rfl, B5.out⟩
end Go.Proofs.YtpicoccpgpmfhaaDoor
