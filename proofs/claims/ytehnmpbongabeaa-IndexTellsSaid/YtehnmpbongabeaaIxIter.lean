/-
  What index's iterator over all reads of a history hands out, one by one: the number of the transaction that reads, and the read.
  Conditions: a history has at most 2^32 transactions, each with at most 2^32 reads.
-/
import Derived.Test.YtehnmpbongabeaaIxReads
import Derived.Test.YtehnmpbongabeaaIxMem
import Derived.Test.YtehnmpbongabeaaHiAll
set_option maxRecDepth 4000
namespace Go.Proofs.Ytehnmpbongabeaa
open Go.RowKit

attribute [local go_sem] Oper.semAt_some

/-- The function value that is made of gf and lb hands out the reads l, to whatever keeps what lies below block m. -/
def HandsReads (gf : Nat) (lb : Array Value) (m : Nat) (l : List (Nat × Int × Int)) (w : World) : Prop :=
  SeqStopsK Fence.wide 2 Try.prog gf lb (fun x : Nat × Int × Int => #[.int .i64 (x.1 : Int), .agg #[.int .i64 x.2.1, .int .i64 x.2.2]]) (Below m) (fun ys => ys = l) (fun pre => pre <+: l) l.length w

set_option maxHeartbeats 1000000 in
theorem reads_hands (h : List So.Txn) (v : Value) (B : Nat) (w0 w : World) (hv : Txns w0 v h) (hb : Below w0.heap.size w0 w) (hl : h.length ≤ 4294967296) (ho : ∀ t ∈ h, t.reads.length ≤ 4294967296) (hB : B < w.heap.size) (hc : w.cell? ⟨B, 0, none⟩ = some v) :
    HandsReads 29 #[.pointer (some ⟨B, 0, none⟩)] w0.heap.size (Ix.all h) w := by
  intro lo J Jx W hW hJ _ hY h0
  have hc' := (hW.cell (p := ⟨B, 0, none⟩) hB).trans hc
  obtain ⟨A, c, rfl, hform⟩ := hv.spelled
  have HF := Lib.hid hform
  have HY := Lib.hid hY
  have HW := Lib.hid (hb.trans (hW.mono hb.size))
  have HA := Lib.hid hJ
  have HO := Lib.hid ho
  clear hform hv hY hW hc hJ ho hb
  show CallsIn Fence.wide 2 Try.prog 29 #[.func (.yield lo) #[] #[], .pointer (some ⟨B, 0, none⟩)] W _
  refine callsIn_of_wp Try.func29 rfl trivial ?_ rfl
  simp only [Try.ntmps29, List.size_toArray, List.length_cons, List.length_nil, Nat.reduceAdd, Nat.reduceSub, Array.replicate_succ, Array.replicate_zero, List.push_toArray, List.append_toArray, List.nil_append, List.cons_append]
  gi_wp2_with fail
  gi_loopw [10] (fun i wr => ∃ k : Nat, k ≤ h.length ∧ i = .int .i64 k ∧ Hid (J (Ix.readsTo h k) wr) ∧ Hid (Below w0.heap.size w0 wr)) (fun i _ => h.length - (intOf i).toNat)
  case atStart => exact ⟨0, Nat.zero_le _, rfl, h0, HW.out⟩
  case round =>
    obtain ⟨k, hk, rfl, HJ, HB⟩ := hrel
    by_cases hlt : k < h.length
    · obtain ⟨ad, x, y, rfl, hblk, hE, hx, hy⟩ := HF.out k hlt
      obtain ⟨e0, e1, e2⟩ := hE.below hblk HB.out
      have HN := Lib.hid (fun j hj => Ix.part_next h k j hlt hj)
      have HL := Lib.hid (fun j hj => Ix.part_less h k j hlt hj)
      have HP := Lib.hid (fun j => Ix.part_front h k j hlt)
      have HE := Lib.hid (fun j hj => Ix.part_whole h k j hlt hj)
      have hol := HO.out _ (List.getElem_mem hlt)
      generalize h[k] = t at *
      obtain ⟨s, ws, rs⟩ := t
      dsimp only at e0 hol hx hy HN HL HE
      obtain ⟨A1, c1, rfl, _⟩ := hx.spelled
      obtain ⟨A2, c2, rfl, hform2⟩ := hy.spelled
      have HF2 := Lib.hid hform2
      have HJ1 : Hid (J (Ix.readsTo h k ++ (Ix.readsOf h k).take 0) (wr.alloc (.cells #[.int .i64 s, .slice A1 ws.length c1, .slice A2 rs.length c2] 44))) := by
        rw [Hid, List.take_zero, List.append_nil]
        exact HA.out _ _ _ none HJ.out (World.grownBy_alloc wr _ none) none_row
      have HB1 := Lib.hid (HB.out.alloc HB.out.size (.cells #[.int .i64 s, .slice A1 ws.length c1, .slice A2 rs.length c2] 44))
      clear hE hx hy hform2 HJ
      gi_wp2_with fail
      generalize wr.alloc (.cells #[.int .i64 s, .slice A1 ws.length c1, .slice A2 rs.length c2] 44) = w1 at *
      gi_loopw [18] (fun i wq => ∃ j : Nat, j ≤ rs.length ∧ i = .int .i64 j ∧ Hid (J (Ix.readsTo h k ++ (Ix.readsOf h k).take j) wq) ∧ Hid (Below w0.heap.size w0 wq)) (fun i _ => rs.length - (intOf i).toNat)
      case atStart => exact ⟨0, Nat.zero_le _, rfl, HJ1, HB1⟩
      case round =>
        obtain ⟨j, hj, rfl, HJ2, HB2⟩ := hrel
        by_cases hlj : j < rs.length
        · obtain ⟨ad2, rfl, hblk2, hE2⟩ := HF2.out j hlj
          have HN2 := Lib.hid (HN.out j hlj)
          have HL2 := Lib.hid (HL.out j hlj)
          obtain ⟨d0, d1⟩ := hE2.below hblk2 HB2.out
          generalize rs[j] = y at *
          obtain ⟨a, b⟩ := y
          dsimp only at d0 d1
          have HJ3 := Lib.hid (HA.out _ _ _ none HJ2.out (World.grownBy_alloc wr (.cells #[.int .i64 a, .int .i64 b] 46) none) none_row)
          have HB3 := Lib.hid (HB2.out.alloc HB2.out.size (.cells #[.int .i64 a, .int .i64 b] 46))
          obtain ⟨fn, tmps, assign, body, hy, hR⟩ := HY.out _ (k, a, b) _ HJ3.out HL2.out
          have HR := Lib.hid hR
          clear hR hE2
          dsimp only at hy
          gi_wp2_with fail
          refine HR.out.mono ?_
          rintro e W3 (⟨rfl, hJ4, hk4⟩ | ⟨rfl, hJx4⟩)
          · have HJ4 : Hid (J (Ix.readsTo h k ++ (Ix.readsOf h k).take (j + 1)) W3) := by rw [Hid, HN2.out]; exact hJ4
            have HB4 := Lib.hid (HB3.out.trans hk4)
            clear hJ4 hk4 hy
            gi_wp2_with fail
            go_roundw
            case rel => exact ⟨j + 1, by omega, by go_num, HJ4, HB4⟩
            case measure => simp [intOf]; omega
          · have HX : Hid (Jx (Ix.readsTo h k ++ (Ix.readsOf h k).take (j + 1)) W3) := by rw [Hid, HN2.out]; exact hJx4
            clear hJx4 hy
            gi_wp2_with fail
            refine bodyPost_ret (results_none rfl _ _ _) rfl ?_
            exact ⟨⟨_, rfl⟩, .inr ⟨_, HP.out (j + 1), HX.out⟩⟩
        · have HJ5 : Hid (J (Ix.readsTo h (k + 1)) wr) := by rw [Hid, ← HE.out j (by omega)]; exact HJ2.out
          gi_wp2_with fail
          go_roundw
          case rel => exact ⟨k + 1, by omega, by go_num, HJ5, HB2⟩
          case measure => simp [intOf]; omega
    · obtain rfl : k = h.length := by omega
      gi_wp2_with fail
      go_end0
      exact ⟨⟨_, rfl⟩, .inl ⟨_, rfl, HJ.out⟩⟩

theorem ixReads_at (A : Option Addr) (n c : Nat) (w : World) : Calls Try.prog 23 #[.agg #[.slice A n c]] w fun e w' => e = .returned (.func (.func 29) #[] #[.pointer (some ⟨w.heap.size, 0, none⟩)]) ∧ w' = w.alloc (.cells #[.slice A n c] 24) := by
  have hmf : ∀ (fn : Fn) (first cap : Array Value) (w : World), (Instr.makeFunc fn first cap).run Try.prog w = .ok (.func fn first cap) w := fun _ _ _ _ => rfl
  go_enter Try.func23, Try.ntmps23
  go_wp2_with fail
  go_ret
  exact ⟨rfl, rfl⟩
end Go.Proofs.Ytehnmpbongabeaa
