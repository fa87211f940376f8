/-
  What the reference's Ww of layer 18 answers.
  Conditions: choices that may be, of a history that may be.
-/
import Derived.Test.YtahacjfeopjbaaaChRow
import Derived.Test.YtahacjfeopjbaaaKnRef
import Derived.Test.YtahacjfeopjbaaaStAll
set_option maxRecDepth 4000
namespace Go.Proofs.Ytahacjfeopjbaaa
open Go.RowKit

namespace Ch
open Gf So
def wwTo (h : List Txn) (l : List (Int × Int × Int)) (i : Nat) : List Nat := build h.length (wwB (l.take i))
theorem wwTo_zero {h : List Txn} (hn : h.length ≤ 64) (l : List (Int × Int × Int)) : wwTo h l 0 = Gf.zeros h.length := Kn.build_none hn fun x y _ _ => by simp [wwB]
theorem wwTo_all (h : List Txn) (l : List (Int × Int × Int)) : wwTo h l l.length = wwR h l := by rw [wwTo, List.take_length]; rfl
theorem wwB_next {l : List (Int × Int × Int)} {i x y : Nat} {k : Int} (hi : i < l.length) (e : l[i] = (k, (x : Int), (y : Int))) (a b : Nat) : (wwB (l.take i) a b || (decide (a = x) && decide (b = y))) = wwB (l.take (i + 1)) a b := by
  rw [wwB, wwB, List.take_succ_eq_append_getElem hi, List.any_append, e]
  congr 1
  simp only [List.any_cons, List.any_nil, Bool.or_false]
  congr 1
  · by_cases q : a = x
    · rw [q]; simp
    · rw [decide_eq_false q, decide_eq_false (by omega)]
  · by_cases q : b = y
    · rw [q]; simp
    · rw [decide_eq_false q, decide_eq_false (by omega)]
end Ch

set_option maxHeartbeats 4000000 in
theorem rWw18_at (h : List So.Txn) (u : Value) (l : List (Int × Int × Int)) (v : Value) (w : World) (hv : Txns w u h) (hl : Tris w v l) (hr : Hi.Right h) (ho : ∀ c ∈ l, Ch.oneB h c = true) (hn : l.length ≤ 4294967296) : Calls Try.prog 18 #[.agg #[u], v] w (RetR w h.length (Ch.wwR h l)) := by
  have hn64 := Kn.len64 hr
  obtain ⟨A0, c0', rfl, -⟩ := hv.spelled
  obtain ⟨B, d, rfl, hf⟩ := hl.spelled
  have HF := Lib.hid hf
  have HZ := Lib.hid (Ch.wwTo_zero hn64 l)
  have HE := Lib.hid (Ch.wwTo_all h l)
  have HS : Hid (∀ i (hi : i < l.length), ∃ (k : Int) (x y : Nat), l[i] = (k, (x : Int), (y : Int)) ∧ x < h.length ∧ y < h.length) := fun i hi => by
    obtain ⟨a, b, e, _, h1, h2⟩ := Ch.oneB_iff.1 (ho _ (List.getElem_mem hi))
    exact ⟨_, a, b, e, Ch.wr_lt h1, Ch.wr_lt h2⟩
  have HY : Hid (∀ (i x y : Nat) (k : Int) (hi : i < l.length), l[i] = (k, (x : Int), (y : Int)) → x < h.length → y < h.length → ∀ hb : x < (Ch.wwTo h l i).length, (Ch.wwTo h l i).set x (Bi.withN (Ch.wwTo h l i)[x] (y : Int)) = Ch.wwTo h l (i + 1)) := fun i x y k hi e hx hy hb => by
    unfold Ch.wwTo at hb ⊢
    rw [Kn.build_with hn64 _ hx hy hb]
    exact Kn.build_same hn64 fun a b _ _ => Ch.wwB_next hi e a b
  have HLT : Hid (∀ i, ∀ s ∈ Ch.wwTo h l i, s < 18446744073709551616) := fun i s hs => (Gf.build_ok hn64 _).small hs
  have HLN : Hid (∀ i, (Ch.wwTo h l i).length = h.length) := fun i => Gf.build_len _ _
  have F1 := Lib.hid (fun w => rNew12_at h.length hn64 w)
  clear hv hl hf hr ho
  go_enter Try.func18, Try.ntmps18
  go_wp2_with fail
  obtain ⟨t0, t1, bw⟩ := kn_one w (.slice A0 h.length c0') rfl
  have T0 := Lib.hid t0
  have T1 := Lib.hid t1
  have BW := Lib.hid bw
  have a0 := t0.cell
  clear t0 t1 bw
  generalize (w.alloc (.cells #[.slice A0 h.length c0'] 24)).alloc (.cells #[.int .i64 0, .slice none 0 0] 30) = W at *
  go_wp2_with fail
  refine (F1.out _).mono ?_
  rintro e w1 ⟨v1, rfl, ho1, hb1⟩
  obtain ⟨A, c, rfl, hmk⟩ := Mk.start (n := h.length) T1.out.lt hb1 ho1
  have HM := Lib.hid hmk
  clear hmk ho1 hb1 a0
  rw [← HZ.out] at HM
  go_wp2_with fail
  generalize w1.alloc (.cells #[.int .i64 (h.length : Int), .slice A h.length c] 30) = w2 at *
  generalize w1.heap.size = o at *
  go_loopw [6] (fun i wr => ∃ x : Nat, x ≤ l.length ∧ i = .int .i64 x ∧ Hid (Mk W wr (w.heap.size + 1) o h.length A c (Ch.wwTo h l x))) (fun i _ => l.length - (intOf i).toNat)
  case atStart => exact ⟨0, Nat.zero_le _, rfl, HM.out⟩
  case round =>
    clear HM
    obtain ⟨i, hi, rfl, HM⟩ := hrel
    by_cases hlt : i < l.length
    · have HBQ := Lib.hid (HM.out.below BW.out (by omega))
      obtain ⟨ad, rfl, hbl, hin⟩ := HF.out i hlt
      obtain ⟨k, x, y, e, hx, hy⟩ := HS.out i hlt
      have hin2 := hin.below hbl HBQ.out
      rw [e] at hin2
      have y1 := hin2.c1
      have y2 := hin2.c2
      dsimp only at y1 y2
      have HY1 := Lib.hid (fun hb => HY.out i x y k hlt e hx hy hb)
      have hi1 : (0 : Int) ≤ (i : Int) := Int.natCast_nonneg _
      have hi2 : (i : Int) < (l.length : Int) := by omega
      have HIN : Hid (∀ W', Below w.heap.size w W' → W'.cell? ⟨(ad.add (i * 3)).block, (ad.add (i * 3)).off + 1, none⟩ = some (.int .i64 (x : Int)) ∧ W'.cell? ⟨(ad.add (i * 3)).block, (ad.add (i * 3)).off + 2, none⟩ = some (.int .i64 (y : Int))) := fun W' hb => by
        have h3 := hin.below hbl hb
        rw [e] at h3
        exact ⟨h3.c1, h3.c2⟩
      clear e hin hin2
      obtain ⟨g, hA, e2, f2, hput⟩ := HM.out.put x hx
      have hb : x < (Ch.wwTo h l i).length := by rw [HLN.out]; exact hx
      have hnx := HY1.out hb
      have F3 := Lib.hid (fun w => rWith10_at ((Ch.wwTo h l i)[x]'hb) (y : Int) w (HLT.out i _ (List.getElem_mem hb)))
      have hm4 := hput (Bi.withN ((Ch.wwTo h l i)[x]'hb) (y : Int))
      rw [hnx] at hm4
      have HM4 := Lib.hid hm4
      clear hm4 hnx hput HY1
      obtain ⟨e0, e1⟩ := HM.out.out.cells
      subst hA
      have hx1 : (0 : Int) ≤ (x : Int) := Int.natCast_nonneg _
      have hx2 : (x : Int) < (h.length : Int) := by omega
      generalize Bi.withN ((Ch.wwTo h l i)[x]'hb) (y : Int) = s' at *
      generalize (Ch.wwTo h l i)[x]'hb = s at *
      go_wp2_with fail
      have SB : Hid ((wr.setCell ⟨g, x, none⟩ (.int .u64 (s' : Int))).cell? ⟨o, 1, none⟩ = some (.slice (some ⟨g, 0, none⟩) h.length c) ∧ (wr.setCell ⟨g, x, none⟩ (.int .u64 (s' : Int))).cell? ⟨(ad.add (i * 3)).block, (ad.add (i * 3)).off + 1, none⟩ = some (.int .i64 (x : Int)) ∧ (wr.setCell ⟨g, x, none⟩ (.int .u64 (s' : Int))).cell? ⟨(ad.add (i * 3)).block, (ad.add (i * 3)).off + 2, none⟩ = some (.int .i64 (y : Int))) := ⟨HM4.out.out.cells.2, HIN.out _ (HM4.out.below BW.out (by omega))⟩
      refine wp_region_held_drew (S := fun W' => W'.cell? ⟨o, 1, none⟩ = some (.slice (some ⟨g, 0, none⟩) h.length c) ∧ W'.cell? ⟨(ad.add (i * 3)).block, (ad.add (i * 3)).off + 1, none⟩ = some (.int .i64 (x : Int)) ∧ W'.cell? ⟨(ad.add (i * 3)).block, (ad.add (i * 3)).off + 2, none⟩ = some (.int .i64 (y : Int))) (by kernel_rfl) ⟨e1, y1, y2⟩ (fun hHeld => ?_)
      refine wpAnyH_take (i := 0) (oi := ({ dst := some 17, op := Op.fieldAddr 30 (Operand.tmp 5) 1, type := 0, pos := "ref.go:44", after := #[], guard := none } : Oper)) (v := ?_) rfl (by kernel_rfl) (by kernel_rfl) (by kernel_rfl) (fun _ _ _ h => h) (Or.inl ⟨by rfl, ?_⟩) (by assumption) ?_
      rotate_left
      · intro w hSw; (try dsimp only at hSw); go_simp
        try (with_reducible rfl)
      try simp only [Act.put, List.setIfInBounds_toArray, List.set_cons_zero, List.set_cons_succ]
      refine wpAnyH_take (i := 1) (oi := ({ dst := some 18, op := Op.load 28 (Operand.tmp 17), type := 28, pos := "ref.go:44", after := #[{ on := 0, ground := Ground.data }], guard := none } : Oper)) (v := ?_) rfl (by kernel_rfl) (by kernel_rfl) (by kernel_rfl) (fun _ _ _ h => h) (Or.inl ⟨by rfl, ?_⟩) (by assumption) ?_
      rotate_left
      · intro w hSw; (try dsimp only at hSw); go_simp
        try (with_reducible rfl)
      try simp only [Act.put, List.setIfInBounds_toArray, List.set_cons_zero, List.set_cons_succ]
      refine wpAnyH_take (i := 2) (oi := ({ dst := some 19, op := Op.move (Operand.tmp 1), type := 25, pos := "ref.go:44", after := #[], guard := none } : Oper)) (v := ?_) rfl (by kernel_rfl) (by kernel_rfl) (by kernel_rfl) (fun _ _ _ h => h) (Or.inl ⟨by rfl, ?_⟩) (by assumption) ?_
      rotate_left
      · intro w hSw; (try dsimp only at hSw); go_simp
        try (with_reducible rfl)
      try simp only [Act.put, List.setIfInBounds_toArray, List.set_cons_zero, List.set_cons_succ]
      refine wpAnyH_take (i := 3) (oi := ({ dst := some 20, op := Op.move (Operand.tmp 6), type := 3, pos := "ref.go:44", after := #[], guard := none } : Oper)) (v := ?_) rfl (by kernel_rfl) (by kernel_rfl) (by kernel_rfl) (fun _ _ _ h => h) (Or.inl ⟨by rfl, ?_⟩) (by assumption) ?_
      rotate_left
      · intro w hSw; (try dsimp only at hSw); go_simp
        try (with_reducible rfl)
      try simp only [Act.put, List.setIfInBounds_toArray, List.set_cons_zero, List.set_cons_succ]
      refine wpAnyH_take (i := 4) (oi := ({ dst := some 21, op := Op.indexAddr 25 (Operand.tmp 19) (Operand.tmp 20), type := 0, pos := "ref.go:44", after := #[{ on := 2, ground := Ground.data }, { on := 3, ground := Ground.data }], guard := none } : Oper)) (v := ?_) rfl (by kernel_rfl) (by kernel_rfl) (by kernel_rfl) (fun _ _ _ h => h) (Or.inl ⟨by rfl, ?_⟩) (by assumption) ?_
      rotate_left
      · intro w hSw; (try dsimp only at hSw); go_simp
        try (with_reducible rfl)
      try simp only [Act.put, List.setIfInBounds_toArray, List.set_cons_zero, List.set_cons_succ]
      refine wpAnyH_take (i := 5) (oi := ({ dst := some 22, op := Op.fieldAddr 38 (Operand.tmp 21) 1, type := 0, pos := "ref.go:44", after := #[{ on := 4, ground := Ground.data }], guard := none } : Oper)) (v := ?_) rfl (by kernel_rfl) (by kernel_rfl) (by kernel_rfl) (fun _ _ _ h => h) (Or.inl ⟨by rfl, ?_⟩) (by assumption) ?_
      rotate_left
      · intro w hSw; (try dsimp only at hSw); go_simp
        try (with_reducible rfl)
      try simp only [Act.put, List.setIfInBounds_toArray, List.set_cons_zero, List.set_cons_succ]
      refine wpAnyH_take (i := 6) (oi := ({ dst := some 23, op := Op.load 3 (Operand.tmp 22), type := 3, pos := "ref.go:44", after := #[{ on := 5, ground := Ground.data }], guard := none } : Oper)) (v := ?_) rfl (by kernel_rfl) (by kernel_rfl) (by kernel_rfl) (fun _ _ _ h => h) (Or.inl ⟨by rfl, ?_⟩) (by assumption) ?_
      rotate_left
      · intro w hSw; (try dsimp only at hSw); go_simp
        try (with_reducible rfl)
      try simp only [Act.put, List.setIfInBounds_toArray, List.set_cons_zero, List.set_cons_succ]
      refine wpAnyH_take (i := 7) (oi := ({ dst := some 24, op := Op.fieldAddr 30 (Operand.tmp 5) 1, type := 0, pos := "ref.go:44", after := #[], guard := none } : Oper)) (v := ?_) rfl (by kernel_rfl) (by kernel_rfl) (by kernel_rfl) (fun _ _ _ h => h) (Or.inl ⟨by rfl, ?_⟩) (by assumption) ?_
      rotate_left
      · intro w hSw; (try dsimp only at hSw); go_simp
        try (with_reducible rfl)
      try simp only [Act.put, List.setIfInBounds_toArray, List.set_cons_zero, List.set_cons_succ]
      refine wpAnyH_take (i := 8) (oi := ({ dst := some 25, op := Op.load 28 (Operand.tmp 24), type := 28, pos := "ref.go:44", after := #[{ on := 7, ground := Ground.data }], guard := none } : Oper)) (v := ?_) rfl (by kernel_rfl) (by kernel_rfl) (by kernel_rfl) (fun _ _ _ h => h) (Or.inl ⟨by rfl, ?_⟩) (by assumption) ?_
      rotate_left
      · intro w hSw; (try dsimp only at hSw); go_simp
        try (with_reducible rfl)
      try simp only [Act.put, List.setIfInBounds_toArray, List.set_cons_zero, List.set_cons_succ]
      refine wpAnyH_take (i := 9) (oi := ({ dst := some 26, op := Op.move (Operand.tmp 1), type := 25, pos := "ref.go:44", after := #[], guard := none } : Oper)) (v := ?_) rfl (by kernel_rfl) (by kernel_rfl) (by kernel_rfl) (fun _ _ _ h => h) (Or.inl ⟨by rfl, ?_⟩) (by assumption) ?_
      rotate_left
      · intro w hSw; (try dsimp only at hSw); go_simp
        try (with_reducible rfl)
      try simp only [Act.put, List.setIfInBounds_toArray, List.set_cons_zero, List.set_cons_succ]
      refine wpAnyH_take (i := 10) (oi := ({ dst := some 27, op := Op.move (Operand.tmp 6), type := 3, pos := "ref.go:44", after := #[], guard := none } : Oper)) (v := ?_) rfl (by kernel_rfl) (by kernel_rfl) (by kernel_rfl) (fun _ _ _ h => h) (Or.inl ⟨by rfl, ?_⟩) (by assumption) ?_
      rotate_left
      · intro w hSw; (try dsimp only at hSw); go_simp
        try (with_reducible rfl)
      try simp only [Act.put, List.setIfInBounds_toArray, List.set_cons_zero, List.set_cons_succ]
      refine wpAnyH_take (i := 11) (oi := ({ dst := some 28, op := Op.indexAddr 25 (Operand.tmp 26) (Operand.tmp 27), type := 0, pos := "ref.go:44", after := #[{ on := 9, ground := Ground.data }, { on := 10, ground := Ground.data }], guard := none } : Oper)) (v := ?_) rfl (by kernel_rfl) (by kernel_rfl) (by kernel_rfl) (fun _ _ _ h => h) (Or.inl ⟨by rfl, ?_⟩) (by assumption) ?_
      rotate_left
      · intro w hSw; (try dsimp only at hSw); go_simp
        try (with_reducible rfl)
      try simp only [Act.put, List.setIfInBounds_toArray, List.set_cons_zero, List.set_cons_succ]
      refine wpAnyH_take (i := 12) (oi := ({ dst := some 29, op := Op.fieldAddr 38 (Operand.tmp 28) 1, type := 0, pos := "ref.go:44", after := #[{ on := 11, ground := Ground.data }], guard := none } : Oper)) (v := ?_) rfl (by kernel_rfl) (by kernel_rfl) (by kernel_rfl) (fun _ _ _ h => h) (Or.inl ⟨by rfl, ?_⟩) (by assumption) ?_
      rotate_left
      · intro w hSw; (try dsimp only at hSw); go_simp
        try (with_reducible rfl)
      try simp only [Act.put, List.setIfInBounds_toArray, List.set_cons_zero, List.set_cons_succ]
      refine wpAnyH_take (i := 13) (oi := ({ dst := some 30, op := Op.load 3 (Operand.tmp 29), type := 3, pos := "ref.go:44", after := #[{ on := 12, ground := Ground.data }], guard := none } : Oper)) (v := ?_) rfl (by kernel_rfl) (by kernel_rfl) (by kernel_rfl) (fun _ _ _ h => h) (Or.inl ⟨by rfl, ?_⟩) (by assumption) ?_
      rotate_left
      · intro w hSw; (try dsimp only at hSw); go_simp
        try (with_reducible rfl)
      try simp only [Act.put, List.setIfInBounds_toArray, List.set_cons_zero, List.set_cons_succ]
      refine wpAnyH_take (i := 14) (oi := ({ dst := some 31, op := Op.indexAddr 28 (Operand.tmp 25) (Operand.tmp 30), type := 0, pos := "ref.go:44", after := #[{ on := 8, ground := Ground.data }, { on := 13, ground := Ground.data }], guard := none } : Oper)) (v := ?_) rfl (by kernel_rfl) (by kernel_rfl) (by kernel_rfl) (fun _ _ _ h => h) (Or.inl ⟨by rfl, ?_⟩) (by assumption) ?_
      rotate_left
      · intro w hSw; (try dsimp only at hSw); go_simp
        try (with_reducible rfl)
      try simp only [Act.put, List.setIfInBounds_toArray, List.set_cons_zero, List.set_cons_succ]
      refine wpAnyH_take (i := 16) (oi := ({ dst := some 33, op := Op.move (Operand.tmp 1), type := 25, pos := "ref.go:44", after := #[], guard := none } : Oper)) (v := ?_) rfl (by kernel_rfl) (by kernel_rfl) (by kernel_rfl) (fun _ _ _ h => h) (Or.inl ⟨by rfl, ?_⟩) (by assumption) ?_
      rotate_left
      · intro w hSw; (try dsimp only at hSw); go_simp
        try (with_reducible rfl)
      try simp only [Act.put, List.setIfInBounds_toArray, List.set_cons_zero, List.set_cons_succ]
      refine wpAnyH_take (i := 17) (oi := ({ dst := some 34, op := Op.move (Operand.tmp 6), type := 3, pos := "ref.go:44", after := #[], guard := none } : Oper)) (v := ?_) rfl (by kernel_rfl) (by kernel_rfl) (by kernel_rfl) (fun _ _ _ h => h) (Or.inl ⟨by rfl, ?_⟩) (by assumption) ?_
      rotate_left
      · intro w hSw; (try dsimp only at hSw); go_simp
        try (with_reducible rfl)
      try simp only [Act.put, List.setIfInBounds_toArray, List.set_cons_zero, List.set_cons_succ]
      refine wpAnyH_take (i := 18) (oi := ({ dst := some 35, op := Op.indexAddr 25 (Operand.tmp 33) (Operand.tmp 34), type := 0, pos := "ref.go:44", after := #[{ on := 16, ground := Ground.data }, { on := 17, ground := Ground.data }], guard := none } : Oper)) (v := ?_) rfl (by kernel_rfl) (by kernel_rfl) (by kernel_rfl) (fun _ _ _ h => h) (Or.inl ⟨by rfl, ?_⟩) (by assumption) ?_
      rotate_left
      · intro w hSw; (try dsimp only at hSw); go_simp
        try (with_reducible rfl)
      try simp only [Act.put, List.setIfInBounds_toArray, List.set_cons_zero, List.set_cons_succ]
      refine wpAnyH_take (i := 19) (oi := ({ dst := some 36, op := Op.fieldAddr 38 (Operand.tmp 35) 2, type := 0, pos := "ref.go:44", after := #[{ on := 18, ground := Ground.data }], guard := none } : Oper)) (v := ?_) rfl (by kernel_rfl) (by kernel_rfl) (by kernel_rfl) (fun _ _ _ h => h) (Or.inl ⟨by rfl, ?_⟩) (by assumption) ?_
      rotate_left
      · intro w hSw; (try dsimp only at hSw); go_simp
        try (with_reducible rfl)
      try simp only [Act.put, List.setIfInBounds_toArray, List.set_cons_zero, List.set_cons_succ]
      refine wpAnyH_take (i := 20) (oi := ({ dst := some 37, op := Op.load 3 (Operand.tmp 36), type := 3, pos := "ref.go:44", after := #[{ on := 19, ground := Ground.data }], guard := none } : Oper)) (v := ?_) rfl (by kernel_rfl) (by kernel_rfl) (by kernel_rfl) (fun _ _ _ h => h) (Or.inl ⟨by rfl, ?_⟩) (by assumption) ?_
      rotate_left
      · intro w hSw; (try dsimp only at hSw); go_simp
        try (with_reducible rfl)
      try simp only [Act.put, List.setIfInBounds_toArray, List.set_cons_zero, List.set_cons_succ]
      refine wpAnyH_ready (rs := [15]) (by kernel_rfl) (by simp) ?_
      refine AllReadyH.cons (o := ({ dst := some 32, op := Op.load 58 (Operand.tmp 31), type := 58, pos := "ref.go:44", after := #[{ on := 14, ground := Ground.data }], guard := none } : Oper)) rfl (fun K hK => ?_) AllReadyH.nil
      go_simp
      refine hK.out _ _ hHeld (fun hHeld => ?_)
      clear hK K
      try simp only [Act.put, List.setIfInBounds_toArray, List.set_cons_zero, List.set_cons_succ]
      refine wpAnyH_ready (rs := [21]) (by kernel_rfl) (by simp) ?_
      refine AllReadyH.cons (o := ({ dst := some 38, op := Op.call { callee := Callee.value (Operand.func 45), args := #[Operand.tmp 32, Operand.tmp 37], argTypes := #[58, 3] }, type := 58, pos := "ref.go:44", after := #[{ on := 15, ground := Ground.data }, { on := 20, ground := Ground.data }], guard := none } : Oper)) rfl (fun K hK => ?_) AllReadyH.nil
      go_simp
      refine (F3.out _).mono ?_
      rintro e w5 ⟨rfl, rfl⟩
      dsimp only
      refine hK.out _ _ hHeld (fun hHeld => ?_)
      clear hK K
      try simp only [Act.put, List.setIfInBounds_toArray, List.set_cons_zero, List.set_cons_succ]
      refine wpAnyH_take (i := 22) (oi := ({ dst := some 39, op := Op.indexAddr 28 (Operand.tmp 18) (Operand.tmp 23), type := 0, pos := "ref.go:44", after := #[{ on := 1, ground := Ground.data }, { on := 6, ground := Ground.data }, { on := 0, ground := Ground.phase }, { on := 1, ground := Ground.phase }, { on := 2, ground := Ground.phase }, { on := 3, ground := Ground.phase }, { on := 4, ground := Ground.phase }, { on := 5, ground := Ground.phase }, { on := 6, ground := Ground.phase }, { on := 7, ground := Ground.phase }, { on := 8, ground := Ground.phase }, { on := 9, ground := Ground.phase }, { on := 10, ground := Ground.phase }, { on := 11, ground := Ground.phase }, { on := 12, ground := Ground.phase }, { on := 13, ground := Ground.phase }, { on := 14, ground := Ground.phase }, { on := 15, ground := Ground.phase }, { on := 16, ground := Ground.phase }, { on := 17, ground := Ground.phase }, { on := 18, ground := Ground.phase }, { on := 19, ground := Ground.phase }, { on := 20, ground := Ground.phase }, { on := 21, ground := Ground.phase }], guard := none } : Oper)) (v := ?_) rfl (by kernel_rfl) (by kernel_rfl) (by kernel_rfl) (fun _ _ _ h => h) (Or.inl ⟨by rfl, ?_⟩) (by assumption) ?_
      rotate_left
      · intro w hSw; (try dsimp only at hSw); go_simp
        try (with_reducible rfl)
      try simp only [Act.put, List.setIfInBounds_toArray, List.set_cons_zero, List.set_cons_succ]
      refine wpAnyH_ready (rs := [23]) (by kernel_rfl) (by simp) ?_
      refine AllReadyH.cons (o := ({ dst := none, op := Op.store 58 (Operand.tmp 39) (Operand.tmp 38), type := 0, pos := "ref.go:44", after := #[{ on := 22, ground := Ground.data }, { on := 21, ground := Ground.data }, { on := 21, ground := Ground.chain }, { on := 0, ground := Ground.phase }, { on := 1, ground := Ground.phase }, { on := 2, ground := Ground.phase }, { on := 3, ground := Ground.phase }, { on := 4, ground := Ground.phase }, { on := 5, ground := Ground.phase }, { on := 6, ground := Ground.phase }, { on := 7, ground := Ground.phase }, { on := 8, ground := Ground.phase }, { on := 9, ground := Ground.phase }, { on := 10, ground := Ground.phase }, { on := 11, ground := Ground.phase }, { on := 12, ground := Ground.phase }, { on := 13, ground := Ground.phase }, { on := 14, ground := Ground.phase }, { on := 15, ground := Ground.phase }, { on := 16, ground := Ground.phase }, { on := 17, ground := Ground.phase }, { on := 18, ground := Ground.phase }, { on := 19, ground := Ground.phase }, { on := 20, ground := Ground.phase }, { on := 21, ground := Ground.phase }], guard := none } : Oper)) rfl (fun K hK => ?_) AllReadyH.nil
      go_simp
      refine hK.out _ _ SB.out (fun hHeld => ?_)
      clear hK K
      try simp only [Act.put, List.setIfInBounds_toArray, List.set_cons_zero, List.set_cons_succ]
      refine wpAnyH_done (by kernel_rfl) ?_ _
      clear e0 e1 e2 f2 y1 y2
      go_wp2_with fail
      go_roundw
      case rel => exact ⟨i + 1, by omega, by go_num, HM4.out.later (Below.refl _ _).drew⟩
      case measure => simp [intOf]; omega
    · have hxn : i = l.length := by omega
      subst hxn
      obtain ⟨e0, e1⟩ := HM.out.out.cells
      have TR := Lib.hid (two_at T1.out HM.out.low (by omega))
      obtain ⟨r0, r1⟩ := TR.out.cells
      have f0 := TR.out.frozen 0
      have f1 := TR.out.frozen 1
      rw [HE.out] at HM
      go_wp2_with fail
      exact end_r (p := 4) rfl TR.out HM.out.own (by omega) (HM.out.below BW.out (by omega)) (Nat.le_succ _) _ rfl
end Go.Proofs.Ytahacjfeopjbaaa
