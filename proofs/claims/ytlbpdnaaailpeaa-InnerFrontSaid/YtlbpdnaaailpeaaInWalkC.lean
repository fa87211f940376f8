/-
  What inner.Look answers, for every transaction: In.lookR of its ops; what was in memory stays as it was.
  Conditions: a row has at most 2^32 elements.
-/
import Derived.Test.YtlbpdnaaailpeaaInLook
import Derived.Test.YtlbpdnaaailpeaaInWalkB
import Derived.Laws.ResultCell
import Derived.StillTailTactics
namespace Go.Proofs.Ytlbpdnaaailpeaa
open Go.RowKit

theorem store_memory {P : Program} (a : Addr) (b : Nat) (w : World) : (store a (readF b)).run P w = stored P w a (readF b) .plain ∧ (store a (writeF b)).run P w = stored P w a (writeF b) .plain ∧ (store a (tellF b)).run P w = stored P w a (tellF b) .plain :=
  ⟨run_store P w a _ .plain rfl, run_store P w a _ .plain rfl, run_store P w a _ .plain rfl⟩
theorem results_face (X : World) (b : Nat) (tmps : Array Value) (x y : Value) (n q : Int) (hp : tmps.getD 2 undef = .pointer (some ⟨b, 0, none⟩)) (hn : tmps.getD 3 undef = .int .i64 n) (hq : tmps.getD 4 undef = .int .i64 q)
    (h0 : X.cell? ⟨b, 0, none⟩ = some x) (h1 : X.cell? ⟨b, 1, none⟩ = some y) : (results Try.f8 tmps).run Try.prog X = .ok (.tuple #[.agg #[x, y], .int .i64 n, .int .i64 q]) X := by
  rw [Array.getD_eq_getD_getElem?] at hp hn hq
  simp [results, Try.results8, hp, hn, hq, asAddr, go_sem, h0, h1]
/-- The call's end: what lies in the result variable, a place and an error. -/
theorem end_face {w X : World} {r : (List (Int × Int) × List (Int × Int)) × Int × Int} {rs ws : List (Int × Int)} {n q : Int} (hr : r = ((rs, ws), n, q)) (tmps : Array Value) (b : Nat) (x y : Value) (h0 : X.cell? ⟨b, 0, none⟩ = some x) (h1 : X.cell? ⟨b, 1, none⟩ = some y)
    (hx : Its X x rs) (hy : Its X y ws) (hb : Below w.heap.size w X) (hp : tmps.getD 2 undef = .pointer (some ⟨b, 0, none⟩)) (hn : tmps.getD 3 undef = .int .i64 n) (hq : tmps.getD 4 undef = .int .i64 q) :
    bodyPost Try.prog Try.f8 (RetFace w r) Exit.ret { tmps := tmps, defers := [] } X := by
  refine bodyPost_ret (results_face X b tmps x y n q hp hn hq h0 h1) rfl ?_
  subst hr
  exact ⟨x, y, rfl, hx, hy, hb⟩
/-- The same, where an op is wrong: the result variable is written anew with two empty rows. -/
theorem end_look {w W : World} {r : (List (Int × Int) × List (Int × Int)) × Int × Int} {n q : Int} (hres : W.heap[w.heap.size + 1]? = some (.cells #[.slice none 0 0, .slice none 0 0] 28 (0, 0))) (hb : Below w.heap.size w W) (hr : r = (([], []), n, q)) (tmps : Array Value) (hp : tmps.getD 2 undef = .pointer (some ⟨w.heap.size + 1, 0, none⟩)) (hn : tmps.getD 3 undef = .int .i64 n) (hq : tmps.getD 4 undef = .int .i64 q) :
    bodyPost Try.prog Try.f8 (RetFace w r) Exit.ret { tmps := tmps, defers := [] } ((W.setCell ⟨w.heap.size + 1, 0, none⟩ (.slice none 0 0)).setCell ⟨w.heap.size + 1, 1, none⟩ (.slice none 0 0)) := by
  have hc := (two_set (two_set hres (.slice none 0 0)).1 (.slice none 0 0)).2
  obtain ⟨e0, e1, _⟩ := two_cells hc
  exact end_face hr tmps _ _ _ e0 e1 (Its.nil _ _) (Its.nil _ _) ((hb.setCell (by show w.heap.size ≤ w.heap.size + 1; omega) _).setCell (by show w.heap.size ≤ w.heap.size + 1; omega) _) hp hn hq
/-- What a call that touches key n's memory alone leaves of the result variable. -/
theorem save_res {w W W' : World} {s d f u : Value} {p : List Ev.Event} {n : Nat} (h : LookAt w W s d f u p) (hs : Save (w.heap.size + 3 + 6 * n) (w.heap.size + 3 + 6 * n + 6) W W') : W'.heap[w.heap.size + 1]? = some (.cells #[.slice none 0 0, .slice none 0 0] 28 (0, 0)) ∧ Below w.heap.size w W' := by
  have := h.lt
  exact ⟨(hs.block _ (by omega) (by omega)).trans h.res, h.below.trans (hs.below (by omega) (by omega))⟩
/-- The face, as far as it is filled, behind what was in memory. -/
def FaceIs (wr wx : World) (rs ws : List (Int × Int)) : Prop := ∃ u v, FaceAt 28 48 wx wr.heap.size rs ws u v ∧ Below wr.heap.size wr wx
set_option maxHeartbeats 1000000 in
theorem look_at (l : List Ev.Event) (s f : Int) (d : Bool) (u : Value) (w : World) (hu : Evs w u l) (hl : l.length ≤ 4294967296) : Calls Try.prog 8 #[.agg #[.int .i64 s, .bool d, .int .i64 f, u]] w (RetFace w (In.lookR l)) := by
  obtain ⟨A, c, rfl, hform⟩ := hu.spelled
  have HU := Lib.hid hu
  have HF := Lib.hid hform
  clear hform hu
  have m1 := fun a b w => (store_memory (P := Try.prog) a b w).1
  have m2 := fun a b w => (store_memory (P := Try.prog) a b w).2.1
  have m3 := fun a b w => (store_memory (P := Try.prog) a b w).2.2
  go_enter Try.func8, Try.ntmps8
  go_wp2_with fail
  go_loopw [13] (fun i wr => ∃ k : Nat, k ≤ 16 ∧ i = .int .i64 k ∧ MakeAt w wr (.int .i64 s) (.bool d) (.int .i64 f) (.slice A l.length c) k) (fun i _ => 16 - (intOf i).toNat)
  case atStart =>
    exact ⟨0, Nat.zero_le _, rfl, make_start w _ _ _ _ _ rfl⟩
  case round =>
    obtain ⟨k, hk, rfl, hat⟩ := hrel
    have HA := Lib.hid hat
    clear hat
    by_cases hlt : k < 16
    · go_wp2_with fail
      refine (newMemory_at _ _).mono ?_
      rintro e w1 ⟨rfl, hm, hs, hb⟩
      obtain ⟨⟨e0, e1, e2⟩, f0, f1, f2⟩ := HA.out.room hlt hb
      have HN := Lib.hid (HA.out.more hlt hm hs hb)
      clear hm hs hb
      unfold memV memC
      go_wp2_with fail
      go_roundw
      case rel => exact ⟨k + 1, by omega, by go_num, HN.out⟩
      case measure => simp [intOf]; omega
    · obtain rfl : k = 16 := by omega
      rw [show ((16 : Nat) : Int) = 16 from rfl]
      have HL := Lib.hid HA.out.done
      have hlt2 := HL.out.lt
      have b3 : wr.cell? ⟨w.heap.size, 3, none⟩ = some (.slice A l.length c) := by simp [World.cell?, HL.out.box]
      clear HA
      go_wp2_with fail
      go_loopw [24] (fun i wr => ∃ k : Nat, k ≤ l.length ∧ i = .int .i64 k ∧ Hid (∀ j, j < k → In.errAt l j = 0) ∧ LookAt w wr (.int .i64 s) (.bool d) (.int .i64 f) (.slice A l.length c) (l.take k)) (fun i _ => l.length - (intOf i).toNat)
      case atStart => exact ⟨0, Nat.zero_le _, rfl, fun j hj => absurd hj (by omega), HL.out⟩
      case round =>
        clear HL hlt2 b3 hlt hk
        obtain ⟨k, hk, rfl, hno, hat⟩ := hrel
        have HL := Lib.hid hat
        clear hat
        have hlt2 := HL.out.lt
        by_cases hlt : k < l.length
        · obtain ⟨ad, rfl, hblk, hE⟩ := HF.out k hlt
          obtain ⟨x, hx⟩ : ∃ x, x = l[k]'hlt := ⟨_, rfl⟩
          rw [← hx] at hE
          obtain ⟨hc0, hc1, hc2, hc3⟩ := hE.below hblk HL.out.below
          have HX := Lib.hid hx
          clear hE hx
          go_wp2_with fail
          refine (isOp_at x _).mono ?_
          rintro e w1 ⟨rfl, hb1⟩
          have e0 : w1.cell? ⟨wr.heap.size, 0, none⟩ = some (.int .i64 x.kind) := (hb1.cell (by simp)).trans (new_cell wr _ _ 0 _ rfl)
          have e2 : w1.cell? ⟨wr.heap.size, 2, none⟩ = some (.int .i64 x.key) := (hb1.cell (by simp)).trans (new_cell wr _ _ 2 _ rfl)
          have e3 : w1.cell? ⟨wr.heap.size, 3, none⟩ = some (.int .i64 x.value) := (hb1.cell (by simp)).trans (new_cell wr _ _ 3 _ rfl)
          have HL1 := Lib.hid (HL.out.later (below_new hb1))
          clear hb1 HL hc0 hc1 hc2 hc3
          cases hop : isOpB x with
          | false =>
            obtain ⟨r0, r1, r2⟩ := two_cells HL1.out.res
            have g0 := r2 0
            have g1 := r2 1
            clear r2
            have HR : Hid (In.lookR l = (([], []), (k : Int), 1)) := In.look_arg l k hlt hno.out (by rw [← HX.out]; exact hop)
            go_wp2_with fail
            exact end_look HL1.out.res HL1.out.below HR.out _ rfl rfl rfl
          | true =>
            obtain ⟨n, hn16, hkey⟩ := In.key_small x hop
            rw [hkey] at e2
            have HKY := Lib.hid hkey
            have HOP := Lib.hid hop
            have hn0 : (0 : Int) ≤ (n : Int) := by omega
            have hn1 : (n : Int) < 16 := by omega
            have HT : Hid (l.take (k + 1) = l.take k ++ [x]) := by rw [Hid, HX.out]; exact List.take_succ_eq_append_getElem hlt
            clear hkey hop
            by_cases hk2 : x.kind = 2
            · have q2 : (x.kind == 2) = true := beq_iff_eq.2 hk2
              have HK2 := Lib.hid hk2
              have HE : Hid (In.errAt l k = 0) := In.at_write l k hlt (by rw [← HX.out]; exact HOP.out) (by rw [← HX.out]; exact hk2)
              clear hk2
              have g1 : w1.cell? ⟨w.heap.size + 1 + 1, n * 3 + 1, none⟩ = some (.func (.func 23) #[] #[.pointer (some ⟨w.heap.size + 3 + 6 * n + 3, 0, none⟩), .pointer (some ⟨w.heap.size + 3 + 6 * n + 5, 0, none⟩)]) := (HL1.out.closures n hn16).2
              go_wp2_with fail
              go_still_tail 7, (by kernel_rfl)
              change wpList _ _ _ _ _ w1.drew
              have HL2 := Lib.hid (HL1.out.later ((Below.refl _ w1).drew))
              clear HL1 g1 e0 e2 e3
              generalize w1.drew = w2 at HL2 ⊢
              go_wp2_with (go_at_call 23; refine (write_at _ _ _ _ _ _ (HL2.out.mem n hn16)).mono ?_; rintro e w3 ⟨rfl, hm3, hs3⟩; have HM3 := Lib.hid hm3; have HS3 := Lib.hid hs3; clear hm3 hs3)
              go_roundw
              case rel =>
                refine ⟨k + 1, by omega, by go_num, In.next_ok l k hno.out HE.out, ?_⟩
                rw [HT.out]
                exact HL2.out.op x n hn16 HKY.out HS3.out HM3.out (In.fr_write _ x HK2.out n) (In.last_write _ x HK2.out n HKY.out)
              case measure => simp [intOf]; omega
            · have q2 : (x.kind == 2) = false := beq_eq_false_iff_ne.2 hk2
              obtain ⟨he1, he2, he3⟩ := In.at_read l k hlt hno.out (by rw [← HX.out]; exact HOP.out) (by rw [← HX.out]; exact hk2) n (by rw [← HX.out]; exact HKY.out)
              rw [← HX.out] at he1 he2 he3
              have HE1 := Lib.hid he1
              have HE2 := Lib.hid he2
              have HE3 := Lib.hid he3
              clear he1 he2 he3 hk2
              have g0 : w1.cell? ⟨w.heap.size + 1 + 1, n * 3, none⟩ = some (.func (.func 20) #[] #[.pointer (some ⟨w.heap.size + 3 + 6 * n + 3, 0, none⟩), .pointer (some ⟨w.heap.size + 3 + 6 * n + 5, 0, none⟩), .pointer (some ⟨w.heap.size + 3 + 6 * n + 2, 0, none⟩), .pointer (some ⟨w.heap.size + 3 + 6 * n + 4, 0, none⟩), .pointer (some ⟨w.heap.size + 3 + 6 * n, 0, none⟩)]) := (HL1.out.closures n hn16).1
              have b3 : w1.cell? ⟨w.heap.size, 3, none⟩ = some (.slice (some ad) l.length c) := by simp [World.cell?, HL1.out.box]
              have hw1 : IntKind.i64.wrap ((k : Int) + 1) = (k : Int) + 1 := IntWalk.i64_in _ (by omega)
              obtain ⟨A2, c2, hsl, hev⟩ := slice_tail l (some ad) c k hlt
              have HV := Lib.hid hev
              clear hev
              go_wp2_with fail
              go_still_tail 12, (by kernel_rfl)
              change wpList _ _ _ _ _ w1.drew
              have HL2 := Lib.hid (HL1.out.later ((Below.refl _ w1).drew))
              have HU2 := Lib.hid (HV.out _ (HU.out.below HL2.out.below))
              clear HL1 g0 b3 hsl hw1 e0 e2 e3 HV
              generalize w1.drew = w2 at HL2 HU2 ⊢
              have hl2 : (l.drop (k + 1)).length ≤ 4294967296 := by rw [List.length_drop]; omega
              by_cases hq : In.errAt l k = 0
              · have HQ := Lib.hid hq
                clear hq
                go_wp2_with (go_at_call 20; refine (read_at _ _ _ _ _ (l.drop (k + 1)) _ _ (HL2.out.mem n hn16) HU2.out hl2).mono ?_; rintro e w3 ⟨rfl, hm3, hs3⟩; have HM3 := Lib.hid hm3; have HS3 := Lib.hid hs3; clear hm3 hs3; rw [← HE1.out, HQ.out])
                go_roundw
                case rel =>
                  refine ⟨k + 1, by omega, by go_num, In.next_ok l k hno.out HQ.out, ?_⟩
                  rw [HT.out]
                  exact HL2.out.op x n hn16 HKY.out HS3.out HM3.out (HE2.out HQ.out) (In.last_read _ x HE3.out n)
                case measure => simp [intOf]; omega
              · have hqb : (In.errAt l k != 0) = true := by rw [bne_iff_ne]; exact hq
                have HR := Lib.hid (In.look_bad l k hno.out hq)
                clear hq
                go_wp2_with (go_at_call 20; refine (read_at _ _ _ _ _ (l.drop (k + 1)) _ _ (HL2.out.mem n hn16) HU2.out hl2).mono ?_; rintro e w3 ⟨rfl, hm3, hs3⟩; have HS3 := Lib.hid (save_res HL2.out hs3); clear hm3 hs3; obtain ⟨r0, r1, r2⟩ := two_cells HS3.out.1; have t0 := r2 0; have t1 := r2 1; clear r2; rw [← HE1.out])
                exact end_look HS3.out.1 HS3.out.2 HR.out _ rfl rfl rfl
        · have HR := Lib.hid (In.all_ok l k (by omega) hno.out)
          have HTK : Hid (l.take k = l) := List.take_of_length_le (by omega)
          have HLE := HL.out
          rw [HTK.out] at HLE
          have HL0 := Lib.hid HLE
          clear HLE HL hno HTK
          have HRW := Lib.hid (HL0.out.later (alloc_below wr (.cells #[.slice none 0 0, .slice none 0 0] 28))).row
          have HIX := Lib.hid (index_row (w.heap.size + 3))
          have HFS := Lib.hid (face_start 28 48 wr)
          have HSZ := Lib.hid (row_size (w.heap.size + 3))
          go_wp2_with (refine wpList_load_row rfl 54 (.tmp 5) rfl (w.heap.size + 1 + 1) rfl 54 (rowC (w.heap.size + 3) 16).toArray (0, 0) _ HRW.out Try.underlying54 rfl HSZ.out ?_; generalize Value.agg (rowC (w.heap.size + 3) 16).toArray = V at HIX ⊢)
          clear HRW HSZ hlt
          obtain ⟨w0, rfl⟩ : ∃ w0, w0 = wr := ⟨_, rfl⟩
          go_loopw [65] (fun i wx => ∃ k : Nat, k ≤ 16 ∧ i = .int .i64 k ∧ FaceIs w0 wx (In.readsTo l k) (In.writesTo l k)) (fun i _ => 16 - (intOf i).toNat)
          case atStart => exact ⟨0, Nat.zero_le _, rfl, _, _, HFS.out, (Below.refl _ _).alloc (Nat.le_refl _) _⟩
          case round =>
            clear HFS
            obtain ⟨k, hk, rfl, u, v, hF, hB⟩ := hrel
            by_cases hlt : k < 16
            · have hix : ∀ W, (Instr.index 54 V (.int .i64 (k : Int))).run Try.prog W = .ok (.agg #[readF (w.heap.size + 3 + 6 * k), writeF (w.heap.size + 3 + 6 * k), .func (.func 24) #[] #[.pointer (some ⟨w.heap.size + 3 + 6 * k + 2, 0, none⟩), .pointer (some ⟨w.heap.size + 3 + 6 * k, 0, none⟩), .pointer (some ⟨w.heap.size + 3 + 6 * k + 4, 0, none⟩), .pointer (some ⟨w.heap.size + 3 + 6 * k + 3, 0, none⟩), .pointer (some ⟨w.heap.size + 3 + 6 * k + 5, 0, none⟩)]]) W := HIX.out k hlt
              have hsf := @store_func Try.prog
              have HM0 := Lib.hid (HL0.out.mem k hlt)
              have HF1 := Lib.hid (fun o => hF.below (alloc_below wr o))
              have HB1 := Lib.hid (fun o => hB.alloc hB.size (o := o))
              clear hF hB
              go_wp2_with fail
              have hM := HM0.out.below (HB1.out (.cells #[readF (w.heap.size + 3 + 6 * k), writeF (w.heap.size + 3 + 6 * k), .func (.func 24) #[] #[.pointer (some ⟨w.heap.size + 3 + 6 * k + 2, 0, none⟩), .pointer (some ⟨w.heap.size + 3 + 6 * k, 0, none⟩), .pointer (some ⟨w.heap.size + 3 + 6 * k + 4, 0, none⟩), .pointer (some ⟨w.heap.size + 3 + 6 * k + 3, 0, none⟩), .pointer (some ⟨w.heap.size + 3 + 6 * k + 5, 0, none⟩)]] 53)) (by have := HM0.out.lt; omega)
              refine (tell_at _ _ _ _ _ _ _ _ _ _ hM (HF1.out _) (by have := HM0.out.lt; omega) (by have := In.reads_len l k; omega) (by have := In.writes_len l k; omega)).mono ?_
              rintro e w3 ⟨rfl, ⟨u', v', hf3⟩, hb3⟩
              have HF3 := Lib.hid hf3
              have HB3 := Lib.hid ((HB1.out _).trans hb3)
              clear hM hf3 hb3 HF1 HB1 HM0 hix
              go_wp2_with fail
              go_roundw
              case rel =>
                refine ⟨k + 1, by omega, by go_num, u', v', ?_, HB3.out⟩
                rw [In.readsTo_succ, In.writesTo_succ, In.rd_told, In.wr_told]
                exact HF3.out
              case measure => simp [intOf]; omega
            · obtain rfl : k = 16 := by omega
              have HF3 := Lib.hid hF
              have HB3 := Lib.hid hB
              obtain ⟨d0, d1, _⟩ := two_cells hF.cell
              have hlt3 := HL0.out.lt
              have HRS : Hid (wr.heap[w.heap.size + 1]? = some (.cells #[.slice none 0 0, .slice none 0 0] 28 (0, 0))) := (hB.block _ (by omega)).trans HL0.out.res
              obtain ⟨r0, r1, r2⟩ := two_cells HRS.out
              have t0 := r2 0
              have t1 := r2 1
              clear r2 hF hB
              obtain ⟨A3, c3, rfl⟩ := own_form HF3.out.reads
              obtain ⟨A4, c4, rfl⟩ := own_form HF3.out.writes
              go_wp2_with fail
              obtain ⟨e0, e1, _⟩ := two_cells (two_set (two_set HRS.out (.slice A3 (In.readsTo l 16).length c3)).1 (.slice A4 (In.writesTo l 16).length c4)).2
              have hlo : w.heap.size + 1 < w0.heap.size + 1 := by omega
              exact end_face HR.out _ _ _ _ e0 e1 (Rows'.own (ownsRow_setCell_below (ownsRow_setCell_below HF3.out.reads hlo _) hlo _)) (Rows'.own (ownsRow_setCell_below (ownsRow_setCell_below HF3.out.writes hlo _) hlo _))
                (((below_all HL0.out.below HB3.out).setCell (by show w.heap.size ≤ w.heap.size + 1; omega) _).setCell (by show w.heap.size ≤ w.heap.size + 1; omega) _) rfl rfl rfl
end Go.Proofs.Ytlbpdnaaailpeaa
