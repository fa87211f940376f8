/-
  What the closure that tells a key's memory does to the face: a read more, if the key was read first, and a write more, if it was written.
  Conditions: a row has at most 2^32 elements.
-/
import Derived.Test.YtlbpdnaaailpeaaInWalkA
import Derived.Deep.RegionLaw
import Derived.BigRegion
import Derived.Deep.DeepCutAuto
namespace Go.Proofs.Ytlbpdnaaailpeaa
open Go.RowKit

theorem item_info : (Try.prog.info? 48).map (fun i => (i.zero, i.size, i.bytes)) = some (some (.agg #[.int .i64 0, .int .i64 0]), 2, 16) := by kernel_rfl
def told (key : Int) (r : Option Int) : List (Int × Int) := (r.map fun x => (key, x)).toList
/-- What the closure leaves. -/
def Telling (w : World) (F : Nat) (rs ws : List (Int × Int)) (key : Int) (r v : Option Int) (e : Ending) (w' : World) : Prop :=
  e = .returned (.tuple #[]) ∧ (∃ u' v', FaceAt 28 48 w' F (rs ++ told key r) (ws ++ told key v) u' v') ∧ Below F w w'
/-- A cell behind the laying of a block, and behind an append. -/
theorem cell_new {w : World} {a : Addr} {u : Value} (h : w.cell? a = some u) (o : Obj) : (w.alloc o).cell? a = some u := ((alloc_below w o).cell (World.block_lt_of_cell? w a h)).trans h

/-- What is wanted ahead of the region that appends an item to the row in cell j of the face. -/
theorem tell_ready {tf te : TypeId} {w : World} {F : Nat} {rs ws : List (Int × Int)} {x y : Value} (h : FaceAt tf te w F rs ws x y) (o : Obj) : FaceAt tf te ((w.alloc o).drewN 1) F rs ws x y ∧ Below F w ((w.alloc o).drewN 1) ∧
    (∀ w2, ((w.alloc o).drewN 1).grownBy w2 x.ownBlock → w2.cell? ⟨F, 0, none⟩ = some x ∧ w2.frozen? ⟨F, 0, none⟩ = false) ∧ (∀ w2, ((w.alloc o).drewN 1).grownBy w2 y.ownBlock → w2.cell? ⟨F, 1, none⟩ = some y ∧ w2.frozen? ⟨F, 1, none⟩ = false) := by
  have h1 := h.below (alloc_below w o)
  have h2 : FaceAt tf te ((w.alloc o).drewN 1) F rs ws x y := ⟨h1.cell, own_drewN h1.reads 1, own_drewN h1.writes 1, h1.apart⟩
  refine ⟨h2, below_drewN ((Below.refl F w).alloc (Nat.le_of_lt h.lt) o) 1, fun w2 hg => ?_, fun w2 hg => ?_⟩
  · obtain ⟨e0, _, e2⟩ := two_cells ((hg.block F h2.lt (fun e => own_above h2.reads e.symm)).trans h2.cell)
    exact ⟨e0, e2 0⟩
  · obtain ⟨_, e1, e2⟩ := two_cells ((hg.block F h2.lt (fun e => own_above h2.writes e.symm)).trans h2.cell)
    exact ⟨e1, e2 1⟩

/-- What the face is behind the first test. -/
def TellMid (w : World) (F : Nat) (rs ws : List (Int × Int)) (key : Int) (r : Option Int) (wx : World) : Prop := ∃ u v, FaceAt 28 48 wx F (rs ++ told key r) ws u v ∧ Below F w wx
set_option maxHeartbeats 2000000 in
theorem tell_at (b F : Nat) (key : Int) (r v : Option Int) (rs ws : List (Int × Int)) (x y : Value) (w : World) (h : MemAt w b key r v) (hF : FaceAt 28 48 w F rs ws x y) (hb : b + 6 ≤ F) (hr : rs.length ≤ 4294967296) (hw : ws.length ≤ 4294967296) :
    Calls Try.prog 24 #[.pointer (some ⟨F, 0, none⟩), .pointer (some ⟨b + 2, 0, none⟩), .pointer (some ⟨b, 0, none⟩), .pointer (some ⟨b + 4, 0, none⟩), .pointer (some ⟨b + 3, 0, none⟩), .pointer (some ⟨b + 5, 0, none⟩)] w (Telling w F rs ws key r v) := by
  obtain ⟨i0, hi0, hz0, hz1, hz2⟩ := info_parts item_info
  have I0 := Lib.hid hi0
  have I1 := Lib.hid hz0
  have I2 := Lib.hid hz1
  have I3 := Lib.hid hz2
  clear hi0 hz0 hz1 hz2
  have c0 := cell_of_one h.key
  have c2 := cell_of_one h.isRead
  have c4 := cell_of_one h.firstRead
  have H := Lib.hid h
  have HF := Lib.hid hF
  obtain ⟨A, c, rfl⟩ := own_form hF.reads
  obtain ⟨A', c', rfl⟩ := own_form hF.writes
  obtain ⟨d0, _, _⟩ := two_cells hF.cell
  have HS := Lib.hid hF.lt
  clear h hF
  go_enter Try.func24, Try.ntmps24
  go_upto_if 7 with fail
  go_cut [] (fun wx => TellMid w F rs ws key r wx)
  case first =>
    cases r with
    | none =>
      dsimp only [Option.isSome_none, Option.getD_none] at c2 c4
      go_wp2_with fail
      go_meet
      exact ⟨_, _, by simpa [told] using HF.out, Below.refl _ _⟩
    | some p =>
      dsimp only [Option.isSome_some, Option.getD_some] at c2 c4
      have HFA := Lib.hid (tell_ready HF.out (.cells #[.int .i64 key, .int .i64 p] 48))
      have d2 := cell_new d0 (.cells #[.int .i64 key, .int .i64 p] 48)
      have HN := Lib.hid (new_row w (itC (key, p)) 48)
      go_wp2_with fail
      go_region_law (refine step_append_lies _ rfl (.tmp 12) (.tmp 16) 26 rfl (F + 1) 48 i0 _ 2 16 Try.underlying26 I0.out I1.out I2.out I3.out rfl (by decide) (.slice A rs.length c) rs.length (rs.flatMap itC) (by simp [Act.eval]) HFA.out.1.reads ⟨w.heap.size, 0, none⟩ 1 1 (itC (key, p)) (by simp [Act.eval]) rfl HN.out (one_its _) (by decide) (by simp only [maxLen]; omega) (by omega) (by have := HS.out; simp; omega) (w.heap.size + 1) (by simp) ?_; intro g2 cap2 w2 hown2 hgrow2 hat2 hlt2; obtain ⟨e3, f3⟩ := HFA.out.2.2.1 w2 hgrow2; have HO2 := Lib.hid hown2; have HG2 := Lib.hid hgrow2; have HA2 := Lib.hid hat2; clear hown2 hgrow2 hat2 hlt2)
      all_goals
        go_wp2_with fail
        go_meet
        obtain ⟨h1, h2⟩ := HFA.out.1.addRead (key, p) HO2.out HG2.out (HA2.out.imp id (fun e => by rw [e]; simp [World.drewN]))
        exact ⟨_, _, by simpa [told] using h1, HFA.out.2.1.trans h2⟩
  case rest =>
    clear c0 c2 c4 d0 HF HS
    obtain ⟨u', v', h1, h2⟩ := hcut
    have hM := H.out.below h2 hb
    have HB3 := Lib.hid h2
    have c0 := cell_of_one hM.key
    have c3 := cell_of_one hM.isWritten
    have c5 := cell_of_one hM.lastWritten
    have HF := Lib.hid h1
    obtain ⟨A, c, rfl⟩ := own_form h1.reads
    obtain ⟨A', c', rfl⟩ := own_form h1.writes
    obtain ⟨_, d1, _⟩ := two_cells h1.cell
    have HS3 := Lib.hid h1.lt
    clear h1 hM h2 H
    cases v with
    | none =>
      dsimp only [Option.isSome_none, Option.getD_none] at c3 c5
      go_wp2_with fail
      go_end0
      exact ⟨rfl, ⟨_, _, by simpa [told] using HF.out⟩, HB3.out⟩
    | some q =>
      dsimp only [Option.isSome_some, Option.getD_some] at c3 c5
      have HFA := Lib.hid (tell_ready HF.out (.cells #[.int .i64 key, .int .i64 q] 48))
      have d2 := cell_new d1 (.cells #[.int .i64 key, .int .i64 q] 48)
      have HN := Lib.hid (new_row wc (itC (key, q)) 48)
      go_wp2_with fail
      go_region_law (refine step_append_lies _ rfl (.tmp 25) (.tmp 29) 26 rfl (F + 1) 48 i0 _ 2 16 Try.underlying26 I0.out I1.out I2.out I3.out rfl (by decide) (.slice A' ws.length c') ws.length (ws.flatMap itC) (by simp [Act.eval]) HFA.out.1.writes ⟨wc.heap.size, 0, none⟩ 1 1 (itC (key, q)) (by simp [Act.eval]) rfl HN.out (one_its _) (by decide) (by simp only [maxLen]; omega) (by omega) (by have := HS3.out; simp; omega) (wc.heap.size + 1) (by simp) ?_; intro g3 cap3 w4 hown2 hgrow2 hat2 hlt2; obtain ⟨e3, f3⟩ := HFA.out.2.2.2 w4 hgrow2; have HO2 := Lib.hid hown2; have HG2 := Lib.hid hgrow2; have HA2 := Lib.hid hat2; clear hown2 hgrow2 hat2 hlt2)
      all_goals
        go_wp2_with fail
        go_end0
        obtain ⟨h1, h2⟩ := HFA.out.1.addWrite (key, q) HO2.out HG2.out (HA2.out.imp id (fun e => by rw [e]; simp [World.drewN]))
        exact ⟨rfl, ⟨_, _, by simpa [told] using h1⟩, HB3.out.trans (HFA.out.2.1.trans h2)⟩
end Go.Proofs.Ytlbpdnaaailpeaa
