/-
  A search that begins, in memory, and one edge more of a node.
  Conditions: none beyond those that each theorem states.
-/
import Derived.Test.YtgapcjgmmlffmaaDoorScStep
import Derived.Deep.RegionHeld3
set_option maxRecDepth 4000
namespace Go.Proofs.YtgapcjgmmlffmaaDoor
open Go.RowKit

theorem sc_makeI (w : World) (n : Nat) (hn : n ≤ 64) : (Instr.makeSlice 26 (.int .i64 (n : Int)) (.int .i64 (n : Int))).run Tryd.prog w = .ok (.slice (some ⟨w.heap.size, 0, none⟩) n n) (w.alloc (.cells (madeCells #[.int .i64 0] n) 3)) := by
  obtain ⟨i, hi, hz, hs, hb⟩ := info_parts sci_info
  have := run_make (P := Tryd.prog) w 26 3 i _ Tryd.underlying26 hi hz .i64 .i64 (n : Int) (n : Int) (by omega) (Int.le_refl _) (by rw [hb]; omega) (by omega)
  rw [hs, Int.toNat_natCast, Nat.mul_one] at this
  exact this
theorem sc_makeR (w : World) (n : Nat) (hn : n ≤ 64) : (Instr.makeSlice 41 (.int .i64 (n : Int)) (.int .i64 (n : Int))).run Tryd.prog w = .ok (.slice (some ⟨w.heap.size, 0, none⟩) n n) (w.alloc (.cells (madeCells #[.slice none 0 0] n) 26)) := by
  obtain ⟨i, hi, hz, hs, hb⟩ := info_parts scr_info
  have := run_make (P := Tryd.prog) w 41 26 i _ Tryd.underlying41 hi hz .i64 .i64 (n : Int) (n : Int) (by omega) (Int.le_refl _) (by rw [hb]; omega) (by omega)
  rw [hs, Int.toNat_natCast, Nat.mul_one] at this
  exact this
theorem held_cell {w W w3 : World} {p : Addr} {u : Value} (h : W.cell? p = some u ∧ Hid (Below w.heap.size w W)) (hb : Below W.heap.size W w3) : w3.cell? p = some u ∧ Hid (Below w.heap.size w w3) := ⟨st_stays hb h.1, below_all h.2.out hb⟩
theorem FunRow.later {W W' : World} {g n : Nat} {f : Nat → Nat} (h : FunRow W g n f) (hb : Below W.heap.size W W') : FunRow W' g n f := (hb.block g h.lt).trans h
theorem FunRow.made' {W : World} {n g : Nat} (hg : g = W.heap.size) : FunRow (W.alloc (.cells (madeCells #[.int .i64 0] n) 3)) g n fun _ => 0 := by
  rw [hg]
  exact FunRow.made W n
/-- A row of n empty rows that fills block g. -/
def EmptyRows (W : World) (g n : Nat) : Prop := W.heap[g]? = some (.cells (madeCells #[.slice none 0 0] n) 26 (0, 0))
theorem EmptyRows.later {W W' : World} {g n : Nat} (h : EmptyRows W g n) (hb : Below W.heap.size W W') : EmptyRows W' g n := (hb.block g (Array.getElem?_eq_some_iff.1 h).1).trans h
theorem EmptyRows.made {W : World} {n g : Nat} (hg : g = W.heap.size) : EmptyRows (W.alloc (.cells (madeCells #[.slice none 0 0] n) 26)) g n := by
  rw [hg]
  exact World.alloc_heap_new W _
theorem heap_apart {X : World} {a b : Nat} {c c' : Array Value} {e e' : TypeId} (h : X.heap[a]? = some (.cells c e (0, 0))) (h' : X.heap[b]? = some (.cells c' e' (0, 0))) (hne : e ≠ e') : a ≠ b := fun q => by
  subst q
  rw [h] at h'
  cases h'
  exact hne rfl
theorem Stk.block {α : Type} {t e : TypeId} {n : Nat} {f : α → List Value} {B : Nat} {most : Int} {r : Option Nat} {l : List α} {W : World} (h : Stk t e n f B most r l W) : ∃ c, W.heap[B]? = some (.cells c t (0, 0)) := by
  obtain ⟨v, _, hb, _⟩ := h.ex
  exact ⟨_, hb⟩
/-- A search that begins. -/
theorem Wlk.begin {base n rk lw B1 B2 g : Nat} {X : World} (hr : FunRow X rk n fun _ => 0) (hl : FunRow X lw n fun _ => 0) (hw : Stk 91 67 2 itC B1 (n : Nat) none [] X) (ho : Stk 106 3 1 nC B2 (n : Nat) none [] X)
    (he : EmptyRows X g n) (hn : n ≤ 64) (hne : rk ≠ lw) (h1 : base ≤ rk) (h2 : base ≤ lw) (h3 : base ≤ B1) (h4 : base ≤ B2) (h5 : base ≤ g) :
    Wlk base (X.alloc (.cells #[.slice (some ⟨g, 0, none⟩) n n, .slice (some ⟨rk, 0, none⟩) n n, .slice (some ⟨lw, 0, none⟩) n n, .pointer (some ⟨B1, 0, none⟩), .pointer (some ⟨B2, 0, none⟩), .int .i64 0, .slice none 0 0] 57))
      ⟨X.heap.size, rk, lw, B1, B2, none, none, .slice (some ⟨g, 0, none⟩) n n, .slice none 0 0, (List.range n).map (fun _ => ([], .slice none 0 0)), []⟩ n (fun _ => []) Sc.Wk.start [] := by
  have hb := alloc_below X (.cells #[.slice (some ⟨g, 0, none⟩) n n, .slice (some ⟨rk, 0, none⟩) n n, .slice (some ⟨lw, 0, none⟩) n n, .pointer (some ⟨B1, 0, none⟩), .pointer (some ⟨B2, 0, none⟩), .int .i64 0, .slice none 0 0] 57)
  obtain ⟨k1, e1⟩ := hw.block
  obtain ⟨k2, e2⟩ := ho.block
  have he' : X.heap[g]? = some (.cells (madeCells #[.slice none 0 0] n) 26 (0, 0)) := he
  have l1 := hr.lt
  have l2 := hl.lt
  have l3 := hw.lt
  have l4 := ho.lt
  have l5 : g < X.heap.size := (Array.getElem?_eq_some_iff.1 he').1
  have d1 := heap_apart hr e1 (by decide)
  have d2 := heap_apart hr e2 (by decide)
  have d3 := heap_apart hr he' (by decide)
  have d4 := heap_apart hl e1 (by decide)
  have d5 := heap_apart hl e2 (by decide)
  have d6 := heap_apart hl he' (by decide)
  have d7 := heap_apart e1 e2 (by decide)
  have d8 := heap_apart e1 he' (by decide)
  have d9 := heap_apart e2 he' (by decide)
  have hz : ∀ x ∈ (List.range n).map (fun _ => (([] : List Nat), Value.slice none 0 0)), x = ([], .slice none 0 0) := fun x hx => by
    obtain ⟨_, _, rfl⟩ := List.mem_map.1 hx
    rfl
  have key : ∀ i k, (⟨X.heap.size, rk, lw, B1, B2, none, none, .slice (some ⟨g, 0, none⟩) n n, .slice none 0 0, (List.range n).map (fun _ => ([], .slice none 0 0)), []⟩ : Pl).fp i k → (i = 0 ∧ k = X.heap.size) ∨ (i = 1 ∧ k = rk) ∨ (i = 2 ∧ k = lw) ∨ (i = 3 ∧ k = B1) ∨ (i = 4 ∧ k = B2) ∨ (i = 5 ∧ k = g) := by
    intro i k h
    rcases i with _ | _ | _ | _ | _ | _ | _ | i
    · exact .inl ⟨rfl, h⟩
    · exact .inr (.inl ⟨rfl, h⟩)
    · exact .inr (.inr (.inl ⟨rfl, h⟩))
    · rcases h with h | h
      · exact .inr (.inr (.inr (.inl ⟨rfl, h⟩)))
      · cases h
    · rcases h with h | h
      · exact .inr (.inr (.inr (.inr (.inl ⟨rfl, h⟩))))
      · cases h
    · rcases h with h | ⟨x, hx, h⟩
      · cases h
        exact .inr (.inr (.inr (.inr (.inr ⟨rfl, rfl⟩))))
      · rw [hz x hx] at h
        cases h
    · rcases h with h | ⟨x, hx, h⟩
      · cases h
      · cases hx
    · cases h
  refine ⟨World.alloc_heap_new X _, hr.later hb, hl.later hb, hw.later hb, ho.later hb, ⟨?_, ?_, ?_⟩, ?_, OwnRR.nil _ _, rfl, ?_, ?_⟩
  · refine ⟨?_, .inr ⟨g, n, _, ?_, h5, (hb.block g l5).trans he', ?_, ?_, ?_, ?_⟩⟩
    · rw [rrC_flat, List.length_map, List.length_range, Nat.mul_one]
    · rw [List.length_map, List.length_range]
    · rw [List.length_map, List.length_range]; exact Nat.le_refl _
    · simp only [maxLen]; omega
    · simp [madeCells]
    · rw [List.length_map, List.length_range, Nat.mul_one]
      apply List.ext_getElem
      · rw [rrC_flat]
        simp [madeCells]
      · intro i hi1 hi2
        have hi : i < n := by rw [List.length_take] at hi1; omega
        have e := rrC_at ((List.range n).map fun _ => (([] : List Nat), Value.slice none 0 0)) i (by simp; exact hi)
        rw [List.getElem?_eq_getElem hi2] at e
        have e := Option.some.inj e
        rw [e]
        simp [madeCells, Nat.mod_one]
  · intro x hx
    rw [hz x hx]
    exact World.ownsRow_nil _ _ _ _
  · refine List.pairwise_of_forall_mem_list fun x hx y _ => ?_
    rw [hz x hx]
    exact .inl rfl
  · rw [List.map_map]
    rfl
  · intro i j k hi hj
    have a := key i k hi
    have b := key j k hj
    omega
  · intro i k hi
    have a := key i k hi
    simp only [World.size_alloc]
    have hx : base ≤ X.heap.size := by omega
    omega
/-- The edges of one node more. -/
theorem Wlk.endMore {base n g c x y : Nat} {W V W1 : World} {P : Pl} {ends : Nat → List Nat} {s : Sc.Wk} {Q : List (Nat × Nat)} {u : Value} (h : Wlk base W P n ends s Q) (hx : x < P.pe.length) (hve : P.ve = .slice (some ⟨g, 0, none⟩) n c) (hV : Below W.heap.size W V)
    (hu : W1.ownsRow base 3 1 u (ends x ++ [y]).length ((Bi.nums (ends x ++ [y])).flatMap nC)) (hg : V.grownBy W1 (P.pe[x]'hx).2.ownBlock) (hat : u.ownBlock = (P.pe[x]'hx).2.ownBlock ∨ u.ownBlock = some V.heap.size) :
    Wlk base (W1.setCell ⟨g, x, none⟩ u) ⟨P.b, P.rk, P.lw, P.B1, P.B2, P.r1, P.r2, P.ve, P.vc, P.pe.set x (ends x ++ [y], u), P.pc⟩ n (fun z => if z = x then ends x ++ [y] else ends z) s Q ∧ Went P ⟨P.b, P.rk, P.lw, P.B1, P.B2, P.r1, P.r2, P.ve, P.vc, P.pe.set x (ends x ++ [y], u), P.pc⟩ W (W1.setCell ⟨g, x, none⟩ u) := by
  have hl : P.pe.length = n := by
    have e := congrArg List.length h.rowsAre
    rw [List.length_map, List.length_map, List.length_range] at e
    exact e
  have ht1 : Turn (fun k => ∃ j, j = 5 ∧ P.fp j k) W W1 := turn_one (P := P) (i := 5) ((Turn.of_below _ hV).trans (Turn.of_grown hg)) fun k q => .inr ⟨_, List.getElem_mem hx, q⟩
  have ht : Turn (fun k => ∃ j, j = 5 ∧ P.fp j k) W (W1.setCell ⟨g, x, none⟩ u) := ht1.trans (turn_one (P := P) (i := 5) (Turn.of_set W1 g x u) fun k q => .inl (by rw [hve, q]; rfl))
  have hrows := h.rows.below hV
  rw [hve, ← hl] at hrows
  have hgr := hrows.grow x hx (ends x ++ [y]) hu hg hat
  rw [hl, ← hve] at hgr
  have hnew : ∀ k, (⟨P.b, P.rk, P.lw, P.B1, P.B2, P.r1, P.r2, P.ve, P.vc, P.pe.set x (ends x ++ [y], u), P.pc⟩ : Pl).fp 5 k → P.fp 5 k ∨ W.heap.size ≤ k := by
    rintro k (q | ⟨z, hz, q⟩)
    · exact .inl (.inl q)
    · rcases mem_set_at hz with rfl | ⟨i, hi, hik, rfl⟩
      · rcases hat with a | a
        · dsimp only at q
          exact .inl (.inr ⟨_, List.getElem_mem hx, by rw [← a]; exact q⟩)
        · dsimp only at q
          rw [a] at q
          cases q
          exact .inr hV.size
      · exact .inl (.inr ⟨_, List.getElem_mem hi, q⟩)
  have hsame : ∀ j, j ≠ 5 → ∀ k, (⟨P.b, P.rk, P.lw, P.B1, P.B2, P.r1, P.r2, P.ve, P.vc, P.pe.set x (ends x ++ [y], u), P.pc⟩ : Pl).fp j k → P.fp j k := by
    intro j hj k q
    rcases j with _ | _ | _ | _ | _ | _ | _ | j
    all_goals first | exact q | exact absurd rfl hj
  refine ⟨⟨h.kBlk ht (by decide), h.kRank ht (by decide), h.kLow ht (by decide), h.kWait ht (by decide), h.kLoose ht (by decide), hgr, ?_, h.kComps ht (by decide), h.compsAre, apart_move 5 h.apart (fun i k q => (h.inside i k q).2) hnew hsame, fun j k q => ?_⟩, (h.went ht).turn, rfl, ?_⟩
  · apply List.ext_getElem
    · simp [hl]
    · intro i h1 h2
      have hi : i < P.pe.length := by simpa using h1
      have e := congrArg (fun m => m[i]?) h.rowsAre
      simp only [List.getElem?_map] at e
      rw [List.getElem?_eq_getElem hi, List.getElem?_eq_getElem (by simp; omega)] at e
      simp only [Option.map_some, List.getElem_range, Option.some.injEq] at e
      simp only [List.getElem_map, List.getElem_set, List.getElem_range]
      by_cases q : x = i
      · subst q; simp
      · have q' : ¬ i = x := fun z => q z.symm
        simp only [if_neg q, if_neg q']
        exact e
  · by_cases e : j = 5
    · subst e
      rcases q with q | ⟨z, hz, q⟩
      · exact hgr.row.lt k q
      · exact (hgr.ins z hz).lt k q
    · exact h.kIn ht j k (hsame j e k q)
  · rintro k ⟨j, q⟩
    by_cases e : j = 5
    · subst e
      rcases hnew k q with a | a
      · exact .inl ⟨5, a⟩
      · exact .inr a
    · exact .inl ⟨j, hsame j e k q⟩

theorem own_frozenAt {w : World} {base size n : Nat} {e : TypeId} {v : Value} {xs : List Value} {g m c : Nat} (h : w.ownsRow base e size v n xs) (hv : v = .slice (some ⟨g, 0, none⟩) m c) (k : Nat) : w.frozen? ⟨g, k, none⟩ = false := by
  rcases h.2 with ⟨e0, _⟩ | ⟨g', cap, cur, e0, _, hg, _⟩
  · rw [hv] at e0; cases e0
  · rw [hv] at e0
    cases e0
    exact frozen_of_row w g k _ _ hg
/-- The row of one node's edges, and what an edge more leaves. -/
theorem Wlk.row {base n x : Nat} {W : World} {P : Pl} {ends : Nat → List Nat} {s : Sc.Wk} {Q : List (Nat × Nat)} (h : Wlk base W P n ends s Q) (hx : x < n) : ∃ (g c : Nat) (A : Option Addr) (c' : Nat), P.ve = .slice (some ⟨g, 0, none⟩) n c ∧ base ≤ g ∧ g < W.heap.size ∧ W.cell? ⟨g, x, none⟩ = some (.slice A (ends x).length c') ∧ W.frozen? ⟨g, x, none⟩ = false ∧
    W.ownsRow base 3 1 (.slice A (ends x).length c') (ends x).length ((Bi.nums (ends x)).flatMap nC) ∧
    (∀ V w2, Below W.heap.size W V → V.grownBy w2 (Value.slice A (ends x).length c').ownBlock → w2.cell? ⟨g, x, none⟩ = some (.slice A (ends x).length c') ∧ w2.frozen? ⟨g, x, none⟩ = false ∧ w2.cell? ⟨P.b, 0, none⟩ = some (.slice (some ⟨g, 0, none⟩) n c) ∧ ∀ eb o u, eb < W.heap.size → ¬ P.all eb → W.cell? ⟨eb, o, none⟩ = some u → w2.cell? ⟨eb, o, none⟩ = some u) ∧
    (∀ V W1 y u, Below W.heap.size W V → W1.ownsRow base 3 1 u ((ends x).length + 1) ((Bi.nums (ends x)).flatMap nC ++ nC ((y : Nat) : Int)) → V.grownBy W1 (Value.slice A (ends x).length c').ownBlock → (u.ownBlock = (Value.slice A (ends x).length c').ownBlock ∨ u.ownBlock = some V.heap.size) →
      ∃ P', P'.b = P.b ∧ Wlk base (W1.setCell ⟨g, x, none⟩ u) P' n (fun z => if z = x then ends x ++ [y] else ends z) s Q ∧ Went P P' W (W1.setCell ⟨g, x, none⟩ u)) := by
  have hl : P.pe.length = n := by
    have e := congrArg List.length h.rowsAre
    rw [List.length_map, List.length_map, List.length_range] at e
    exact e
  have hx' : x < P.pe.length := by omega
  obtain ⟨g, c, hv, hc, hf, hbg⟩ := h.rows.at x hx'
  rw [hl] at hv
  have e1 : P.pe[x].1 = ends x := by
    have e2 : (P.pe.map (·.1))[x]'(by rw [List.length_map]; exact hx') = ((List.range n).map ends)[x]'(by simp; omega) := by simp only [h.rowsAre]
    rw [List.getElem_map, List.getElem_map, List.getElem_range] at e2
    exact e2
  have ho := h.rows.ins _ (List.getElem_mem hx')
  rw [e1] at ho
  obtain ⟨A, c', hA⟩ := own_form ho
  have hgl : g < W.heap.size := (h.inside 5 g (.inl (by rw [hv]; rfl))).2
  have hin : ∀ k, (Value.slice A (ends x).length c').ownBlock = some k → P.fp 5 k := fun k q => .inr ⟨_, List.getElem_mem hx', by rw [hA]; exact q⟩
  have hne : ∀ k, (Value.slice A (ends x).length c').ownBlock = some k → k ≠ g := fun k q e => by
    have q' : (P.pe[x]).2.ownBlock = some k := by rw [hA]; exact q
    rcases h.rows.apart (List.getElem_mem hx') with a | a
    · rw [q'] at a; cases a
    · exact a (by rw [q', hv, e]; rfl)
  rw [hA] at hc ho
  refine ⟨g, c, A, c', hv, hbg, hgl, hc, hf, ho, ?_, ?_⟩
  · intro V w2 hV hg
    have f1 : (some g : Option Nat) ≠ (Value.slice A (ends x).length c').ownBlock := fun e => hne g e.symm rfl
    have f2 : (some P.b : Option Nat) ≠ (Value.slice A (ends x).length c').ownBlock := fun e => absurd (h.apart 5 0 _ (hin _ e.symm) rfl) (by decide)
    have s1 : g < V.heap.size := Nat.lt_of_lt_of_le hgl hV.size
    have s2 : P.b < W.heap.size := (h.inside 0 _ rfl).2
    refine ⟨(hg.cell_far ⟨g, x, none⟩ s1 f1).trans ((hV.cell (p := ⟨g, x, none⟩) hgl).trans hc), (hg.frozen_far ⟨g, x, none⟩ s1 f1).trans ?_, (hg.cell_far ⟨P.b, 0, none⟩ (Nat.lt_of_lt_of_le s2 hV.size) f2).trans ((hV.cell (p := ⟨P.b, 0, none⟩) s2).trans (by rw [← hv]; exact h.cells.1)), ?_⟩
    · exact own_frozenAt (h.rows.below hV).row hv x
    · intro eb o u hlt hn hu
      exact (hg.cell_far ⟨eb, o, none⟩ (Nat.lt_of_lt_of_le hlt hV.size) (fun e => hn ⟨5, hin eb e.symm⟩)).trans ((hV.cell (p := ⟨eb, o, none⟩) hlt).trans hu)
  · intro V W1 y u hV hu hg hat
    have hu' : W1.ownsRow base 3 1 u (ends x ++ [y]).length ((Bi.nums (ends x ++ [y])).flatMap nC) := by
      have := nums_more hu
      exact this
    obtain ⟨a, b⟩ := h.endMore hx' hv hV hu' (by rw [hA]; exact hg) (by rw [hA]; exact hat)
    exact ⟨_, b.b, a, b⟩
end Go.Proofs.YtgapcjgmmlffmaaDoor
