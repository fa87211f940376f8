/-
  More words for the search in memory: where the edges of a node lie, how many nodes wait, the next one that waits; and how many components, nodes and positions a search can have.
  Conditions: none beyond those that each theorem states.
-/
import Derived.Test.YtgapcjgmmlffmaaDoorScFin
import Derived.Test.YtgapcjgmmlffmaaDoorScMeet
set_option maxRecDepth 4000
namespace Go.Proofs.YtgapcjgmmlffmaaDoor
open Go.RowKit

def intAt (w : World) (a : Addr) : Nat := match w.cell? a with | some (.int _ q) => q.toNat | _ => 0
def blockAt (w : World) (a : Addr) : Nat := match w.cell? a with | some (.pointer (some p)) => p.block | _ => 0
def lenAt (w : World) (a : Addr) : Nat := match w.cell? a with | some (.slice _ n _) => n | _ => 0
def boolOf : Value → Nat | .bool true => 1 | _ => 0
/-- What is left to do: the search at block b. -/
def leftTo (n b : Nat) (q : Value) (w : World) : Nat := 2 * (n - intAt w ⟨b, 5, none⟩) + lenAt w ⟨blockAt w ⟨b, 3, none⟩, 1, none⟩ + boolOf q
section
variable {base n : Nat} {W W' W0 : World} {P P' : Pl} {ends : Nat → List Nat} {s : Sc.Wk} {Q r : List (Nat × Nat)}
theorem Wlk.left (h : Wlk base W P n ends s Q) (q : Value) : leftTo n P.b q W = 2 * (n - s.met) + Q.length + boolOf q := by
  obtain ⟨-, -, -, c3, -, c5, -⟩ := h.cells
  obtain ⟨A, c, _, _, d1, _, _⟩ := h.wait.reads
  simp [leftTo, intAt, blockAt, lenAt, c3, c5, d1, Gf.eI_len]
/-- Where the edges of node x lie. -/
theorem Wlk.edges (h : Wlk base W P n ends s Q) {x : Nat} (hx : x < n) : ∃ g c A c', P.ve = .slice (some ⟨g, 0, none⟩) n c ∧ W.cell? ⟨g, x, none⟩ = some (.slice A (ends x).length c') ∧ ∀ d (hd : d < (ends x).length), ∃ k, A = some ⟨k, 0, none⟩ ∧ W.cell? ⟨k, d, none⟩ = some (.int .i64 ((ends x)[d] : Nat)) := by
  have hl : P.pe.length = n := by
    have e := congrArg List.length h.rowsAre
    rw [List.length_map, List.length_map, List.length_range] at e
    exact e
  have hx' : x < P.pe.length := by omega
  obtain ⟨g, c, hv, hc, _, _⟩ := h.rows.at x hx'
  have e1 : P.pe[x].1 = ends x := by
    have e2 : (P.pe.map (·.1))[x]'(by rw [List.length_map]; exact hx') = ((List.range n).map ends)[x]'(by simp; omega) := by simp only [h.rowsAre]
    rw [List.getElem_map, List.getElem_map, List.getElem_range] at e2
    exact e2
  have ho := h.rows.ins _ (List.getElem_mem hx')
  rw [e1] at ho
  obtain ⟨A, c', hA⟩ := own_form ho
  rw [hA] at hc ho
  refine ⟨g, c, A, c', by rw [hv, hl], hc, fun d hd => ?_⟩
  rcases ho.2 with ⟨_, h0⟩ | ⟨k, cap, cur, he, hb, hg, hnc, hcm, hcs, htake⟩
  · omega
  · cases he
    refine ⟨k, rfl, ?_⟩
    have h1 := ho.cellAt d (by omega)
    rw [h1]
    have h2 := flat_at nC_len (Bi.nums (ends x)) d (by rw [Bi.nums_len]; exact hd) 0 (by omega)
    rw [Nat.mul_one, Nat.add_zero] at h2
    rw [h2, Bi.nums_at]
    rfl
/-- The next one that waits, if there is one. -/
theorem scNext_at (h : Wlk base W P n ends s r.reverse) (hr : r.length ≤ 64) :
    Calls Tryd.prog 40 #[.pointer (some ⟨P.B1, 0, none⟩)] W fun e W' => ∃ (x d : Nat) (q : Bool), e = .returned (.tuple #[.agg #[.int .i64 (x : Nat), .int .i64 (d : Nat)], .bool q]) ∧
      ∃ r', Wlk base W' P n ends s r'.reverse ∧ Went P P W W' ∧ ((q = true ∧ r = (x, d) :: r') ∨ (q = false ∧ r = [] ∧ r' = [])) := by
  cases r with
  | nil =>
    refine (scTake_none h).mono ?_
    rintro e W' ⟨rfl, h1, g1⟩
    exact ⟨0, 0, false, rfl, [], h1, g1, .inr ⟨rfl, rfl, rfl⟩⟩
  | cons p r =>
    obtain ⟨x, d⟩ := p
    refine (scTake_at h r.reverse x d (by simp) (by rw [List.length_reverse]; rw [List.length_cons] at hr; omega)).mono ?_
    rintro e W' ⟨rfl, h1, g1⟩
    exact ⟨x, d, true, rfl, r, h1, g1, .inl ⟨rfl, rfl⟩⟩
/-- A store elsewhere. -/
theorem Wlk.set (h : Wlk base W P n ends s Q) (g : Went P' P W0 W) {ab : Nat} (hn : ¬ P.all ab) (hb : W0.heap.size ≤ ab) (o : Nat) (v : Value) : Wlk base (W.setCell ⟨ab, o, none⟩ v) P n ends s Q ∧ Went P' P W0 (W.setCell ⟨ab, o, none⟩ v) :=
  ⟨h.past (Turn.of_set W ab o v) fun k q => by rw [q]; exact hn, g.past (Turn.of_set W ab o v) fun k q => by rw [q]; exact hb⟩
/-- A position that is laid into a block of its own. -/
theorem Wlk.lay (h : Wlk base W P n ends s Q) (g : Went P' P W0 W) (t : TypeId) (v0 v1 : Value) :
    Two (W.alloc (.cells #[v0, v1] t)) W.heap.size t v0 v1 ∧ ¬ P.all W.heap.size ∧ W0.heap.size ≤ W.heap.size ∧ Wlk base (W.alloc (.cells #[v0, v1] t)) P n ends s Q ∧ Went P' P W0 (W.alloc (.cells #[v0, v1] t)) :=
  ⟨Two.new W t v0 v1, fun ⟨i, q⟩ => Nat.lt_irrefl _ (h.inside i _ q).2, g.turn.size, h.later (alloc_below W _), g.trans (Went.of_below P (alloc_below W _))⟩
end
namespace Sc
open To
section
variable {n : Nat} {ends : Nat → List Nat} {t : Nat → Nat → Bool} {s : Wk} {G : List (Nat × Nat)}
theorem few_below {l : List Nat} (hl : l.Nodup) (h : ∀ x ∈ l, x < n) : l.length ≤ n := by
  have := sub_len (m := List.range n) hl fun x hx => List.mem_range.2 (h x hx)
  rwa [List.length_range] at this
theorem Hunt.loose_len (h : Hunt n ends t s G) : s.loose.length ≤ n := few_below h.nodup h.node
theorem Hunt.wait_len (h : Hunt n ends t s G) : G.length ≤ n := by
  have := few_below h.gray_len.1 h.gray_len.2
  rwa [List.length_map] at this
theorem Hunt.comps_len (h : Hunt n ends t s G) (ht : Eqv t) : s.comps.length ≤ n := by
  have hL : ∀ c ∈ s.comps, ∃ x, x < n ∧ c = cls n t x := fun c hc => (h.done c hc).1
  have h1 : (s.comps.map fun c => c.headD 0).Nodup := by
    rw [List.Nodup, List.pairwise_map]
    exact h.once.imp_of_mem fun {a b} ha hb hab e => by
      obtain ⟨x, hx, rfl⟩ := hL a ha
      obtain ⟨y, hy, rfl⟩ := hL b hb
      exact hab (cls_lead ht hx hy e)
  have := few_below h1 fun v hv => by
    obtain ⟨c, hc, rfl⟩ := List.mem_map.1 hv
    obtain ⟨x, hx, rfl⟩ := hL c hc
    obtain ⟨v, r, e, hv⟩ := cls_first ht hx
    rw [e]
    exact hv
  rwa [List.length_map] at this
end
end Sc
end Go.Proofs.YtgapcjgmmlffmaaDoor
