/-
  Words for memory: a slice that reads as a list of cells (nil and empty let in), and how that lasts while a call makes memory of its own.
  Conditions: none beyond those that each theorem states.
-/
import Derived.Below
import Derived.Laws.OwnMore
import Derived.Maps.AppendAt
import Derived.Deep.AppendLies
import Derived.OwnWalk
import Derived.SliceStrings
import Derived.Laws.BytesArg
import Derived.Lib.AppendStr
import Derived.Test.YtkeaibngofbkhaaBase
import Derived.Test.YtkeaibngofbkhaaLnPlain
namespace Go.Proofs.Ytkeaibngofbkhaa
open Go.RowKit

theorem add_block (a : Addr) (n : Nat) : (a.add n).block = a.block := by unfold Addr.add; split <;> rfl

/-- The slice value v, of n elements of 'size' cells each, reads as the cells xs. -/
def Sl (w : World) (size : Nat) (v : Value) (n : Nat) (xs : List Value) : Prop :=
  xs.length = n * size ∧ ∃ A c, v = .slice A n c ∧ n ≤ c ∧ (A = none → c = 0) ∧ (0 < n → ∃ ad : Addr, A = some ad ∧ ad.block < w.heap.size ∧ ∀ j u, xs[j]? = some u → w.cell? (ad.add j) = some u)

theorem Sl.keep {w w' : World} {size n : Nat} {v : Value} {xs : List Value} (h : Sl w size v n xs) (hs : w.heap.size ≤ w'.heap.size) (hk : ∀ p : Addr, p.block < w.heap.size → w'.cell? p = w.cell? p) : Sl w' size v n xs := by
  obtain ⟨hl, A, c, hv, hc, hz, hh⟩ := h
  refine ⟨hl, A, c, hv, hc, hz, fun hn => ?_⟩
  obtain ⟨ad, e, hb, hc⟩ := hh hn
  exact ⟨ad, e, by omega, fun j u hu => (hk _ (by rw [add_block]; exact hb)).trans (hc j u hu)⟩
theorem Sl.below {w w' : World} {size n : Nat} {v : Value} {xs : List Value} (h : Sl w size v n xs) (hb : Below w.heap.size w w') : Sl w' size v n xs := h.keep hb.size fun _ hp => hb.cell hp
theorem Sl.nil (w : World) (size : Nat) (A : Option Addr) : Sl w size (.slice A 0 0) 0 [] := ⟨by simp, A, 0, rfl, Nat.le_refl _, fun _ => rfl, fun h => absurd h (by omega)⟩
theorem Sl.own {w : World} {base size n : Nat} {e : TypeId} {v : Value} {xs : List Value} (h : w.ownsRow base e size v n xs) : Sl w size v n xs := by
  refine ⟨h.1, ?_⟩
  have h0 := h
  rcases h.2 with ⟨hv, rfl⟩ | ⟨g, cap, cur, hv, _, hg, hc, _⟩
  · exact ⟨none, 0, hv, Nat.le_refl _, fun _ => rfl, fun h => absurd h (by omega)⟩
  · refine ⟨_, _, hv, hc, fun h => (by cases h), fun _ => ⟨_, rfl, (Array.getElem?_eq_some_iff.1 hg).1, ?_⟩⟩
    exact h0.cells (by rw [hv]; rfl)
theorem Sl.len {w : World} {size n : Nat} {v : Value} {xs : List Value} (h : Sl w size v n xs) : xs.length = n * size := h.1
/-- The value as the walk wants it: its head is known as soon as there is an element. -/
theorem Sl.form {w : World} {size n : Nat} {v : Value} {xs : List Value} (h : Sl w size v n xs) : ∃ A c, v = .slice A n c ∧ (0 < n → ∃ ad : Addr, A = some ad ∧ ad.block < w.heap.size ∧ ∀ j u, xs[j]? = some u → w.cell? (ad.add j) = some u) := by
  obtain ⟨_, A, c, hv, _, _, hh⟩ := h
  exact ⟨A, c, hv, hh⟩
theorem Sl.cap {w : World} {size n c : Nat} {A : Option Addr} {xs : List Value} (h : Sl w size (.slice A n c) n xs) : n ≤ c := by
  obtain ⟨_, _, _, hv, hc, _⟩ := h
  cases hv
  exact hc

theorem own_form {w : World} {base size n : Nat} {e : TypeId} {v : Value} {xs : List Value} (h : w.ownsRow base e size v n xs) : ∃ A c, v = .slice A n c := by
  rcases h.2 with ⟨rfl, rfl⟩ | ⟨g, cap, _, rfl, _⟩
  · exact ⟨_, _, rfl⟩
  · exact ⟨_, _, rfl⟩
theorem own_below {w w' : World} {base size n : Nat} {e : TypeId} {v : Value} {xs : List Value} (h : w.ownsRow base e size v n xs) (hb : Below w.heap.size w w') : w'.ownsRow base e size v n xs :=
  h.kept (row := none) ⟨hb.os, hb.tape, hb.output, hb.size, fun k hk _ => hb.block k hk⟩ (by cases v.ownBlock <;> simp)
theorem own_drewN {w : World} {base size n : Nat} {e : TypeId} {v : Value} {xs : List Value} (h : w.ownsRow base e size v n xs) (k : Nat) : (w.drewN k).ownsRow base e size v n xs := h
theorem below_append {B : Nat} {w w1 w' : World} {size n : Nat} {e : TypeId} {v : Value} {xs : List Value} (hb : Below B w w1) (hB : B ≤ w1.heap.size) (hown : w1.ownsRow B e size v n xs) (hg : w1.grownBy w' v.ownBlock) : Below B w w' :=
  hb.grown hg hB (fun k hk => (hown.lt k hk).1)
theorem drewN_below (w : World) (k : Nat) : Below w.heap.size w (w.drewN k) := ⟨rfl, rfl, rfl, Nat.le_refl _, fun _ _ => rfl⟩

theorem add_zero' (a : Addr) : a.add 0 = a := by simp [Addr.add]

/-- append of whatever slice reads as a list (nil among them) onto a row of the call's own. -/
theorem run_append_sl {P : Program} (w : World) (base : Nat) (t ty e : TypeId) (i : TypeInfo) (z : Value) (size bytes : Nat) (ht : P.underlying t = some (.slice e)) (hi : P.info? e = some i) (hz : i.zero = some z)
    (hsize : i.size = size) (hby : i.bytes = bytes) (hzs : z.cells.size = size) (hsz : 0 < size)
    (v : Value) (n : Nat) (xs : List Value) (hown : w.ownsRow base e size v n xs)
    (u : Value) (m : Nat) (news : List Value) (hu : Sl w size u m news) (h1 : ∀ x ∈ news, x.oneCell' = true)
    (h63 : n + m ≤ maxLen) (hbytes : (n + m) * bytes ≤ 140737488355328) (hbase : base ≤ w.heap.size) :
    ∃ v' w', (Builtin.append_ #[t, t] ty #[v, u]).run P w = .ok v' w' ∧ w'.ownsRow base e size v' (n + m) (xs ++ news) ∧ w.grownBy w' v.ownBlock ∧ (v'.ownBlock = v.ownBlock ∨ v'.ownBlock = some w.heap.size) := by
  obtain ⟨hl, A, c, rfl, _, hc0, hh⟩ := hu
  cases A with
  | none =>
    have hm : m = 0 := Nat.eq_zero_of_not_pos fun h0 => by
      obtain ⟨_, h, _⟩ := hh h0
      cases h
    obtain rfl := hc0 rfl
    subst hm
    obtain rfl : news = [] := List.eq_nil_of_length_eq_zero (by rw [hl, Nat.zero_mul])
    exact ⟨v, w, run_append_owned_none w base t ty e i size ht hi v n xs hown, by rw [List.append_nil]; exact hown, World.grownBy.refl w _, .inl rfl⟩
  | some ad =>
    have hcells : ∀ j x, news[j]? = some x → w.cell? (ad.add j) = some x := fun j x hx => by
      have hn : 0 < m := Nat.pos_of_ne_zero fun h0 => by
        have hnil : news = [] := List.eq_nil_of_length_eq_zero (by rw [hl, h0, Nat.zero_mul])
        rw [hnil] at hx
        cases hx
      obtain ⟨ad', h, _, hc⟩ := hh hn
      cases h
      exact hc j x hx
    obtain ⟨v', w', hrun, h2, h3, _, h5⟩ := run_append_own_at (P := P) w base t ty e i z size bytes ht hi hz hsize hby hzs hsz v n xs hown ad m c news hl hcells h1 h63 hbytes hbase
    exact ⟨v', w', hrun, h2, h3, h5⟩
/-- The same, at the operation. -/
theorem wpList_append_sl {P : Program} (w : World) {ops : Array Oper} {rest : List Oper} {o : Oper} {a : Act} {Q : Exit → Act → World → Prop} (hgd : o.guard = none) (s x : Operand) (t : TypeId)
    (ho : o.op = .call { callee := .builtin .append, args := #[s, x], argTypes := #[t, t] })
    (base : Nat) (e : TypeId) (i : TypeInfo) (z : Value) (size bytes : Nat) (ht : P.underlying t = some (.slice e)) (hi : P.info? e = some i) (hz : i.zero = some z)
    (hsize : i.size = size) (hby : i.bytes = bytes) (hzs : z.cells.size = size) (hsz : 0 < size)
    (v : Value) (n : Nat) (xs : List Value) (hs : a.eval s = v) (hown : w.ownsRow base e size v n xs)
    (u : Value) (m : Nat) (news : List Value) (hx : a.eval x = u) (hu : Sl w size u m news) (h1 : ∀ x ∈ news, x.oneCell' = true)
    (h63 : n + m ≤ maxLen) (hbytes : (n + m) * bytes ≤ 140737488355328) (hbase : base ≤ w.heap.size)
    (h : ∀ v' w', w'.ownsRow base e size v' (n + m) (xs ++ news) → w.grownBy w' v.ownBlock → (v'.ownBlock = v.ownBlock ∨ v'.ownBlock = some w.heap.size) → wpList P ops Q rest (a.put o.dst v') w') : wpList P ops Q (o :: rest) a w := by
  refine wpList_plain hgd fun K hK => ?_
  obtain ⟨v', w', hrun, h2, h3, h4⟩ := run_append_sl (P := P) w base t o.type e i z size bytes ht hi hz hsize hby hzs hsz v n xs hown u m news hu h1 h63 hbytes hbase
  unfold Oper.wp execOp
  simp only [ho, resolve, invoke, builtin, Sem.run_bind, Sem.run_pure, Result.andThen_ok, List.map_toArray, List.map_cons, List.map_nil, hs, hx, hrun]
  exact hK _ _ (h v' w' h2 h3 h4)

/-- How long a text is (a loop's measure). -/
def lenOf : Value → Nat | .string s => s.size | _ => 0

theorem nums_text (l : List UInt8) : strOfNums (l.map fun x => (x.toNat : Int)) = Ln.bs l := by
  unfold strOfNums Ln.bs
  rw [List.map_map]
  have : ((fun n : Int => UInt8.ofNat n.toNat) ∘ fun x : UInt8 => (x.toNat : Int)) = id := by funext x; simp
  rw [this, List.map_id]

/-- Bytes as cells. -/
def byV (x : List UInt8) : List Value := x.map fun b => .int .u8 (b.toNat : Int)
theorem byV_len (x : List UInt8) : (byV x).length = x.length := by simp [byV]
theorem byV_append (x y : List UInt8) : byV (x ++ y) = byV x ++ byV y := by simp [byV]
theorem strCells_bs (x : List UInt8) : Lib.strCells (Ln.bs x) = byV x := by rw [Lib.strCells, Ln.bs_data]; rfl
theorem own_more {w : World} {base : Nat} {e : TypeId} {v : Value} {x : List UInt8} (y : List UInt8) (h : w.ownsRow base e 1 v (x.length + (Ln.bs y).size) (byV x ++ Lib.strCells (Ln.bs y))) : w.ownsRow base e 1 v (x ++ y).length (byV (x ++ y)) := by
  rw [List.length_append, byV_append, ← strCells_bs y, ← Ln.bs_size y]
  exact h
/-- string(..) of a row of the call's own. -/
theorem own_text {P : Program} {w : World} {base : Nat} {e : TypeId} {v : Value} {x : List UInt8} (h : w.ownsRow base e 1 v x.length (byV x)) (src dst : TypeId) (hs : P.underlying src = some (.slice e)) (he : P.underlying e = some (.int .u8)) (hd : P.underlying dst = some .string) :
    (convert src dst v).run P w = .ok (.string (Ln.bs x)) w := by
  have h0 := h
  rcases h.2 with ⟨rfl, hn⟩ | ⟨g, cap, cur, rfl, _, _, _⟩
  · have : x = [] := List.eq_nil_of_length_eq_zero hn
    subst this
    exact run_convert_bytes_nil w src e hs he 0 0 dst hd
  · have := run_convert_bytes_arg (P := P) w src e hs he g 0 x.length cap (x.map fun b => (b.toNat : Int)) (by simp) (fun i hi => by
      have hc := h0.cellAt i (by simpa using hi)
      rw [Nat.zero_add, hc]
      simp [byV, List.getD, hi]) dst hd
    rw [this, nums_text]

theorem bs_add (a b : List UInt8) : Ln.bs a ++ Ln.bs b = Ln.bs (a ++ b) := by
  apply ByteArray.ext
  simp [Ln.bs]

theorem bs_eqb (a b : List UInt8) : ((Ln.bs a).toList == (Ln.bs b).toList) = (a == b) := by
  rw [Lib.toList_data, Lib.toList_data, Ln.bs_data, Ln.bs_data]

/-- Texts as cells. -/
def strV (x : List UInt8) : Value := .string (Ln.bs x)
/-- The slice value v reads as the texts l. -/
def Strs (w : World) (v : Value) (l : List (List UInt8)) : Prop := Sl w 1 v l.length (l.map strV)
theorem Strs.below {w w' : World} {v : Value} {l : List (List UInt8)} (h : Strs w v l) (hb : Below w.heap.size w w') : Strs w' v l := Sl.below h hb
theorem Strs.nil (w : World) (A : Option Addr) : Strs w (.slice A 0 0) [] := Sl.nil w 1 A
theorem Strs.form {w : World} {v : Value} {l : List (List UInt8)} (h : Strs w v l) :
    ∃ A c, v = .slice A l.length c ∧ ∀ (k : Nat) (hk : k < l.length), ∃ ad : Addr, A = some ad ∧ ad.block < w.heap.size ∧ w.cell? (ad.add k) = some (strV l[k]) := by
  obtain ⟨A, c, hv, hh⟩ := Sl.form h
  refine ⟨A, c, hv, fun k hk => ?_⟩
  obtain ⟨ad, e, hb, hc⟩ := hh (by omega)
  exact ⟨ad, e, hb, hc k _ (by rw [List.getElem?_map, List.getElem?_eq_getElem hk]; rfl)⟩
theorem Strs.none_ {w : World} {v : Value} {l : List (List UInt8)} (h : Strs w v l) (hl : l = []) : ∃ A c, v = .slice A 0 c := by
  subst hl
  obtain ⟨A, c, hv, _⟩ := h.form
  exact ⟨A, c, hv⟩
theorem Strs.own {w : World} {base : Nat} {e : TypeId} {v : Value} {l : List (List UInt8)} (h : w.ownsRow base e 1 v l.length (l.map strV)) : Strs w v l := Sl.own h

theorem Strs.own_snoc {w : World} {base : Nat} {e : TypeId} {v : Value} {d : List (List UInt8)} {x : List UInt8} (h : w.ownsRow base e 1 v (d.length + 1) (d.map strV ++ [strV x])) : w.ownsRow base e 1 v (d ++ [x]).length ((d ++ [x]).map strV) := by
  rw [List.length_append, List.map_append]
  exact h
theorem one_strs (x : List UInt8) : ∀ u ∈ [strV x], u.oneCell' = true := by
  intro u hu
  rw [List.mem_singleton.1 hu]
  rfl
theorem all_strs (l : List (List UInt8)) : ∀ u ∈ l.map strV, u.oneCell' = true := by
  intro u hu
  obtain ⟨x, _, rfl⟩ := List.mem_map.1 hu
  rfl
/-- The one cell of a new block. -/
theorem new_one (w : World) (u : Value) (e : TypeId) : ∀ j x, [u][j]? = some x → (w.alloc (.cells #[u] e)).cell? ((⟨w.heap.size, 0, none⟩ : Addr).add j) = some x := by
  intro j x hj
  match j, hj with
  | 0, hj =>
    simp at hj
    subst hj
    rw [add_zero', cell_of_row _ _ _ #[u] e (0, 0) (heap_alloc_new w _)]
    rfl

/-- A literal of texts. -/
theorem lit_strs (w : World) (e : TypeId) (l : List (List UInt8)) (hl : l.length ≤ maxLen) : Strs (w.alloc (.cells (l.map strV).toArray e)) (.slice (some ⟨w.heap.size, 0, none⟩) l.length l.length) l := by
  have h := World.ownsRow_lit (base := 0) (e := e) (size := 1) w (l.map strV).toArray l.length (Nat.zero_le _) hl (by simp)
  exact Strs.own h

/-- A row of texts, and a number beside it: what the call hands back lies in memory of its own; what was there stays. -/
def RetStrs (w : World) (r : List (List UInt8) × Int) (e : Ending) (w' : World) : Prop := ∃ v, e = .returned (.tuple #[v, .int .i64 r.2]) ∧ Strs w' v r.1 ∧ Below w.heap.size w w'
theorem RetStrs.mk {w w' : World} {r : List (List UInt8) × Int} (v : Value) (n : Int) (hr : r.2 = n) (hs : Strs w' v r.1) (hb : Below w.heap.size w w') : RetStrs w r (.returned (.tuple #[v, .int .i64 n])) w' :=
  ⟨v, by rw [hr], hs, hb⟩
/-- A text, and a number beside it. -/
def RetStr (w : World) (r : List UInt8 × Int) (e : Ending) (w' : World) : Prop := e = .returned (.tuple #[.string (Ln.bs r.1), .int .i64 r.2]) ∧ Below w.heap.size w w'
theorem RetStr.mk {w w' : World} {r : List UInt8 × Int} (s : ByteArray) (n : Int) (hr : r.2 = n) (hs : s = Ln.bs r.1) (hb : Below w.heap.size w w') : RetStr w r (.returned (.tuple #[.string s, .int .i64 n])) w' :=
  ⟨by rw [hr, hs], hb⟩
/-- A bool, in whatever memory was made. -/
def RetBool (w : World) (b : Bool) (e : Ending) (w' : World) : Prop := e = .returned (.bool b) ∧ Below w.heap.size w w'

end Go.Proofs.Ytkeaibngofbkhaa
