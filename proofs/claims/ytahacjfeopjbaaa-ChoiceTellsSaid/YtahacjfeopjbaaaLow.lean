/-
  Several texts in one, each with its own first words: LnPlain, NumPlain, Base, Mem, Frame.
  Conditions: as each says.
-/
import Derived.WalkKit
import Derived.WalkSpells
import Derived.WalkLawsBesides
import Derived.BigQuiet
import Derived.Deep.QuietTactic
import Derived.RegionTactic
import Derived.Lib.Hide
import Derived.Lib.Strings
import Derived.Outline
import Derived.Deep.Light
import Derived.Below
import Derived.Laws.OwnMore
import Derived.Maps.AppendAt
import Derived.Deep.AppendLies
import Derived.OwnWalk
import Derived.SliceStrings
import Derived.Laws.BytesArg
import Derived.Lib.AppendStr
import Derived.ProofKit
import Derived.OpenShut
import Derived.ShutString
import Derived.Carry
import Derived.ChangeSame
/-
  Plain facts on texts of lines and on lines of words (no Go in it): the lines of a text, the text of lines, that each is the other's inverse, the words of a line.
  Conditions: none beyond those that each theorem states.
-/
set_option maxRecDepth 4000
namespace Go.Proofs.Ytahacjfeopjbaaa.Ln

theorem snocRec {α : Type} {motive : List α → Prop} (l : List α) (nil : motive []) (snoc : ∀ l c, motive l → motive (l ++ [c])) : motive l := by
  rw [← List.reverse_reverse l]
  generalize l.reverse = r
  induction r with
  | nil => exact nil
  | cons c r ih => rw [List.reverse_cons]; exact snoc _ c ih

/-- Bytes as a text. -/
def bs (l : List UInt8) : ByteArray := ⟨l.toArray⟩
theorem bs_data (l : List UInt8) : (bs l).data.toList = l := by simp [bs]
theorem bs_size (l : List UInt8) : (bs l).size = l.length := by simp [bs, ByteArray.size]
theorem bs_of (s : ByteArray) : bs s.data.toList = s := by cases s; simp [bs]
/-- Lines as a text. -/
def joinS (l : List (List UInt8)) : List UInt8 := l.flatMap (· ++ [10])
theorem joinS_cons (x : List UInt8) (a : List (List UInt8)) : joinS (x :: a) = x ++ 10 :: joinS a := by simp [joinS]

/-- Byte by byte: the lines that have ended, and what has been begun. -/
def step (st : List (List UInt8) × List UInt8) (b : UInt8) : List (List UInt8) × List UInt8 := if b = 10 then (st.1 ++ [st.2], []) else (st.1, st.2 ++ [b])
def run (s : List UInt8) : List (List UInt8) × List UInt8 := s.foldl step ([], [])
def full (s : List UInt8) : List (List UInt8) := (run s).1
def rest (s : List UInt8) : List UInt8 := (run s).2

theorem run_snoc (s : List UInt8) (b : UInt8) : run (s ++ [b]) = step (run s) b := by simp [run, List.foldl_append]
theorem full_nl (s : List UInt8) : full (s ++ [10]) = full s ++ [rest s] := by simp [full, rest, run_snoc, step]
theorem full_other (s : List UInt8) (b : UInt8) (h : b ≠ 10) : full (s ++ [b]) = full s := by simp [full, run_snoc, step, h]
theorem full_len (s : List UInt8) : (full s).length = s.count 10 := by
  induction s using snocRec with
  | nil => rfl
  | snoc s b ih =>
    by_cases h : b = 10
    · subst h
      rw [full_nl, List.length_append, ih, List.count_append]; simp
    · rw [full_other s b h, ih, List.count_append]
      have : List.count (10 : UInt8) [b] = 0 := by simp [h]
      omega

/-- Has a text an open line at its end? -/
def shut (s : List UInt8) : Bool := s.getLast?.all (· == 10)
theorem foldl_step (s : List UInt8) : ∀ (d : List (List UInt8)) (c : List UInt8), s.foldl step (d, c) = (d ++ (s.foldl step ([], c)).1, (s.foldl step ([], c)).2) := by
  induction s with
  | nil => intro d c; simp
  | cons b s ih =>
    intro d c
    by_cases h : b = 10
    · simp only [List.foldl_cons, step, h, if_pos]
      rw [ih (d ++ [c]) [], ih ([] ++ [c]) []]
      simp
    · simp only [List.foldl_cons, step, h, if_neg, not_false_eq_true]
      exact ih d _

theorem run_append (a b : List UInt8) (h : rest a = []) : run (a ++ b) = (full a ++ full b, rest b) := by
  have e : run a = (full a, []) := by rw [← h]; rfl
  show (a ++ b).foldl step ([], []) = _
  rw [List.foldl_append]
  show b.foldl step (run a) = _
  rw [e, foldl_step]
  rfl
/-- Split's answer. -/
def splitR (s : List UInt8) : List (List UInt8) × Int := if shut s = true then (if s.count 10 ≤ 400 then (full s, 0) else ([], 4)) else ([], 2)
/-- Are lines few, and short? -/
def short (l : List (List UInt8)) : Bool := decide (l.length ≤ 500) && l.all fun x => decide (x.length ≤ 200)
/-- Is a byte one of a word? -/
def sign (c : UInt8) : Bool := decide (33 ≤ c.toNat) && decide (c.toNat ≤ 126)
/-- Byte by byte: the words that have ended, and the one that has been begun; nothing if it is no line of words. -/
def wstep (st : Option (List (List UInt8) × List UInt8)) (b : UInt8) : Option (List (List UInt8) × List UInt8) :=
  match st with
  | none => none
  | some (d, c) => if sign b = true then some (d, c ++ [b]) else if b = 32 ∧ c ≠ [] then some (d ++ [c], []) else none
def wrun (s : List UInt8) : Option (List (List UInt8) × List UInt8) := s.foldl wstep (some ([], []))
/-- Words' answer. -/
def wordsR (s : List UInt8) : List (List UInt8) × Int :=
  match wrun s with
  | none => ([], 2)
  | some (d, c) => if c ≠ [] ∧ d.length ≤ 7 then (d ++ [c], 0) else ([], 2)

/-- Words with one byte 32 between. -/
def spaced (l : List (List UInt8)) : List UInt8 := l.dropLast.flatMap (· ++ [32]) ++ l.getLastD []
end Go.Proofs.Ytahacjfeopjbaaa.Ln
/-
  Plain facts on decimal digits (no Go in it): a number's digits, the value of digits, that each is the other's inverse, and that numbers rise as their digits do.
  Conditions: none beyond those that each theorem states.
-/
set_option maxRecDepth 4000
namespace Go.Proofs.Ytahacjfeopjbaaa.Nm

/-- Is a byte a digit? -/
def isDig (c : UInt8) : Bool := decide (48 ≤ c.toNat) && decide (c.toNat ≤ 57)
/-- The digit of a number below ten. -/
def dig (k : Nat) : UInt8 := UInt8.ofNat (48 + k)
/-- A number's digits. -/
def digs (n : Nat) : List UInt8 := if n < 10 then [dig n] else digs (n / 10) ++ [dig (n % 10)]
  termination_by n
  decreasing_by omega
/-- What digits mean. -/
def val (l : List UInt8) : Nat := l.foldl (fun n c => n * 10 + (c.toNat - 48)) 0
/-- The digits ahead. -/
def lead (l : List UInt8) : List UInt8 := l.takeWhile isDig

theorem digs_small (n : Nat) (h : n < 10) : digs n = [dig n] := by rw [digs, if_pos h]
theorem digs_big (n : Nat) (h : 10 ≤ n) : digs n = digs (n / 10) ++ [dig (n % 10)] := by rw [digs, if_neg (by omega)]

theorem snocRec {motive : List UInt8 → Prop} (l : List UInt8) (nil : motive []) (snoc : ∀ l c, motive l → motive (l ++ [c])) : motive l := by
  rw [← List.reverse_reverse l]
  generalize l.reverse = r
  induction r with
  | nil => exact nil
  | cons c r ih => rw [List.reverse_cons]; exact snoc _ _ ih

theorem digs_len (n k : Nat) (h : n < 10 ^ (k + 1)) : (digs n).length ≤ k + 1 := by
  induction k generalizing n with
  | zero => rw [digs_small n (by simpa using h)]; simp
  | succ k ih =>
    by_cases hs : n < 10
    · rw [digs_small n hs]; simp
    · rw [digs_big n (by omega), List.length_append, List.length_singleton]
      have := ih (n / 10) (by rw [Nat.pow_succ] at h; omega)
      omega

theorem digs_len10 (n : Nat) (h : n ≤ 2147483647) : (digs n).length ≤ 10 := digs_len n 9 (by omega)

/-- The number at a place of a text, the place behind it, and the error's number: what P1.2 says. -/
def takeR (l : List UInt8) (a : Int) : Int × Int × Int :=
  if a < 0 ∨ (l.length : Int) < a then (0, 0, 1)
  else if lead (l.drop a.toNat) = [] ∨ ((lead (l.drop a.toNat)).head? = some 48 ∧ 1 < (lead (l.drop a.toNat)).length) then (0, 0, 2)
  else if val (lead (l.drop a.toNat)) ≤ 2147483647 then ((val (lead (l.drop a.toNat)) : Int), a + ((lead (l.drop a.toNat)).length : Int), 0) else (0, 0, 3)
/-- The number that a whole text is, and the error's number: what P1.3 says. -/
def wholeR (l : List UInt8) : Int × Int :=
  if (takeR l 0).2.2 = 0 then (if (takeR l 0).2.1 = (l.length : Int) then ((takeR l 0).1, 0) else (0, 2)) else (0, (takeR l 0).2.2)

/-- A number's text, and the error's number: what P1.1 says. -/
def isNum (n : Int) : Bool := decide (0 ≤ n) && decide (n ≤ 2147483647)
def showS (n : Int) : List UInt8 := if isNum n = true then digs n.toNat else []
theorem isNum_iff (n : Int) : isNum n = true ↔ 0 ≤ n ∧ n ≤ 2147483647 := by simp [isNum]

end Go.Proofs.Ytahacjfeopjbaaa.Nm
/-
  Small words that all texts share: what a call hands back, held against what it should; growth of memory, step by step.
  Conditions: none.
-/
set_option maxRecDepth 4000
namespace Go.Proofs.Ytahacjfeopjbaaa
open Go.RowKit

theorem ret_str {a b : ByteArray} (h : a = b) : Ending.returned (.string a) = .returned (.string b) := by rw [h]
theorem ret_int {k : IntKind} {a b : Int} (h : a = b) : Ending.returned (.int k a) = .returned (.int k b) := by rw [h]
theorem ret_bool {a b : Bool} (h : a = b) : Ending.returned (.bool a) = .returned (.bool b) := by rw [h]
theorem ret_int_bool {k : IntKind} {a b : Int} {c d : Bool} (h : a = b) (h' : c = d) : Ending.returned (.tuple #[.int k a, .bool c]) = .returned (.tuple #[.int k b, .bool d]) := by rw [h, h']
theorem below_all {w w1 w2 : World} (h1 : Below w.heap.size w w1) (h2 : Below w1.heap.size w1 w2) : Below w.heap.size w w2 := h1.trans (h2.mono h1.size)
theorem below_drewN {B : Nat} {a w : World} (h : Below B a w) (n : Nat) : Below B a (w.drewN n) := ⟨h.os, h.tape, h.output, h.size, h.block⟩
end Go.Proofs.Ytahacjfeopjbaaa
/-
  Words for memory: a slice that reads as a list of cells (nil and empty let in), and how that lasts while a call makes memory of its own.
  Conditions: none beyond those that each theorem states.
-/
set_option maxRecDepth 4000
namespace Go.Proofs.Ytahacjfeopjbaaa
open Go.RowKit

theorem add_block (a : Addr) (n : Nat) : (a.add n).block = a.block := by unfold Addr.add; split <;> rfl

/-- The slice value v, of n elements of 'size' cells each, reads as the cells xs. -/
def Sl (w : World) (size : Nat) (v : Value) (n : Nat) (xs : List Value) : Prop :=
  xs.length = n * size ∧ ∃ A c, v = .slice A n c ∧ n ≤ c ∧ (A = none → c = 0) ∧ (0 < n → ∃ ad : Addr, A = some ad ∧ ad.block < w.heap.size ∧ ∀ j u, xs[j]? = some u → w.cell? (ad.add j) = some u)

theorem Sl.keep {w w' : World} {size n : Nat} {v : Value} {xs : List Value} (h : Sl w size v n xs) (hs : w.heap.size ≤ w'.heap.size) (hk : ∀ p : Addr, p.block < w.heap.size → w'.cell? p = w.cell? p) : Sl w' size v n xs := by
  obtain ⟨hl, A, c, hv, hc, hz, hh⟩ := h
  refine ⟨hl, A, c, hv, hc, hz, fun hn => ?_⟩
  obtain ⟨ad, e, hb, hc⟩ := hh hn
  exact ⟨ad, e, by omega, fun j u hu => (hk _ (by rw [add_block]; exact hb)).trans (hc j u hu)⟩
theorem Sl.below {w w' : World} {size n : Nat} {v : Value} {xs : List Value} (h : Sl w size v n xs) (hb : Below w.heap.size w w') : Sl w' size v n xs := h.keep hb.size fun _ hp => hb.cell hp
theorem Sl.nil (w : World) (size : Nat) (A : Option Addr) : Sl w size (.slice A 0 0) 0 [] := ⟨by simp, A, 0, rfl, Nat.le_refl _, fun _ => rfl, fun h => absurd h (by omega)⟩
theorem Sl.own {w : World} {base size n : Nat} {e : TypeId} {v : Value} {xs : List Value} (h : w.ownsRow base e size v n xs) : Sl w size v n xs := by
  refine ⟨h.1, ?_⟩
  have h0 := h
  rcases h.2 with ⟨hv, rfl⟩ | ⟨g, cap, cur, hv, _, hg, hc, _⟩
  · exact ⟨none, 0, hv, Nat.le_refl _, fun _ => rfl, fun h => absurd h (by omega)⟩
  · refine ⟨_, _, hv, hc, fun h => (by cases h), fun _ => ⟨_, rfl, (Array.getElem?_eq_some_iff.1 hg).1, ?_⟩⟩
    exact h0.cells (by rw [hv]; rfl)
theorem Sl.len {w : World} {size n : Nat} {v : Value} {xs : List Value} (h : Sl w size v n xs) : xs.length = n * size := h.1
/-- The value as the walk wants it: its head is known as soon as there is an element. -/
theorem Sl.form {w : World} {size n : Nat} {v : Value} {xs : List Value} (h : Sl w size v n xs) : ∃ A c, v = .slice A n c ∧ (0 < n → ∃ ad : Addr, A = some ad ∧ ad.block < w.heap.size ∧ ∀ j u, xs[j]? = some u → w.cell? (ad.add j) = some u) := by
  obtain ⟨_, A, c, hv, _, _, hh⟩ := h
  exact ⟨A, c, hv, hh⟩
theorem Sl.cap {w : World} {size n c : Nat} {A : Option Addr} {xs : List Value} (h : Sl w size (.slice A n c) n xs) : n ≤ c := by
  obtain ⟨_, _, _, hv, hc, _⟩ := h
  cases hv
  exact hc

theorem own_form {w : World} {base size n : Nat} {e : TypeId} {v : Value} {xs : List Value} (h : w.ownsRow base e size v n xs) : ∃ A c, v = .slice A n c := by
  rcases h.2 with ⟨rfl, rfl⟩ | ⟨g, cap, _, rfl, _⟩
  · exact ⟨_, _, rfl⟩
  · exact ⟨_, _, rfl⟩
theorem own_below {w w' : World} {base size n : Nat} {e : TypeId} {v : Value} {xs : List Value} (h : w.ownsRow base e size v n xs) (hb : Below w.heap.size w w') : w'.ownsRow base e size v n xs :=
  h.kept (row := none) ⟨hb.os, hb.tape, hb.output, hb.size, fun k hk _ => hb.block k hk⟩ (by cases v.ownBlock <;> simp)
theorem own_drewN {w : World} {base size n : Nat} {e : TypeId} {v : Value} {xs : List Value} (h : w.ownsRow base e size v n xs) (k : Nat) : (w.drewN k).ownsRow base e size v n xs := h
theorem below_append {B : Nat} {w w1 w' : World} {size n : Nat} {e : TypeId} {v : Value} {xs : List Value} (hb : Below B w w1) (hB : B ≤ w1.heap.size) (hown : w1.ownsRow B e size v n xs) (hg : w1.grownBy w' v.ownBlock) : Below B w w' :=
  hb.grown hg hB (fun k hk => (hown.lt k hk).1)
theorem drewN_below (w : World) (k : Nat) : Below w.heap.size w (w.drewN k) := ⟨rfl, rfl, rfl, Nat.le_refl _, fun _ _ => rfl⟩

theorem add_zero' (a : Addr) : a.add 0 = a := by simp [Addr.add]

/-- append of whatever slice reads as a list (nil among them) onto a row of the call's own. -/
theorem run_append_sl {P : Program} (w : World) (base : Nat) (t ty e : TypeId) (i : TypeInfo) (z : Value) (size bytes : Nat) (ht : P.underlying t = some (.slice e)) (hi : P.info? e = some i) (hz : i.zero = some z)
    (hsize : i.size = size) (hby : i.bytes = bytes) (hzs : z.cells.size = size) (hsz : 0 < size)
    (v : Value) (n : Nat) (xs : List Value) (hown : w.ownsRow base e size v n xs)
    (u : Value) (m : Nat) (news : List Value) (hu : Sl w size u m news) (h1 : ∀ x ∈ news, x.oneCell' = true)
    (h63 : n + m ≤ maxLen) (hbytes : (n + m) * bytes ≤ 140737488355328) (hbase : base ≤ w.heap.size) :
    ∃ v' w', (Builtin.append_ #[t, t] ty #[v, u]).run P w = .ok v' w' ∧ w'.ownsRow base e size v' (n + m) (xs ++ news) ∧ w.grownBy w' v.ownBlock ∧ (v'.ownBlock = v.ownBlock ∨ v'.ownBlock = some w.heap.size) := by
  obtain ⟨hl, A, c, rfl, _, hc0, hh⟩ := hu
  cases A with
  | none =>
    have hm : m = 0 := Nat.eq_zero_of_not_pos fun h0 => by
      obtain ⟨_, h, _⟩ := hh h0
      cases h
    obtain rfl := hc0 rfl
    subst hm
    obtain rfl : news = [] := List.eq_nil_of_length_eq_zero (by rw [hl, Nat.zero_mul])
    exact ⟨v, w, run_append_owned_none w base t ty e i size ht hi v n xs hown, by rw [List.append_nil]; exact hown, World.grownBy.refl w _, .inl rfl⟩
  | some ad =>
    have hcells : ∀ j x, news[j]? = some x → w.cell? (ad.add j) = some x := fun j x hx => by
      have hn : 0 < m := Nat.pos_of_ne_zero fun h0 => by
        have hnil : news = [] := List.eq_nil_of_length_eq_zero (by rw [hl, h0, Nat.zero_mul])
        rw [hnil] at hx
        cases hx
      obtain ⟨ad', h, _, hc⟩ := hh hn
      cases h
      exact hc j x hx
    obtain ⟨v', w', hrun, h2, h3, _, h5⟩ := run_append_own_at (P := P) w base t ty e i z size bytes ht hi hz hsize hby hzs hsz v n xs hown ad m c news hl hcells h1 h63 hbytes hbase
    exact ⟨v', w', hrun, h2, h3, h5⟩
/-- The same, at the operation. -/
theorem wpList_append_sl {P : Program} (w : World) {ops : Array Oper} {rest : List Oper} {o : Oper} {a : Act} {Q : Exit → Act → World → Prop} (hgd : o.guard = none) (s x : Operand) (t : TypeId)
    (ho : o.op = .call { callee := .builtin .append, args := #[s, x], argTypes := #[t, t] })
    (base : Nat) (e : TypeId) (i : TypeInfo) (z : Value) (size bytes : Nat) (ht : P.underlying t = some (.slice e)) (hi : P.info? e = some i) (hz : i.zero = some z)
    (hsize : i.size = size) (hby : i.bytes = bytes) (hzs : z.cells.size = size) (hsz : 0 < size)
    (v : Value) (n : Nat) (xs : List Value) (hs : a.eval s = v) (hown : w.ownsRow base e size v n xs)
    (u : Value) (m : Nat) (news : List Value) (hx : a.eval x = u) (hu : Sl w size u m news) (h1 : ∀ x ∈ news, x.oneCell' = true)
    (h63 : n + m ≤ maxLen) (hbytes : (n + m) * bytes ≤ 140737488355328) (hbase : base ≤ w.heap.size)
    (h : ∀ v' w', w'.ownsRow base e size v' (n + m) (xs ++ news) → w.grownBy w' v.ownBlock → (v'.ownBlock = v.ownBlock ∨ v'.ownBlock = some w.heap.size) → wpList P ops Q rest (a.put o.dst v') w') : wpList P ops Q (o :: rest) a w := by
  refine wpList_plain hgd fun K hK => ?_
  obtain ⟨v', w', hrun, h2, h3, h4⟩ := run_append_sl (P := P) w base t o.type e i z size bytes ht hi hz hsize hby hzs hsz v n xs hown u m news hu h1 h63 hbytes hbase
  unfold Oper.wp execOp
  simp only [ho, resolve, invoke, builtin, Sem.run_bind, Sem.run_pure, Result.andThen_ok, List.map_toArray, List.map_cons, List.map_nil, hs, hx, hrun]
  exact hK _ _ (h v' w' h2 h3 h4)

/-- How long a text is (a loop's measure). -/
def lenOf : Value → Nat | .string s => s.size | _ => 0

theorem nums_text (l : List UInt8) : strOfNums (l.map fun x => (x.toNat : Int)) = Ln.bs l := by
  unfold strOfNums Ln.bs
  rw [List.map_map]
  have : ((fun n : Int => UInt8.ofNat n.toNat) ∘ fun x : UInt8 => (x.toNat : Int)) = id := by funext x; simp
  rw [this, List.map_id]

/-- Bytes as cells. -/
def byV (x : List UInt8) : List Value := x.map fun b => .int .u8 (b.toNat : Int)
theorem byV_len (x : List UInt8) : (byV x).length = x.length := by simp [byV]
theorem byV_append (x y : List UInt8) : byV (x ++ y) = byV x ++ byV y := by simp [byV]
theorem strCells_bs (x : List UInt8) : Lib.strCells (Ln.bs x) = byV x := by rw [Lib.strCells, Ln.bs_data]; rfl
theorem own_more {w : World} {base : Nat} {e : TypeId} {v : Value} {x : List UInt8} (y : List UInt8) (h : w.ownsRow base e 1 v (x.length + (Ln.bs y).size) (byV x ++ Lib.strCells (Ln.bs y))) : w.ownsRow base e 1 v (x ++ y).length (byV (x ++ y)) := by
  rw [List.length_append, byV_append, ← strCells_bs y, ← Ln.bs_size y]
  exact h
/-- string(..) of a row of the call's own. -/
theorem own_text {P : Program} {w : World} {base : Nat} {e : TypeId} {v : Value} {x : List UInt8} (h : w.ownsRow base e 1 v x.length (byV x)) (src dst : TypeId) (hs : P.underlying src = some (.slice e)) (he : P.underlying e = some (.int .u8)) (hd : P.underlying dst = some .string) :
    (convert src dst v).run P w = .ok (.string (Ln.bs x)) w := by
  have h0 := h
  rcases h.2 with ⟨rfl, hn⟩ | ⟨g, cap, cur, rfl, _, _, _⟩
  · have : x = [] := List.eq_nil_of_length_eq_zero hn
    subst this
    exact run_convert_bytes_nil w src e hs he 0 0 dst hd
  · have := run_convert_bytes_arg (P := P) w src e hs he g 0 x.length cap (x.map fun b => (b.toNat : Int)) (by simp) (fun i hi => by
      have hc := h0.cellAt i (by simpa using hi)
      rw [Nat.zero_add, hc]
      simp [byV, List.getD, hi]) dst hd
    rw [this, nums_text]

theorem bs_add (a b : List UInt8) : Ln.bs a ++ Ln.bs b = Ln.bs (a ++ b) := by
  apply ByteArray.ext
  simp [Ln.bs]

theorem bs_eqb (a b : List UInt8) : ((Ln.bs a).toList == (Ln.bs b).toList) = (a == b) := by
  rw [Lib.toList_data, Lib.toList_data, Ln.bs_data, Ln.bs_data]

/-- Texts as cells. -/
def strV (x : List UInt8) : Value := .string (Ln.bs x)
/-- The slice value v reads as the texts l. -/
def Strs (w : World) (v : Value) (l : List (List UInt8)) : Prop := Sl w 1 v l.length (l.map strV)
theorem Strs.below {w w' : World} {v : Value} {l : List (List UInt8)} (h : Strs w v l) (hb : Below w.heap.size w w') : Strs w' v l := Sl.below h hb
theorem Strs.nil (w : World) (A : Option Addr) : Strs w (.slice A 0 0) [] := Sl.nil w 1 A
theorem Strs.form {w : World} {v : Value} {l : List (List UInt8)} (h : Strs w v l) :
    ∃ A c, v = .slice A l.length c ∧ ∀ (k : Nat) (hk : k < l.length), ∃ ad : Addr, A = some ad ∧ ad.block < w.heap.size ∧ w.cell? (ad.add k) = some (strV l[k]) := by
  obtain ⟨A, c, hv, hh⟩ := Sl.form h
  refine ⟨A, c, hv, fun k hk => ?_⟩
  obtain ⟨ad, e, hb, hc⟩ := hh (by omega)
  exact ⟨ad, e, hb, hc k _ (by rw [List.getElem?_map, List.getElem?_eq_getElem hk]; rfl)⟩
theorem Strs.none_ {w : World} {v : Value} {l : List (List UInt8)} (h : Strs w v l) (hl : l = []) : ∃ A c, v = .slice A 0 c := by
  subst hl
  obtain ⟨A, c, hv, _⟩ := h.form
  exact ⟨A, c, hv⟩
theorem Strs.own {w : World} {base : Nat} {e : TypeId} {v : Value} {l : List (List UInt8)} (h : w.ownsRow base e 1 v l.length (l.map strV)) : Strs w v l := Sl.own h

theorem Strs.own_snoc {w : World} {base : Nat} {e : TypeId} {v : Value} {d : List (List UInt8)} {x : List UInt8} (h : w.ownsRow base e 1 v (d.length + 1) (d.map strV ++ [strV x])) : w.ownsRow base e 1 v (d ++ [x]).length ((d ++ [x]).map strV) := by
  rw [List.length_append, List.map_append]
  exact h
theorem one_strs (x : List UInt8) : ∀ u ∈ [strV x], u.oneCell' = true := by
  intro u hu
  rw [List.mem_singleton.1 hu]
  rfl
theorem all_strs (l : List (List UInt8)) : ∀ u ∈ l.map strV, u.oneCell' = true := by
  intro u hu
  obtain ⟨x, _, rfl⟩ := List.mem_map.1 hu
  rfl
/-- The one cell of a new block. -/
theorem new_one (w : World) (u : Value) (e : TypeId) : ∀ j x, [u][j]? = some x → (w.alloc (.cells #[u] e)).cell? ((⟨w.heap.size, 0, none⟩ : Addr).add j) = some x := by
  intro j x hj
  match j, hj with
  | 0, hj =>
    simp at hj
    subst hj
    rw [add_zero', cell_of_row _ _ _ #[u] e (0, 0) (heap_alloc_new w _)]
    rfl

/-- A literal of texts. -/
theorem lit_strs (w : World) (e : TypeId) (l : List (List UInt8)) (hl : l.length ≤ maxLen) : Strs (w.alloc (.cells (l.map strV).toArray e)) (.slice (some ⟨w.heap.size, 0, none⟩) l.length l.length) l := by
  have h := World.ownsRow_lit (base := 0) (e := e) (size := 1) w (l.map strV).toArray l.length (Nat.zero_le _) hl (by simp)
  exact Strs.own h

/-- A row of texts, and a number beside it: what the call hands back lies in memory of its own; what was there stays. -/
def RetStrs (w : World) (r : List (List UInt8) × Int) (e : Ending) (w' : World) : Prop := ∃ v, e = .returned (.tuple #[v, .int .i64 r.2]) ∧ Strs w' v r.1 ∧ Below w.heap.size w w'
theorem RetStrs.mk {w w' : World} {r : List (List UInt8) × Int} (v : Value) (n : Int) (hr : r.2 = n) (hs : Strs w' v r.1) (hb : Below w.heap.size w w') : RetStrs w r (.returned (.tuple #[v, .int .i64 n])) w' :=
  ⟨v, by rw [hr], hs, hb⟩
/-- A text, and a number beside it. -/
def RetStr (w : World) (r : List UInt8 × Int) (e : Ending) (w' : World) : Prop := e = .returned (.tuple #[.string (Ln.bs r.1), .int .i64 r.2]) ∧ Below w.heap.size w w'
theorem RetStr.mk {w w' : World} {r : List UInt8 × Int} (s : ByteArray) (n : Int) (hr : r.2 = n) (hs : s = Ln.bs r.1) (hb : Below w.heap.size w w') : RetStr w r (.returned (.tuple #[.string s, .int .i64 n])) w' :=
  ⟨by rw [hr, hs], hb⟩
/-- A bool, in whatever memory was made. -/
def RetBool (w : World) (b : Bool) (e : Ending) (w' : World) : Prop := e = .returned (.bool b) ∧ Below w.heap.size w w'

end Go.Proofs.Ytahacjfeopjbaaa
/-
  From a walk to a law's statement: a call that answers true and leaves what was there as it was meets 'for every input the law returns true, and each argument reads behind the call as it read before'; and how arguments are opened.
  Conditions: none beyond those that each theorem states.
-/
set_option maxRecDepth 4000
namespace Go.Proofs.Ytahacjfeopjbaaa
open Go.ChangeShapes Go.WideShapes Go.ChangeAt Go.RowKit

section
variable {H : Type} {enc : TypeId × Value → H} {P : Program}

/-- All arguments read behind the call as they read before. -/
theorem args_stay (hl : laidOutB P = true) {W W' : World} (hb : Below W.heap.size W W') {sp : Nat → Bool} : ∀ {ts : List TypeId} {vs : List Value} {ds : List (DataW H)} {ps : List MemPlace},
    (∀ t ∈ ts, P.readableRec t = true ∧ t < P.types.size) → DataW.TrodAll enc P W 0 (fun _ => true) true ts vs ds ps → (∀ p ∈ ps, p.block < W.heap.size ∧ sp p.block = true) → DataW.TrodAll enc P W' 0 sp true ts vs ds ps
  | [], [], [], _, _, h, _ => h
  | t :: ts, v :: vs, d :: ds, ps, ht, h, hp => by
    obtain ⟨p, q, h1, h2, rfl⟩ := h
    obtain ⟨r1, r2⟩ := ht t List.mem_cons_self
    refine ⟨p, q, WideElems.Trod_stays hl r1 r2 h1 (fun x hx => hb.same (hp x (List.mem_append_left _ hx)).1) (fun x hx => (hp x (List.mem_append_left _ hx)).2), ?_, rfl⟩
    exact args_stay hl hb (fun t ht' => ht t (List.mem_cons_of_mem _ ht')) h2 (fun x hx => hp x (List.mem_append_right _ hx))
  | [], [], _ :: _, _, _, h, _ => h.elim
  | [], _ :: _, _, _, _, h, _ => h.elim
  | _ :: _, [], _, _, _, h, _ => h.elim
  | _ :: _, _ :: _, [], _, _, h, _ => h.elim

/-- A law's post: it answered true, and what was there is as it was. -/
theorem law_post {f : Func} {s : ChangeSpec} {W W' : World} {args : Array Value} {ds : List (DataW H)} {before : List MemPlace} {tb : TypeId} (hv : s.vars = [])
    (hW : DataW.Whole enc P f.params.toList s.vars false W args.toList ds [] before) (hfn : s.fn H ds = { results := [.lit (.bool true)], args := ds })
    (hrt : f.resultTypes = #[tb]) (htb : P.underlying tb = some .bool) (hl : laidOutB P = true) (hra : f.params.toList.all (fun t => P.readableRec t && decide (t < P.types.size)) = true) (hb : Below W.heap.size W W') :
    s.post enc P f false true false false W args (.bool true) W' := by
  have hr : ∀ t ∈ f.params.toList, P.readableRec t = true ∧ t < P.types.size := fun t ht => by
    have h := List.all_eq_true.1 hra t ht
    simpa using h
  have hlt : ∀ p ∈ before, p.block < W.heap.size := fun p hp => hW.lt p hp
  have hW0 := hW
  obtain ⟨p, q, hA, hV, rfl, hz, hn⟩ := hW
  rw [hv] at hV
  obtain rfl : q = [] := hV
  simp only [List.append_nil] at hlt hz hn hW0
  have hfn' : s.fn H (ds ++ []) = { results := [.lit (.bool true)], args := ds } := by rw [List.append_nil]; exact hfn
  have hA' : ∀ sp : Nat → Bool, (∀ x ∈ p, sp x.block = true) → DataW.TrodAll enc P W' 0 sp true f.params.toList args.toList (s.fn H (ds ++ [])).args p := fun sp hsp => by
    rw [hfn']
    exact args_stay hl hb hr hA (fun x hx => ⟨hlt x hx, hsp x hx⟩)
  have hres : ∀ (b : Nat) (sp : Nat → Bool) (hd : Bool), DataW.TrodAll enc P W' b sp hd f.resultTypes.toList ((Value.bool true).resultList f.resultTypes.size) (s.fn H (ds ++ [])).results [] := fun b sp hd => by
    rw [hfn', hrt]
    exact trodAll_cons_mk (shut_bool htb _) trodAll_mk0
  have hvars : ∀ sp : Nat → Bool, DataW.TrodVars enc P W' sp s.vars (s.fn H (ds ++ [])).vars [] := fun sp => by
    rw [hfn', hv]
    rfl
  have hold : ∀ x ∈ p, (fun b => decide (b < W.heap.size)) x.block = true := fun x hx => by simpa using hlt x hx
  refine ⟨ds, [], p, [], p, [], hW0, hres _ _ _, hA' _ hold, hvars _, World.keptBut_mono (fun x hx => ⟨hx, ?_⟩) (hb.frame (· ∈ p)), fun h => by cases h⟩
  exact Or.inr (Or.inl hx)
end

section
variable {H : Type} {enc : TypeId × Value → H} {P : Program} {w : World} {base : Nat} {r : Reach} {b0 : Nat}

/-- A slice of texts among the arguments. -/
theorem arg_strs {t e : TypeId} {v : Value} {d : DataW H} {ps : List MemPlace} (ht : P.underlying t = some (.slice e)) (he : P.underlying e = some .string) (hc : P.cellsOf e = 1)
    (hval : Value.okWide P w r b0 t v) (h : DataW.Trod enc P w base (fun _ => true) true t v d ps) :
    ∃ l : List (List UInt8), Strs w v l ∧ l.length ≤ maxLen ∧ ∀ x ∈ l, x.length ≤ maxLen := by
  obtain ⟨a0, len0, cap0, rfl⟩ := okWide_slice ht hval
  obtain ⟨fuel, hf⟩ := h
  rcases open_strings ht he hc hf with ⟨hcs, hx⟩ | ⟨a, len, cap, ss, hcs, _, hl, hm, hz, hx, hcell, hsz⟩
  · simp [Value.cells] at hcs
    obtain ⟨rfl, rfl, rfl⟩ := hcs
    exact ⟨[], Strs.nil _ _, by simp, by simp⟩
  · simp [Value.cells] at hcs
    obtain ⟨rfl, rfl, rfl⟩ := hcs
    simp only [if_true] at hz
    refine ⟨(ss.take len0).map (·.data.toList), ?_, by simp; omega, ?_⟩
    · have hlen : ((ss.take len0).map (·.data.toList)).length = len0 := by simp; omega
      rw [Strs, hlen]
      refine ⟨by simp; omega, some a, cap0, rfl, by omega, fun h => (by cases h), fun hn => ⟨a, rfl, ?_, fun j u hu => ?_⟩⟩
      · have hc0 := hcell 0 (by omega)
        rw [add_zero'] at hc0
        exact World.block_lt_of_cell? w a hc0
      · rw [List.getElem?_map, List.getElem?_map] at hu
        have hj : j < len0 := by
          rcases Nat.lt_or_ge j len0 with h | h
          · exact h
          · rw [List.getElem?_eq_none (by simp; omega)] at hu
            cases hu
        have hjs : j < ss.length := by omega
        rw [List.getElem?_take, if_pos hj, List.getElem?_eq_getElem hjs] at hu
        simp only [Option.map_some, Option.some.injEq] at hu
        rw [hcell j hjs, ← hu, strV, Ln.bs_of, List.getD_eq_getElem?_getD, List.getElem?_eq_getElem hjs]
        rfl
    · intro x hx
      obtain ⟨s, hs, rfl⟩ := List.mem_map.1 hx
      have := hsz s (List.mem_of_mem_take hs)
      simpa using this
end
end Go.Proofs.Ytahacjfeopjbaaa
