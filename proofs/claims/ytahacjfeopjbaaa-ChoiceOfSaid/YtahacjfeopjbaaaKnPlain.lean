/-
  Plain facts on what is known from a history (no Go in it): the sessions' order, who reads from whom, who reads what was there at first, as graphs.
  Conditions: none beyond those that each theorem states.
-/
import Derived.Test.YtahacjfeopjbaaaChPlain
import Derived.Test.YtahacjfeopjbaaaRcAll
import Derived.Test.YtahacjfeopjbaaaGfAll
set_option maxRecDepth 4000
namespace Go.Proofs.Ytahacjfeopjbaaa.Kn
open So (Txn Rises)
open Hi (Right)
open Gf (bit Ok build)

def readsAt (h : List Txn) (t : Nat) : List (Int × Int) := match h[t]? with
  | some x => x.reads
  | none => []
theorem mem_readsAt {h : List Txn} {t : Nat} {y : Int × Int} : y ∈ readsAt h t ↔ Ch.Reads h t y.1 y.2 := by
  unfold readsAt Ch.Reads
  constructor
  · intro hy
    split at hy
    · rename_i x e
      obtain ⟨ht, rfl⟩ := List.getElem?_eq_some_iff.1 e
      exact ⟨ht, hy⟩
    · cases hy
  · rintro ⟨ht, hm⟩
    rw [List.getElem?_eq_getElem ht]
    exact hm
def soB (h : List Txn) (a b : Nat) : Bool := decide (a < b) && decide ((h[a]?).map (·.session) = (h[b]?).map (·.session))
def wrB (h : List Txn) (a b : Nat) : Bool := (readsAt h b).any fun y => decide (y.2 = (a : Int))
def initB (h : List Txn) (a b : Nat) : Bool := decide (a ≠ b) && (readsAt h a).any fun y => decide (y.2 = -1) && Ix.writes h y.1 b
def soR (h : List Txn) : List Nat := build h.length (soB h)
def wrR (h : List Txn) : List Nat := build h.length (wrB h)
def initR (h : List Txn) : List Nat := build h.length (initB h)
def pastR (h : List Txn) : List Nat := build h.length fun a b => soB h a b || wrB h a b

theorem len64 {h : List Txn} (hr : Right h) : h.length ≤ 64 := Nat.le_trans hr.1 (by decide)
theorem so_ok {h : List Txn} (hr : Right h) : Ok h.length (soR h) := Gf.build_ok (len64 hr) _
theorem wr_ok {h : List Txn} (hr : Right h) : Ok h.length (wrR h) := Gf.build_ok (len64 hr) _
theorem init_ok {h : List Txn} (hr : Right h) : Ok h.length (initR h) := Gf.build_ok (len64 hr) _
theorem past_ok {h : List Txn} (hr : Right h) : Ok h.length (pastR h) := Gf.build_ok (len64 hr) _
theorem past_union {h : List Txn} (hr : Right h) : pastR h = Gf.unionR h.length (soR h) (wrR h) := by
  refine Gf.same (past_ok hr) (Gf.build_ok (len64 hr) _) fun x y hx hy => ?_
  rw [Gf.union_bit (so_ok hr) (wr_ok hr), pastR, soR, wrR, Gf.build_bit (len64 hr), Gf.build_bit (len64 hr), Gf.build_bit (len64 hr), decide_eq_true hx, decide_eq_true hy]
  simp

theorem soB_iff {h : List Txn} {a b : Nat} (hb : b < h.length) : soB h a b = true ↔ Ch.Sess h a b := by
  unfold soB Ch.Sess
  rw [Bool.and_eq_true, decide_eq_true_eq, decide_eq_true_eq]
  constructor
  · rintro ⟨h1, h2⟩
    have ha : a < h.length := Nat.lt_trans h1 hb
    rw [List.getElem?_eq_getElem ha, List.getElem?_eq_getElem hb] at h2
    exact ⟨ha, hb, h1, Option.some.inj h2⟩
  · rintro ⟨ha, hb', h1, h2⟩
    refine ⟨h1, ?_⟩
    rw [List.getElem?_eq_getElem ha, List.getElem?_eq_getElem hb']
    exact congrArg some h2
theorem so_bit {h : List Txn} (hr : Right h) {a b : Nat} : bit (soR h) a b = true ↔ Ch.Sess h a b := by
  rw [soR, Gf.build_bit (len64 hr), Bool.and_eq_true, Bool.and_eq_true, decide_eq_true_eq, decide_eq_true_eq]
  constructor
  · rintro ⟨_, hb, q⟩
    exact (soB_iff hb).1 q
  · intro q
    obtain ⟨ha, hb, _⟩ := id q
    exact ⟨ha, hb, (soB_iff hb).2 q⟩
theorem wrB_iff {h : List Txn} {a b : Nat} : wrB h a b = true ↔ ∃ k, Ch.Reads h b k (a : Int) := by
  rw [wrB, List.any_eq_true]
  constructor
  · rintro ⟨y, hy, e⟩
    refine ⟨y.1, ?_⟩
    rw [← of_decide_eq_true e]
    exact mem_readsAt.1 hy
  · rintro ⟨k, hk⟩
    exact ⟨(k, (a : Int)), mem_readsAt.2 hk, decide_eq_true rfl⟩
theorem wr_bit {h : List Txn} (hr : Right h) {a b : Nat} : bit (wrR h) a b = true ↔ ∃ k, Ch.Reads h b k (a : Int) := by
  rw [wrR, Gf.build_bit (len64 hr), Bool.and_eq_true, Bool.and_eq_true, decide_eq_true_eq, decide_eq_true_eq, wrB_iff]
  constructor
  · rintro ⟨_, _, q⟩
    exact q
  · rintro ⟨k, q⟩
    rcases Ch.reads_from hr q with e | ⟨a', e, _, hw⟩
    · exact absurd e (by omega)
    · obtain rfl : a = a' := Int.ofNat.inj e
      exact ⟨Ch.wr_lt hw, q.1, k, q⟩
theorem initB_iff {h : List Txn} {a b : Nat} : initB h a b = true ↔ a ≠ b ∧ ∃ k, Ch.Reads h a k (-1) ∧ Ch.Wr h k b := by
  rw [initB, Bool.and_eq_true, decide_eq_true_eq, List.any_eq_true]
  constructor
  · rintro ⟨h1, y, hy, e⟩
    rw [Bool.and_eq_true, decide_eq_true_eq] at e
    refine ⟨h1, y.1, ?_, e.2⟩
    rw [← e.1]
    exact mem_readsAt.1 hy
  · rintro ⟨h1, k, h2, h3⟩
    exact ⟨h1, (k, -1), mem_readsAt.2 h2, by rw [Bool.and_eq_true]; exact ⟨decide_eq_true rfl, h3⟩⟩
theorem init_bit {h : List Txn} (hr : Right h) {a b : Nat} : bit (initR h) a b = true ↔ a ≠ b ∧ ∃ k, Ch.Reads h a k (-1) ∧ Ch.Wr h k b := by
  rw [initR, Gf.build_bit (len64 hr), Bool.and_eq_true, Bool.and_eq_true, decide_eq_true_eq, decide_eq_true_eq, initB_iff]
  constructor
  · rintro ⟨_, _, q⟩
    exact q
  · rintro ⟨h1, k, h2, h3⟩
    exact ⟨h2.1, Ch.wr_lt h3, h1, k, h2, h3⟩
theorem past_bit {h : List Txn} (hr : Right h) (a b : Nat) : bit (pastR h) a b = (bit (soR h) a b || bit (wrR h) a b) := by
  rw [pastR, soR, wrR, Gf.build_bit (len64 hr), Gf.build_bit (len64 hr), Gf.build_bit (len64 hr)]
  cases decide (a < h.length) <;> cases decide (b < h.length) <;> simp

/-! What follows. -/
theorem sess_then {h : List Txn} {a b c : Nat} (h1 : Ch.Sess h a b) (h2 : Ch.Sess h b c) : Ch.Sess h a c := by
  obtain ⟨ha, hb, h3, h4⟩ := h1
  obtain ⟨_, hc, h5, h6⟩ := h2
  exact ⟨ha, hc, Nat.lt_trans h3 h5, h4.trans h6⟩
theorem so_leads {h : List Txn} (hr : Right h) {a b : Nat} (q : Rc.Leads (soR h) a b) : Ch.Sess h a b := by
  induction q with
  | single e => exact (so_bit hr).1 e
  | tail _ e ih => exact sess_then ih ((so_bit hr).1 e)
theorem so_closed {h : List Txn} (hr : Right h) : Rc.closeR h.length (soR h) = soR h :=
  (Rc.close_is (so_ok hr) (so_ok hr) fun _ _ => ⟨fun q => .edge q, fun q => (so_bit hr).2 (so_leads hr q)⟩).symm
theorem so_none {h : List Txn} (hr : Right h) : Rc.cyclicR h.length (soR h) = false := by
  cases e : Rc.cyclicR h.length (soR h) with
  | false => rfl
  | true =>
    obtain ⟨x, q⟩ := (Rc.cyclic_iff (so_ok hr)).1 e
    obtain ⟨_, _, h1, _⟩ := so_leads hr q
    exact absurd h1 (Nat.lt_irrefl _)
theorem so_self {h : List Txn} (hr : Right h) (a : Nat) : bit (soR h) a a = false := by
  cases e : bit (soR h) a a with
  | false => rfl
  | true =>
    obtain ⟨_, _, h1, _⟩ := (so_bit hr).1 e
    exact absurd h1 (Nat.lt_irrefl _)
theorem wr_self {h : List Txn} (hr : Right h) (a : Nat) : bit (wrR h) a a = false := by
  cases e : bit (wrR h) a a with
  | false => rfl
  | true =>
    obtain ⟨k, q⟩ := (wr_bit hr).1 e
    rcases Ch.reads_from hr q with e | ⟨a', e, hne, _⟩
    · exact absurd e (by omega)
    · exact absurd (Int.ofNat.inj e).symm hne
theorem init_self {h : List Txn} (hr : Right h) (a : Nat) : bit (initR h) a a = false := by
  cases e : bit (initR h) a a with
  | false => rfl
  | true => exact absurd rfl ((init_bit hr).1 e).1
theorem past_self {h : List Txn} (hr : Right h) (a : Nat) : bit (pastR h) a a = false := by rw [past_bit hr, so_self hr, wr_self hr]; rfl

/-- A history without its reads. -/
def bare (h : List Txn) : List Txn := h.map fun t => ⟨t.session, t.writes, []⟩
theorem bare_len (h : List Txn) : (bare h).length = h.length := List.length_map _
theorem bare_right {h : List Txn} (hr : Right h) : Right (bare h) := by
  refine ⟨by rw [bare_len]; exact hr.1, fun n hn => ?_⟩
  have hn' : n < h.length := by rwa [bare_len] at hn
  have e : (bare h)[n] = ⟨h[n].session, h[n].writes, []⟩ := by simp [bare]
  rw [e]
  exact ⟨(hr.2 n hn').session, (hr.2 n hn').writes, ⟨fun k q => absurd q (by simp), List.Pairwise.nil⟩, fun y q => absurd q (by simp)⟩
theorem bare_reads (h : List Txn) (t : Nat) (k f : Int) : ¬ Ch.Reads (bare h) t k f := by
  rintro ⟨ht, q⟩
  simp [bare] at q
theorem bare_so (h : List Txn) : soR (bare h) = soR h := by
  unfold soR
  rw [bare_len]
  congr 1
  funext a b
  unfold soB bare
  rw [List.getElem?_map, List.getElem?_map]
  cases h[a]? <;> cases h[b]? <;> rfl
theorem edges_none {n : Nat} {g : List Nat} (hg : Ok n g) (hn : ∀ a b, bit g a b = false) : Gf.edges g = [] := by
  refine List.eq_nil_iff_forall_not_mem.2 fun e he => ?_
  have := (Gf.mem_edges hg).1 he
  rw [hn] at this
  cases this
theorem bare_wr {h : List Txn} (hr : Right h) (a b : Nat) : bit (wrR (bare h)) a b = false := by
  cases e : bit (wrR (bare h)) a b with
  | false => rfl
  | true =>
    obtain ⟨k, q⟩ := (wr_bit (bare_right hr)).1 e
    exact absurd q (bare_reads h _ _ _)
theorem bare_init {h : List Txn} (hr : Right h) (a b : Nat) : bit (initR (bare h)) a b = false := by
  cases e : bit (initR (bare h)) a b with
  | false => rfl
  | true =>
    obtain ⟨_, k, q, _⟩ := (init_bit (bare_right hr)).1 e
    exact absurd q (bare_reads h _ _ _)
theorem bare_past {h : List Txn} (hr : Right h) : pastR (bare h) = soR h := by
  refine Gf.same (bare_len h ▸ past_ok (bare_right hr)) (so_ok hr) fun x y _ _ => ?_
  rw [past_bit (bare_right hr), bare_wr hr, Bool.or_false, bare_so]
end Go.Proofs.Ytahacjfeopjbaaa.Kn
