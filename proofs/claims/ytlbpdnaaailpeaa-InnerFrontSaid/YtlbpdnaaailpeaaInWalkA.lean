/-
  What inner's small functions answer: errorUnless, isOp, isWrittenIn, newMemory, and the closures that read and write what a key's memory holds.
  Conditions: a row has at most 2^32 elements.
-/
import Derived.Test.YtlbpdnaaailpeaaInMem
import Derived.Test.YtlbpdnaaailpeaaInStep
namespace Go.Proofs.Ytlbpdnaaailpeaa
open Go.RowKit

def unlessR (b : Bool) (q : Int) : Int := if b = true then 0 else q
theorem errorUnless_at (b : Bool) (q : Int) (w : World) : Calls Try.prog 21 #[.bool b, .int .i64 q] w fun e w' => e = .returned (.int .i64 (unlessR b q)) ∧ w = w' := by
  cases b with
  | true =>
    go_enter Try.func21, Try.ntmps21
    go_wp2
    go_ret
    exact ⟨rfl, rfl⟩
  | false =>
    go_enter Try.func21, Try.ntmps21
    go_wp2
    go_ret
    exact ⟨rfl, rfl⟩

def isOpB (x : Ev.Event) : Bool := Ev.right x && Ev.hasKey x.kind
theorem isOp_at (x : Ev.Event) (w : World) : Calls Try.prog 16 #[evV x] w (RetBool w (isOpB x)) := by
  have key : Hid (Ev.right x = false ∧ isOpB x = false) ∨ Hid (Ev.right x = true) ∧ ((x.kind == 1) = true ∧ Hid (isOpB x = true) ∨ (x.kind == 1) = false ∧ ((x.kind == 2) = true ∧ Hid (isOpB x = true) ∨ (x.kind == 2) = false ∧ Hid (isOpB x = false))) := by
    unfold Hid isOpB
    cases hr : Ev.right x with
    | false => exact .inl ⟨rfl, rfl⟩
    | true =>
      refine .inr ⟨rfl, ?_⟩
      rw [Bool.true_and]
      by_cases h1 : x.kind = 1
      · exact .inl ⟨beq_iff_eq.2 h1, (Ev.hasKey_iff _).2 (.inl h1)⟩
      · by_cases h2 : x.kind = 2
        · exact .inr ⟨beq_eq_false_iff_ne.2 h1, .inl ⟨beq_iff_eq.2 h2, (Ev.hasKey_iff _).2 (.inr h2)⟩⟩
        · refine .inr ⟨beq_eq_false_iff_ne.2 h1, .inr ⟨beq_eq_false_iff_ne.2 h2, ?_⟩⟩
          cases hk : Ev.hasKey x.kind with
          | false => rfl
          | true => rcases (Ev.hasKey_iff _).1 hk with h | h
                    · exact absurd h h1
                    · exact absurd h h2
  have HC := Lib.hid (evRight_at x)
  obtain ⟨a, b, c, d⟩ := x
  unfold evV at HC ⊢
  dsimp only at HC key ⊢
  rcases key with hr | ⟨hr, ⟨k1, hv⟩ | ⟨k1, ⟨k2, hv⟩ | ⟨k2, hv⟩⟩⟩
  · go_enter Try.func16, Try.ntmps16
    go_wp2_with fail
    refine (HC.out _).mono ?_
    rintro e w1 ⟨rfl, hb⟩
    rw [hr.out.1]
    have HB := Lib.hid (below_new hb)
    clear hb
    go_wp2_with fail
    go_ret
    exact ⟨ret_bool (by rw [hr.out.2]), HB.out⟩
  all_goals
    go_enter Try.func16, Try.ntmps16
    go_wp2_with fail
    refine (HC.out _).mono ?_
    rintro e w1 ⟨rfl, hb⟩
    rw [hr.out]
    have HB := Lib.hid (below_new hb)
    have c0 : w1.cell? ⟨w.heap.size, 0, none⟩ = some (.int .i64 a) := (hb.cell (by simp)).trans (new_cell w _ _ 0 _ rfl)
    clear hb
    go_wp2_with fail
    go_ret
    exact ⟨ret_bool (by rw [hv.out]), HB.out⟩

def wIn (key value : Int) (l : List Ev.Event) : Bool := l.any fun x => In.isK 2 key x && decide (x.value = value)
theorem wIn_take (key value : Int) (l : List Ev.Event) (k : Nat) (hk : k < l.length) : wIn key value (l.take (k + 1)) = (wIn key value (l.take k) || (In.isK 2 key l[k] && decide (l[k].value = value))) := by
  rw [List.take_succ_eq_append_getElem hk, wIn, List.any_append]
  simp [wIn]
theorem wIn_yes (key value : Int) (l : List Ev.Event) (k : Nat) (hk : k < l.length) (h : (In.isK 2 key l[k] && decide (l[k].value = value)) = true) : wIn key value l = true := by
  rw [wIn, List.any_eq_true]
  exact ⟨l[k], List.getElem_mem hk, h⟩
theorem isWrittenIn_at (l : List Ev.Event) (v : Value) (key value : Int) (w : World) (hv : Evs w v l) (hl : l.length ≤ 4294967296) : Calls Try.prog 22 #[v, .int .i64 key, .int .i64 value] w (RetBool w (wIn key value l)) := by
  obtain ⟨A, c, rfl, hform⟩ := hv.spelled
  have HF := Lib.hid hform
  clear hform hv
  go_enter Try.func22, Try.ntmps22
  go_wp2
  go_loopw [11] (fun i wr => ∃ k : Nat, k ≤ l.length ∧ i = .int .i64 k ∧ Hid (wIn key value (l.take k) = false) ∧ Below w.heap.size w wr) (fun i _ => l.length - (intOf i).toNat)
  case atStart => exact ⟨0, Nat.zero_le _, rfl, rfl, Below.refl _ _⟩
  case round =>
    obtain ⟨k, hk, rfl, hno, hb⟩ := hrel
    have HB := Lib.hid hb
    clear hb
    by_cases hlt : k < l.length
    · obtain ⟨ad, rfl, hblk, hE⟩ := HF.out k hlt
      obtain ⟨x, hx⟩ : ∃ x, x = l[k]'hlt := ⟨_, rfl⟩
      have HT := Lib.hid (wIn_take key value l k hlt)
      have HY := Lib.hid (wIn_yes key value l k hlt)
      rw [← hx] at hE HT HY
      obtain ⟨hc0, hc1, hc2, hc3⟩ := hE.below hblk HB.out
      have HA := Lib.hid (HB.out.alloc HB.out.size (.cells #[.int .i64 x.kind, .int .i64 x.session, .int .i64 x.key, .int .i64 x.value] 41))
      clear hE hx
      have kk : (x.kind == 2) = false ∧ Hid (In.isK 2 key x = false) ∨ (x.kind == 2) = true ∧ ((x.key == key) = false ∧ Hid (In.isK 2 key x = false) ∨ (x.key == key) = true ∧ Hid (In.isK 2 key x = true)) := by
        unfold Hid In.isK
        by_cases h1 : x.kind = 2
        · by_cases h2 : x.key = key
          · exact .inr ⟨beq_iff_eq.2 h1, .inr ⟨beq_iff_eq.2 h2, by simp [h1, h2]⟩⟩
          · exact .inr ⟨beq_iff_eq.2 h1, .inl ⟨beq_eq_false_iff_ne.2 h2, by simp [h2]⟩⟩
        · exact .inl ⟨beq_eq_false_iff_ne.2 h1, by simp [h1]⟩
      have kv : (x.value == value) = false ∧ Hid (decide (x.value = value) = false) ∨ (x.value == value) = true ∧ Hid (decide (x.value = value) = true) := by
        unfold Hid
        by_cases h1 : x.value = value
        · exact .inr ⟨beq_iff_eq.2 h1, by simp [h1]⟩
        · exact .inl ⟨beq_eq_false_iff_ne.2 h1, by simp [h1]⟩
      rcases kk with ⟨k1, hK⟩ | ⟨k1, ⟨k2, hK⟩ | ⟨k2, hK⟩⟩
      · go_wp2_with fail
        go_roundw
        case rel => exact ⟨k + 1, by omega, by go_num, by rw [Hid, HT.out, hno.out, hK.out]; rfl, HA.out⟩
        case measure => simp [intOf]; omega
      · go_wp2_with fail
        go_roundw
        case rel => exact ⟨k + 1, by omega, by go_num, by rw [Hid, HT.out, hno.out, hK.out]; rfl, HA.out⟩
        case measure => simp [intOf]; omega
      · rcases kv with ⟨k3, hV⟩ | ⟨k3, hV⟩
        · go_wp2_with fail
          go_roundw
          case rel => exact ⟨k + 1, by omega, by go_num, by rw [Hid, HT.out, hno.out, hK.out, hV.out]; rfl, HA.out⟩
          case measure => simp [intOf]; omega
        · go_wp2_with fail
          go_ret
          exact ⟨ret_bool (by rw [HY.out (by rw [hK.out, hV.out]; rfl)]), HA.out⟩
    · have HK : Hid (l.take k = l) := List.take_of_length_le (by omega)
      go_wp2_with fail
      go_ret
      exact ⟨ret_bool (by rw [← HK.out, hno.out]), HB.out⟩

theorem six_blocks (w : World) (o0 o1 o2 o3 o4 o5 : Obj) : (((((((w.alloc o0).alloc o1).alloc o2).alloc o3).alloc o4).alloc o5).heap.size = w.heap.size + 6) ∧ ((((((w.alloc o0).alloc o1).alloc o2).alloc o3).alloc o4).alloc o5).heap[w.heap.size]? = some o0 ∧
    ((((((w.alloc o0).alloc o1).alloc o2).alloc o3).alloc o4).alloc o5).heap[w.heap.size + 2]? = some o2 ∧ ((((((w.alloc o0).alloc o1).alloc o2).alloc o3).alloc o4).alloc o5).heap[w.heap.size + 3]? = some o3 ∧ ((((((w.alloc o0).alloc o1).alloc o2).alloc o3).alloc o4).alloc o5).heap[w.heap.size + 4]? = some o4 ∧ ((((((w.alloc o0).alloc o1).alloc o2).alloc o3).alloc o4).alloc o5).heap[w.heap.size + 5]? = some o5 := by
  have e : ((((((w.alloc o0).alloc o1).alloc o2).alloc o3).alloc o4).alloc o5).heap = (((((w.heap.push o0).push o1).push o2).push o3).push o4).push o5 := rfl
  rw [e]
  simp only [Array.getElem?_push, Array.size_push]
  refine ⟨trivial, ?_, ?_, ?_, ?_, ?_⟩
  all_goals repeat (first | rw [if_neg (by omega)] | rw [if_pos trivial] | rw [if_pos (by omega)])
theorem store_func {P : Program} (a : Addr) (fn : Fn) (x y : Array Value) (w : World) : (store a (.func fn x y)).run P w = stored P w a (.func fn x y) .plain := run_store P w a _ .plain rfl
theorem newMemory_at (key : Int) (w : World) : Calls Try.prog 15 #[.int .i64 key] w fun e w' => e = .returned (memV w.heap.size) ∧ MemAt w' w.heap.size key none none ∧ w'.heap.size = w.heap.size + 6 ∧ Below w.heap.size w w' := by
  have hmf : ∀ (fn : Fn) (first cap : Array Value) (w : World), (Instr.makeFunc fn first cap).run Try.prog w = .ok (.func fn first cap) w := fun _ _ _ _ => rfl
  have hsf := @store_func Try.prog
  go_enter Try.func15, Try.ntmps15
  go_wp2
  obtain ⟨h6, b0, b2, b3, b4, b5⟩ := six_blocks w (.cells #[.int .i64 key] 3) (.cells (memC w.heap.size).toArray 53) (.cells #[.bool false] 4) (.cells #[.bool false] 4) (.cells #[.int .i64 0] 3) (.cells #[.int .i64 0] 3)
  refine bodyPost_ret (v := memV w.heap.size) (by simp [results, Try.results15, go_sem, memV, memC, readF, writeF, tellF]) rfl ⟨rfl, ⟨b0, b2, b3, b4, b5⟩, h6, ?_⟩
  exact below_new (below_new (below_new (below_new (below_new (alloc_below _ _)))))
theorem write_at (b : Nat) (key : Int) (r v : Option Int) (x : Int) (w : World) (h : MemAt w b key r v) :
    Calls Try.prog 23 #[.int .i64 x, .pointer (some ⟨b + 3, 0, none⟩), .pointer (some ⟨b + 5, 0, none⟩)] w fun e w' => e = .returned (.tuple #[]) ∧ MemAt w' b key r (some x) ∧ Save b (b + 6) w w' := by
  have c3 := cell_of_one h.isWritten
  have c5 := cell_of_one h.lastWritten
  have f3 := free_of_one h.isWritten
  have f5 := free_of_one h.lastWritten
  have H := Lib.hid h
  clear h
  go_enter Try.func23, Try.ntmps23
  go_wp2
  go_end0
  exact ⟨rfl, H.out.write x, ((Save.refl b (b + 6) w).setCell (by constructor <;> simp) _).setCell (by constructor <;> simp) _⟩

theorem read_at (b : Nat) (key : Int) (r v : Option Int) (x : Int) (l : List Ev.Event) (u : Value) (w : World) (h : MemAt w b key r v) (hu : Evs w u l) (hl : l.length ≤ 4294967296) :
    Calls Try.prog 20 #[.int .i64 x, u, .pointer (some ⟨b + 3, 0, none⟩), .pointer (some ⟨b + 5, 0, none⟩), .pointer (some ⟨b + 2, 0, none⟩), .pointer (some ⟨b + 4, 0, none⟩), .pointer (some ⟨b, 0, none⟩)] w fun e w' => e = .returned (.int .i64 (In.readErr key r v x l)) ∧ MemAt w' b key (In.readNew key r v x l) v ∧ Save b (b + 6) w w' := by
  have c0 := cell_of_one h.key
  have c2 := cell_of_one h.isRead
  have c3 := cell_of_one h.isWritten
  have c4 := cell_of_one h.firstRead
  have c5 := cell_of_one h.lastWritten
  have H := Lib.hid h
  have HU := Lib.hid hu
  clear h hu
  cases v with
  | some y =>
    dsimp only [Option.isSome_some, Option.getD_some] at c3 c5
    by_cases hxy : x = y
    · have hq : (x == y) = true := beq_iff_eq.2 hxy
      have HX := Lib.hid hxy
      clear hxy
      go_enter Try.func20, Try.ntmps20
      go_wp2_with fail
      refine (errorUnless_at _ _ _).mono ?_
      rintro e w1 ⟨rfl, rfl⟩
      go_wp2_with fail
      go_ret
      exact ⟨ret_int (by rw [unlessR, In.readErr, if_pos rfl, if_pos HX.out]), H.out, Save.refl _ _ _⟩
    · have hq : (x == y) = false := beq_eq_false_iff_ne.2 hxy
      have HX := Lib.hid hxy
      clear hxy
      go_enter Try.func20, Try.ntmps20
      go_wp2_with fail
      refine (errorUnless_at _ _ _).mono ?_
      rintro e w1 ⟨rfl, rfl⟩
      go_wp2_with fail
      go_ret
      exact ⟨ret_int (by rw [unlessR, In.readErr, if_neg (by simp), if_neg HX.out]), H.out, Save.refl _ _ _⟩
  | none =>
    dsimp only [Option.isSome_none, Option.getD_none] at c3 c5
    cases r with
    | some y =>
      dsimp only [Option.isSome_some, Option.getD_some] at c2 c4
      by_cases hxy : x = y
      · have hq : (x == y) = true := beq_iff_eq.2 hxy
        have HX := Lib.hid hxy
        clear hxy
        go_enter Try.func20, Try.ntmps20
        go_wp2_with fail
        refine (errorUnless_at _ _ _).mono ?_
        rintro e w1 ⟨rfl, rfl⟩
        go_wp2_with fail
        go_ret
        exact ⟨ret_int (by rw [unlessR, In.readErr, if_pos rfl, if_pos HX.out]), H.out, Save.refl _ _ _⟩
      · have hq : (x == y) = false := beq_eq_false_iff_ne.2 hxy
        have HX := Lib.hid hxy
        clear hxy
        go_enter Try.func20, Try.ntmps20
        go_wp2_with fail
        refine (errorUnless_at _ _ _).mono ?_
        rintro e w1 ⟨rfl, rfl⟩
        go_wp2_with fail
        go_ret
        exact ⟨ret_int (by rw [unlessR, In.readErr, if_neg (by simp), if_neg HX.out]), H.out, Save.refl _ _ _⟩
    | none =>
      dsimp only [Option.isSome_none, Option.getD_none] at c2 c4
      go_enter Try.func20, Try.ntmps20
      go_wp2_with fail
      refine (isWrittenIn_at l _ _ _ _ HU.out hl).mono ?_
      rintro e w1 ⟨rfl, hb⟩
      have hm := H.out.below hb H.out.lt
      have f2 := free_of_one hm.isRead
      have f4 := free_of_one hm.firstRead
      have d2 := cell_of_one hm.isRead
      have d4 := cell_of_one hm.firstRead
      have HM := Lib.hid hm
      have HB := Lib.hid hb
      clear hm hb
      cases hw : wIn key x l with
      | true =>
        have HW : Hid ((l.any fun e => In.isK 2 key e && decide (e.value = x)) = true) := hw
        clear hw
        go_wp2_with fail
        go_ret
        exact ⟨ret_int (by rw [In.readErr]; simp only [HW.out, if_true]), by rw [In.readNew]; simp only [HW.out, if_true]; exact HM.out, Save.of_below HB.out⟩
      | false =>
        have HW : Hid ((l.any fun e => In.isK 2 key e && decide (e.value = x)) = false) := hw
        clear hw
        go_wp2_with fail
        go_ret
        exact ⟨ret_int (by rw [In.readErr]; simp only [HW.out, Bool.false_eq_true, if_false]), by rw [In.readNew]; simp only [HW.out, Bool.false_eq_true, if_false]; exact HM.out.read x, ((Save.of_below HB.out).setCell (by constructor <;> simp) _).setCell (by constructor <;> simp) _⟩
end Go.Proofs.Ytlbpdnaaailpeaa
