/-
  The laws' live example of layer 8 holds: awake answers true; what was in memory stays as it was. And what Few answers.
  Conditions: the variable that lists the kinds' words holds them.
-/
import Derived.Test.YtfjamdpgbbnmcaaGreatDoorHiWalkB
import Derived.Test.YtfjamdpgbbnmcaaGreatDoorHiWalkC
import Derived.Test.YtfjamdpgbbnmcaaGreatDoorSoAwake
set_option maxRecDepth 4000
namespace Go.Proofs.YtfjamdpgbbnmcaaGreatDoor
open Go.RowKit

/-- The document's example, and a text that writes the value 0. -/
def hiS : List UInt8 := [98, 101, 103, 105, 110, 32, 48, 10, 119, 114, 105, 116, 101, 32, 48, 32, 49, 32, 49, 10, 99, 111, 109, 109, 105, 116, 32, 48, 10, 98, 101, 103, 105, 110, 32, 49, 10, 114, 101, 97, 100, 32, 49, 32, 49, 32, 49, 10, 99, 111, 109, 109, 105, 116, 32, 49, 10]
def hiZ : List UInt8 := [98, 101, 103, 105, 110, 32, 48, 10, 119, 114, 105, 116, 101, 32, 48, 32, 49, 32, 48, 10, 99, 111, 109, 109, 105, 116, 32, 48, 10]
theorem hi_parse : Hi.parseR hiS = (soW, 0, 0) := by kernel_rfl
theorem hi_right : Hi.Right soW := by
  have h := (Hi.parse_yes hiS (by rw [hi_parse])).1
  rw [hi_parse] at h
  exact h
theorem hi_events : Di.parseR hiS = (Hi.events soW, 0, 0) := by decide +kernel
theorem hi_show : Hi.showR soW = (hiS, 0) := by
  have h := Di.parse_own hiS (by rw [hi_events])
  rw [hi_events] at h
  rw [Hi.show_is soW hi_right]
  exact h
theorem hi_zero : Hi.parseR hiZ = ([], 1, 7) := by kernel_rfl
theorem hi_eight : ¬ Hi.Right [⟨8, [], []⟩] := fun h => by
  have := (h.2 0 (by simp)).session
  simp at this

/-- One transaction of session 8, in memory. -/
theorem eight_lit (W : World) : Txns (W.alloc (.cells #[.int .i64 8, .slice none 0 0, .slice none 0 0] 38)) (.slice (some ⟨W.heap.size, 0, none⟩) 1 1) [⟨8, [], []⟩] :=
  lit_txns W 38 [(⟨8, [], []⟩, .slice none 0 0, .slice none 0 0)] (by simp [maxLen]) (fun x hx => by
    rw [List.mem_singleton.1 hx]
    exact ⟨Ns.nil _ _, Its.nil _ _⟩)

set_option maxHeartbeats 2000000 in
set_option maxRecDepth 10000 in
theorem hiAwake_at (w : World) (hK : KW w) : Calls Tryz.prog 4 #[] w (RetBool w true) := by
  have K0 := Lib.hid hK
  clear hK
  go_enter Tryz.func4, Tryz.ntmps4
  go_wp2_with fail
  have V0 := Lib.hid (soWant w w.heap.size rfl)
  have B0 : Hid (Below w.heap.size w (((w.alloc (.cells #[.int .i64 1] 3)).alloc (.cells #[.int .i64 1, .int .i64 0] 40)).alloc (.cells #[.int .i64 0, .slice (some ⟨w.heap.size, 0, none⟩) 1 1, .slice none 0 0, .int .i64 1, .slice none 0 0, .slice (some ⟨w.heap.size + 1, 0, none⟩) 1 1] 38))) := below_new (below_new (alloc_below _ _))
  have hsz : (((w.alloc (.cells #[.int .i64 1] 3)).alloc (.cells #[.int .i64 1, .int .i64 0] 40)).alloc (.cells #[.int .i64 0, .slice (some ⟨w.heap.size, 0, none⟩) 1 1, .slice none 0 0, .int .i64 1, .slice none 0 0, .slice (some ⟨w.heap.size + 1, 0, none⟩) 1 1] 38)).heap.size = w.heap.size + 1 + 1 + 1 := by simp
  generalize (((w.alloc (.cells #[.int .i64 1] 3)).alloc (.cells #[.int .i64 1, .int .i64 0] 40)).alloc (.cells #[.int .i64 0, .slice (some ⟨w.heap.size, 0, none⟩) 1 1, .slice none 0 0, .int .i64 1, .slice none 0 0, .slice (some ⟨w.heap.size + 1, 0, none⟩) 1 1] 38)) = W0 at *
  have N1 := Boxed.new W0 24 (.slice (some ⟨w.heap.size + 1 + 1, 0, none⟩) 2 2)
  rw [hsz] at N1
  have HN1 := Lib.hid N1
  have V1 := Lib.hid (V0.out.below (alloc_below W0 (.cells #[.slice (some ⟨w.heap.size + 1 + 1, 0, none⟩) 2 2] 24)))
  have B1 := Lib.hid (below_all B0.out (alloc_below W0 (.cells #[.slice (some ⟨w.heap.size + 1 + 1, 0, none⟩) 2 2] 24)))
  clear V0 B0 N1 hsz
  generalize W0.alloc (.cells #[.slice (some ⟨w.heap.size + 1 + 1, 0, none⟩) 2 2] 24) = W1 at *
  have K1 := Lib.hid (K0.out.below B1.out)
  refine (hShow_at soW _ _ V1.out K1.out soW_len.2).mono ?_
  rintro e w2 ⟨rfl, hb2⟩
  rw [hi_show]
  have B2 := Lib.hid hb2
  clear hb2
  go_wp2_with fail
  refine (hParse_at hiS w2 (by decide) (K1.out.below B2.out)).mono ?_
  rintro e w3 ⟨v3, rfl, hs3, hb3⟩
  rw [hi_parse] at hs3 ⊢
  dsimp only at hs3 ⊢
  obtain ⟨A3, c3, rfl, _⟩ := hs3.spelled
  have S4 := Lib.hid (hs3.below (alloc_below w3 (.cells #[.slice A3 soW.length c3] 24)))
  have N4 := Lib.hid (Boxed.new w3 24 (.slice A3 soW.length c3))
  have B4 := Lib.hid (below_all B2.out (below_all hb3 (alloc_below w3 (.cells #[.slice A3 soW.length c3] 24))))
  clear hs3 hb3
  go_wp2_with fail
  generalize w3.alloc (.cells #[.slice A3 soW.length c3] 24) = w4 at *
  refine (hParse_at hiZ w4 (by decide) (K1.out.below B4.out)).mono ?_
  rintro e w5 ⟨v5, rfl, hs5, hb5⟩
  rw [hi_zero] at hs5 ⊢
  dsimp only at hs5 ⊢
  obtain ⟨A5, c5, rfl, _⟩ := hs5.spelled
  have B6 := Lib.hid (below_all hb5 (alloc_below w5 (.cells #[.slice A5 0 c5] 24)))
  have S6 := Lib.hid (S4.out.below B6.out)
  have V6 := Lib.hid ((V1.out.below B4.out).below B6.out)
  have N6 := Lib.hid (Boxed.later N4.out B6.out)
  have M6 := Lib.hid (Boxed.later (Boxed.later HN1.out B4.out) B6.out)
  have d4 := N6.out.cell
  have d1 := M6.out.cell
  have hjx : (Ln.bs hiS).toList = hiS := by rw [Lib.toList_data, Ln.bs_data]
  clear hs5 hb5
  unfold hiS at hjx ⊢
  dsimp only [List.length_nil] at *
  go_wp2_with fail
  generalize w5.alloc (.cells #[.slice A5 0 c5] 24) = w6 at *
  refine (rSame7_at soW _ _ _ S6.out V6.out soW_len.1 soW_len.2).mono ?_
  rintro e w7 ⟨rfl, hb7⟩
  have B7 := Lib.hid hb7
  have d7 := (Boxed.later M6.out hb7).cell
  clear hb7 d4 d1
  go_wp2_with fail
  refine (hRight_at soW _ _ (V6.out.below B7.out) soW_len.2).mono ?_
  rintro e w8 ⟨rfl, hb8⟩
  rw [Hi.rightB_yes hi_right]
  have B8 := Lib.hid (below_all B7.out hb8)
  clear hb8 d7
  go_wp2_with fail
  refine (hRight_at [⟨8, [], []⟩] _ _ (eight_lit w8) (fun t ht => by rw [List.mem_singleton.1 ht]; simp)).mono ?_
  rintro e w9 ⟨rfl, hb9⟩
  rw [Hi.rightB_no hi_eight]
  have B9 := Lib.hid (below_all B1.out (below_all B4.out (below_all B6.out (below_all B8.out (below_new hb9)))))
  clear hb9
  go_wp2_with fail
  go_ret
  exact ⟨rfl, B9.out⟩
end Go.Proofs.YtfjamdpgbbnmcaaGreatDoor
