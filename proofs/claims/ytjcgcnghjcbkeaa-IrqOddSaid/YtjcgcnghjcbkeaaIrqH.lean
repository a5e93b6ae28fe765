/-
  The document's examples, as the statements of irq run them (awake): it answers true, and nothing that lay has turned.
-/
import Derived.Test.YtjcgcnghjcbkeaaIrqG
import Derived.Test.YtjcgcnghjcbkeaaIrqE
namespace Go.Proofs.Ytjcgcnghjcbkeaa
open Go.ChangeShapes Go.WideShapes Go.ChangeAt Go.RowKit
set_option linter.unusedVariables false

/-- A call behind a box newly laid. -/
theorem after_box {w W w1 : World} {cs : Array Value} {t : TypeId} (hB : Below w.heap.size w W) (hb : Below (W.alloc (.cells cs t)).heap.size (W.alloc (.cells cs t)) w1) : CB w1 W.heap.size t cs ∧ Below w.heap.size w w1 :=
  ⟨(CB.new W t cs).below hb, (hB.trans ((bal W _).mono hB.size)).trans (hb.mono (by have := hB.size; simp; omega))⟩
theorem old_box {W w1 : World} {B : Nat} {cs ds : Array Value} {t u : TypeId} (h : CB W B t cs) (hb : Below (W.alloc (.cells ds u)).heap.size (W.alloc (.cells ds u)) w1) : CB w1 B t cs := (h.alloc _).below hb

theorem intsAt_four (W : World) (t : TypeId) (a b c d : Int) : IntsAt (W.alloc (.cells #[.int .i64 a, .int .i64 b, .int .i64 c, .int .i64 d] t)) (.slice (some ⟨W.heap.size, 0, none⟩) 4 4) [a, b, c, d] := by
  refine ⟨_, 4, rfl, ⟨by simp, by unfold maxLen; omega⟩, fun _ => ⟨W.heap.size, 0, rfl, fun j hj => ?_⟩⟩
  rw [(CB.new W t _).cell]
  match j, hj with
  | 0, _ => rfl
  | 1, _ => rfl
  | 2, _ => rfl
  | 3, _ => rfl

theorem aw1 (W : World) : Calls Try.prog 12 #[.agg #[.bool false, .bool true, .bool false, .bool false], .int .i64 5] W fun e w' => e = .returned (.agg #[.bool false, .bool true, .bool false, .bool true]) ∧ Below W.heap.size W w' := step_any ⟨false, true, false, false⟩ 5 W
theorem aw2 (W : World) : Calls Try.prog 12 #[.agg #[.bool false, .bool true, .bool false, .bool true], .int .i64 2] W fun e w' => e = .returned (.agg #[.bool false, .bool false, .bool false, .bool true]) ∧ Below W.heap.size W w' := step_any ⟨false, true, false, true⟩ 2 W
theorem aw3 (W : World) : Calls Try.prog 12 #[.agg #[.bool false, .bool false, .bool false, .bool true], .int .i64 6] W fun e w' => e = .returned (.agg #[.bool false, .bool false, .bool false, .bool false]) ∧ Below W.heap.size W w' := step_any ⟨false, false, false, true⟩ 6 W
theorem aw4 (W : World) : Calls Try.prog 22 #[.string ⟨#[108, 119, 104]⟩] W fun e w' => e = .returned (.tuple #[.agg #[.bool false, .bool false, .bool false, .bool false], .int .i64 1]) ∧ Below W.heap.size W w' := parse_any ⟨#[108, 119, 104]⟩ W
theorem aw5 (W : World) : Calls Try.prog 15 #[.agg #[.bool false, .bool true, .bool false, .bool false]] W fun e w' => e = .returned (.bool true) ∧ Below W.heap.size W w' := ready_any ⟨false, true, false, false⟩ W
theorem aw6 (W : World) : Calls Try.prog 17 #[.agg #[.bool false, .bool true, .bool false, .bool false]] W fun e w' => e = .returned (.int .i64 1) ∧ Below W.heap.size W w' := phase_any ⟨false, true, false, false⟩ W
theorem aw7 (W : World) : Calls Try.prog 17 #[.agg #[.bool false, .bool true, .bool false, .bool true]] W fun e w' => e = .returned (.int .i64 3) ∧ Below W.heap.size W w' := phase_any ⟨false, true, false, true⟩ W
theorem aw8 (W : World) : Calls Try.prog 17 #[.agg #[.bool false, .bool false, .bool false, .bool false]] W fun e w' => e = .returned (.int .i64 0) ∧ Below W.heap.size W w' := phase_any ⟨false, false, false, false⟩ W
theorem aw9 (W : World) (v : Value) (h : IntsAt W v [1, 5, 2, 1]) : Calls Try.prog 25 #[.agg #[.bool true, .bool false, .bool false, .bool false], v] W fun e w' => e = .returned (.agg #[.bool true, .bool true, .bool true, .bool true]) ∧ Below W.heap.size W w' := play_any ⟨true, false, false, false⟩ [1, 5, 2, 1] v W h (by simp)
theorem aw10 (W : World) : Calls Try.prog 19 #[.agg #[.bool true, .bool true, .bool true, .bool true]] W fun e w' => e = .returned (.string ⟨#[101, 104, 119, 97]⟩) ∧ Below W.heap.size W w' := text_any ⟨true, true, true, true⟩ W

set_option maxRecDepth 100000 in
set_option maxHeartbeats 2000000 in
theorem awake_any (w : World) : Calls Try.prog 9 #[] w fun e w' => e = .returned (.bool true) ∧ Below w.heap.size w w' := by
  go_enter Try.func9, Try.ntmps9
  go_wp2_with (first
    | (go_at_call 12; ((with_reducible refine (aw1 _).mono ?_); rintro e w1 ⟨rfl, hb⟩; obtain ⟨hS, hB⟩ := box_call hb; have HS1 := hi hS; have HB1 := hi hB; clear hb hS hB))
    | (go_at_call 12; ((with_reducible refine (aw2 _).mono ?_); rintro e w2 ⟨rfl, hb⟩; have HS2 := hi (old_box HS1.out hb); obtain ⟨hT, hB⟩ := after_box HB1.out hb; have HT2 := hi hT; have HB2 := hi hB; clear hb hT hB))
    | (go_at_call 12; ((with_reducible refine (aw3 _).mono ?_); rintro e w3 ⟨rfl, hb⟩; have HS3 := hi (HS2.out.below hb); have HT3 := hi (HT2.out.below hb); have HB3 := hi (HB2.out.trans (hb.mono HB2.out.size)); clear hb))
    | (go_at_call 22; ((with_reducible refine (aw4 _).mono ?_); rintro e w4 ⟨rfl, hb⟩; have HS4 := hi (old_box HS3.out hb); have HT4 := hi (old_box HT3.out hb); obtain ⟨hU, hB⟩ := after_box HB3.out hb; have HU4 := hi (hU.alloc (.cells #[.bool false, .bool false, .bool false, .bool false] 23)); have HB4 := hi hB; obtain ⟨s0, s1, s2, s3⟩ := CB.cells (x := ⟨false, true, false, false⟩) (HS4.out.alloc (.cells #[.bool false, .bool false, .bool false, .bool false] 23)); clear hb hU hB))
    | (go_at_call 15; ((with_reducible refine (aw5 _).mono ?_); rintro e w5 ⟨rfl, hb⟩; have HS5 := hi (old_box HS4.out hb); have HT5 := hi (old_box HT4.out hb); have HU5 := hi (HU4.out.below hb); have HB5 := hi (after_box HB4.out hb).2; obtain ⟨s0, s1, s2, s3⟩ := CB.cells (x := ⟨false, true, false, false⟩) HS5.out; clear hb))
    | (go_at_call 17; ((with_reducible refine (aw6 _).mono ?_); rintro e w6 ⟨rfl, hb⟩; have HT6 := hi (HT5.out.below hb); have HU6 := hi (HU5.out.below hb); have HB6 := hi (HB5.out.trans (hb.mono HB5.out.size)); obtain ⟨s0, s1, s2, s3⟩ := CB.cells (x := ⟨false, true, false, true⟩) HT6.out; clear hb))
    | (go_at_call 17; ((with_reducible refine (aw7 _).mono ?_); rintro e w7 ⟨rfl, hb⟩; have HU7 := hi (HU6.out.below hb); have HB7 := hi (HB6.out.trans (hb.mono HB6.out.size)); obtain ⟨s0, s1, s2, s3⟩ := CB.cells (x := ⟨false, false, false, false⟩) HU7.out; clear hb))
    | (go_at_call 17; ((with_reducible refine (aw8 _).mono ?_); rintro e w8 ⟨rfl, hb⟩; have HB8 := hi (HB7.out.trans (hb.mono HB7.out.size)); clear hb))
    | (go_at_call 25; ((with_reducible refine (aw9 _ _ (intsAt_four _ _ _ _ _ _)).mono ?_); rintro e w9 ⟨rfl, hb⟩; have HB9 := hi (after_box HB8.out hb).2; clear hb))
    | (go_at_call 19; ((with_reducible refine (aw10 _).mono ?_); rintro e w10 ⟨rfl, hb⟩; have HB10 := hi (HB9.out.trans (hb.mono HB9.out.size)); clear hb)))
  go_ret
  exact ⟨rfl, HB10.out⟩

end Go.Proofs.Ytjcgcnghjcbkeaa
