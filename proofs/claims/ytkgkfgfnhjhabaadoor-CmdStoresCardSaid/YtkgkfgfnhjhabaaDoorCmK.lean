/-
  The law's awake: the document's examples; told.
-/
import Derived.Test.YtkgkfgfnhjhabaaDoorCmJ
namespace Go.Proofs.YtkgkfgfnhjhabaaDoor
open Go.ChangeShapes Go.WideShapes Go.ChangeAt Go.RowKit
set_option linter.unusedVariables false
set_option linter.unusedSimpArgs false
attribute [local go_sem high] eql_w neq_w guard_w eql_cm neq_cm guard_cm

def aC : Cm := ⟨10, 3, 2, 8200, 1, 0, 0, 0, false⟩
def aB : Cm := ⟨5, 0, 0, 0, 1, 0, 0, 0, false⟩
def aW : Ws := fun j => if j = 0 then 4294967304 else if j = 1 then 3 else if j = 2 then 9223372036854777856 else 0
theorem aC_ok : validC aC = true ∧ wordsC aC 0 = 12884901898 ∧ wordsC aC 1 = 35218731827202 ∧ wordsC aC 2 = 1 ∧ wordsC aC 3 = 0 := by decide +kernel
theorem aB_no : validC aB = false := by decide +kernel
theorem aW_ok : decOk aW = true ∧ decC aW = ⟨8, 1, 0, 0, 0, 0, 3, 2048, true⟩ := by decide +kernel
theorem aC_text : textC aC = [109, 97, 112, 116, 105, 32, 51, 32, 50, 32, 56, 50, 48, 48, 32, 49] := by
  have e : textC aC = nameL 10 ++ restL (numC aC) [0, 1, 2, 4] := textN_rest _ _ _
  rw [e]
  have n0 : numC aC 0 = ((3 : Nat) : Int) := rfl
  have n1 : numC aC 1 = ((2 : Nat) : Int) := rfl
  have n2 : numC aC 2 = ((8200 : Nat) : Int) := rfl
  have n4 : numC aC 4 = ((1 : Nat) : Int) := rfl
  simp only [restL, List.flatMap_cons, List.flatMap_nil, n0, n1, n2, n4, itoa_nat]
  simp [Lib.decDigits, nameL]
theorem aw1 (W : World) : Calls Tryd.prog 10 #[.agg #[.int .i64 10, .int .i64 3, .int .i64 2, .int .i64 8200, .int .i64 1, .int .i64 0, .int .i64 0, .int .i64 0, .bool false]] W fun e w' => e = .returned (.tuple #[.agg #[.int .u64 12884901898, .int .u64 35218731827202, .int .u64 1, .int .u64 0], .int .i64 0]) ∧ Below W.heap.size W w' := by
  have h := encode_any aC ⟨by decide, by decide⟩ W
  obtain ⟨h0, h1, h2, h3, h4⟩ := aC_ok
  rw [show encW aC = wordsC aC by rw [encW, if_pos h0], h0] at h
  unfold Wv at h
  rw [h1, h2, h3, h4] at h
  exact h
theorem aw2 (W : World) (hT : TabW W) : Calls Tryd.prog 26 #[.agg #[.int .i64 10, .int .i64 3, .int .i64 2, .int .i64 8200, .int .i64 1, .int .i64 0, .int .i64 0, .int .i64 0, .bool false]] W fun e w' => e = .returned (.tuple #[.string ⟨#[109, 97, 112, 116, 105, 32, 51, 32, 50, 32, 56, 50, 48, 48, 32, 49]⟩, .int .i64 0]) ∧ Below W.heap.size W w' := by
  have h := print_any aC ⟨by decide, by decide⟩ W hT
  rw [txB, if_pos aC_ok.1, aC_ok.1, aC_text] at h
  exact h
theorem aw3 (W : World) : Calls Tryd.prog 12 #[.agg #[.int .u64 4294967304, .int .u64 3, .int .u64 9223372036854777856, .int .u64 0]] W fun e w' => e = .returned (.tuple #[.agg #[.int .i64 8, .int .i64 1, .int .i64 0, .int .i64 0, .int .i64 0, .int .i64 0, .int .i64 3, .int .i64 2048, .bool true], .int .i64 0]) ∧ Below W.heap.size W w' := by
  have h := decode_any aW (fun j => by unfold aW; split; · decide
                                       split; · decide
                                       split <;> decide) W
  rw [show decR aW = ⟨8, 1, 0, 0, 0, 0, 3, 2048, true⟩ by rw [decR, if_pos aW_ok.1, aW_ok.2], aW_ok.1] at h
  exact h
theorem aw4 (W : World) : Calls Tryd.prog 10 #[.agg #[.int .i64 5, .int .i64 0, .int .i64 0, .int .i64 0, .int .i64 1, .int .i64 0, .int .i64 0, .int .i64 0, .bool false]] W fun e w' => e = .returned (.tuple #[.agg #[.int .u64 0, .int .u64 0, .int .u64 0, .int .u64 0], .int .i64 160]) ∧ Below W.heap.size W w' := by
  have h := encode_any aB ⟨by decide, by decide⟩ W
  rw [show encW aB = wz by rw [encW, if_neg (by rw [aB_no]; decide)], aB_no] at h
  exact h

set_option maxRecDepth 100000 in
set_option maxHeartbeats 4000000 in
theorem awake_any (w : World) (hT : TabW w) : Calls Tryd.prog 14 #[] w fun e w' => e = .returned (.bool true) ∧ Below w.heap.size w w' := by
  have H1 := hi (fun W => aw1 W)
  have H2 := hi (fun W hW => aw2 W hW)
  have H3 := hi (fun W => aw3 W)
  have H4 := hi (fun W => aw4 W)
  have HT := hi hT
  have q1 : eqW 12884901898 35218731827202 1 0 12884901898 35218731827202 1 0 = true := by decide
  have q2 : eqCm ⟨8, 1, 0, 0, 0, 0, 3, 2048, true⟩ ⟨8, 1, 0, 0, 0, 0, 3, 2048, true⟩ = true := by decide
  clear hT
  go_enter Tryd.func14, Tryd.ntmps14
  go_wp2_with (first
    | (go_at_call 10; ((with_reducible refine (H1.out _).mono ?_); rintro e w1 ⟨rfl, hb1⟩; have hc1 := (CB.new w 24 #[.int .i64 10, .int .i64 3, .int .i64 2, .int .i64 8200, .int .i64 1, .int .i64 0, .int .i64 0, .int .i64 0, .bool false]).below hb1; obtain ⟨c0, c1, c2, c3, c4, c5, c6, c7, c8⟩ := CB.nine hc1; have hz1 : w.heap.size < w1.heap.size := hc1.lt; have HB1 := hi ((bal w _).trans (hb1.mono (by simp))); clear hb1 hc1))
    | (go_at_call 26; ((with_reducible refine (H2.out _ (HT.out.below (HB1.out.alloc HB1.out.size _))).mono ?_); rintro e w2 ⟨rfl, hb2⟩; have HC2 := hi ((CB.new w1 26 #[.int .u64 12884901898, .int .u64 35218731827202, .int .u64 1, .int .u64 0]).below hb2); have HB2 := hi ((HB1.out.alloc HB1.out.size _).trans (hb2.mono (by have := HB1.out.size; simp; omega))); clear hb2))
    | (go_at_call 12; ((with_reducible refine (H3.out _).mono ?_); rintro e w3 ⟨rfl, hb3⟩; have HC3 := hi (HC2.out.below hb3); have HB3 := hi (HB2.out.trans (hb3.mono HB2.out.size)); clear hb3))
    | (go_at_call 10; ((with_reducible refine (H4.out _).mono ?_); rintro e w4 ⟨rfl, hb4⟩; have hc4 := (HC3.out.alloc _).below hb4; have hd4 := (CB.new w3 24 #[.int .i64 8, .int .i64 1, .int .i64 0, .int .i64 0, .int .i64 0, .int .i64 0, .int .i64 3, .int .i64 2048, .bool true]).below hb4; obtain ⟨d0, d1, d2, d3⟩ := CB.four hc4; obtain ⟨f0, f1, f2, f3, f4, f5, f6, f7, f8⟩ := CB.nine hd4; have hz3 : w1.heap.size < w4.heap.size := hc4.lt; have hz4 : w3.heap.size < w4.heap.size := hd4.lt; have HB4 := hi ((HB3.out.alloc HB3.out.size _).trans (hb4.mono (by have := HB3.out.size; simp; omega))); clear hb4 hc4 hd4)))
  go_ret
  exact ⟨rfl, HB4.out.alloc HB4.out.size _⟩

theorem told_any (e : Int) (ok : Bool) (w : World) : Calls Tryd.prog 15 #[.int .i64 e, .bool ok] w fun r w' => r = .returned (.bool ((ok && e == 0) || (!ok && e == 160))) ∧ w = w' := by
  cases ok
  · go_enter Tryd.func15, Tryd.ntmps15
    go_wp2
    go_ret
    exact ⟨rfl, rfl⟩
  · cases h : (e == 0)
    · go_enter Tryd.func15, Tryd.ntmps15
      go_wp2
      go_ret
      exact ⟨rfl, rfl⟩
    · go_enter Tryd.func15, Tryd.ntmps15
      go_wp2
      go_ret
      exact ⟨rfl, rfl⟩

end Go.Proofs.YtkgkfgfnhjhabaaDoor
