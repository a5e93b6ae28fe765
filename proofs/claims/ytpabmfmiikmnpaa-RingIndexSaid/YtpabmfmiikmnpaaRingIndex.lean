/-
  RingIndex: for every ring, place and index: Index and Place turn one another about (the law answers true, and its arguments read as they did). No condition.
-/
import Derived.Test.YtpabmfmiikmnpaaRingF
import Derived.OpenShut
import Derived.JoinedCond
import Derived.Lib.SmallJoins
namespace Go.Proofs.Ytpabmfmiikmnpaa
open Go.ChangeShapes Go.WideShapes Go.ChangeAt Go.RowKit Go.Shelf
set_option linter.unusedVariables false

theorem place_back (s t a : Int) (w : World) (h : mayB s t a = true) (hs : s ≤ 9223372036854775807) :
    Calls Try.prog 14 #[.agg #[.int .i64 s, .int .i64 t], .int .i64 (a / t)] w fun e w' => e = .returned (.tuple #[.int .i64 a, .int .i64 0]) ∧ Below w.heap.size w w' := by
  have := place_yes s t (a / t) w (may_has h) hs
  rwa [may_mul h] at this
theorem index_back (s t i : Int) (w : World) (h : hasB s t i = true) (hs : s ≤ 9223372036854775807) :
    Calls Try.prog 17 #[.agg #[.int .i64 s, .int .i64 t], .int .i64 (i * t)] w fun e w' => e = .returned (.tuple #[.int .i64 i, .int .i64 0]) ∧ Below w.heap.size w w' := by
  have := index_yes s t (i * t) w (has_may h) hs
  rwa [has_div h] at this

set_option maxRecDepth 100000 in
set_option maxHeartbeats 2000000 in
theorem ringIndex_any (s t a i : Int) (w : World) (hs : s ≤ 9223372036854775807) :
    Calls Try.prog 8 #[.agg #[.int .i64 s, .int .i64 t], .int .i64 a, .int .i64 i] w fun e w' => e = .returned (.bool true) ∧ Below w.heap.size w w' := by
  have HB := Below.refl (w.alloc (.cells #[.int .i64 s, .int .i64 t] 23)).heap.size (w.alloc (.cells #[.int .i64 s, .int .i64 t] 23))
  cases hm : mayB s t a
  · cases hh : hasB s t i
    · have HM := Lib.hid hm
      have HH := Lib.hid hh
      clear hm hh
      go_enter Try.func8, Try.ntmps8
      go_wp2_with (first
        | (go_at_call 9; ((with_reducible refine (awake_any _).mono ?_); rintro e w1 ⟨rfl, hb⟩; replace HB := HB.trans (hb.mono HB.size); (try clear hc hf); obtain ⟨hc, hf⟩ := bcell HB; clear hb))
        | (go_at_call 17; ((with_reducible refine (index_no s t a _ HM.out hs).mono ?_); rintro e w1 ⟨rfl, hb⟩; replace HB := HB.trans (hb.mono HB.size); (try clear hc hf); obtain ⟨hc, hf⟩ := bcell HB; clear hb))
        | (go_at_call 14; ((with_reducible refine (place_no s t i _ HH.out hs).mono ?_); rintro e w1 ⟨rfl, hb⟩; replace HB := HB.trans (hb.mono HB.size); (try clear hc hf); obtain ⟨hc, hf⟩ := bcell HB; clear hb)))
      go_ret
      exact ⟨rfl, ba HB⟩
    · have hi := has_may hh
      have HM := Lib.hid hm
      have HH := Lib.hid hh
      have HI := Lib.hid hi
      clear hm hh hi
      go_enter Try.func8, Try.ntmps8
      go_wp2_with (first
        | (go_at_call 9; ((with_reducible refine (awake_any _).mono ?_); rintro e w1 ⟨rfl, hb⟩; replace HB := HB.trans (hb.mono HB.size); (try clear hc hf); obtain ⟨hc, hf⟩ := bcell HB; clear hb))
        | (go_at_call 17; ((with_reducible refine (index_no s t a _ HM.out hs).mono ?_); rintro e w1 ⟨rfl, hb⟩; replace HB := HB.trans (hb.mono HB.size); (try clear hc hf); obtain ⟨hc, hf⟩ := bcell HB; clear hb))
        | (go_at_call 14; ((with_reducible refine (place_yes s t i _ HH.out hs).mono ?_); rintro e w1 ⟨rfl, hb⟩; replace HB := HB.trans (hb.mono HB.size); (try clear hc hf); obtain ⟨hc, hf⟩ := bcell HB; clear hb))
        | (go_at_call 17; ((with_reducible refine (index_back s t i _ HH.out hs).mono ?_); rintro e w1 ⟨rfl, hb⟩; replace HB := HB.trans (hb.mono HB.size); (try clear hc hf); obtain ⟨hc, hf⟩ := bcell HB; clear hb))
        | (go_at_call 13; ((with_reducible refine (may_yes s t (i * t) _ HI.out hs).mono ?_); rintro e w1 ⟨rfl, hb⟩; replace HB := HB.trans (hb.mono HB.size); (try clear hc hf); obtain ⟨hc, hf⟩ := bcell HB; clear hb)))
      go_ret
      exact ⟨rfl, ba HB⟩
  · cases hh : hasB s t i
    · have HM := Lib.hid hm
      have HH := Lib.hid hh
      clear hm hh
      go_enter Try.func8, Try.ntmps8
      go_wp2_with (first
        | (go_at_call 9; ((with_reducible refine (awake_any _).mono ?_); rintro e w1 ⟨rfl, hb⟩; replace HB := HB.trans (hb.mono HB.size); (try clear hc hf); obtain ⟨hc, hf⟩ := bcell HB; clear hb))
        | (go_at_call 17; ((with_reducible refine (index_yes s t a _ HM.out hs).mono ?_); rintro e w1 ⟨rfl, hb⟩; replace HB := HB.trans (hb.mono HB.size); (try clear hc hf); obtain ⟨hc, hf⟩ := bcell HB; clear hb))
        | (go_at_call 14; ((with_reducible refine (place_back s t a _ HM.out hs).mono ?_); rintro e w1 ⟨rfl, hb⟩; replace HB := HB.trans (hb.mono HB.size); (try clear hc hf); obtain ⟨hc, hf⟩ := bcell HB; clear hb))
        | (go_at_call 14; ((with_reducible refine (place_no s t i _ HH.out hs).mono ?_); rintro e w1 ⟨rfl, hb⟩; replace HB := HB.trans (hb.mono HB.size); (try clear hc hf); obtain ⟨hc, hf⟩ := bcell HB; clear hb)))
      go_ret
      exact ⟨rfl, ba HB⟩
    · have hi := has_may hh
      have HM := Lib.hid hm
      have HH := Lib.hid hh
      have HI := Lib.hid hi
      clear hm hh hi
      go_enter Try.func8, Try.ntmps8
      go_wp2_with (first
        | (go_at_call 9; ((with_reducible refine (awake_any _).mono ?_); rintro e w1 ⟨rfl, hb⟩; replace HB := HB.trans (hb.mono HB.size); (try clear hc hf); obtain ⟨hc, hf⟩ := bcell HB; clear hb))
        | (go_at_call 17; ((with_reducible refine (index_yes s t a _ HM.out hs).mono ?_); rintro e w1 ⟨rfl, hb⟩; replace HB := HB.trans (hb.mono HB.size); (try clear hc hf); obtain ⟨hc, hf⟩ := bcell HB; clear hb))
        | (go_at_call 14; ((with_reducible refine (place_back s t a _ HM.out hs).mono ?_); rintro e w1 ⟨rfl, hb⟩; replace HB := HB.trans (hb.mono HB.size); (try clear hc hf); obtain ⟨hc, hf⟩ := bcell HB; clear hb))
        | (go_at_call 14; ((with_reducible refine (place_yes s t i _ HH.out hs).mono ?_); rintro e w1 ⟨rfl, hb⟩; replace HB := HB.trans (hb.mono HB.size); (try clear hc hf); obtain ⟨hc, hf⟩ := bcell HB; clear hb))
        | (go_at_call 17; ((with_reducible refine (index_back s t i _ HH.out hs).mono ?_); rintro e w1 ⟨rfl, hb⟩; replace HB := HB.trans (hb.mono HB.size); (try clear hc hf); obtain ⟨hc, hf⟩ := bcell HB; clear hb))
        | (go_at_call 13; ((with_reducible refine (may_yes s t (i * t) _ HI.out hs).mono ?_); rintro e w1 ⟨rfl, hb⟩; replace HB := HB.trans (hb.mono HB.size); (try clear hc hf); obtain ⟨hc, hf⟩ := bcell HB; clear hb)))
      go_ret
      exact ⟨rfl, ba HB⟩

end Go.Proofs.Ytpabmfmiikmnpaa
