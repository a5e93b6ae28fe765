/-
  RingPlaces: for every ring, place and index: whether a ring is right, where its entries begin, which comes behind and ahead of a place, is what the document says (the law answers true). No condition.
-/
import Derived.Test.YtpabmfmiikmnpaaRingF
import Derived.Test.YtpabmfmiikmnpaaRingRef
import Derived.BigQuiet
import Derived.Deep.QuietTactic
import Derived.IntWalk
namespace Go.Proofs.Ytpabmfmiikmnpaa
open Go.ChangeShapes Go.WideShapes Go.ChangeAt Go.RowKit Go.Shelf
set_option linter.unusedVariables false

theorem refRight_b {s t : Int} (w : World) {b : Bool} (h : rightB s t = b) (hs : s ≤ 9223372036854775807) :
    Calls Try.prog 10 #[.int .i64 s, .int .i64 t] w fun e w' => e = .returned (.bool b) ∧ Below w.heap.size w w' := by
  cases b
  · exact (refRight_no s t w h hs).mono fun e w' ⟨he, hw⟩ => ⟨he, by rw [hw]; exact Below.refl _ _⟩
  · exact (refRight_yes s t w h hs).mono fun e w' ⟨he, hw⟩ => ⟨he, by rw [hw]; exact Below.refl _ _⟩
theorem next_mul {s t a : Int} (h : mayB s t a = true) : (a / t + 1) % (s / t) * t = nextR s t a := by
  obtain ⟨_, h1, h2⟩ := idx_of h
  rw [(idx_of (next_may h)).1, next_idx h]
  split
  · rename_i e; rw [e, Int.emod_self]
  · rw [Int.emod_eq_of_lt (by omega) (by omega)]

theorem ahead_idx {s t a : Int} (h : mayB s t a = true) : aheadR s t a / t = if a / t = 0 then s / t - 1 else a / t - 1 := by
  have hn := next_idx (ahead_may h)
  rw [next_ahead h] at hn
  obtain ⟨_, h1, h2⟩ := idx_of h
  obtain ⟨_, g1, g2⟩ := idx_of (ahead_may h)
  split at hn <;> split <;> omega
theorem ahead_mul {s t a : Int} (h : mayB s t a = true) : (a / t + s / t - 1) % (s / t) * t = aheadR s t a := by
  obtain ⟨_, h1, h2⟩ := idx_of h
  rw [(idx_of (ahead_may h)).1, ahead_idx h]
  split
  · rename_i e; rw [e, Int.emod_eq_of_lt (by omega) (by omega)]; congr 1; omega
  · rw [show a / t + s / t - 1 = a / t - 1 + s / t by omega, Int.add_emod_right, Int.emod_eq_of_lt (by omega) (by omega)]

set_option maxRecDepth 100000 in
set_option maxHeartbeats 4000000 in
/-- A ring that is not right. -/
theorem ringPlaces_no (s t a i : Int) (w : World) (hs : s ≤ 9223372036854775807) (hr : rightB s t = false) :
    Calls Try.prog 3 #[.agg #[.int .i64 s, .int .i64 t], .int .i64 a, .int .i64 i] w fun e w' => e = .returned (.bool true) ∧ Below w.heap.size w w' := by
  have HB := Below.refl (w.alloc (.cells #[.int .i64 s, .int .i64 t] 23)).heap.size (w.alloc (.cells #[.int .i64 s, .int .i64 t] 23))
  have hm : mayB s t a = false := by simp [mayB, hr]
  have hh : hasB s t i = false := by simp [hasB, hr]
  have HR := Lib.hid hr
  have HM := Lib.hid hm
  have HH := Lib.hid hh
  clear hr hm hh
  go_enter Try.func3, Try.ntmps3
  go_wp2_with (first
    | (go_at_call 9; ((with_reducible refine (awake_any _).mono ?_); rintro e w1 ⟨rfl, hb⟩; replace HB := HB.trans (hb.mono HB.size); (try clear hc hf); obtain ⟨hc, hf⟩ := bcell HB; clear hb))
    | (go_at_call 10; ((with_reducible refine (refRight_b _ HR.out hs).mono ?_); rintro e w1 ⟨rfl, hb⟩; replace HB := HB.trans (hb.mono HB.size); (try clear hc hf); obtain ⟨hc, hf⟩ := bcell HB; clear hb))
    | (go_at_call 11; ((with_reducible refine (refIndex_n s t a _ HM.out hs).mono ?_); rintro e w1 ⟨rfl, hb⟩; replace HB := HB.trans (hb.mono HB.size); (try clear hc hf); obtain ⟨hc, hf⟩ := bcell HB; clear hb))
    | (go_at_call 12; ((with_reducible refine (right_no s t _ HR.out hs).mono ?_); rintro e w1 ⟨rfl, hb⟩; replace HB := HB.trans (hb.mono HB.size); (try clear hc hf); obtain ⟨hc, hf⟩ := bcell HB; clear hb))
    | (go_at_call 13; ((with_reducible refine (may_no s t a _ HM.out hs).mono ?_); rintro e w1 ⟨rfl, hb⟩; replace HB := HB.trans (hb.mono HB.size); (try clear hc hf); obtain ⟨hc, hf⟩ := bcell HB; clear hb))
    | (go_at_call 14; ((with_reducible refine (place_no s t i _ HH.out hs).mono ?_); rintro e w1 ⟨rfl, hb⟩; replace HB := HB.trans (hb.mono HB.size); (try clear hc hf); obtain ⟨hc, hf⟩ := bcell HB; clear hb))
    | (go_at_call 15; ((with_reducible refine (next_no s t a _ HM.out hs).mono ?_); rintro e w1 ⟨rfl, hb⟩; replace HB := HB.trans (hb.mono HB.size); (try clear hc hf); obtain ⟨hc, hf⟩ := bcell HB; clear hb))
    | (go_at_call 16; ((with_reducible refine (ahead_no s t a _ HM.out hs).mono ?_); rintro e w1 ⟨rfl, hb⟩; replace HB := HB.trans (hb.mono HB.size); (try clear hc hf); obtain ⟨hc, hf⟩ := bcell HB; clear hb))
    | (go_at_call 17; ((with_reducible refine (index_no s t a _ HM.out hs).mono ?_); rintro e w1 ⟨rfl, hb⟩; replace HB := HB.trans (hb.mono HB.size); (try clear hc hf); obtain ⟨hc, hf⟩ := bcell HB; clear hb)))
  go_ret
  exact ⟨rfl, ba HB⟩

theorem refIndex_k (s t a K : Int) (w : World) (e : a / t = K) (h : mayB s t a = true) (hs : s ≤ 9223372036854775807) :
    Calls Try.prog 11 #[.int .i64 s, .int .i64 t, .int .i64 a] w fun e w' => e = .returned (.int .i64 K) ∧ Below w.heap.size w w' := e ▸ refIndex_y s t a w h hs
theorem next_k (s t a X : Int) (w : World) (e : nextR s t a = X) (h : mayB s t a = true) (hs : s ≤ 9223372036854775807) :
    Calls Try.prog 15 #[.agg #[.int .i64 s, .int .i64 t], .int .i64 a] w fun e w' => e = .returned (.tuple #[.int .i64 X, .int .i64 0]) ∧ Below w.heap.size w w' := e ▸ next_yes s t a w h hs
theorem ahead_k (s t a X : Int) (w : World) (e : aheadR s t a = X) (h : mayB s t a = true) (hs : s ≤ 9223372036854775807) :
    Calls Try.prog 16 #[.agg #[.int .i64 s, .int .i64 t], .int .i64 a] w fun e w' => e = .returned (.tuple #[.int .i64 X, .int .i64 0]) ∧ Below w.heap.size w w' := e ▸ ahead_yes s t a w h hs
theorem index_k (s t a K : Int) (w : World) (e : a / t = K) (h : mayB s t a = true) (hs : s ≤ 9223372036854775807) :
    Calls Try.prog 17 #[.agg #[.int .i64 s, .int .i64 t], .int .i64 a] w fun e w' => e = .returned (.tuple #[.int .i64 K, .int .i64 0]) ∧ Below w.heap.size w w' := e ▸ index_yes s t a w h hs

set_option maxRecDepth 100000 in
set_option maxHeartbeats 4000000 in
theorem ringPlaces_nn (s t a i : Int) (w : World) (hs : s ≤ 9223372036854775807) (hr : rightB s t = true) (hm : mayB s t a = false) (hh : hasB s t i = false) (hx : i < 0 ∨ (0 ≤ i ∧ s / t ≤ i)) :
    Calls Try.prog 3 #[.agg #[.int .i64 s, .int .i64 t], .int .i64 a, .int .i64 i] w fun e w' => e = .returned (.bool true) ∧ Below w.heap.size w w' := by
  have HB := Below.refl (w.alloc (.cells #[.int .i64 s, .int .i64 t] 23)).heap.size (w.alloc (.cells #[.int .i64 s, .int .i64 t] 23))
  obtain ⟨k1, k2, k3, k4⟩ := rightB_out hr
  have hq : 0 ≤ s / t := Int.ediv_nonneg (by omega) (by omega)
  have HR := Lib.hid hr
  have HM := Lib.hid hm
  have HH := Lib.hid hh
  clear hr hm hh k3
  rcases hx with x | ⟨x, y⟩
  all_goals
    go_enter Try.func3, Try.ntmps3
    go_wp2_with (first
      | (go_at_call 9; ((with_reducible refine (awake_any _).mono ?_); rintro e w1 ⟨rfl, hb⟩; replace HB := HB.trans (hb.mono HB.size); (try clear hc hf); obtain ⟨hc, hf⟩ := bcell HB; clear hb))
      | (go_at_call 10; ((with_reducible refine (refRight_b _ HR.out hs).mono ?_); rintro e w1 ⟨rfl, hb⟩; replace HB := HB.trans (hb.mono HB.size); (try clear hc hf); obtain ⟨hc, hf⟩ := bcell HB; clear hb))
      | (go_at_call 11; ((with_reducible refine (refIndex_n s t a _ HM.out hs).mono ?_); rintro e w1 ⟨rfl, hb⟩; replace HB := HB.trans (hb.mono HB.size); (try clear hc hf); obtain ⟨hc, hf⟩ := bcell HB; clear hb))
      | (go_at_call 12; ((with_reducible refine (right_ok s t _ HR.out hs).mono ?_); rintro e w1 ⟨rfl, hb⟩; replace HB := HB.trans (hb.mono HB.size); (try clear hc hf); obtain ⟨hc, hf⟩ := bcell HB; clear hb))
      | (go_at_call 13; ((with_reducible refine (may_no s t a _ HM.out hs).mono ?_); rintro e w1 ⟨rfl, hb⟩; replace HB := HB.trans (hb.mono HB.size); (try clear hc hf); obtain ⟨hc, hf⟩ := bcell HB; clear hb))
      | (go_at_call 14; ((with_reducible refine (place_no s t i _ HH.out hs).mono ?_); rintro e w1 ⟨rfl, hb⟩; replace HB := HB.trans (hb.mono HB.size); (try clear hc hf); obtain ⟨hc, hf⟩ := bcell HB; clear hb))
      | (go_at_call 15; ((with_reducible refine (next_no s t a _ HM.out hs).mono ?_); rintro e w1 ⟨rfl, hb⟩; replace HB := HB.trans (hb.mono HB.size); (try clear hc hf); obtain ⟨hc, hf⟩ := bcell HB; clear hb))
      | (go_at_call 16; ((with_reducible refine (ahead_no s t a _ HM.out hs).mono ?_); rintro e w1 ⟨rfl, hb⟩; replace HB := HB.trans (hb.mono HB.size); (try clear hc hf); obtain ⟨hc, hf⟩ := bcell HB; clear hb))
      | (go_at_call 17; ((with_reducible refine (index_no s t a _ HM.out hs).mono ?_); rintro e w1 ⟨rfl, hb⟩; replace HB := HB.trans (hb.mono HB.size); (try clear hc hf); obtain ⟨hc, hf⟩ := bcell HB; clear hb)))
    go_ret
    exact ⟨by first | rfl | (simp; done) | (simp; omega), ba HB⟩

set_option maxRecDepth 100000 in
set_option maxHeartbeats 4000000 in
theorem ringPlaces_ny (s t a i : Int) (w : World) (hs : s ≤ 9223372036854775807) (hr : rightB s t = true) (hm : mayB s t a = false) (hh : hasB s t i = true) :
    Calls Try.prog 3 #[.agg #[.int .i64 s, .int .i64 t], .int .i64 a, .int .i64 i] w fun e w' => e = .returned (.bool true) ∧ Below w.heap.size w w' := by
  have HB := Below.refl (w.alloc (.cells #[.int .i64 s, .int .i64 t] 23)).heap.size (w.alloc (.cells #[.int .i64 s, .int .i64 t] 23))
  obtain ⟨k1, k2, k3, k4⟩ := rightB_out hr
  have hq : 0 ≤ s / t := Int.ediv_nonneg (by omega) (by omega)
  obtain ⟨_, j1, j2⟩ := hasB_out hh
  have jl := has_lt hh
  have jm : 0 ≤ i * t := Int.mul_nonneg j1 (by omega)
  have HR := Lib.hid hr
  have HM := Lib.hid hm
  have HH := Lib.hid hh
  clear hr hm hh k3
  go_enter Try.func3, Try.ntmps3
  go_wp2_with (first
    | (go_at_call 9; ((with_reducible refine (awake_any _).mono ?_); rintro e w1 ⟨rfl, hb⟩; replace HB := HB.trans (hb.mono HB.size); (try clear hc hf); obtain ⟨hc, hf⟩ := bcell HB; clear hb))
    | (go_at_call 10; ((with_reducible refine (refRight_b _ HR.out hs).mono ?_); rintro e w1 ⟨rfl, hb⟩; replace HB := HB.trans (hb.mono HB.size); (try clear hc hf); obtain ⟨hc, hf⟩ := bcell HB; clear hb))
    | (go_at_call 11; ((with_reducible refine (refIndex_n s t a _ HM.out hs).mono ?_); rintro e w1 ⟨rfl, hb⟩; replace HB := HB.trans (hb.mono HB.size); (try clear hc hf); obtain ⟨hc, hf⟩ := bcell HB; clear hb))
    | (go_at_call 12; ((with_reducible refine (right_ok s t _ HR.out hs).mono ?_); rintro e w1 ⟨rfl, hb⟩; replace HB := HB.trans (hb.mono HB.size); (try clear hc hf); obtain ⟨hc, hf⟩ := bcell HB; clear hb))
    | (go_at_call 13; ((with_reducible refine (may_no s t a _ HM.out hs).mono ?_); rintro e w1 ⟨rfl, hb⟩; replace HB := HB.trans (hb.mono HB.size); (try clear hc hf); obtain ⟨hc, hf⟩ := bcell HB; clear hb))
    | (go_at_call 14; ((with_reducible refine (place_yes s t i _ HH.out hs).mono ?_); rintro e w1 ⟨rfl, hb⟩; replace HB := HB.trans (hb.mono HB.size); (try clear hc hf); obtain ⟨hc, hf⟩ := bcell HB; clear hb))
    | (go_at_call 15; ((with_reducible refine (next_no s t a _ HM.out hs).mono ?_); rintro e w1 ⟨rfl, hb⟩; replace HB := HB.trans (hb.mono HB.size); (try clear hc hf); obtain ⟨hc, hf⟩ := bcell HB; clear hb))
    | (go_at_call 16; ((with_reducible refine (ahead_no s t a _ HM.out hs).mono ?_); rintro e w1 ⟨rfl, hb⟩; replace HB := HB.trans (hb.mono HB.size); (try clear hc hf); obtain ⟨hc, hf⟩ := bcell HB; clear hb))
    | (go_at_call 17; ((with_reducible refine (index_no s t a _ HM.out hs).mono ?_); rintro e w1 ⟨rfl, hb⟩; replace HB := HB.trans (hb.mono HB.size); (try clear hc hf); obtain ⟨hc, hf⟩ := bcell HB; clear hb)))
  go_ret
  exact ⟨by first | rfl | (simp; done) | (simp; omega), ba HB⟩

set_option maxRecDepth 100000 in
set_option maxHeartbeats 4000000 in
theorem ringPlaces_yn (s t a i K X Y : Int) (w : World) (hs : s ≤ 9223372036854775807) (hr : rightB s t = true) (hm : mayB s t a = true) (hh : hasB s t i = false) (ek : a / t = K) (ex : nextR s t a = X) (ey : aheadR s t a = Y) (i0 : 0 ≤ K) (i1 : K < s / t) (b1 : 0 ≤ X) (b2 : X < s) (b3 : 0 ≤ Y) (b4 : Y < s) (en : (K + 1) % (s / t) * t = X) (ea : (K + s / t - 1) % (s / t) * t = Y) (hx : i < 0 ∨ (0 ≤ i ∧ s / t ≤ i)) :
    Calls Try.prog 3 #[.agg #[.int .i64 s, .int .i64 t], .int .i64 a, .int .i64 i] w fun e w' => e = .returned (.bool true) ∧ Below w.heap.size w w' := by
  have HB := Below.refl (w.alloc (.cells #[.int .i64 s, .int .i64 t] 23)).heap.size (w.alloc (.cells #[.int .i64 s, .int .i64 t] 23))
  obtain ⟨k1, k2, k3, k4⟩ := rightB_out hr
  have hq : 0 ≤ s / t := Int.ediv_nonneg (by omega) (by omega)
  have EK := Lib.hid ek
  have EX := Lib.hid ex
  have EY := Lib.hid ey
  have g1 : 0 ≤ K + s / t - 1 := by omega
  clear ek ex ey
  have HR := Lib.hid hr
  have HM := Lib.hid hm
  have HH := Lib.hid hh
  clear hr hm hh k3
  rcases hx with x | ⟨x, y⟩
  all_goals
    go_enter Try.func3, Try.ntmps3
    go_wp2_with (first
      | (go_at_call 9; ((with_reducible refine (awake_any _).mono ?_); rintro e w1 ⟨rfl, hb⟩; replace HB := HB.trans (hb.mono HB.size); (try clear hc hf); obtain ⟨hc, hf⟩ := bcell HB; clear hb))
      | (go_at_call 10; ((with_reducible refine (refRight_b _ HR.out hs).mono ?_); rintro e w1 ⟨rfl, hb⟩; replace HB := HB.trans (hb.mono HB.size); (try clear hc hf); obtain ⟨hc, hf⟩ := bcell HB; clear hb))
      | (go_at_call 11; ((with_reducible refine (refIndex_k s t a _ _ EK.out HM.out hs).mono ?_); rintro e w1 ⟨rfl, hb⟩; replace HB := HB.trans (hb.mono HB.size); (try clear hc hf); obtain ⟨hc, hf⟩ := bcell HB; clear hb))
      | (go_at_call 12; ((with_reducible refine (right_ok s t _ HR.out hs).mono ?_); rintro e w1 ⟨rfl, hb⟩; replace HB := HB.trans (hb.mono HB.size); (try clear hc hf); obtain ⟨hc, hf⟩ := bcell HB; clear hb))
      | (go_at_call 13; ((with_reducible refine (may_yes s t a _ HM.out hs).mono ?_); rintro e w1 ⟨rfl, hb⟩; replace HB := HB.trans (hb.mono HB.size); (try clear hc hf); obtain ⟨hc, hf⟩ := bcell HB; clear hb))
      | (go_at_call 14; ((with_reducible refine (place_no s t i _ HH.out hs).mono ?_); rintro e w1 ⟨rfl, hb⟩; replace HB := HB.trans (hb.mono HB.size); (try clear hc hf); obtain ⟨hc, hf⟩ := bcell HB; clear hb))
      | (go_at_call 15; ((with_reducible refine (next_k s t a _ _ EX.out HM.out hs).mono ?_); rintro e w1 ⟨rfl, hb⟩; replace HB := HB.trans (hb.mono HB.size); (try clear hc hf); obtain ⟨hc, hf⟩ := bcell HB; clear hb))
      | (go_at_call 16; ((with_reducible refine (ahead_k s t a _ _ EY.out HM.out hs).mono ?_); rintro e w1 ⟨rfl, hb⟩; replace HB := HB.trans (hb.mono HB.size); (try clear hc hf); obtain ⟨hc, hf⟩ := bcell HB; clear hb))
      | (go_at_call 17; ((with_reducible refine (index_k s t a _ _ EK.out HM.out hs).mono ?_); rintro e w1 ⟨rfl, hb⟩; replace HB := HB.trans (hb.mono HB.size); (try clear hc hf); obtain ⟨hc, hf⟩ := bcell HB; clear hb)))
    have z1 : (s / t == 0) = false := by simp; omega
    have q1 : IntKind.i64.wrap (K + 1) = K + 1 := IntWalk.i64_in _ (by omega)
    have q2 : (K + 1).tmod (s / t) = (K + 1) % (s / t) := Int.tmod_eq_emod_of_nonneg (by omega)
    have q3 : IntKind.i64.wrap ((K + 1) % (s / t) * t) = X := by rw [en]; exact IntWalk.i64_in _ (by omega)
    have q4 : IntKind.i64.wrap (K + s / t) = K + s / t := IntWalk.i64_in _ (by omega)
    have q5 : IntKind.i64.wrap (K + s / t - 1) = K + s / t - 1 := IntWalk.i64_in _ (by omega)
    have q6 : (K + s / t - 1).tmod (s / t) = (K + s / t - 1) % (s / t) := Int.tmod_eq_emod_of_nonneg (by omega)
    have q7 : IntKind.i64.wrap ((K + s / t - 1) % (s / t) * t) = Y := by rw [ea]; exact IntWalk.i64_in _ (by omega)
    go_quiet (fail)
    clear z1 q1 q2 q3 q4 q5 q6 q7 en ea
    go_wp2
    go_ret
    exact ⟨rfl, ba (below_drewN HB _)⟩

set_option maxRecDepth 100000 in
set_option maxHeartbeats 4000000 in
theorem ringPlaces_yy (s t a i K X Y : Int) (w : World) (hs : s ≤ 9223372036854775807) (hr : rightB s t = true) (hm : mayB s t a = true) (hh : hasB s t i = true) (ek : a / t = K) (ex : nextR s t a = X) (ey : aheadR s t a = Y) (i0 : 0 ≤ K) (i1 : K < s / t) (b1 : 0 ≤ X) (b2 : X < s) (b3 : 0 ≤ Y) (b4 : Y < s) (en : (K + 1) % (s / t) * t = X) (ea : (K + s / t - 1) % (s / t) * t = Y) :
    Calls Try.prog 3 #[.agg #[.int .i64 s, .int .i64 t], .int .i64 a, .int .i64 i] w fun e w' => e = .returned (.bool true) ∧ Below w.heap.size w w' := by
  have HB := Below.refl (w.alloc (.cells #[.int .i64 s, .int .i64 t] 23)).heap.size (w.alloc (.cells #[.int .i64 s, .int .i64 t] 23))
  obtain ⟨k1, k2, k3, k4⟩ := rightB_out hr
  have hq : 0 ≤ s / t := Int.ediv_nonneg (by omega) (by omega)
  obtain ⟨_, j1, j2⟩ := hasB_out hh
  have jl := has_lt hh
  have jm : 0 ≤ i * t := Int.mul_nonneg j1 (by omega)
  have EK := Lib.hid ek
  have EX := Lib.hid ex
  have EY := Lib.hid ey
  have g1 : 0 ≤ K + s / t - 1 := by omega
  clear ek ex ey
  have HR := Lib.hid hr
  have HM := Lib.hid hm
  have HH := Lib.hid hh
  clear hr hm hh k3
  go_enter Try.func3, Try.ntmps3
  go_wp2_with (first
    | (go_at_call 9; ((with_reducible refine (awake_any _).mono ?_); rintro e w1 ⟨rfl, hb⟩; replace HB := HB.trans (hb.mono HB.size); (try clear hc hf); obtain ⟨hc, hf⟩ := bcell HB; clear hb))
    | (go_at_call 10; ((with_reducible refine (refRight_b _ HR.out hs).mono ?_); rintro e w1 ⟨rfl, hb⟩; replace HB := HB.trans (hb.mono HB.size); (try clear hc hf); obtain ⟨hc, hf⟩ := bcell HB; clear hb))
    | (go_at_call 11; ((with_reducible refine (refIndex_k s t a _ _ EK.out HM.out hs).mono ?_); rintro e w1 ⟨rfl, hb⟩; replace HB := HB.trans (hb.mono HB.size); (try clear hc hf); obtain ⟨hc, hf⟩ := bcell HB; clear hb))
    | (go_at_call 12; ((with_reducible refine (right_ok s t _ HR.out hs).mono ?_); rintro e w1 ⟨rfl, hb⟩; replace HB := HB.trans (hb.mono HB.size); (try clear hc hf); obtain ⟨hc, hf⟩ := bcell HB; clear hb))
    | (go_at_call 13; ((with_reducible refine (may_yes s t a _ HM.out hs).mono ?_); rintro e w1 ⟨rfl, hb⟩; replace HB := HB.trans (hb.mono HB.size); (try clear hc hf); obtain ⟨hc, hf⟩ := bcell HB; clear hb))
    | (go_at_call 14; ((with_reducible refine (place_yes s t i _ HH.out hs).mono ?_); rintro e w1 ⟨rfl, hb⟩; replace HB := HB.trans (hb.mono HB.size); (try clear hc hf); obtain ⟨hc, hf⟩ := bcell HB; clear hb))
    | (go_at_call 15; ((with_reducible refine (next_k s t a _ _ EX.out HM.out hs).mono ?_); rintro e w1 ⟨rfl, hb⟩; replace HB := HB.trans (hb.mono HB.size); (try clear hc hf); obtain ⟨hc, hf⟩ := bcell HB; clear hb))
    | (go_at_call 16; ((with_reducible refine (ahead_k s t a _ _ EY.out HM.out hs).mono ?_); rintro e w1 ⟨rfl, hb⟩; replace HB := HB.trans (hb.mono HB.size); (try clear hc hf); obtain ⟨hc, hf⟩ := bcell HB; clear hb))
    | (go_at_call 17; ((with_reducible refine (index_k s t a _ _ EK.out HM.out hs).mono ?_); rintro e w1 ⟨rfl, hb⟩; replace HB := HB.trans (hb.mono HB.size); (try clear hc hf); obtain ⟨hc, hf⟩ := bcell HB; clear hb)))
  have z1 : (s / t == 0) = false := by simp; omega
  have q1 : IntKind.i64.wrap (K + 1) = K + 1 := IntWalk.i64_in _ (by omega)
  have q2 : (K + 1).tmod (s / t) = (K + 1) % (s / t) := Int.tmod_eq_emod_of_nonneg (by omega)
  have q3 : IntKind.i64.wrap ((K + 1) % (s / t) * t) = X := by rw [en]; exact IntWalk.i64_in _ (by omega)
  have q4 : IntKind.i64.wrap (K + s / t) = K + s / t := IntWalk.i64_in _ (by omega)
  have q5 : IntKind.i64.wrap (K + s / t - 1) = K + s / t - 1 := IntWalk.i64_in _ (by omega)
  have q6 : (K + s / t - 1).tmod (s / t) = (K + s / t - 1) % (s / t) := Int.tmod_eq_emod_of_nonneg (by omega)
  have q7 : IntKind.i64.wrap ((K + s / t - 1) % (s / t) * t) = Y := by rw [ea]; exact IntWalk.i64_in _ (by omega)
  go_quiet (fail)
  clear z1 q1 q2 q3 q4 q5 q6 q7 en ea
  go_wp2
  go_ret
  exact ⟨rfl, ba (below_drewN HB _)⟩

theorem has_out {s t i : Int} (hr : rightB s t = true) (h : hasB s t i = false) : i < 0 ∨ (0 ≤ i ∧ s / t ≤ i) := by
  rcases hasB_no h with x | ⟨_, x⟩ | ⟨_, x, y⟩
  · rw [hr] at x; cases x
  · exact .inl x
  · exact .inr ⟨x, y⟩

theorem ringPlaces_any (s t a i : Int) (w : World) (hs : s ≤ 9223372036854775807) :
    Calls Try.prog 3 #[.agg #[.int .i64 s, .int .i64 t], .int .i64 a, .int .i64 i] w fun e w' => e = .returned (.bool true) ∧ Below w.heap.size w w' := by
  cases hr : rightB s t
  · exact ringPlaces_no s t a i w hs hr
  · cases hm : mayB s t a
    · cases hh : hasB s t i
      · exact ringPlaces_nn s t a i w hs hr hm hh (has_out hr hh)
      · exact ringPlaces_ny s t a i w hs hr hm hh
    · obtain ⟨_, i0, i1⟩ := idx_of hm
      obtain ⟨_, n1, n2, _⟩ := mayB_out (next_may hm)
      obtain ⟨_, m1, m2, _⟩ := mayB_out (ahead_may hm)
      cases hh : hasB s t i
      · exact ringPlaces_yn s t a i _ _ _ w hs hr hm hh rfl rfl rfl i0 i1 n1 n2 m1 m2 (next_mul hm) (ahead_mul hm) (has_out hr hh)
      · exact ringPlaces_yy s t a i _ _ _ w hs hr hm hh rfl rfl rfl i0 i1 n1 n2 m1 m2 (next_mul hm) (ahead_mul hm)

end Go.Proofs.Ytpabmfmiikmnpaa
