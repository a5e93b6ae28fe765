/-
  The document's answers for ring (crierref02): Right and Index, at every input.
-/
import Derived.Test.YtpabmfmiikmnpaaRingIdx
namespace Go.Proofs.Ytpabmfmiikmnpaa
open Go.ChangeShapes Go.WideShapes Go.ChangeAt Go.RowKit
set_option linter.unusedVariables false

set_option maxHeartbeats 400000 in
theorem refRight_yes (s t : Int) (w : World) (h : rightB s t = true) (hs : s ≤ 9223372036854775807) :
    Calls Try.prog 10 #[.int .i64 s, .int .i64 t] w fun e w' => e = .returned (.bool true) ∧ w' = w := by
  have hg := size_ge h
  obtain ⟨h1, h2, h3, h4⟩ := rightB_out h
  clear h
  have H3 : (s % t == 0) = true := by simpa using h3
  clear h3
  go_enter Try.func10, Try.ntmps10
  go_wp2
  go_ret
  exact ⟨rfl, rfl⟩

set_option maxHeartbeats 400000 in
theorem refRight_no (s t : Int) (w : World) (h : rightB s t = false) (hs : s ≤ 9223372036854775807) :
    Calls Try.prog 10 #[.int .i64 s, .int .i64 t] w fun e w' => e = .returned (.bool false) ∧ w' = w := by
  by_cases h1 : t < 1
  · clear h
    go_enter Try.func10, Try.ntmps10
    go_wp2
    go_ret
    exact ⟨rfl, rfl⟩
  · have h1' : 1 ≤ t := by omega
    clear h1
    by_cases h2 : s < t
    · clear h
      go_enter Try.func10, Try.ntmps10
      go_wp2
      go_ret
      exact ⟨rfl, rfl⟩
    · have h2' : t ≤ s := by omega
      have h3' : 1 ≤ s := by omega
      clear h2
      rcases rightB_no h with x | ⟨_, x⟩ | ⟨_, _, x⟩ | ⟨_, _, x, y⟩
      · omega
      · omega
      · have H3 : (s % t == 0) = false := by simpa using x
        clear h x
        go_enter Try.func10, Try.ntmps10
        go_wp2
        go_ret
        exact ⟨rfl, rfl⟩
      · have H3 : (s % t == 0) = true := by simpa using x
        have H4 : decide (s / t ≤ 1024) = false := by simpa using y
        clear h x
        go_enter Try.func10, Try.ntmps10
        go_wp2
        go_ret
        exact ⟨rfl, rfl⟩

theorem mul_ne {s t a : Int} (hr : rightB s t = true) (h : mayB s t a = false) {k : Int} (h0 : 0 ≤ k) (hk : k < s / t) : k * t ≠ a := fun e => by
  have := has_may (hasB_mk hr h0 hk)
  rw [e, h] at this
  cases this

set_option maxHeartbeats 1000000 in
theorem refIndex_yes (s t a : Int) (w : World) (h : mayB s t a = true) (hs : s ≤ 9223372036854775807) :
    Calls Try.prog 11 #[.int .i64 s, .int .i64 t, .int .i64 a] w fun e w' => e = .returned (.int .i64 (a / t)) ∧ w' = w := by
  obtain ⟨hr, _⟩ := mayB_out h
  obtain ⟨k1, k2, k3, k4⟩ := rightB_out hr
  obtain ⟨ea, i0, i1⟩ := idx_of h
  have HR := Lib.hid hr
  have EA := Lib.hid ea
  clear h k3 hr ea
  go_enter Try.func11, Try.ntmps11
  go_wp2_with (go_at_call 10; refine (refRight_yes s t _ HR.out hs).mono ?_; rintro e w1 ⟨rfl, rfl⟩)
  go_loop [7] (fun i => ∃ k : Nat, (k : Int) ≤ a / t ∧ i = .int .i64 k) (fun i => (a / t).toNat - (intOf i).toNat)
  case atStart => exact ⟨0, by omega, rfl⟩
  case round =>
    obtain ⟨k, hk, rfl⟩ := hrel
    have hl := has_lt (hasB_mk HR.out (show (0 : Int) ≤ k by omega) (by omega))
    have hm : 0 ≤ (k : Int) * t := Int.mul_nonneg (by omega) (by omega)
    have hlt : (k : Int) < s / t := by omega
    by_cases hek : (k : Int) = a / t
    · have HE : ((k : Int) * t == a) = true := by rw [hek, ← EA.out]; simp
      have EK := Lib.hid hek
      clear hek
      go_wp2
      go_ret
      exact ⟨by rw [EK.out]; rfl, rfl⟩
    · have HE : ((k : Int) * t == a) = false := by
        have : (k : Int) * t ≠ a := fun e => hek (by rw [← e, Int.mul_ediv_cancel _ (by omega)])
        simpa using this
      have hk2 : (k : Int) + 1 ≤ a / t := by omega
      clear hek
      go_wp2
      go_round
      case rel => exact ⟨k + 1, by omega, by go_num⟩
      case measure => simp [intOf]; omega

set_option maxHeartbeats 1000000 in
theorem refIndex_no (s t a : Int) (w : World) (h : mayB s t a = false) (hs : s ≤ 9223372036854775807) :
    Calls Try.prog 11 #[.int .i64 s, .int .i64 t, .int .i64 a] w fun e w' => e = .returned (.int .i64 (-1)) ∧ w' = w := by
  cases hr : rightB s t
  · have HR := Lib.hid hr
    clear h hr
    go_enter Try.func11, Try.ntmps11
    go_wp2_with (go_at_call 10; refine (refRight_no s t _ HR.out hs).mono ?_; rintro e w1 ⟨rfl, rfl⟩)
    go_ret
    exact ⟨rfl, rfl⟩
  · obtain ⟨k1, k2, k3, k4⟩ := rightB_out hr
    have hq : 0 ≤ s / t := Int.ediv_nonneg (by omega) (by omega)
    have HH := Lib.hid h
    have HR := Lib.hid hr
    clear h k3 hr
    go_enter Try.func11, Try.ntmps11
    go_wp2_with (go_at_call 10; refine (refRight_yes s t _ HR.out hs).mono ?_; rintro e w1 ⟨rfl, rfl⟩)
    go_loop [7] (fun i => ∃ k : Nat, (k : Int) ≤ s / t ∧ i = .int .i64 k) (fun i => (s / t).toNat - (intOf i).toNat)
    case atStart => exact ⟨0, by omega, rfl⟩
    case round =>
      obtain ⟨k, hk, rfl⟩ := hrel
      by_cases hlt : (k : Int) < s / t
      · have hl := has_lt (hasB_mk HR.out (show (0 : Int) ≤ k by omega) hlt)
        have hm : 0 ≤ (k : Int) * t := Int.mul_nonneg (by omega) (by omega)
        have HE : ((k : Int) * t == a) = false := by simpa using mul_ne HR.out HH.out (show (0 : Int) ≤ k by omega) hlt
        go_wp2
        go_round
        case rel => exact ⟨k + 1, by omega, by go_num⟩
        case measure => simp [intOf]; omega
      · have hge : s / t ≤ (k : Int) := by omega
        clear hlt
        go_wp2
        go_ret
        exact ⟨rfl, rfl⟩

theorem refIndex_y (s t a : Int) (w : World) (h : mayB s t a = true) (hs : s ≤ 9223372036854775807) :
    Calls Try.prog 11 #[.int .i64 s, .int .i64 t, .int .i64 a] w fun e w' => e = .returned (.int .i64 (a / t)) ∧ Below w.heap.size w w' :=
  (refIndex_yes s t a w h hs).mono fun e w' ⟨he, hw⟩ => ⟨he, by rw [hw]; exact Below.refl _ _⟩
theorem refIndex_n (s t a : Int) (w : World) (h : mayB s t a = false) (hs : s ≤ 9223372036854775807) :
    Calls Try.prog 11 #[.int .i64 s, .int .i64 t, .int .i64 a] w fun e w' => e = .returned (.int .i64 (-1)) ∧ Below w.heap.size w w' :=
  (refIndex_no s t a w h hs).mono fun e w' ⟨he, hw⟩ => ⟨he, by rw [hw]; exact Below.refl _ _⟩

end Go.Proofs.Ytpabmfmiikmnpaa
