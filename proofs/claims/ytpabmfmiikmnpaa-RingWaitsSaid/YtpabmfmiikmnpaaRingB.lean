/-
  Package ring: the contracts of Ahead, Index, Place, Left, Room at every input.
-/
import Derived.Test.YtpabmfmiikmnpaaRingA
namespace Go.Proofs.Ytpabmfmiikmnpaa
open Go.ChangeShapes Go.WideShapes Go.ChangeAt Go.RowKit
set_option linter.unusedVariables false

set_option maxHeartbeats 400000 in
theorem ahead_yes (s t a : Int) (w : World) (h : mayB s t a = true) (hs : s ≤ 9223372036854775807) :
    Calls Try.prog 16 #[.agg #[.int .i64 s, .int .i64 t], .int .i64 a] w fun e w' => e = .returned (.tuple #[.int .i64 (aheadR s t a), .int .i64 0]) ∧ Below w.heap.size w w' := by
  obtain ⟨hr, h1, h2, h3⟩ := mayB_out h
  obtain ⟨k1, k2, k3, _⟩ := rightB_out hr
  have hg := size_ge hr
  have hge := step_ge h
  have HH := Lib.hid h
  clear h h3 k3 hr
  by_cases h0 : a = 0
  · subst h0
    have e : aheadR s t 0 = s - t := by simp [aheadR]
    rw [e]
    clear e hge
    go_enter Try.func16, Try.ntmps16
    go_wp2_with (go_at_call 13; refine (may_yes s t 0 _ HH.out hs).mono ?_; rintro e w1 ⟨rfl, hb⟩; obtain ⟨hc, hf⟩ := bcell hb)
    go_ret2
    exact ⟨rfl, ba hb⟩
  · have e : aheadR s t a = a - t := by simp [aheadR, h0]
    rw [e]
    have hge' := hge h0
    have hpos : 0 < a := by omega
    clear e hge h0
    go_enter Try.func16, Try.ntmps16
    go_wp2_with (go_at_call 13; refine (may_yes s t a _ HH.out hs).mono ?_; rintro e w1 ⟨rfl, hb⟩; obtain ⟨hc, hf⟩ := bcell hb)
    go_ret2
    exact ⟨rfl, ba hb⟩

set_option maxHeartbeats 400000 in
theorem ahead_no (s t a : Int) (w : World) (h : mayB s t a = false) (hs : s ≤ 9223372036854775807) :
    Calls Try.prog 16 #[.agg #[.int .i64 s, .int .i64 t], .int .i64 a] w fun e w' => e = .returned (.tuple #[.int .i64 0, .int .i64 1]) ∧ Below w.heap.size w w' := by
  have HH := Lib.hid h
  clear h
  go_enter Try.func16, Try.ntmps16
  go_wp2_with (go_at_call 13; refine (may_no s t a _ HH.out hs).mono ?_; rintro e w1 ⟨rfl, hb⟩)
  go_ret2
  exact ⟨rfl, ba hb⟩

set_option maxHeartbeats 400000 in
theorem index_yes (s t a : Int) (w : World) (h : mayB s t a = true) (hs : s ≤ 9223372036854775807) :
    Calls Try.prog 17 #[.agg #[.int .i64 s, .int .i64 t], .int .i64 a] w fun e w' => e = .returned (.tuple #[.int .i64 (a / t), .int .i64 0]) ∧ Below w.heap.size w w' := by
  obtain ⟨hr, h1, h2, h3⟩ := mayB_out h
  obtain ⟨k1, k2, k3, _⟩ := rightB_out hr
  have HH := Lib.hid h
  clear h h3 k3 hr
  go_enter Try.func17, Try.ntmps17
  go_wp2_with (go_at_call 13; refine (may_yes s t a _ HH.out hs).mono ?_; rintro e w1 ⟨rfl, hb⟩; obtain ⟨hc, hf⟩ := bcell hb)
  go_ret2
  exact ⟨rfl, ba hb⟩

set_option maxHeartbeats 400000 in
theorem index_no (s t a : Int) (w : World) (h : mayB s t a = false) (hs : s ≤ 9223372036854775807) :
    Calls Try.prog 17 #[.agg #[.int .i64 s, .int .i64 t], .int .i64 a] w fun e w' => e = .returned (.tuple #[.int .i64 0, .int .i64 1]) ∧ Below w.heap.size w w' := by
  have HH := Lib.hid h
  clear h
  go_enter Try.func17, Try.ntmps17
  go_wp2_with (go_at_call 13; refine (may_no s t a _ HH.out hs).mono ?_; rintro e w1 ⟨rfl, hb⟩)
  go_ret2
  exact ⟨rfl, ba hb⟩

/-- There is an entry with this index. -/
def hasB (s t i : Int) : Bool := rightB s t && decide (0 ≤ i ∧ i < s / t)
theorem hasB_out {s t i : Int} (h : hasB s t i = true) : rightB s t = true ∧ 0 ≤ i ∧ i < s / t := by simpa [hasB] using h
theorem hasB_mk {s t i : Int} (h : rightB s t = true) (h1 : 0 ≤ i) (h2 : i < s / t) : hasB s t i = true := by simp [hasB, h, h1, h2]
theorem hasB_no {s t i : Int} (h : hasB s t i = false) : rightB s t = false ∨ (rightB s t = true ∧ i < 0) ∨ (rightB s t = true ∧ 0 ≤ i ∧ s / t ≤ i) := by
  cases hr : rightB s t
  · exact .inl rfl
  · have h' : ¬ (0 ≤ i ∧ i < s / t) := by simpa [hasB, hr] using h
    by_cases x : 0 ≤ i
    · exact .inr (.inr ⟨rfl, x, by omega⟩)
    · exact .inr (.inl ⟨rfl, by omega⟩)
theorem has_lt {s t i : Int} (h : hasB s t i = true) : i * t < s := by
  obtain ⟨hr, h1, h2⟩ := hasB_out h
  obtain ⟨k1, k2, k3, _⟩ := rightB_out hr
  have es := Int.mul_ediv_add_emod s t
  rw [k3] at es
  have := Int.mul_le_mul_of_nonneg_left (show i + 1 ≤ s / t by omega) (show (0 : Int) ≤ t by omega)
  rw [Int.mul_add, Int.mul_one, Int.mul_comm t i] at this
  omega
theorem has_may {s t i : Int} (h : hasB s t i = true) : mayB s t (i * t) = true := by
  have hl := has_lt h
  obtain ⟨hr, h1, h2⟩ := hasB_out h
  obtain ⟨k1, k2, k3, _⟩ := rightB_out hr
  exact mayB_mk hr (Int.mul_nonneg h1 (by omega)) hl (by simp)
theorem may_has {s t a : Int} (h : mayB s t a = true) : hasB s t (a / t) = true := by
  obtain ⟨hr, h1, h2, h3⟩ := mayB_out h
  obtain ⟨k1, k2, k3, _⟩ := rightB_out hr
  refine hasB_mk hr (Int.ediv_nonneg h1 (by omega)) ?_
  have hl := step_le h
  have ea := Int.mul_ediv_add_emod a t
  have es := Int.mul_ediv_add_emod s t
  rw [h3] at ea; rw [k3] at es
  rcases Int.lt_or_le (a / t) (s / t) with h | h
  · exact h
  · have := Int.mul_le_mul_of_nonneg_left h (show (0 : Int) ≤ t by omega); omega
theorem may_mul {s t a : Int} (h : mayB s t a = true) : a / t * t = a := by
  obtain ⟨hr, h1, h2, h3⟩ := mayB_out h
  exact Int.ediv_mul_cancel (Int.dvd_of_emod_eq_zero h3)
theorem has_div {s t i : Int} (h : hasB s t i = true) : i * t / t = i := by
  obtain ⟨hr, h1, h2⟩ := hasB_out h
  obtain ⟨k1, k2, k3, _⟩ := rightB_out hr
  exact Int.mul_ediv_cancel i (by omega)

set_option maxHeartbeats 400000 in
theorem place_yes (s t i : Int) (w : World) (h : hasB s t i = true) (hs : s ≤ 9223372036854775807) :
    Calls Try.prog 14 #[.agg #[.int .i64 s, .int .i64 t], .int .i64 i] w fun e w' => e = .returned (.tuple #[.int .i64 (i * t), .int .i64 0]) ∧ Below w.heap.size w w' := by
  have hl := has_lt h
  obtain ⟨hr, h1, h2⟩ := hasB_out h
  obtain ⟨k1, k2, k3, _⟩ := rightB_out hr
  have hm : 0 ≤ i * t := Int.mul_nonneg h1 (by omega)
  have HR := Lib.hid hr
  clear h k3 hr
  go_enter Try.func14, Try.ntmps14
  go_wp2_with (first
    | (go_at_call 12; refine (right_ok s t _ HR.out hs).mono ?_; rintro e w1 ⟨rfl, hb⟩; obtain ⟨hc, hf⟩ := bcell hb; have hz := hsz hb)
    | (go_at_call 25; refine (entries_any s t _ k1 k2 hs).mono ?_; rintro e w2 ⟨rfl, hb2⟩; obtain ⟨hc2, hf2⟩ := bcell hb2))
  go_ret2
  exact ⟨rfl, (ba hb).trans (hb2.mono (Nat.le_of_lt hz))⟩

set_option maxHeartbeats 400000 in
theorem place_no (s t i : Int) (w : World) (h : hasB s t i = false) (hs : s ≤ 9223372036854775807) :
    Calls Try.prog 14 #[.agg #[.int .i64 s, .int .i64 t], .int .i64 i] w fun e w' => e = .returned (.tuple #[.int .i64 0, .int .i64 1]) ∧ Below w.heap.size w w' := by
  rcases hasB_no h with hr | ⟨hr, h1⟩ | ⟨hr, h1, h2⟩
  · have HR := Lib.hid hr
    clear h hr
    go_enter Try.func14, Try.ntmps14
    go_wp2_with (go_at_call 12; refine (right_no s t _ HR.out hs).mono ?_; rintro e w1 ⟨rfl, hb⟩; obtain ⟨hc, hf⟩ := bcell hb)
    go_ret2
    exact ⟨rfl, ba hb⟩
  · have HR := Lib.hid hr
    clear h hr
    go_enter Try.func14, Try.ntmps14
    go_wp2_with (go_at_call 12; refine (right_ok s t _ HR.out hs).mono ?_; rintro e w1 ⟨rfl, hb⟩; obtain ⟨hc, hf⟩ := bcell hb)
    go_ret2
    exact ⟨rfl, ba hb⟩
  · obtain ⟨k1, k2, k3, _⟩ := rightB_out hr
    have HR := Lib.hid hr
    clear h k3 hr
    go_enter Try.func14, Try.ntmps14
    go_wp2_with (first
      | (go_at_call 12; refine (right_ok s t _ HR.out hs).mono ?_; rintro e w1 ⟨rfl, hb⟩; obtain ⟨hc, hf⟩ := bcell hb; have hz := hsz hb)
      | (go_at_call 25; refine (entries_any s t _ k1 k2 hs).mono ?_; rintro e w2 ⟨rfl, hb2⟩; obtain ⟨hc2, hf2⟩ := bcell hb2))
    go_ret2
    exact ⟨rfl, (ba hb).trans (hb2.mono (Nat.le_of_lt hz))⟩

/-- How many wait. -/
def leftR (s t r v : Int) : Int := if v < r then (v - r + s) / t else (v - r) / t

set_option maxHeartbeats 400000 in
theorem left_yes (s t r v : Int) (w : World) (h : mayB s t r = true) (g : mayB s t v = true) (hs : s ≤ 9223372036854775807) :
    Calls Try.prog 19 #[.agg #[.int .i64 s, .int .i64 t], .int .i64 r, .int .i64 v] w fun e w' => e = .returned (.tuple #[.int .i64 (leftR s t r v), .int .i64 0]) ∧ Below w.heap.size w w' := by
  obtain ⟨hr, h1, h2, h3⟩ := mayB_out h
  obtain ⟨_, g1, g2, g3⟩ := mayB_out g
  obtain ⟨k1, k2, k3, _⟩ := rightB_out hr
  have HH := Lib.hid h
  have GG := Lib.hid g
  clear h g h3 g3 k3 hr
  by_cases hlt : v < r
  · have e : leftR s t r v = (v - r + s) / t := by simp [leftR, hlt]
    rw [e]; clear e
    go_enter Try.func19, Try.ntmps19
    go_wp2_with (first
      | (go_at_call 13; ((with_reducible refine (may_yes s t r _ HH.out hs).mono ?_); rintro e w1 ⟨rfl, hb⟩; obtain ⟨hc, hf⟩ := bcell hb; have hz := hsz hb))
      | (go_at_call 13; ((with_reducible refine (may_yes s t v _ GG.out hs).mono ?_); rintro e w2 ⟨rfl, hb2⟩; obtain ⟨hc2, hf2⟩ := bcell hb2)))
    go_ret2
    exact ⟨rfl, (ba hb).trans (hb2.mono (Nat.le_of_lt hz))⟩
  · have e : leftR s t r v = (v - r) / t := by simp [leftR, hlt]
    rw [e]; clear e
    have hge : r ≤ v := by omega
    clear hlt
    go_enter Try.func19, Try.ntmps19
    go_wp2_with (first
      | (go_at_call 13; ((with_reducible refine (may_yes s t r _ HH.out hs).mono ?_); rintro e w1 ⟨rfl, hb⟩; obtain ⟨hc, hf⟩ := bcell hb; have hz := hsz hb))
      | (go_at_call 13; ((with_reducible refine (may_yes s t v _ GG.out hs).mono ?_); rintro e w2 ⟨rfl, hb2⟩; obtain ⟨hc2, hf2⟩ := bcell hb2)))
    go_ret2
    exact ⟨rfl, (ba hb).trans (hb2.mono (Nat.le_of_lt hz))⟩

set_option maxHeartbeats 400000 in
theorem left_no1 (s t r v : Int) (w : World) (h : mayB s t r = false) (hs : s ≤ 9223372036854775807) :
    Calls Try.prog 19 #[.agg #[.int .i64 s, .int .i64 t], .int .i64 r, .int .i64 v] w fun e w' => e = .returned (.tuple #[.int .i64 0, .int .i64 1]) ∧ Below w.heap.size w w' := by
  have HH := Lib.hid h
  clear h
  go_enter Try.func19, Try.ntmps19
  go_wp2_with (go_at_call 13; refine (may_no s t r _ HH.out hs).mono ?_; rintro e w1 ⟨rfl, hb⟩)
  go_ret2
  exact ⟨rfl, ba hb⟩

set_option maxHeartbeats 400000 in
theorem left_no2 (s t r v : Int) (w : World) (h : mayB s t r = true) (g : mayB s t v = false) (hs : s ≤ 9223372036854775807) :
    Calls Try.prog 19 #[.agg #[.int .i64 s, .int .i64 t], .int .i64 r, .int .i64 v] w fun e w' => e = .returned (.tuple #[.int .i64 0, .int .i64 1]) ∧ Below w.heap.size w w' := by
  have HH := Lib.hid h
  have GG := Lib.hid g
  clear h g
  go_enter Try.func19, Try.ntmps19
  go_wp2_with (first
    | (go_at_call 13; ((with_reducible refine (may_yes s t r _ HH.out hs).mono ?_); rintro e w1 ⟨rfl, hb⟩; obtain ⟨hc, hf⟩ := bcell hb; have hz := hsz hb))
    | (go_at_call 13; ((with_reducible refine (may_no s t v _ GG.out hs).mono ?_); rintro e w2 ⟨rfl, hb2⟩; obtain ⟨hc2, hf2⟩ := bcell hb2)))
  go_ret2
  exact ⟨rfl, (ba hb).trans (hb2.mono (Nat.le_of_lt hz))⟩

theorem left_no (s t r v : Int) (w : World) (h : (mayB s t r && mayB s t v) = false) (hs : s ≤ 9223372036854775807) :
    Calls Try.prog 19 #[.agg #[.int .i64 s, .int .i64 t], .int .i64 r, .int .i64 v] w fun e w' => e = .returned (.tuple #[.int .i64 0, .int .i64 1]) ∧ Below w.heap.size w w' := by
  cases hr : mayB s t r
  · exact left_no1 s t r v w hr hs
  · exact left_no2 s t r v w hr (by simpa [hr] using h) hs

theorem leftR_bd {s t r v : Int} (h : mayB s t r = true) (g : mayB s t v = true) : 0 ≤ leftR s t r v ∧ leftR s t r v < s / t ∧ s / t ≤ 1024 := by
  obtain ⟨hr, h1, h2, h3⟩ := mayB_out h
  obtain ⟨_, g1, g2, g3⟩ := mayB_out g
  obtain ⟨k1, k2, k3, k4⟩ := rightB_out hr
  have es := Int.mul_ediv_add_emod s t
  rw [k3] at es
  unfold leftR
  split
  · refine ⟨Int.ediv_nonneg (by omega) (by omega), ?_, k4⟩
    exact Int.ediv_lt_of_lt_mul (by omega) (by rw [Int.mul_comm]; omega)
  · refine ⟨Int.ediv_nonneg (by omega) (by omega), ?_, k4⟩
    exact Int.ediv_lt_of_lt_mul (by omega) (by rw [Int.mul_comm]; omega)

set_option maxHeartbeats 400000 in
theorem room_yes (s t r v : Int) (w : World) (h : mayB s t r = true) (g : mayB s t v = true) (hs : s ≤ 9223372036854775807) :
    Calls Try.prog 20 #[.agg #[.int .i64 s, .int .i64 t], .int .i64 r, .int .i64 v] w fun e w' => e = .returned (.tuple #[.int .i64 (s / t - 1 - leftR s t r v), .int .i64 0]) ∧ Below w.heap.size w w' := by
  obtain ⟨hr, h1, h2, h3⟩ := mayB_out h
  obtain ⟨k1, k2, k3, _⟩ := rightB_out hr
  obtain ⟨b1, b2, b3⟩ := leftR_bd h g
  have HH := Lib.hid h
  have GG := Lib.hid g
  clear h g h3 k3 hr
  go_enter Try.func20, Try.ntmps20
  go_wp2_with (first
    | (go_at_call 19; refine (left_yes s t r v _ HH.out GG.out hs).mono ?_; rintro e w1 ⟨rfl, hb⟩; obtain ⟨hc, hf⟩ := bcell hb; have hz := hsz hb)
    | (go_at_call 25; refine (entries_any s t _ k1 k2 hs).mono ?_; rintro e w2 ⟨rfl, hb2⟩; obtain ⟨hc2, hf2⟩ := bcell hb2))
  go_ret2
  exact ⟨rfl, (ba hb).trans (hb2.mono (Nat.le_of_lt hz))⟩

set_option maxHeartbeats 400000 in
theorem room_no (s t r v : Int) (w : World) (h : (mayB s t r && mayB s t v) = false) (hs : s ≤ 9223372036854775807) :
    Calls Try.prog 20 #[.agg #[.int .i64 s, .int .i64 t], .int .i64 r, .int .i64 v] w fun e w' => e = .returned (.tuple #[.int .i64 0, .int .i64 1]) ∧ Below w.heap.size w w' := by
  have HH := Lib.hid h
  clear h
  go_enter Try.func20, Try.ntmps20
  go_wp2_with (go_at_call 19; refine (left_no s t r v _ HH.out hs).mono ?_; rintro e w1 ⟨rfl, hb⟩; obtain ⟨hc, hf⟩ := bcell hb)
  go_ret2
  exact ⟨rfl, ba hb⟩

end Go.Proofs.Ytpabmfmiikmnpaa
