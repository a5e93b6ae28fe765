/-
  Package ring: the plain reckoning (valid rings, entries' places) and the contracts of Right, May, entries, after, Next, Ahead, Index, Place, Left, Room at every input. No conditions beyond the numbers' own ranges.
  Package ring: the contracts of Ahead, Index, Place, Left, Room at every input.
  Rings, plain: the places that wait.
  Package ring, the plain reckoning by indexes: where the next entry stands, how many wait, and that as many steps as there are entries lead back.
-/
import Derived.Test.YtfnokpajendlmaaGnd
import Derived.WalkKit
import Derived.ProofKit
import Derived.Lib.Hide
namespace Go.Proofs.Ytfnokpajendlmaa
open Go.ChangeShapes Go.WideShapes Go.ChangeAt Go.RowKit
set_option linter.unusedVariables false

theorem hsz {w w1 : World} {o : Obj} (hb : Below (w.alloc o).heap.size (w.alloc o) w1) : w.heap.size < w1.heap.size := by
  have := hb.size; simp at this; omega

theorem ba {w w1 : World} {o : Obj} (hb : Below (w.alloc o).heap.size (w.alloc o) w1) : Below w.heap.size w w1 :=
  ((Below.refl _ w).alloc (Nat.le_refl _) o).trans (hb.mono (by simp))

def rightB (s t : Int) : Bool := decide (1 ≤ t ∧ 1 ≤ s ∧ s % t = 0 ∧ s / t ≤ 1024)
def mayB (s t a : Int) : Bool := rightB s t && decide (0 ≤ a ∧ a < s ∧ a % t = 0)
theorem rightB_mk {s t : Int} (h1 : 1 ≤ t) (h2 : 1 ≤ s) (h3 : s % t = 0) (h4 : s / t ≤ 1024) : rightB s t = true := by simp [rightB, h1, h2, h3, h4]
theorem rightB_out {s t : Int} (h : rightB s t = true) : 1 ≤ t ∧ 1 ≤ s ∧ s % t = 0 ∧ s / t ≤ 1024 := by simpa [rightB] using h
theorem mayB_mk {s t a : Int} (h : rightB s t = true) (h1 : 0 ≤ a) (h2 : a < s) (h3 : a % t = 0) : mayB s t a = true := by simp [mayB, h, h1, h2, h3]
theorem mayB_out {s t a : Int} (h : mayB s t a = true) : rightB s t = true ∧ 0 ≤ a ∧ a < s ∧ a % t = 0 := by simpa [mayB] using h

set_option maxHeartbeats 400000 in
theorem entries_any (s t : Int) (w : World) (h1 : 1 ≤ t) (h2 : 1 ≤ s) (h3 : s ≤ 9223372036854775807) :
    Calls Try.prog 51 #[.agg #[.int .i64 s, .int .i64 t]] w fun e w' => e = .returned (.int .i64 (s / t)) ∧ Below w.heap.size w w' := by
  go_enter Try.func51, Try.ntmps51
  go_wp2
  go_ret
  exact ⟨rfl, (Below.refl _ _).alloc (Nat.le_refl _) _⟩


theorem rightB_no {s t : Int} (h : rightB s t = false) : t < 1 ∨ (1 ≤ t ∧ s < 1) ∨ (1 ≤ t ∧ 1 ≤ s ∧ s % t ≠ 0) ∨ (1 ≤ t ∧ 1 ≤ s ∧ s % t = 0 ∧ 1024 < s / t) := by
  have h' : ¬ (1 ≤ t ∧ 1 ≤ s ∧ s % t = 0 ∧ s / t ≤ 1024) := by simpa [rightB] using h
  by_cases a : 1 ≤ t
  · by_cases b : 1 ≤ s
    · by_cases c : s % t = 0
      · exact .inr (.inr (.inr ⟨a, b, c, by omega⟩))
      · exact .inr (.inr (.inl ⟨a, b, c⟩))
    · exact .inr (.inl ⟨a, by omega⟩)
  · exact .inl (by omega)

set_option maxHeartbeats 400000 in
theorem right_ok (s t : Int) (w : World) (h : rightB s t = true) (hs : s ≤ 9223372036854775807) :
    Calls Try.prog 32 #[.agg #[.int .i64 s, .int .i64 t]] w fun e w' => e = .returned (.int .i64 0) ∧ Below w.heap.size w w' := by
  obtain ⟨h1, h2, h3, h4⟩ := rightB_out h
  clear h
  go_enter Try.func32, Try.ntmps32
  go_wp2_with (go_at_call 51; refine (entries_any s t _ h1 h2 hs).mono ?_; rintro e w1 ⟨rfl, hb⟩)
  go_ret
  exact ⟨rfl, ba hb⟩

set_option maxHeartbeats 400000 in
theorem right_no (s t : Int) (w : World) (h : rightB s t = false) (hs : s ≤ 9223372036854775807) :
    Calls Try.prog 32 #[.agg #[.int .i64 s, .int .i64 t]] w fun e w' => e = .returned (.int .i64 1) ∧ Below w.heap.size w w' := by
  rcases rightB_no h with h1 | ⟨h1, h2⟩ | ⟨h1, h2, h3⟩ | ⟨h1, h2, h3, h4⟩
  · clear h
    go_enter Try.func32, Try.ntmps32
    go_wp2
    go_ret
    exact ⟨rfl, (Below.refl _ _).alloc (Nat.le_refl _) _⟩
  · clear h
    go_enter Try.func32, Try.ntmps32
    go_wp2
    go_ret
    exact ⟨rfl, (Below.refl _ _).alloc (Nat.le_refl _) _⟩
  · clear h
    go_enter Try.func32, Try.ntmps32
    go_wp2
    go_ret
    exact ⟨rfl, (Below.refl _ _).alloc (Nat.le_refl _) _⟩
  · clear h
    go_enter Try.func32, Try.ntmps32
    go_wp2_with (go_at_call 51; refine (entries_any s t _ h1 h2 hs).mono ?_; rintro e w1 ⟨rfl, hb⟩)
    go_ret
    exact ⟨rfl, ba hb⟩

theorem mayB_no {s t a : Int} (h : mayB s t a = false) : rightB s t = false ∨ (rightB s t = true ∧ a < 0) ∨ (rightB s t = true ∧ 0 ≤ a ∧ s ≤ a) ∨ (rightB s t = true ∧ 0 ≤ a ∧ a < s ∧ a % t ≠ 0) := by
  cases hr : rightB s t
  · exact .inl rfl
  · have h' : ¬ (0 ≤ a ∧ a < s ∧ a % t = 0) := by simpa [mayB, hr] using h
    by_cases x : 0 ≤ a
    · by_cases y : a < s
      · exact .inr (.inr (.inr ⟨rfl, x, y, fun z => h' ⟨x, y, z⟩⟩))
      · exact .inr (.inr (.inl ⟨rfl, x, by omega⟩))
    · exact .inr (.inl ⟨rfl, by omega⟩)

set_option maxHeartbeats 400000 in
theorem may_yes (s t a : Int) (w : World) (h : mayB s t a = true) (hs : s ≤ 9223372036854775807) :
    Calls Try.prog 37 #[.agg #[.int .i64 s, .int .i64 t], .int .i64 a] w fun e w' => e = .returned (.bool true) ∧ Below w.heap.size w w' := by
  obtain ⟨hr, h1, h2, h3⟩ := mayB_out h
  obtain ⟨k1, k2, _, _⟩ := rightB_out hr
  clear h
  have HR := Lib.hid hr
  clear hr
  go_enter Try.func37, Try.ntmps37
  go_wp2_with (go_at_call 32; refine (right_ok s t _ HR.out hs).mono ?_; rintro e w1 ⟨rfl, hb⟩; obtain ⟨hc, hf⟩ := bcell hb)
  go_ret
  exact ⟨rfl, ba hb⟩

set_option maxHeartbeats 400000 in
theorem may_no (s t a : Int) (w : World) (h : mayB s t a = false) (hs : s ≤ 9223372036854775807) :
    Calls Try.prog 37 #[.agg #[.int .i64 s, .int .i64 t], .int .i64 a] w fun e w' => e = .returned (.bool false) ∧ Below w.heap.size w w' := by
  rcases mayB_no h with hr | ⟨hr, h1⟩ | ⟨hr, h1, h2⟩ | ⟨hr, h1, h2, h3⟩
  · clear h
    have HR := Lib.hid hr
    clear hr
    go_enter Try.func37, Try.ntmps37
    go_wp2_with (go_at_call 32; refine (right_no s t _ HR.out hs).mono ?_; rintro e w1 ⟨rfl, hb⟩; obtain ⟨hc, hf⟩ := bcell hb)
    go_ret
    exact ⟨rfl, ba hb⟩
  all_goals
    obtain ⟨k1, k2, _, _⟩ := rightB_out hr
    clear h
    have HR := Lib.hid hr
    clear hr
    go_enter Try.func37, Try.ntmps37
    go_wp2_with (go_at_call 32; refine (right_ok s t _ HR.out hs).mono ?_; rintro e w1 ⟨rfl, hb⟩; obtain ⟨hc, hf⟩ := bcell hb)
    go_ret
    first
      | exact ⟨rfl, ba hb⟩
      | exact ⟨by simp [h3], ba hb⟩

/-- The entry behind, and the one ahead. -/
def nextR (s t a : Int) : Int := if a + t = s then 0 else a + t
def aheadR (s t a : Int) : Int := if a = 0 then s - t else a - t

theorem step_le {s t a : Int} (h : mayB s t a = true) : a + t ≤ s := by
  obtain ⟨hr, h1, h2, h3⟩ := mayB_out h
  obtain ⟨k1, k2, k3, _⟩ := rightB_out hr
  have ea := Int.mul_ediv_add_emod a t
  have es := Int.mul_ediv_add_emod s t
  rw [h3] at ea; rw [k3] at es
  have hlt : a / t < s / t := by
    rcases Int.lt_or_le (a / t) (s / t) with h | h
    · exact h
    · have := Int.mul_le_mul_of_nonneg_left h (show (0 : Int) ≤ t by omega); omega
  have := Int.mul_le_mul_of_nonneg_left (show a / t + 1 ≤ s / t by omega) (show (0 : Int) ≤ t by omega)
  rw [Int.mul_add, Int.mul_one] at this
  omega

theorem next_mod {s t a : Int} (h : mayB s t a = true) : (a + t) % s = nextR s t a := by
  have hl := step_le h
  obtain ⟨hr, h1, h2, h3⟩ := mayB_out h
  obtain ⟨k1, k2, k3, _⟩ := rightB_out hr
  unfold nextR
  split
  · rename_i e; rw [e]; exact Int.emod_self
  · exact Int.emod_eq_of_lt (by omega) (by omega)

theorem next_may {s t a : Int} (h : mayB s t a = true) : mayB s t (nextR s t a) = true := by
  have hl := step_le h
  obtain ⟨hr, h1, h2, h3⟩ := mayB_out h
  obtain ⟨k1, k2, k3, _⟩ := rightB_out hr
  unfold nextR
  split
  · exact mayB_mk hr (by omega) (by omega) (by simp)
  · exact mayB_mk hr (by omega) (by omega) (by rw [Int.add_emod_right]; exact h3)

theorem step_ge {s t a : Int} (h : mayB s t a = true) (h0 : a ≠ 0) : t ≤ a := by
  obtain ⟨hr, h1, h2, h3⟩ := mayB_out h
  obtain ⟨k1, k2, k3, _⟩ := rightB_out hr
  have := Int.le_of_dvd (show 0 < a by omega) (Int.dvd_of_emod_eq_zero h3)
  exact this

theorem size_ge {s t : Int} (hr : rightB s t = true) : t ≤ s := by
  obtain ⟨k1, k2, k3, _⟩ := rightB_out hr
  exact Int.le_of_dvd (show 0 < s by omega) (Int.dvd_of_emod_eq_zero k3)

theorem ahead_may {s t a : Int} (h : mayB s t a = true) : mayB s t (aheadR s t a) = true := by
  obtain ⟨hr, h1, h2, h3⟩ := mayB_out h
  obtain ⟨k1, k2, k3, _⟩ := rightB_out hr
  have hg := size_ge hr
  unfold aheadR
  split
  · exact mayB_mk hr (by omega) (by omega) (by rw [Int.sub_emod_right]; exact k3)
  · rename_i h0
    have := step_ge h h0
    exact mayB_mk hr (by omega) (by omega) (by rw [Int.sub_emod_right]; exact h3)

theorem ahead_next {s t a : Int} (h : mayB s t a = true) : aheadR s t (nextR s t a) = a := by
  have hl := step_le h
  obtain ⟨hr, h1, h2, h3⟩ := mayB_out h
  obtain ⟨k1, k2, k3, _⟩ := rightB_out hr
  unfold nextR
  split
  · rename_i e; simp [aheadR]; omega
  · rw [aheadR, if_neg (by omega)]; omega

theorem next_ahead {s t a : Int} (h : mayB s t a = true) : nextR s t (aheadR s t a) = a := by
  have hl := step_le h
  obtain ⟨hr, h1, h2, h3⟩ := mayB_out h
  obtain ⟨k1, k2, k3, _⟩ := rightB_out hr
  unfold aheadR
  split
  · rename_i e; rw [nextR, if_pos (by omega)]; omega
  · rw [nextR, if_neg (by omega)]; omega

set_option maxHeartbeats 400000 in
theorem after_any (s t a : Int) (w : World) (h : mayB s t a = true) (hs : s ≤ 9223372036854775807) :
    Calls Try.prog 64 #[.agg #[.int .i64 s, .int .i64 t], .int .i64 a] w fun e w' => e = .returned (.int .i64 (nextR s t a)) ∧ Below w.heap.size w w' := by
  have hn := next_mod h
  have hl := step_le h
  obtain ⟨hr, h1, h2, h3⟩ := mayB_out h
  obtain ⟨k1, k2, k3, _⟩ := rightB_out hr
  have HN := Lib.hid hn
  clear hn h h3 hr k3
  go_enter Try.func64, Try.ntmps64
  go_wp2
  go_ret
  exact ⟨by simp [HN.out], (Below.refl _ _).alloc (Nat.le_refl _) _⟩

set_option maxHeartbeats 400000 in
theorem next_yes (s t a : Int) (w : World) (h : mayB s t a = true) (hs : s ≤ 9223372036854775807) :
    Calls Try.prog 55 #[.agg #[.int .i64 s, .int .i64 t], .int .i64 a] w fun e w' => e = .returned (.tuple #[.int .i64 (nextR s t a), .int .i64 0]) ∧ Below w.heap.size w w' := by
  have HH := Lib.hid h
  clear h
  go_enter Try.func55, Try.ntmps55
  go_wp2_with (first
    | (go_at_call 37; refine (may_yes s t a _ HH.out hs).mono ?_; rintro e w1 ⟨rfl, hb⟩; obtain ⟨hc, hf⟩ := bcell hb; have hz := hsz hb)
    | (go_at_call 64; refine (after_any s t a _ HH.out hs).mono ?_; rintro e w2 ⟨rfl, hb2⟩))
  go_ret2
  exact ⟨rfl, (ba hb).trans (hb2.mono (Nat.le_of_lt hz))⟩

set_option maxHeartbeats 400000 in
theorem next_no (s t a : Int) (w : World) (h : mayB s t a = false) (hs : s ≤ 9223372036854775807) :
    Calls Try.prog 55 #[.agg #[.int .i64 s, .int .i64 t], .int .i64 a] w fun e w' => e = .returned (.tuple #[.int .i64 0, .int .i64 1]) ∧ Below w.heap.size w w' := by
  have HH := Lib.hid h
  clear h
  go_enter Try.func55, Try.ntmps55
  go_wp2_with (go_at_call 37; refine (may_no s t a _ HH.out hs).mono ?_; rintro e w1 ⟨rfl, hb⟩)
  go_ret2
  exact ⟨rfl, ba hb⟩

end Go.Proofs.Ytfnokpajendlmaa

namespace Go.Proofs.Ytfnokpajendlmaa
open Go.ChangeShapes Go.WideShapes Go.ChangeAt Go.RowKit
set_option linter.unusedVariables false

/-- There is an entry with this index. -/
def hasRg (s t i : Int) : Bool := rightB s t && decide (0 ≤ i ∧ i < s / t)
theorem hasRg_out {s t i : Int} (h : hasRg s t i = true) : rightB s t = true ∧ 0 ≤ i ∧ i < s / t := by simpa [hasRg] using h
theorem hasRg_mk {s t i : Int} (h : rightB s t = true) (h1 : 0 ≤ i) (h2 : i < s / t) : hasRg s t i = true := by simp [hasRg, h, h1, h2]
theorem hasRg_no {s t i : Int} (h : hasRg s t i = false) : rightB s t = false ∨ (rightB s t = true ∧ i < 0) ∨ (rightB s t = true ∧ 0 ≤ i ∧ s / t ≤ i) := by
  cases hr : rightB s t
  · exact .inl rfl
  · have h' : ¬ (0 ≤ i ∧ i < s / t) := by simpa [hasRg, hr] using h
    by_cases x : 0 ≤ i
    · exact .inr (.inr ⟨rfl, x, by omega⟩)
    · exact .inr (.inl ⟨rfl, by omega⟩)
theorem has_lt {s t i : Int} (h : hasRg s t i = true) : i * t < s := by
  obtain ⟨hr, h1, h2⟩ := hasRg_out h
  obtain ⟨k1, k2, k3, _⟩ := rightB_out hr
  have es := Int.mul_ediv_add_emod s t
  rw [k3] at es
  have := Int.mul_le_mul_of_nonneg_left (show i + 1 ≤ s / t by omega) (show (0 : Int) ≤ t by omega)
  rw [Int.mul_add, Int.mul_one, Int.mul_comm t i] at this
  omega
theorem has_may {s t i : Int} (h : hasRg s t i = true) : mayB s t (i * t) = true := by
  have hl := has_lt h
  obtain ⟨hr, h1, h2⟩ := hasRg_out h
  obtain ⟨k1, k2, k3, _⟩ := rightB_out hr
  exact mayB_mk hr (Int.mul_nonneg h1 (by omega)) hl (by simp)
theorem may_has {s t a : Int} (h : mayB s t a = true) : hasRg s t (a / t) = true := by
  obtain ⟨hr, h1, h2, h3⟩ := mayB_out h
  obtain ⟨k1, k2, k3, _⟩ := rightB_out hr
  refine hasRg_mk hr (Int.ediv_nonneg h1 (by omega)) ?_
  have hl := step_le h
  have ea := Int.mul_ediv_add_emod a t
  have es := Int.mul_ediv_add_emod s t
  rw [h3] at ea; rw [k3] at es
  rcases Int.lt_or_le (a / t) (s / t) with h | h
  · exact h
  · have := Int.mul_le_mul_of_nonneg_left h (show (0 : Int) ≤ t by omega); omega
theorem may_mul {s t a : Int} (h : mayB s t a = true) : a / t * t = a := by
  obtain ⟨hr, h1, h2, h3⟩ := mayB_out h
  exact Int.ediv_mul_cancel (Int.dvd_of_emod_eq_zero h3)
theorem has_div {s t i : Int} (h : hasRg s t i = true) : i * t / t = i := by
  obtain ⟨hr, h1, h2⟩ := hasRg_out h
  obtain ⟨k1, k2, k3, _⟩ := rightB_out hr
  exact Int.mul_ediv_cancel i (by omega)

/-- How many wait. -/
def leftR (s t r v : Int) : Int := if v < r then (v - r + s) / t else (v - r) / t

set_option maxHeartbeats 400000 in
theorem left_yes (s t r v : Int) (w : World) (h : mayB s t r = true) (g : mayB s t v = true) (hs : s ≤ 9223372036854775807) :
    Calls Try.prog 36 #[.agg #[.int .i64 s, .int .i64 t], .int .i64 r, .int .i64 v] w fun e w' => e = .returned (.tuple #[.int .i64 (leftR s t r v), .int .i64 0]) ∧ Below w.heap.size w w' := by
  obtain ⟨hr, h1, h2, h3⟩ := mayB_out h
  obtain ⟨_, g1, g2, g3⟩ := mayB_out g
  obtain ⟨k1, k2, k3, _⟩ := rightB_out hr
  have HH := Lib.hid h
  have GG := Lib.hid g
  clear h g h3 g3 k3 hr
  by_cases hlt : v < r
  · have e : leftR s t r v = (v - r + s) / t := by simp [leftR, hlt]
    rw [e]; clear e
    go_enter Try.func36, Try.ntmps36
    go_wp2_with (first
      | (go_at_call 37; ((with_reducible refine (may_yes s t r _ HH.out hs).mono ?_); rintro e w1 ⟨rfl, hb⟩; obtain ⟨hc, hf⟩ := bcell hb; have hz := hsz hb))
      | (go_at_call 37; ((with_reducible refine (may_yes s t v _ GG.out hs).mono ?_); rintro e w2 ⟨rfl, hb2⟩; obtain ⟨hc2, hf2⟩ := bcell hb2)))
    go_ret2
    exact ⟨rfl, (ba hb).trans (hb2.mono (Nat.le_of_lt hz))⟩
  · have e : leftR s t r v = (v - r) / t := by simp [leftR, hlt]
    rw [e]; clear e
    have hge : r ≤ v := by omega
    clear hlt
    go_enter Try.func36, Try.ntmps36
    go_wp2_with (first
      | (go_at_call 37; ((with_reducible refine (may_yes s t r _ HH.out hs).mono ?_); rintro e w1 ⟨rfl, hb⟩; obtain ⟨hc, hf⟩ := bcell hb; have hz := hsz hb))
      | (go_at_call 37; ((with_reducible refine (may_yes s t v _ GG.out hs).mono ?_); rintro e w2 ⟨rfl, hb2⟩; obtain ⟨hc2, hf2⟩ := bcell hb2)))
    go_ret2
    exact ⟨rfl, (ba hb).trans (hb2.mono (Nat.le_of_lt hz))⟩

set_option maxHeartbeats 400000 in
theorem left_no1 (s t r v : Int) (w : World) (h : mayB s t r = false) (hs : s ≤ 9223372036854775807) :
    Calls Try.prog 36 #[.agg #[.int .i64 s, .int .i64 t], .int .i64 r, .int .i64 v] w fun e w' => e = .returned (.tuple #[.int .i64 0, .int .i64 1]) ∧ Below w.heap.size w w' := by
  have HH := Lib.hid h
  clear h
  go_enter Try.func36, Try.ntmps36
  go_wp2_with (go_at_call 37; refine (may_no s t r _ HH.out hs).mono ?_; rintro e w1 ⟨rfl, hb⟩)
  go_ret2
  exact ⟨rfl, ba hb⟩

set_option maxHeartbeats 400000 in
theorem left_no2 (s t r v : Int) (w : World) (h : mayB s t r = true) (g : mayB s t v = false) (hs : s ≤ 9223372036854775807) :
    Calls Try.prog 36 #[.agg #[.int .i64 s, .int .i64 t], .int .i64 r, .int .i64 v] w fun e w' => e = .returned (.tuple #[.int .i64 0, .int .i64 1]) ∧ Below w.heap.size w w' := by
  have HH := Lib.hid h
  have GG := Lib.hid g
  clear h g
  go_enter Try.func36, Try.ntmps36
  go_wp2_with (first
    | (go_at_call 37; ((with_reducible refine (may_yes s t r _ HH.out hs).mono ?_); rintro e w1 ⟨rfl, hb⟩; obtain ⟨hc, hf⟩ := bcell hb; have hz := hsz hb))
    | (go_at_call 37; ((with_reducible refine (may_no s t v _ GG.out hs).mono ?_); rintro e w2 ⟨rfl, hb2⟩; obtain ⟨hc2, hf2⟩ := bcell hb2)))
  go_ret2
  exact ⟨rfl, (ba hb).trans (hb2.mono (Nat.le_of_lt hz))⟩

theorem left_no (s t r v : Int) (w : World) (h : (mayB s t r && mayB s t v) = false) (hs : s ≤ 9223372036854775807) :
    Calls Try.prog 36 #[.agg #[.int .i64 s, .int .i64 t], .int .i64 r, .int .i64 v] w fun e w' => e = .returned (.tuple #[.int .i64 0, .int .i64 1]) ∧ Below w.heap.size w w' := by
  cases hr : mayB s t r
  · exact left_no1 s t r v w hr hs
  · exact left_no2 s t r v w hr (by simpa [hr] using h) hs

theorem leftR_bd {s t r v : Int} (h : mayB s t r = true) (g : mayB s t v = true) : 0 ≤ leftR s t r v ∧ leftR s t r v < s / t ∧ s / t ≤ 1024 := by
  obtain ⟨hr, h1, h2, h3⟩ := mayB_out h
  obtain ⟨_, g1, g2, g3⟩ := mayB_out g
  obtain ⟨k1, k2, k3, k4⟩ := rightB_out hr
  have es := Int.mul_ediv_add_emod s t
  rw [k3] at es
  unfold leftR
  split
  · refine ⟨Int.ediv_nonneg (by omega) (by omega), ?_, k4⟩
    exact Int.ediv_lt_of_lt_mul (by omega) (by rw [Int.mul_comm]; omega)
  · refine ⟨Int.ediv_nonneg (by omega) (by omega), ?_, k4⟩
    exact Int.ediv_lt_of_lt_mul (by omega) (by rw [Int.mul_comm]; omega)

set_option maxHeartbeats 400000 in
theorem room_yes (s t r v : Int) (w : World) (h : mayB s t r = true) (g : mayB s t v = true) (hs : s ≤ 9223372036854775807) :
    Calls Try.prog 33 #[.agg #[.int .i64 s, .int .i64 t], .int .i64 r, .int .i64 v] w fun e w' => e = .returned (.tuple #[.int .i64 (s / t - 1 - leftR s t r v), .int .i64 0]) ∧ Below w.heap.size w w' := by
  obtain ⟨hr, h1, h2, h3⟩ := mayB_out h
  obtain ⟨k1, k2, k3, _⟩ := rightB_out hr
  obtain ⟨b1, b2, b3⟩ := leftR_bd h g
  have HH := Lib.hid h
  have GG := Lib.hid g
  clear h g h3 k3 hr
  go_enter Try.func33, Try.ntmps33
  go_wp2_with (first
    | (go_at_call 36; refine (left_yes s t r v _ HH.out GG.out hs).mono ?_; rintro e w1 ⟨rfl, hb⟩; obtain ⟨hc, hf⟩ := bcell hb; have hz := hsz hb)
    | (go_at_call 51; refine (entries_any s t _ k1 k2 hs).mono ?_; rintro e w2 ⟨rfl, hb2⟩; obtain ⟨hc2, hf2⟩ := bcell hb2))
  go_ret2
  exact ⟨rfl, (ba hb).trans (hb2.mono (Nat.le_of_lt hz))⟩

set_option maxHeartbeats 400000 in
theorem room_no (s t r v : Int) (w : World) (h : (mayB s t r && mayB s t v) = false) (hs : s ≤ 9223372036854775807) :
    Calls Try.prog 33 #[.agg #[.int .i64 s, .int .i64 t], .int .i64 r, .int .i64 v] w fun e w' => e = .returned (.tuple #[.int .i64 0, .int .i64 1]) ∧ Below w.heap.size w w' := by
  have HH := Lib.hid h
  clear h
  go_enter Try.func33, Try.ntmps33
  go_wp2_with (go_at_call 36; refine (left_no s t r v _ HH.out hs).mono ?_; rintro e w1 ⟨rfl, hb⟩; obtain ⟨hc, hf⟩ := bcell hb)
  go_ret2
  exact ⟨rfl, ba hb⟩

end Go.Proofs.Ytfnokpajendlmaa

namespace Go.Proofs.Ytfnokpajendlmaa
open Go.ChangeShapes Go.WideShapes Go.ChangeAt Go.RowKit
set_option linter.unusedVariables false

def seqR (s t r : Int) : Nat → Int
  | 0 => r
  | k + 1 => nextR s t (seqR s t r k)
theorem seqR_may {s t r : Int} (h : mayB s t r = true) : ∀ k, mayB s t (seqR s t r k) = true
  | 0 => h
  | k + 1 => next_may (seqR_may h k)

theorem leftR_self {s t a : Int} : leftR s t a a = 0 := by simp [leftR]

theorem dvd_ge {t x : Int} (h1 : 1 ≤ t) (h : x % t = 0) (h0 : 0 < x) : t ≤ x := Int.le_of_dvd h0 (Int.dvd_of_emod_eq_zero h)

theorem left_next {s t a v : Int} (h : mayB s t a = true) (g : mayB s t v = true) (hne : a ≠ v) : leftR s t (nextR s t a) v = leftR s t a v - 1 := by
  have hl := step_le h
  have hl2 := step_le g
  obtain ⟨hr, h1, h2, h3⟩ := mayB_out h
  obtain ⟨_, g1, g2, g3⟩ := mayB_out g
  obtain ⟨k1, k2, k3, _⟩ := rightB_out hr
  have hsub : ∀ x : Int, (x - t) / t = x / t - 1 := fun x => by
    have := Int.add_mul_ediv_right x (-1) (show t ≠ 0 by omega)
    rw [show x + -1 * t = x - t by omega] at this
    rw [this]; omega
  have hd : (v - a) % t = 0 := by rw [Int.sub_emod, g3, h3]; simp
  have hd2 : (a - v) % t = 0 := by rw [Int.sub_emod, g3, h3]; simp
  unfold nextR
  split
  · rename_i e
    -- a is the last place; the next one is 0
    have hv : v < a := by
      by_cases x : v < a
      · exact x
      · have := dvd_ge k1 hd (by omega); omega
    unfold leftR
    rw [if_neg (by omega), if_pos (by omega), ← hsub]
    congr 1
    omega
  · by_cases x : v < a
    · unfold leftR
      rw [if_pos (by omega), if_pos x, ← hsub]
      congr 1
      omega
    · have := dvd_ge k1 hd (by omega)
      unfold leftR
      rw [if_neg (by omega), if_neg x, ← hsub]
      congr 1
      omega

theorem left_pos {s t a v : Int} (h : mayB s t a = true) (g : mayB s t v = true) (hne : a ≠ v) : 1 ≤ leftR s t a v := by
  have hl := step_le h
  have hl2 := step_le g
  obtain ⟨hr, h1, h2, h3⟩ := mayB_out h
  obtain ⟨_, g1, g2, g3⟩ := mayB_out g
  obtain ⟨k1, k2, k3, _⟩ := rightB_out hr
  have hd : (v - a) % t = 0 := by rw [Int.sub_emod, g3, h3]; simp
  unfold leftR
  split
  · exact (Int.le_ediv_iff_mul_le (by omega)).2 (by omega)
  · have := dvd_ge k1 hd (by omega)
    exact (Int.le_ediv_iff_mul_le (by omega)).2 (by omega)

theorem left_seq {s t r v : Int} (h : mayB s t r = true) (g : mayB s t v = true) : ∀ k : Nat, (k : Int) ≤ leftR s t r v → leftR s t (seqR s t r k) v = leftR s t r v - k
  | 0, _ => by simp [seqR]
  | k + 1, hk => by
    have ih := left_seq h g k (by omega)
    have hne : seqR s t r k ≠ v := fun e => by rw [e, leftR_self] at ih; omega
    rw [seqR, left_next (seqR_may h k) g hne, ih]
    omega

/-- The places that wait. -/
def xsV (s t r v : Int) : List Int := (List.range (leftR s t r v).toNat).map (seqR s t r)
def xsR (s t r v : Int) : List Int := if (mayB s t r && mayB s t v) = true then xsV s t r v else []
theorem xsV_len (s t r v : Int) : (xsV s t r v).length = (leftR s t r v).toNat := by simp [xsV]

def upR (s t r : Int) (k : Nat) : List Int := (List.range k).map (seqR s t r)
theorem upR_succ (s t r : Int) (k : Nat) : upR s t r (k + 1) = upR s t r k ++ [seqR s t r k] := by simp [upR, List.range_succ]
theorem upR_len (s t r : Int) (k : Nat) : (upR s t r k).length = k := by simp [upR]
theorem upR_pre (s t r v : Int) {k : Nat} (hk : k ≤ (leftR s t r v).toNat) : upR s t r k <+: xsV s t r v := by
  have : upR s t r k = (xsV s t r v).take k := by
    simp [upR, xsV, ← List.map_take, List.take_range, Nat.min_eq_left hk]
  rw [this]; exact List.take_prefix _ _


theorem mayB_out2 {s t r v : Int} (h : (mayB s t r && mayB s t v) = true) : mayB s t r = true ∧ mayB s t v = true := by simpa using h
theorem xsR_len (s t r v : Int) : (xsR s t r v).length ≤ 1024 := by
  unfold xsR
  split
  · rename_i h
    obtain ⟨hr, hv⟩ := mayB_out2 h
    have := leftR_bd hr hv
    rw [xsV_len]; omega
  · simp
theorem xsR_yes {s t r v : Int} (hr : mayB s t r = true) (hv : mayB s t v = true) : xsR s t r v = xsV s t r v := by simp [xsR, hr, hv]
theorem xsR_no {s t r v : Int} (h : (mayB s t r && mayB s t v) = false) : xsR s t r v = [] := by simp only [xsR, h]; rfl

end Go.Proofs.Ytfnokpajendlmaa

namespace Go.Proofs.Ytfnokpajendlmaa
set_option linter.unusedVariables false

theorem idx_of {s t a : Int} (h : mayB s t a = true) : a = a / t * t ∧ 0 ≤ a / t ∧ a / t < s / t := ⟨(may_mul h).symm, (hasRg_out (may_has h)).2.1, (hasRg_out (may_has h)).2.2⟩
theorem size_of {s t : Int} (h : rightB s t = true) : s = s / t * t := by
  obtain ⟨k1, k2, k3, _⟩ := rightB_out h
  exact (Int.ediv_mul_cancel (Int.dvd_of_emod_eq_zero k3)).symm

theorem mul_lt {i j t : Int} (h1 : 1 ≤ t) : i * t < j * t ↔ i < j := ⟨fun h => Int.lt_of_mul_lt_mul_right h (by omega), fun h => Int.mul_lt_mul_of_pos_right h (by omega)⟩

theorem left_idx {s t r v : Int} (h : mayB s t r = true) (g : mayB s t v = true) : leftR s t r v = if v / t < r / t then v / t - r / t + s / t else v / t - r / t := by
  obtain ⟨hr, _⟩ := mayB_out h
  obtain ⟨k1, k2, k3, k4⟩ := rightB_out hr
  obtain ⟨er, _, _⟩ := idx_of h
  obtain ⟨ev, _, _⟩ := idx_of g
  have es := size_of hr
  have hlt : v < r ↔ v / t < r / t := by
    rw [← mul_lt k1 (i := v / t), ← er, ← ev]
  unfold leftR
  by_cases x : v < r
  · rw [if_pos x, if_pos (hlt.1 x)]
    have : v - r + s = (v / t - r / t + s / t) * t := by rw [Int.add_mul, Int.sub_mul, ← er, ← ev, ← es]
    rw [this, Int.mul_ediv_cancel _ (by omega)]
  · rw [if_neg x, if_neg (fun y => x (hlt.2 y))]
    have : v - r = (v / t - r / t) * t := by rw [Int.sub_mul, ← er, ← ev]
    rw [this, Int.mul_ediv_cancel _ (by omega)]

theorem next_idx {s t a : Int} (h : mayB s t a = true) : nextR s t a / t = if a / t + 1 = s / t then 0 else a / t + 1 := by
  obtain ⟨hr, _⟩ := mayB_out h
  obtain ⟨k1, k2, k3, k4⟩ := rightB_out hr
  obtain ⟨ea, _, _⟩ := idx_of h
  have es := size_of hr
  have e : a + t = (a / t + 1) * t := by rw [Int.add_mul, ← ea]; omega
  unfold nextR
  by_cases x : a / t + 1 = s / t
  · rw [if_pos x, if_pos (by rw [e, x, ← es])]; simp
  · rw [if_neg x, if_neg (fun y => x (by
      have : (a / t + 1) * t = s / t * t := by rw [← e, ← es]; exact y
      exact Int.eq_of_mul_eq_mul_right (by omega) this)), e, Int.mul_ediv_cancel _ (by omega)]

theorem idx_inj {s t a b : Int} (h : mayB s t a = true) (g : mayB s t b = true) (e : a / t = b / t) : a = b := by
  rw [(idx_of h).1, (idx_of g).1, e]

theorem seq_idx {s t a : Int} (h : mayB s t a = true) : ∀ k : Nat, (k : Int) ≤ s / t → seqR s t a k / t = if a / t + k < s / t then a / t + k else a / t + k - s / t
  | 0, _ => by
    obtain ⟨_, h1, h2⟩ := idx_of h
    simp [seqR]; omega
  | k + 1, hk => by
    obtain ⟨_, h1, h2⟩ := idx_of h
    have ih := seq_idx h k (by omega)
    rw [seqR, next_idx (seqR_may h k), ih]
    split <;> split <;> (try split) <;> omega

/-- As many steps as there are entries lead back. -/
theorem seq_round {s t a : Int} (h : mayB s t a = true) : seqR s t a (s / t).toNat = a := by
  obtain ⟨_, h1, h2⟩ := idx_of h
  refine idx_inj (seqR_may h _) h ?_
  rw [seq_idx h _ (by omega)]
  split <;> omega

/-- An entry more. -/
theorem left_to {s t r v : Int} (h : mayB s t r = true) (g : mayB s t v = true) : leftR s t r (nextR s t v) = if s / t - 1 - leftR s t r v = 0 then 0 else leftR s t r v + 1 := by
  obtain ⟨_, h1, h2⟩ := idx_of h
  obtain ⟨_, g1, g2⟩ := idx_of g
  rw [left_idx h (next_may g), left_idx h g, next_idx g]
  split <;> split <;> split <;> (try split) <;> omega

/-- An entry less. -/
theorem left_from {s t r v : Int} (h : mayB s t r = true) (g : mayB s t v = true) : leftR s t (nextR s t r) v = if leftR s t r v = 0 then s / t - 1 else leftR s t r v - 1 := by
  obtain ⟨_, h1, h2⟩ := idx_of h
  obtain ⟨_, g1, g2⟩ := idx_of g
  rw [left_idx (next_may h) g, left_idx h g, next_idx h]
  split <;> split <;> split <;> (try split) <;> omega

end Go.Proofs.Ytfnokpajendlmaa
