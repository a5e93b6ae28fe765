/-
  Package ring: the plain reckoning (valid rings, entries' places) and the contracts of Right, May, entries, after, Next, Ahead, Index, Place, Left, Room at every input. No conditions beyond the numbers' own ranges.
-/
import Derived.Test.YtpabmfmiikmnpaaRows
import Derived.WalkKit
import Derived.ProofKit
import Derived.Lib.Hide
namespace Go.Proofs.Ytpabmfmiikmnpaa
open Go.ChangeShapes Go.WideShapes Go.ChangeAt Go.RowKit
set_option linter.unusedVariables false

theorem bcell {W w1 : World} (hb : Below W.heap.size W w1) : (∀ b o, b < W.heap.size → w1.cell? ⟨b, o, none⟩ = W.cell? ⟨b, o, none⟩) ∧ (∀ b o, b < W.heap.size → w1.frozen? ⟨b, o, none⟩ = W.frozen? ⟨b, o, none⟩) :=
  ⟨fun b o h => hb.cell (p := ⟨b, o, none⟩) h, fun b o h => hb.frozen (p := ⟨b, o, none⟩) h⟩

theorem hsz {w w1 : World} {o : Obj} (hb : Below (w.alloc o).heap.size (w.alloc o) w1) : w.heap.size < w1.heap.size := by
  have := hb.size; simp at this; omega

theorem ba {w w1 : World} {o : Obj} (hb : Below (w.alloc o).heap.size (w.alloc o) w1) : Below w.heap.size w w1 :=
  ((Below.refl _ w).alloc (Nat.le_refl _) o).trans (hb.mono (by simp))

def rightB (s t : Int) : Bool := decide (1 ≤ t ∧ 1 ≤ s ∧ s % t = 0 ∧ s / t ≤ 1024)
def mayB (s t a : Int) : Bool := rightB s t && decide (0 ≤ a ∧ a < s ∧ a % t = 0)
theorem rightB_mk {s t : Int} (h1 : 1 ≤ t) (h2 : 1 ≤ s) (h3 : s % t = 0) (h4 : s / t ≤ 1024) : rightB s t = true := by simp [rightB, h1, h2, h3, h4]
theorem rightB_out {s t : Int} (h : rightB s t = true) : 1 ≤ t ∧ 1 ≤ s ∧ s % t = 0 ∧ s / t ≤ 1024 := by simpa [rightB] using h
theorem mayB_mk {s t a : Int} (h : rightB s t = true) (h1 : 0 ≤ a) (h2 : a < s) (h3 : a % t = 0) : mayB s t a = true := by simp [mayB, h, h1, h2, h3]
theorem mayB_out {s t a : Int} (h : mayB s t a = true) : rightB s t = true ∧ 0 ≤ a ∧ a < s ∧ a % t = 0 := by simpa [mayB] using h

set_option maxHeartbeats 400000 in
theorem entries_any (s t : Int) (w : World) (h1 : 1 ≤ t) (h2 : 1 ≤ s) (h3 : s ≤ 9223372036854775807) :
    Calls Try.prog 25 #[.agg #[.int .i64 s, .int .i64 t]] w fun e w' => e = .returned (.int .i64 (s / t)) ∧ Below w.heap.size w w' := by
  go_enter Try.func25, Try.ntmps25
  go_wp2
  go_ret
  exact ⟨rfl, (Below.refl _ _).alloc (Nat.le_refl _) _⟩


theorem rightB_no {s t : Int} (h : rightB s t = false) : t < 1 ∨ (1 ≤ t ∧ s < 1) ∨ (1 ≤ t ∧ 1 ≤ s ∧ s % t ≠ 0) ∨ (1 ≤ t ∧ 1 ≤ s ∧ s % t = 0 ∧ 1024 < s / t) := by
  have h' : ¬ (1 ≤ t ∧ 1 ≤ s ∧ s % t = 0 ∧ s / t ≤ 1024) := by simpa [rightB] using h
  by_cases a : 1 ≤ t
  · by_cases b : 1 ≤ s
    · by_cases c : s % t = 0
      · exact .inr (.inr (.inr ⟨a, b, c, by omega⟩))
      · exact .inr (.inr (.inl ⟨a, b, c⟩))
    · exact .inr (.inl ⟨a, by omega⟩)
  · exact .inl (by omega)

set_option maxHeartbeats 400000 in
theorem right_ok (s t : Int) (w : World) (h : rightB s t = true) (hs : s ≤ 9223372036854775807) :
    Calls Try.prog 12 #[.agg #[.int .i64 s, .int .i64 t]] w fun e w' => e = .returned (.int .i64 0) ∧ Below w.heap.size w w' := by
  obtain ⟨h1, h2, h3, h4⟩ := rightB_out h
  clear h
  go_enter Try.func12, Try.ntmps12
  go_wp2_with (go_at_call 25; refine (entries_any s t _ h1 h2 hs).mono ?_; rintro e w1 ⟨rfl, hb⟩)
  go_ret
  exact ⟨rfl, ba hb⟩

set_option maxHeartbeats 400000 in
theorem right_no (s t : Int) (w : World) (h : rightB s t = false) (hs : s ≤ 9223372036854775807) :
    Calls Try.prog 12 #[.agg #[.int .i64 s, .int .i64 t]] w fun e w' => e = .returned (.int .i64 1) ∧ Below w.heap.size w w' := by
  rcases rightB_no h with h1 | ⟨h1, h2⟩ | ⟨h1, h2, h3⟩ | ⟨h1, h2, h3, h4⟩
  · clear h
    go_enter Try.func12, Try.ntmps12
    go_wp2
    go_ret
    exact ⟨rfl, (Below.refl _ _).alloc (Nat.le_refl _) _⟩
  · clear h
    go_enter Try.func12, Try.ntmps12
    go_wp2
    go_ret
    exact ⟨rfl, (Below.refl _ _).alloc (Nat.le_refl _) _⟩
  · clear h
    go_enter Try.func12, Try.ntmps12
    go_wp2
    go_ret
    exact ⟨rfl, (Below.refl _ _).alloc (Nat.le_refl _) _⟩
  · clear h
    go_enter Try.func12, Try.ntmps12
    go_wp2_with (go_at_call 25; refine (entries_any s t _ h1 h2 hs).mono ?_; rintro e w1 ⟨rfl, hb⟩)
    go_ret
    exact ⟨rfl, ba hb⟩

theorem mayB_no {s t a : Int} (h : mayB s t a = false) : rightB s t = false ∨ (rightB s t = true ∧ a < 0) ∨ (rightB s t = true ∧ 0 ≤ a ∧ s ≤ a) ∨ (rightB s t = true ∧ 0 ≤ a ∧ a < s ∧ a % t ≠ 0) := by
  cases hr : rightB s t
  · exact .inl rfl
  · have h' : ¬ (0 ≤ a ∧ a < s ∧ a % t = 0) := by simpa [mayB, hr] using h
    by_cases x : 0 ≤ a
    · by_cases y : a < s
      · exact .inr (.inr (.inr ⟨rfl, x, y, fun z => h' ⟨x, y, z⟩⟩))
      · exact .inr (.inr (.inl ⟨rfl, x, by omega⟩))
    · exact .inr (.inl ⟨rfl, by omega⟩)

set_option maxHeartbeats 400000 in
theorem may_yes (s t a : Int) (w : World) (h : mayB s t a = true) (hs : s ≤ 9223372036854775807) :
    Calls Try.prog 13 #[.agg #[.int .i64 s, .int .i64 t], .int .i64 a] w fun e w' => e = .returned (.bool true) ∧ Below w.heap.size w w' := by
  obtain ⟨hr, h1, h2, h3⟩ := mayB_out h
  obtain ⟨k1, k2, _, _⟩ := rightB_out hr
  clear h
  have HR := Lib.hid hr
  clear hr
  go_enter Try.func13, Try.ntmps13
  go_wp2_with (go_at_call 12; refine (right_ok s t _ HR.out hs).mono ?_; rintro e w1 ⟨rfl, hb⟩; obtain ⟨hc, hf⟩ := bcell hb)
  go_ret
  exact ⟨rfl, ba hb⟩

set_option maxHeartbeats 400000 in
theorem may_no (s t a : Int) (w : World) (h : mayB s t a = false) (hs : s ≤ 9223372036854775807) :
    Calls Try.prog 13 #[.agg #[.int .i64 s, .int .i64 t], .int .i64 a] w fun e w' => e = .returned (.bool false) ∧ Below w.heap.size w w' := by
  rcases mayB_no h with hr | ⟨hr, h1⟩ | ⟨hr, h1, h2⟩ | ⟨hr, h1, h2, h3⟩
  · clear h
    have HR := Lib.hid hr
    clear hr
    go_enter Try.func13, Try.ntmps13
    go_wp2_with (go_at_call 12; refine (right_no s t _ HR.out hs).mono ?_; rintro e w1 ⟨rfl, hb⟩; obtain ⟨hc, hf⟩ := bcell hb)
    go_ret
    exact ⟨rfl, ba hb⟩
  all_goals
    obtain ⟨k1, k2, _, _⟩ := rightB_out hr
    clear h
    have HR := Lib.hid hr
    clear hr
    go_enter Try.func13, Try.ntmps13
    go_wp2_with (go_at_call 12; refine (right_ok s t _ HR.out hs).mono ?_; rintro e w1 ⟨rfl, hb⟩; obtain ⟨hc, hf⟩ := bcell hb)
    go_ret
    first
      | exact ⟨rfl, ba hb⟩
      | exact ⟨by simp [h3], ba hb⟩

/-- The entry behind, and the one ahead. -/
def nextR (s t a : Int) : Int := if a + t = s then 0 else a + t
def aheadR (s t a : Int) : Int := if a = 0 then s - t else a - t

theorem step_le {s t a : Int} (h : mayB s t a = true) : a + t ≤ s := by
  obtain ⟨hr, h1, h2, h3⟩ := mayB_out h
  obtain ⟨k1, k2, k3, _⟩ := rightB_out hr
  have ea := Int.mul_ediv_add_emod a t
  have es := Int.mul_ediv_add_emod s t
  rw [h3] at ea; rw [k3] at es
  have hlt : a / t < s / t := by
    rcases Int.lt_or_le (a / t) (s / t) with h | h
    · exact h
    · have := Int.mul_le_mul_of_nonneg_left h (show (0 : Int) ≤ t by omega); omega
  have := Int.mul_le_mul_of_nonneg_left (show a / t + 1 ≤ s / t by omega) (show (0 : Int) ≤ t by omega)
  rw [Int.mul_add, Int.mul_one] at this
  omega

theorem next_mod {s t a : Int} (h : mayB s t a = true) : (a + t) % s = nextR s t a := by
  have hl := step_le h
  obtain ⟨hr, h1, h2, h3⟩ := mayB_out h
  obtain ⟨k1, k2, k3, _⟩ := rightB_out hr
  unfold nextR
  split
  · rename_i e; rw [e]; exact Int.emod_self
  · exact Int.emod_eq_of_lt (by omega) (by omega)

theorem next_may {s t a : Int} (h : mayB s t a = true) : mayB s t (nextR s t a) = true := by
  have hl := step_le h
  obtain ⟨hr, h1, h2, h3⟩ := mayB_out h
  obtain ⟨k1, k2, k3, _⟩ := rightB_out hr
  unfold nextR
  split
  · exact mayB_mk hr (by omega) (by omega) (by simp)
  · exact mayB_mk hr (by omega) (by omega) (by rw [Int.add_emod_right]; exact h3)

theorem step_ge {s t a : Int} (h : mayB s t a = true) (h0 : a ≠ 0) : t ≤ a := by
  obtain ⟨hr, h1, h2, h3⟩ := mayB_out h
  obtain ⟨k1, k2, k3, _⟩ := rightB_out hr
  have := Int.le_of_dvd (show 0 < a by omega) (Int.dvd_of_emod_eq_zero h3)
  exact this

theorem size_ge {s t : Int} (hr : rightB s t = true) : t ≤ s := by
  obtain ⟨k1, k2, k3, _⟩ := rightB_out hr
  exact Int.le_of_dvd (show 0 < s by omega) (Int.dvd_of_emod_eq_zero k3)

theorem ahead_may {s t a : Int} (h : mayB s t a = true) : mayB s t (aheadR s t a) = true := by
  obtain ⟨hr, h1, h2, h3⟩ := mayB_out h
  obtain ⟨k1, k2, k3, _⟩ := rightB_out hr
  have hg := size_ge hr
  unfold aheadR
  split
  · exact mayB_mk hr (by omega) (by omega) (by rw [Int.sub_emod_right]; exact k3)
  · rename_i h0
    have := step_ge h h0
    exact mayB_mk hr (by omega) (by omega) (by rw [Int.sub_emod_right]; exact h3)

theorem ahead_next {s t a : Int} (h : mayB s t a = true) : aheadR s t (nextR s t a) = a := by
  have hl := step_le h
  obtain ⟨hr, h1, h2, h3⟩ := mayB_out h
  obtain ⟨k1, k2, k3, _⟩ := rightB_out hr
  unfold nextR
  split
  · rename_i e; simp [aheadR]; omega
  · rw [aheadR, if_neg (by omega)]; omega

theorem next_ahead {s t a : Int} (h : mayB s t a = true) : nextR s t (aheadR s t a) = a := by
  have hl := step_le h
  obtain ⟨hr, h1, h2, h3⟩ := mayB_out h
  obtain ⟨k1, k2, k3, _⟩ := rightB_out hr
  unfold aheadR
  split
  · rename_i e; rw [nextR, if_pos (by omega)]; omega
  · rw [nextR, if_neg (by omega)]; omega

set_option maxHeartbeats 400000 in
theorem after_any (s t a : Int) (w : World) (h : mayB s t a = true) (hs : s ≤ 9223372036854775807) :
    Calls Try.prog 26 #[.agg #[.int .i64 s, .int .i64 t], .int .i64 a] w fun e w' => e = .returned (.int .i64 (nextR s t a)) ∧ Below w.heap.size w w' := by
  have hn := next_mod h
  have hl := step_le h
  obtain ⟨hr, h1, h2, h3⟩ := mayB_out h
  obtain ⟨k1, k2, k3, _⟩ := rightB_out hr
  have HN := Lib.hid hn
  clear hn h h3 hr k3
  go_enter Try.func26, Try.ntmps26
  go_wp2
  go_ret
  exact ⟨by simp [HN.out], (Below.refl _ _).alloc (Nat.le_refl _) _⟩

set_option maxHeartbeats 400000 in
theorem next_yes (s t a : Int) (w : World) (h : mayB s t a = true) (hs : s ≤ 9223372036854775807) :
    Calls Try.prog 15 #[.agg #[.int .i64 s, .int .i64 t], .int .i64 a] w fun e w' => e = .returned (.tuple #[.int .i64 (nextR s t a), .int .i64 0]) ∧ Below w.heap.size w w' := by
  have HH := Lib.hid h
  clear h
  go_enter Try.func15, Try.ntmps15
  go_wp2_with (first
    | (go_at_call 13; refine (may_yes s t a _ HH.out hs).mono ?_; rintro e w1 ⟨rfl, hb⟩; obtain ⟨hc, hf⟩ := bcell hb; have hz := hsz hb)
    | (go_at_call 26; refine (after_any s t a _ HH.out hs).mono ?_; rintro e w2 ⟨rfl, hb2⟩))
  go_ret2
  exact ⟨rfl, (ba hb).trans (hb2.mono (Nat.le_of_lt hz))⟩

set_option maxHeartbeats 400000 in
theorem next_no (s t a : Int) (w : World) (h : mayB s t a = false) (hs : s ≤ 9223372036854775807) :
    Calls Try.prog 15 #[.agg #[.int .i64 s, .int .i64 t], .int .i64 a] w fun e w' => e = .returned (.tuple #[.int .i64 0, .int .i64 1]) ∧ Below w.heap.size w w' := by
  have HH := Lib.hid h
  clear h
  go_enter Try.func15, Try.ntmps15
  go_wp2_with (go_at_call 13; refine (may_no s t a _ HH.out hs).mono ?_; rintro e w1 ⟨rfl, hb⟩)
  go_ret2
  exact ⟨rfl, ba hb⟩

end Go.Proofs.Ytpabmfmiikmnpaa
