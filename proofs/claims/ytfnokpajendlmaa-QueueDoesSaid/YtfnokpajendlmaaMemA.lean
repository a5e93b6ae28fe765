/-
  Holds and May, the program's and the document's, at every window and access.
-/
import Derived.Test.YtfnokpajendlmaaGnd
namespace Go.Proofs.Ytfnokpajendlmaa
open Go.ChangeShapes Go.WideShapes Go.ChangeAt Go.RowKit
set_option linter.unusedVariables false
set_option linter.unusedSimpArgs false

def win (a s : Int) : Value := .agg #[.int .i64 a, .int .i64 s]

set_option maxHeartbeats 1000000 in
theorem holds_any (p g cap : Nat) (bs : List Nat) (a s : Int) (w : World) (hM : MemAt 73 w p g cap bs)
    (ha0 : -9223372036854775808 ≤ a) (ha1 : a ≤ 9223372036854775807) (hs0 : -9223372036854775808 ≤ s) (hs1 : s ≤ 9223372036854775807) :
    Calls Try.prog 59 #[.pointer (some ⟨p, 0, none⟩), win a s] w fun e w' => e = .returned (.bool (holdsB bs.length a s)) ∧ Below w.heap.size w w' := by
  have hc := hM.cell
  have hp := hM.plt
  have hl := hM.len
  clear hM
  obtain ⟨n, hn⟩ : ∃ n, bs.length = n := ⟨_, rfl⟩
  rw [hn] at hc hl ⊢
  clear hn
  unfold win
  by_cases h0 : 0 ≤ a
  · by_cases h1 : 0 ≤ s
    · have hw : IntKind.i64.wrap ((n : Int) - s) = (n : Int) - s := by rw [IntKind.wrap_i64]; omega
      have hr : holdsB n a s = decide (a ≤ (n : Int) - s) := by simp only [holdsB, decide_eq_decide]; omega
      rw [hr]
      clear hr
      go_enter Try.func59, Try.ntmps59
      go_wp2
      go_quiet (fail)
      go_wp2
      go_ret
      exact ⟨rfl, bald w _ _⟩
    · have hr : holdsB n a s = false := by simp only [holdsB, decide_eq_false_iff_not]; omega
      rw [hr]
      have h1' : decide (0 ≤ s) = false := by simpa using h1
      clear hr h1
      go_enter Try.func59, Try.ntmps59
      go_wp2
      go_quiet (fail)
      go_wp2
      go_ret
      exact ⟨rfl, bald w _ _⟩
  · have hr : holdsB n a s = false := by simp only [holdsB, decide_eq_false_iff_not]; omega
    rw [hr]
    have h0' : decide (0 ≤ a) = false := by simpa using h0
    clear hr h0
    go_enter Try.func59, Try.ntmps59
    go_wp2
    go_quiet (fail)
    go_wp2
    go_ret
    exact ⟨rfl, bald w _ _⟩

set_option maxHeartbeats 1000000 in
theorem rholds_any (p g cap : Nat) (bs : List Nat) (a s : Int) (w : World) (hM : MemAt 60 w p g cap bs)
    (ha0 : -9223372036854775808 ≤ a) (ha1 : a ≤ 9223372036854775807) (hs0 : -9223372036854775808 ≤ s) (hs1 : s ≤ 9223372036854775807) :
    Calls Try.prog 43 #[.pointer (some ⟨p, 0, none⟩), win a s] w fun e w' => e = .returned (.bool (holdsB bs.length a s)) ∧ Below w.heap.size w w' := by
  have hc := hM.cell
  have hp := hM.plt
  have hl := hM.len
  clear hM
  obtain ⟨n, hn⟩ : ∃ n, bs.length = n := ⟨_, rfl⟩
  rw [hn] at hc hl ⊢
  clear hn
  unfold win
  by_cases h0 : 0 ≤ a
  · by_cases h1 : 0 ≤ s
    · by_cases h2 : s ≤ n
      · have hw : IntKind.i64.wrap ((n : Int) - s) = (n : Int) - s := by rw [IntKind.wrap_i64]; omega
        have hr : holdsB n a s = decide (a ≤ (n : Int) - s) := by simp only [holdsB, decide_eq_decide]; omega
        rw [hr]
        clear hr
        go_enter Try.func43, Try.ntmps43
        go_wp2
        go_quiet (fail)
        go_wp2
        go_ret
        exact ⟨rfl, bald w _ _⟩
      have hr : holdsB n a s = false := by simp only [holdsB, decide_eq_false_iff_not]; omega
      rw [hr]
      have h2' : decide (s ≤ (n : Int)) = false := by simpa using h2
      clear hr h2
      go_enter Try.func43, Try.ntmps43
      go_wp2
      go_quiet (fail)
      go_wp2
      go_ret
      exact ⟨rfl, bald w _ _⟩
    · have hr : holdsB n a s = false := by simp only [holdsB, decide_eq_false_iff_not]; omega
      rw [hr]
      have h1' : decide (0 ≤ s) = false := by simpa using h1
      clear hr h1
      go_enter Try.func43, Try.ntmps43
      go_wp2
      go_quiet (fail)
      go_wp2
      go_ret
      exact ⟨rfl, bald w _ _⟩
  · have hr : holdsB n a s = false := by simp only [holdsB, decide_eq_false_iff_not]; omega
    rw [hr]
    have h0' : decide (0 ≤ a) = false := by simpa using h0
    clear hr h0
    go_enter Try.func43, Try.ntmps43
    go_wp2
    go_quiet (fail)
    go_wp2
    go_ret
    exact ⟨rfl, bald w _ _⟩


/-- What May answers. -/
def mayE (size off width : Int) : Int :=
  if width ≠ 1 ∧ width ≠ 4 ∧ width ≠ 8 then 40 else if off.tmod width ≠ 0 then 41 else if off < 0 ∨ wrap64 (size - width) < off then 42 else 0
theorem mayE40 {size off width : Int} (h1 : width ≠ 1) (h4 : width ≠ 4) (h8 : width ≠ 8) : mayE size off width = 40 := by simp [mayE, h1, h4, h8]
theorem mayE41 {size off width : Int} (h : width = 1 ∨ width = 4 ∨ width = 8) (g : (off.tmod width != 0) = true) : mayE size off width = 41 := by
  have g' : off.tmod width ≠ 0 := by simpa using g
  rcases h with rfl | rfl | rfl <;> simp [mayE, g'] <;> simp at g'
theorem mayE42 {size off width : Int} (h : width = 1 ∨ width = 4 ∨ width = 8) (g : (off.tmod width != 0) = false) (k : off < 0 ∨ wrap64 (size - width) < off) : mayE size off width = 42 := by
  have g' : off.tmod width = 0 := by simpa using g
  rcases h with rfl | rfl | rfl <;> (simp only [mayE, g', k]; simp)
theorem mayE0 {size off width : Int} (h : width = 1 ∨ width = 4 ∨ width = 8) (g : (off.tmod width != 0) = false) (k : 0 ≤ off ∧ off ≤ wrap64 (size - width)) : mayE size off width = 0 := by
  have g' : off.tmod width = 0 := by simpa using g
  have k' : ¬ (off < 0 ∨ wrap64 (size - width) < off) := by omega
  rcases h with rfl | rfl | rfl <;> (simp only [mayE, g', k']; simp)
theorem tmod1 (off : Int) : (off.tmod 1 != 0) = false := by simp

set_option maxHeartbeats 1000000 in
theorem may_1 (size off : Int) (w : World) :
    Calls Try.prog 60 #[.int .i64 size, .int .i64 off, .int .i64 1] w fun e w' => e = .returned (.int .i64 (mayE size off 1)) ∧ w = w' := by
  go_enter Try.func60, Try.ntmps60
  go_wp2
  all_goals go_ret
  all_goals (refine ⟨?_, rfl⟩)
  all_goals (first
    | (rw [mayE41 (by decide) (by first | assumption | exact tmod1 _)]; rfl)
    | (rw [mayE42 (by decide) (by first | assumption | exact tmod1 _) (by first | assumption | (left; assumption))]; rfl)
    | (rw [mayE0 (by decide) (by first | assumption | exact tmod1 _) (by assumption)]; rfl))
set_option maxHeartbeats 1000000 in
theorem may_4 (size off : Int) (w : World) :
    Calls Try.prog 60 #[.int .i64 size, .int .i64 off, .int .i64 4] w fun e w' => e = .returned (.int .i64 (mayE size off 4)) ∧ w = w' := by
  go_enter Try.func60, Try.ntmps60
  go_wp2
  all_goals go_ret
  all_goals (refine ⟨?_, rfl⟩)
  all_goals (first
    | (rw [mayE41 (by decide) (by first | assumption | exact tmod1 _)]; rfl)
    | (rw [mayE42 (by decide) (by first | assumption | exact tmod1 _) (by first | assumption | (left; assumption))]; rfl)
    | (rw [mayE0 (by decide) (by first | assumption | exact tmod1 _) (by assumption)]; rfl))
set_option maxHeartbeats 1000000 in
theorem may_8 (size off : Int) (w : World) :
    Calls Try.prog 60 #[.int .i64 size, .int .i64 off, .int .i64 8] w fun e w' => e = .returned (.int .i64 (mayE size off 8)) ∧ w = w' := by
  go_enter Try.func60, Try.ntmps60
  go_wp2
  all_goals go_ret
  all_goals (refine ⟨?_, rfl⟩)
  all_goals (first
    | (rw [mayE41 (by decide) (by first | assumption | exact tmod1 _)]; rfl)
    | (rw [mayE42 (by decide) (by first | assumption | exact tmod1 _) (by first | assumption | (left; assumption))]; rfl)
    | (rw [mayE0 (by decide) (by first | assumption | exact tmod1 _) (by assumption)]; rfl))
set_option maxHeartbeats 1000000 in
theorem may_any (size off width : Int) (w : World) :
    Calls Try.prog 60 #[.int .i64 size, .int .i64 off, .int .i64 width] w fun e w' => e = .returned (.int .i64 (mayE size off width)) ∧ w = w' := by
  by_cases h1 : width = 1
  · subst h1; exact may_1 size off w
  by_cases h4 : width = 4
  · subst h4; exact may_4 size off w
  by_cases h8 : width = 8
  · subst h8; exact may_8 size off w
  rw [mayE40 h1 h4 h8]
  have g1 : (width != 1) = true := by simpa using h1
  have g4 : (width != 4) = true := by simpa using h4
  have g8 : (width != 8) = true := by simpa using h8
  clear h1 h4 h8
  go_enter Try.func60, Try.ntmps60
  go_wp2
  go_ret
  exact ⟨rfl, rfl⟩

set_option maxHeartbeats 1000000 in
theorem rmay_1 (size off : Int) (w : World) :
    Calls Try.prog 44 #[.int .i64 size, .int .i64 off, .int .i64 1] w fun e w' => e = .returned (.int .i64 (mayE size off 1)) ∧ w = w' := by
  go_enter Try.func44, Try.ntmps44
  go_wp2
  all_goals go_ret
  all_goals (refine ⟨?_, rfl⟩)
  all_goals (first
    | (rw [mayE41 (by decide) (by first | assumption | exact tmod1 _)]; rfl)
    | (rw [mayE42 (by decide) (by first | assumption | exact tmod1 _) (by first | assumption | (left; assumption))]; rfl)
    | (rw [mayE0 (by decide) (by first | assumption | exact tmod1 _) (by assumption)]; rfl))
set_option maxHeartbeats 1000000 in
theorem rmay_4 (size off : Int) (w : World) :
    Calls Try.prog 44 #[.int .i64 size, .int .i64 off, .int .i64 4] w fun e w' => e = .returned (.int .i64 (mayE size off 4)) ∧ w = w' := by
  go_enter Try.func44, Try.ntmps44
  go_wp2
  all_goals go_ret
  all_goals (refine ⟨?_, rfl⟩)
  all_goals (first
    | (rw [mayE41 (by decide) (by first | assumption | exact tmod1 _)]; rfl)
    | (rw [mayE42 (by decide) (by first | assumption | exact tmod1 _) (by first | assumption | (left; assumption))]; rfl)
    | (rw [mayE0 (by decide) (by first | assumption | exact tmod1 _) (by assumption)]; rfl))
set_option maxHeartbeats 1000000 in
theorem rmay_8 (size off : Int) (w : World) :
    Calls Try.prog 44 #[.int .i64 size, .int .i64 off, .int .i64 8] w fun e w' => e = .returned (.int .i64 (mayE size off 8)) ∧ w = w' := by
  go_enter Try.func44, Try.ntmps44
  go_wp2
  all_goals go_ret
  all_goals (refine ⟨?_, rfl⟩)
  all_goals (first
    | (rw [mayE41 (by decide) (by first | assumption | exact tmod1 _)]; rfl)
    | (rw [mayE42 (by decide) (by first | assumption | exact tmod1 _) (by first | assumption | (left; assumption))]; rfl)
    | (rw [mayE0 (by decide) (by first | assumption | exact tmod1 _) (by assumption)]; rfl))
set_option maxHeartbeats 1000000 in
theorem rmay_any (size off width : Int) (w : World) :
    Calls Try.prog 44 #[.int .i64 size, .int .i64 off, .int .i64 width] w fun e w' => e = .returned (.int .i64 (mayE size off width)) ∧ w = w' := by
  by_cases h1 : width = 1
  · subst h1; exact rmay_1 size off w
  by_cases h4 : width = 4
  · subst h4; exact rmay_4 size off w
  by_cases h8 : width = 8
  · subst h8; exact rmay_8 size off w
  rw [mayE40 h1 h4 h8]
  have g1 : (width != 1) = true := by simpa using h1
  have g4 : (width != 4) = true := by simpa using h4
  have g8 : (width != 8) = true := by simpa using h8
  clear h1 h4 h8
  go_enter Try.func44, Try.ntmps44
  go_wp2
  go_ret
  exact ⟨rfl, rfl⟩

/-- What an access that may be is. -/
theorem mayE_out {size off width : Int} (hs : 0 ≤ size) (hs1 : size ≤ 131072) (h : mayE size off width = 0) : ∃ o n : Nat, off = o ∧ width = n ∧ (n = 1 ∨ n = 4 ∨ n = 8) ∧ o % n = 0 ∧ (o : Int) + n ≤ size := by
  by_cases h1 : width ≠ 1 ∧ width ≠ 4 ∧ width ≠ 8
  · simp [mayE, h1] at h
  have hw : width = 1 ∨ width = 4 ∨ width = 8 := by omega
  cases g : (off.tmod width != 0)
  · by_cases k : off < 0 ∨ wrap64 (size - width) < off
    · rw [mayE42 hw g k] at h; cases h
    · have g' : off.tmod width = 0 := by simpa using g
      have hwr : wrap64 (size - width) = size - width := by simp only [wrap64]; omega
      rw [hwr] at k
      have h0 : 0 ≤ off := by omega
      have e : off.tmod width = off % width := Int.tmod_eq_emod_of_nonneg h0
      rw [e] at g'
      refine ⟨off.toNat, width.toNat, by omega, by omega, by omega, ?_, by omega⟩
      have : ((off.toNat % width.toNat : Nat) : Int) = 0 := by
        rw [Int.natCast_emod, Int.toNat_of_nonneg h0, Int.toNat_of_nonneg (by omega)]
        exact g'
      omega
  · rw [mayE41 hw g] at h; cases h

end Go.Proofs.Ytfnokpajendlmaa
