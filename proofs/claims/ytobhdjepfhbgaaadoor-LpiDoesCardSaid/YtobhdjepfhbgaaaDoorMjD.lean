/-
  Holds and May, the program's and the document's, at every window and access.
  The memory's own bytes of a window; what an access concerns.
  Reading a number, by the program, at every access.
  Writing a number, by the program, at every access.
-/
import Derived.Test.YtobhdjepfhbgaaaDoorGnd
import Derived.Laws.BitsAll
import Derived.Laws.BitsAllLaws
import Derived.Laws.Bits64
import Derived.Lib.SmallJoins
namespace Go.Proofs.YtobhdjepfhbgaaaDoor
open Go.ChangeShapes Go.WideShapes Go.ChangeAt Go.RowKit
set_option linter.unusedVariables false

def win (a s : Int) : Value := .agg #[.int .i64 a, .int .i64 s]

set_option maxHeartbeats 1000000 in
theorem holds_any (p g cap : Nat) (bs : List Nat) (a s : Int) (w : World) (hM : MemAt 96 w p g cap bs)
    (ha0 : -9223372036854775808 ≤ a) (ha1 : a ≤ 9223372036854775807) (hs0 : -9223372036854775808 ≤ s) (hs1 : s ≤ 9223372036854775807) :
    Calls Tryd.prog 72 #[.pointer (some ⟨p, 0, none⟩), win a s] w fun e w' => e = .returned (.bool (holdsB bs.length a s)) ∧ Below w.heap.size w w' := by
  have hc := hM.cell
  have hp := hM.plt
  have hl := hM.len
  clear hM
  obtain ⟨n, hn⟩ : ∃ n, bs.length = n := ⟨_, rfl⟩
  rw [hn] at hc hl ⊢
  clear hn
  unfold win
  by_cases h0 : 0 ≤ a
  · by_cases h1 : 0 ≤ s
    · have hw : IntKind.i64.wrap ((n : Int) - s) = (n : Int) - s := by rw [IntKind.wrap_i64]; omega
      have hr : holdsB n a s = decide (a ≤ (n : Int) - s) := by simp only [holdsB, decide_eq_decide]; omega
      rw [hr]
      clear hr
      go_enter Tryd.func72, Tryd.ntmps72
      go_wp2
      go_quiet (fail)
      go_wp2
      go_ret
      exact ⟨rfl, bald w _ _⟩
    · have hr : holdsB n a s = false := by simp only [holdsB, decide_eq_false_iff_not]; omega
      rw [hr]
      have h1' : decide (0 ≤ s) = false := by simpa using h1
      clear hr h1
      go_enter Tryd.func72, Tryd.ntmps72
      go_wp2
      go_quiet (fail)
      go_wp2
      go_ret
      exact ⟨rfl, bald w _ _⟩
  · have hr : holdsB n a s = false := by simp only [holdsB, decide_eq_false_iff_not]; omega
    rw [hr]
    have h0' : decide (0 ≤ a) = false := by simpa using h0
    clear hr h0
    go_enter Tryd.func72, Tryd.ntmps72
    go_wp2
    go_quiet (fail)
    go_wp2
    go_ret
    exact ⟨rfl, bald w _ _⟩

set_option maxHeartbeats 1000000 in
theorem rholds_any (p g cap : Nat) (bs : List Nat) (a s : Int) (w : World) (hM : MemAt 107 w p g cap bs)
    (ha0 : -9223372036854775808 ≤ a) (ha1 : a ≤ 9223372036854775807) (hs0 : -9223372036854775808 ≤ s) (hs1 : s ≤ 9223372036854775807) :
    Calls Tryd.prog 65 #[.pointer (some ⟨p, 0, none⟩), win a s] w fun e w' => e = .returned (.bool (holdsB bs.length a s)) ∧ Below w.heap.size w w' := by
  have hc := hM.cell
  have hp := hM.plt
  have hl := hM.len
  clear hM
  obtain ⟨n, hn⟩ : ∃ n, bs.length = n := ⟨_, rfl⟩
  rw [hn] at hc hl ⊢
  clear hn
  unfold win
  by_cases h0 : 0 ≤ a
  · by_cases h1 : 0 ≤ s
    · by_cases h2 : s ≤ n
      · have hw : IntKind.i64.wrap ((n : Int) - s) = (n : Int) - s := by rw [IntKind.wrap_i64]; omega
        have hr : holdsB n a s = decide (a ≤ (n : Int) - s) := by simp only [holdsB, decide_eq_decide]; omega
        rw [hr]
        clear hr
        go_enter Tryd.func65, Tryd.ntmps65
        go_wp2
        go_quiet (fail)
        go_wp2
        go_ret
        exact ⟨rfl, bald w _ _⟩
      have hr : holdsB n a s = false := by simp only [holdsB, decide_eq_false_iff_not]; omega
      rw [hr]
      have h2' : decide (s ≤ (n : Int)) = false := by simpa using h2
      clear hr h2
      go_enter Tryd.func65, Tryd.ntmps65
      go_wp2
      go_quiet (fail)
      go_wp2
      go_ret
      exact ⟨rfl, bald w _ _⟩
    · have hr : holdsB n a s = false := by simp only [holdsB, decide_eq_false_iff_not]; omega
      rw [hr]
      have h1' : decide (0 ≤ s) = false := by simpa using h1
      clear hr h1
      go_enter Tryd.func65, Tryd.ntmps65
      go_wp2
      go_quiet (fail)
      go_wp2
      go_ret
      exact ⟨rfl, bald w _ _⟩
  · have hr : holdsB n a s = false := by simp only [holdsB, decide_eq_false_iff_not]; omega
    rw [hr]
    have h0' : decide (0 ≤ a) = false := by simpa using h0
    clear hr h0
    go_enter Tryd.func65, Tryd.ntmps65
    go_wp2
    go_quiet (fail)
    go_wp2
    go_ret
    exact ⟨rfl, bald w _ _⟩


/-- What May answers. -/
def mayE (size off width : Int) : Int :=
  if width ≠ 1 ∧ width ≠ 4 ∧ width ≠ 8 then 40 else if off.tmod width ≠ 0 then 41 else if off < 0 ∨ wrap64 (size - width) < off then 42 else 0
theorem mayE40 {size off width : Int} (h1 : width ≠ 1) (h4 : width ≠ 4) (h8 : width ≠ 8) : mayE size off width = 40 := by simp [mayE, h1, h4, h8]
theorem mayE41 {size off width : Int} (h : width = 1 ∨ width = 4 ∨ width = 8) (g : (off.tmod width != 0) = true) : mayE size off width = 41 := by
  have g' : off.tmod width ≠ 0 := by simpa using g
  rcases h with rfl | rfl | rfl <;> simp [mayE, g'] <;> simp at g'
theorem mayE42 {size off width : Int} (h : width = 1 ∨ width = 4 ∨ width = 8) (g : (off.tmod width != 0) = false) (k : off < 0 ∨ wrap64 (size - width) < off) : mayE size off width = 42 := by
  have g' : off.tmod width = 0 := by simpa using g
  rcases h with rfl | rfl | rfl <;> (simp only [mayE, g', k]; simp)
theorem mayE0 {size off width : Int} (h : width = 1 ∨ width = 4 ∨ width = 8) (g : (off.tmod width != 0) = false) (k : 0 ≤ off ∧ off ≤ wrap64 (size - width)) : mayE size off width = 0 := by
  have g' : off.tmod width = 0 := by simpa using g
  have k' : ¬ (off < 0 ∨ wrap64 (size - width) < off) := by omega
  rcases h with rfl | rfl | rfl <;> (simp only [mayE, g', k']; simp)
theorem tmod1 (off : Int) : (off.tmod 1 != 0) = false := by simp

set_option maxHeartbeats 1000000 in
theorem may_1 (size off : Int) (w : World) :
    Calls Tryd.prog 88 #[.int .i64 size, .int .i64 off, .int .i64 1] w fun e w' => e = .returned (.int .i64 (mayE size off 1)) ∧ w = w' := by
  go_enter Tryd.func88, Tryd.ntmps88
  go_wp2
  all_goals go_ret
  all_goals (refine ⟨?_, rfl⟩)
  all_goals (first
    | (rw [mayE41 (by decide) (by first | assumption | exact tmod1 _)]; rfl)
    | (rw [mayE42 (by decide) (by first | assumption | exact tmod1 _) (by first | assumption | (left; assumption))]; rfl)
    | (rw [mayE0 (by decide) (by first | assumption | exact tmod1 _) (by assumption)]; rfl))
set_option maxHeartbeats 1000000 in
theorem may_4 (size off : Int) (w : World) :
    Calls Tryd.prog 88 #[.int .i64 size, .int .i64 off, .int .i64 4] w fun e w' => e = .returned (.int .i64 (mayE size off 4)) ∧ w = w' := by
  go_enter Tryd.func88, Tryd.ntmps88
  go_wp2
  all_goals go_ret
  all_goals (refine ⟨?_, rfl⟩)
  all_goals (first
    | (rw [mayE41 (by decide) (by first | assumption | exact tmod1 _)]; rfl)
    | (rw [mayE42 (by decide) (by first | assumption | exact tmod1 _) (by first | assumption | (left; assumption))]; rfl)
    | (rw [mayE0 (by decide) (by first | assumption | exact tmod1 _) (by assumption)]; rfl))
set_option maxHeartbeats 1000000 in
theorem may_8 (size off : Int) (w : World) :
    Calls Tryd.prog 88 #[.int .i64 size, .int .i64 off, .int .i64 8] w fun e w' => e = .returned (.int .i64 (mayE size off 8)) ∧ w = w' := by
  go_enter Tryd.func88, Tryd.ntmps88
  go_wp2
  all_goals go_ret
  all_goals (refine ⟨?_, rfl⟩)
  all_goals (first
    | (rw [mayE41 (by decide) (by first | assumption | exact tmod1 _)]; rfl)
    | (rw [mayE42 (by decide) (by first | assumption | exact tmod1 _) (by first | assumption | (left; assumption))]; rfl)
    | (rw [mayE0 (by decide) (by first | assumption | exact tmod1 _) (by assumption)]; rfl))
set_option maxHeartbeats 1000000 in
theorem may_any (size off width : Int) (w : World) :
    Calls Tryd.prog 88 #[.int .i64 size, .int .i64 off, .int .i64 width] w fun e w' => e = .returned (.int .i64 (mayE size off width)) ∧ w = w' := by
  by_cases h1 : width = 1
  · subst h1; exact may_1 size off w
  by_cases h4 : width = 4
  · subst h4; exact may_4 size off w
  by_cases h8 : width = 8
  · subst h8; exact may_8 size off w
  rw [mayE40 h1 h4 h8]
  have g1 : (width != 1) = true := by simpa using h1
  have g4 : (width != 4) = true := by simpa using h4
  have g8 : (width != 8) = true := by simpa using h8
  clear h1 h4 h8
  go_enter Tryd.func88, Tryd.ntmps88
  go_wp2
  go_ret
  exact ⟨rfl, rfl⟩

set_option maxHeartbeats 1000000 in
theorem rmay_1 (size off : Int) (w : World) :
    Calls Tryd.prog 86 #[.int .i64 size, .int .i64 off, .int .i64 1] w fun e w' => e = .returned (.int .i64 (mayE size off 1)) ∧ w = w' := by
  go_enter Tryd.func86, Tryd.ntmps86
  go_wp2
  all_goals go_ret
  all_goals (refine ⟨?_, rfl⟩)
  all_goals (first
    | (rw [mayE41 (by decide) (by first | assumption | exact tmod1 _)]; rfl)
    | (rw [mayE42 (by decide) (by first | assumption | exact tmod1 _) (by first | assumption | (left; assumption))]; rfl)
    | (rw [mayE0 (by decide) (by first | assumption | exact tmod1 _) (by assumption)]; rfl))
set_option maxHeartbeats 1000000 in
theorem rmay_4 (size off : Int) (w : World) :
    Calls Tryd.prog 86 #[.int .i64 size, .int .i64 off, .int .i64 4] w fun e w' => e = .returned (.int .i64 (mayE size off 4)) ∧ w = w' := by
  go_enter Tryd.func86, Tryd.ntmps86
  go_wp2
  all_goals go_ret
  all_goals (refine ⟨?_, rfl⟩)
  all_goals (first
    | (rw [mayE41 (by decide) (by first | assumption | exact tmod1 _)]; rfl)
    | (rw [mayE42 (by decide) (by first | assumption | exact tmod1 _) (by first | assumption | (left; assumption))]; rfl)
    | (rw [mayE0 (by decide) (by first | assumption | exact tmod1 _) (by assumption)]; rfl))
set_option maxHeartbeats 1000000 in
theorem rmay_8 (size off : Int) (w : World) :
    Calls Tryd.prog 86 #[.int .i64 size, .int .i64 off, .int .i64 8] w fun e w' => e = .returned (.int .i64 (mayE size off 8)) ∧ w = w' := by
  go_enter Tryd.func86, Tryd.ntmps86
  go_wp2
  all_goals go_ret
  all_goals (refine ⟨?_, rfl⟩)
  all_goals (first
    | (rw [mayE41 (by decide) (by first | assumption | exact tmod1 _)]; rfl)
    | (rw [mayE42 (by decide) (by first | assumption | exact tmod1 _) (by first | assumption | (left; assumption))]; rfl)
    | (rw [mayE0 (by decide) (by first | assumption | exact tmod1 _) (by assumption)]; rfl))
set_option maxHeartbeats 1000000 in
theorem rmay_any (size off width : Int) (w : World) :
    Calls Tryd.prog 86 #[.int .i64 size, .int .i64 off, .int .i64 width] w fun e w' => e = .returned (.int .i64 (mayE size off width)) ∧ w = w' := by
  by_cases h1 : width = 1
  · subst h1; exact rmay_1 size off w
  by_cases h4 : width = 4
  · subst h4; exact rmay_4 size off w
  by_cases h8 : width = 8
  · subst h8; exact rmay_8 size off w
  rw [mayE40 h1 h4 h8]
  have g1 : (width != 1) = true := by simpa using h1
  have g4 : (width != 4) = true := by simpa using h4
  have g8 : (width != 8) = true := by simpa using h8
  clear h1 h4 h8
  go_enter Tryd.func86, Tryd.ntmps86
  go_wp2
  go_ret
  exact ⟨rfl, rfl⟩

/-- What an access that may be is. -/
theorem mayE_out {size off width : Int} (hs : 0 ≤ size) (hs1 : size ≤ 131072) (h : mayE size off width = 0) : ∃ o n : Nat, off = o ∧ width = n ∧ (n = 1 ∨ n = 4 ∨ n = 8) ∧ o % n = 0 ∧ (o : Int) + n ≤ size := by
  by_cases h1 : width ≠ 1 ∧ width ≠ 4 ∧ width ≠ 8
  · simp [mayE, h1] at h
  have hw : width = 1 ∨ width = 4 ∨ width = 8 := by omega
  cases g : (off.tmod width != 0)
  · by_cases k : off < 0 ∨ wrap64 (size - width) < off
    · rw [mayE42 hw g k] at h; cases h
    · have g' : off.tmod width = 0 := by simpa using g
      have hwr : wrap64 (size - width) = size - width := by simp only [wrap64]; omega
      rw [hwr] at k
      have h0 : 0 ≤ off := by omega
      have e : off.tmod width = off % width := Int.tmod_eq_emod_of_nonneg h0
      rw [e] at g'
      refine ⟨off.toNat, width.toNat, by omega, by omega, by omega, ?_, by omega⟩
      have : ((off.toNat % width.toNat : Nat) : Int) = 0 := by
        rw [Int.natCast_emod, Int.toNat_of_nonneg h0, Int.toNat_of_nonneg (by omega)]
        exact g'
      omega
  · rw [mayE41 hw g] at h; cases h

end Go.Proofs.YtobhdjepfhbgaaaDoor

namespace Go.Proofs.YtobhdjepfhbgaaaDoor
open Go.ChangeShapes Go.WideShapes Go.ChangeAt Go.RowKit
set_option linter.unusedVariables false

/-- A slice of n bytes of the block g from o on. -/
def SlOf (g o n : Nat) (v : Value) : Prop := ∃ ad c, v = .slice ad n c ∧ (0 < n → ad = some ⟨g, o, none⟩) ∧ n ≤ c ∧ (∃ x, ad = some x)

set_option maxHeartbeats 1000000 in
theorem in_any (p g cap : Nat) (bs : List Nat) (A S : Nat) (w : World) (hM : MemAt 96 w p g cap bs) (h : A + S ≤ bs.length) :
    Calls Tryd.prog 73 #[.pointer (some ⟨p, 0, none⟩), win A S] w fun e w' => ∃ v, e = .returned v ∧ SlOf g A S v ∧ Below w.heap.size w w' := by
  have hc := hM.cell
  have hp := hM.plt
  have hl := hM.len
  have hle := hM.le
  have hcap := hM.cap
  clear hM
  obtain ⟨n, hn⟩ : ∃ n, bs.length = n := ⟨_, rfl⟩
  rw [hn] at hc hl h hle
  clear hn
  unfold win
  have hw : IntKind.i64.wrap ((A : Int) + (S : Int)) = ((A + S : Nat) : Int) := by rw [IntKind.wrap_i64]; omega
  have hcap' : cap ≤ 9223372036854775807 := by unfold maxLen at hcap; omega
  clear hcap
  go_enter Tryd.func73, Tryd.ntmps73
  go_wp2
  go_quiet (fail)
  go_wp2
  · go_ret
    exact ⟨_, rfl, ⟨_, _, rfl, fun hS => by omega, by omega, _, rfl⟩, bald w _ _⟩
  · go_ret
    exact ⟨_, rfl, ⟨_, _, rfl, fun hS => rfl, by omega, _, rfl⟩, bald w _ _⟩

/-- The error of an access. -/
def accE (n : Nat) (a s off width : Int) : Int := if holdsB n a s = true then mayE s off width else 42
def tup (v : Value) (e : Int) : Value := .tuple #[v, .int .i64 e]

set_option maxHeartbeats 1000000 in
theorem at_no (p g cap : Nat) (bs : List Nat) (a s off width : Int) (w : World) (hM : MemAt 96 w p g cap bs)
    (ha0 : -9223372036854775808 ≤ a) (ha1 : a ≤ 9223372036854775807) (hs0 : -9223372036854775808 ≤ s) (hs1 : s ≤ 9223372036854775807) (hn : accE bs.length a s off width ≠ 0) :
    Calls Tryd.prog 70 #[.pointer (some ⟨p, 0, none⟩), win a s, .int .i64 off, .int .i64 width] w fun e w' => e = .returned (tup (.slice none 0 0) (accE bs.length a s off width)) ∧ Below w.heap.size w w' := by
  have hp := hM.plt
  have HM := hi hM
  have HH := hi (holds_any p g cap bs a s (w.alloc (.cells #[.int .i64 a, .int .i64 s] 49)) (hM.below (bal w _)) ha0 ha1 hs0 hs1)
  clear hM ha0 ha1 hs0 hs1
  unfold tup
  unfold win at HH ⊢
  cases hh : holdsB bs.length a s
  · rw [hh] at HH
    have e : accE bs.length a s off width = 42 := by simp [accE, hh]
    rw [e]
    clear e hn hh
    go_enter Tryd.func70, Tryd.ntmps70
    go_wp2_with (go_at_call 72; ((with_reducible refine HH.out.mono ?_); rintro e w1 ⟨rfl, hb1⟩))
    go_ret2
    exact ⟨rfl, (bal w _).trans (hb1.mono (by simp))⟩
  · rw [hh] at HH
    have e : accE bs.length a s off width = mayE s off width := by simp [accE, hh]
    rw [e] at hn ⊢
    have hn' : (mayE s off width != 0) = true := by simpa using hn
    obtain ⟨m, hm⟩ : ∃ m, mayE s off width = m := ⟨_, rfl⟩
    have HY := hi (fun W => hm ▸ may_any s off width W)
    rw [hm] at hn' ⊢
    clear e hn hh hm
    go_enter Tryd.func70, Tryd.ntmps70
    go_wp2_with (first
      | (go_at_call 72; ((with_reducible refine HH.out.mono ?_); rintro e w1 ⟨rfl, hb1⟩; obtain ⟨hc1, hc2⟩ := bcell hb1))
      | (go_at_call 88; ((with_reducible refine (HY.out _).mono ?_); rintro e w2 ⟨rfl, rfl⟩)))
    go_ret2
    exact ⟨rfl, (bal w _).trans (hb1.mono (by simp))⟩

set_option maxHeartbeats 1000000 in
theorem at_yes (p g cap : Nat) (bs : List Nat) (A S o k : Nat) (w : World) (hM : MemAt 96 w p g cap bs)
    (hA : A + S ≤ bs.length) (ho : o + k ≤ S) (hm : mayE S o k = 0) :
    Calls Tryd.prog 70 #[.pointer (some ⟨p, 0, none⟩), win A S, .int .i64 o, .int .i64 k] w fun e w' => ∃ v, e = .returned (tup v 0) ∧ SlOf g (A + o) k v ∧ Below w.heap.size w w' := by
  have hp := hM.plt
  have hl := hM.len
  have HM := hi hM
  have hh : holdsB bs.length A S = true := by simp only [holdsB, decide_eq_true_eq]; omega
  have HH := hi (holds_any p g cap bs A S (w.alloc (.cells #[.int .i64 A, .int .i64 S] 49)) (hM.below (bal w _)) (by omega) (by omega) (by omega) (by omega))
  rw [hh] at HH
  have HY := hi (fun W => hm ▸ may_any S o k W)
  have HI := hi (fun W hW => in_any p g cap bs (A + o) k W hW (by omega))
  simp only [Int.natCast_add] at HI
  have hw : IntKind.i64.wrap ((A : Int) + (o : Int)) = ((A : Int) + (o : Int)) := by rw [IntKind.wrap_i64]; omega
  clear hM hh hm hA ho
  unfold tup
  unfold win at HH HI ⊢
  go_enter Tryd.func70, Tryd.ntmps70
  go_wp2_with (first
    | (go_at_call 72; ((with_reducible refine HH.out.mono ?_); rintro e w1 ⟨rfl, hb1⟩; obtain ⟨hc1, hc2⟩ := bcell hb1))
    | (go_at_call 88; ((with_reducible refine (HY.out _).mono ?_); rintro e w2 ⟨rfl, rfl⟩))
    | (go_at_call 73; ((with_reducible refine (HI.out _ (HM.out.below ((bal w _).trans (hb1.mono (by simp))))).mono ?_); rintro e w3 ⟨v, rfl, hv, hb3⟩)))
  go_ret2
  exact ⟨_, rfl, hv, (bal w _).trans ((hb1.mono (by simp)).trans (hb3.mono (by have := hb1.size; simp at this; omega)))⟩

end Go.Proofs.YtobhdjepfhbgaaaDoor

namespace Go.Proofs.YtobhdjepfhbgaaaDoor
open Go.ChangeShapes Go.WideShapes Go.ChangeAt Go.RowKit
set_option linter.unusedVariables false

/-- The number of bytes, least significant first. -/
def num : List Nat → Nat
  | [] => 0
  | x :: r => x + 256 * num r
theorem num_append : ∀ (xs : List Nat) (y : Nat), num (xs ++ [y]) = num xs + y * 256 ^ xs.length
  | [], y => by simp [num]
  | x :: r, y => by
    simp only [List.cons_append, num, num_append r y, List.length_cons, Nat.pow_succ, Nat.mul_add]
    rw [Nat.mul_left_comm 256 y, Nat.mul_comm 256 (256 ^ r.length)]
    omega
theorem num_lt : ∀ (xs : List Nat), (∀ x ∈ xs, x < 256) → num xs < 256 ^ xs.length
  | [], _ => by simp [num]
  | x :: r, h => by
    have h1 := h x (by simp)
    have h2 := num_lt r (fun y hy => h y (by simp [hy]))
    simp only [num, List.length_cons, Nat.pow_succ]
    omega
theorem num_take (cs : List Nat) (i : Nat) (h : i < cs.length) : num (cs.take (i + 1)) = num (cs.take i) + (cs[i]?.getD 0) * 256 ^ i := by
  rw [List.take_add_one, List.getElem?_eq_getElem h]
  simp only [Option.toList_some, Option.getD_some]
  rw [num_append, List.length_take]
  congr 3
  omega

/-- The bytes from o on, k of them. -/
def sub (bs : List Nat) (o k : Nat) : List Nat := (bs.drop o).take k
theorem sub_len {bs : List Nat} {o k : Nat} (h : o + k ≤ bs.length) : (sub bs o k).length = k := by simp [sub]; omega
theorem sub_get {bs : List Nat} {o k j : Nat} (h : j < k) : (sub bs o k)[j]? = bs[o + j]? := by simp [sub, List.getElem?_take_of_lt h]
theorem sub_mem {bs : List Nat} {o k : Nat} (h : ∀ x ∈ bs, x < 256) : ∀ x ∈ sub bs o k, x < 256 := fun x hx => h x (List.mem_of_mem_drop (List.mem_of_mem_take hx))

theorem or_step (N x j : Nat) (hN : N < 256 ^ j) (hx : x < 256) (hj : j < 8) : bits .or .u64 (N : Int) (IntKind.u64.wrap (IntKind.u64.wrap (x : Int) * 2 ^ (8 * j))) = ((N + x * 256 ^ j : Nat) : Int) := by
  have e0 : ((2 : Int) ^ (8 * j)) = ((256 ^ j : Nat) : Int) := by rw [Int.pow_mul]; simp
  have h8 : 256 ^ (j + 1) ≤ 256 ^ 8 := Nat.pow_le_pow_right (by omega) (by omega)
  have hp : x * 256 ^ j + 256 ^ j ≤ 256 ^ (j + 1) := by
    rw [Nat.pow_succ, Nat.mul_comm _ 256]
    have : (x + 1) * 256 ^ j ≤ 256 * 256 ^ j := Nat.mul_le_mul_right _ (by omega)
    rwa [Nat.add_mul, Nat.one_mul] at this
  have hpos : 0 < 256 ^ j := Nat.pow_pos (by omega)
  have e1 : IntKind.u64.wrap (x : Int) = x := by rw [IntKind.wrap_u64]; omega
  rw [e1, e0, ← Int.natCast_mul]
  have h9 : (256 : Nat) ^ 8 = 18446744073709551616 := by decide
  rw [h9] at h8
  have hm : x * 256 ^ j < 18446744073709551616 := by omega
  have hN2 : N < 18446744073709551616 := by omega
  have hlt : N < 2 ^ (8 * j) := by rw [Nat.pow_mul]; exact hN
  have e2 : x * 256 ^ j = 2 ^ (8 * j) * x := by rw [Nat.pow_mul, Nat.mul_comm]
  have hor : x * 256 ^ j + N = x * 256 ^ j ||| N := by rw [e2]; exact Nat.two_pow_add_eq_or_of_lt hlt x
  obtain ⟨M, hM⟩ : ∃ M, x * 256 ^ j = M := ⟨_, rfl⟩
  rw [hM] at hm hor ⊢
  have e3 : IntKind.u64.wrap (M : Int) = M := by rw [IntKind.wrap_u64]; omega
  rw [e3, u64_or_nat N M hN2 hm, Nat.or_comm, ← hor, Nat.add_comm]

def rdE (bs : List Nat) (a s off width : Int) : Nat := if accE bs.length a s off width = 0 then num (sub bs (a.toNat + off.toNat) width.toNat) else 0
def tupU (v : Nat) (e : Int) : Value := .tuple #[.int .u64 v, .int .i64 e]

set_option maxHeartbeats 1000000 in
theorem read_yes (p g cap : Nat) (bs : List Nat) (A S o k : Nat) (w : World) (hM : MemAt 96 w p g cap bs)
    (hA : A + S ≤ bs.length) (ho : o + k ≤ S) (hm : mayE S o k = 0) (hk : k ≤ 8) :
    Calls Tryd.prog 36 #[.pointer (some ⟨p, 0, none⟩), win A S, .int .i64 o, .int .i64 k] w fun e w' => e = .returned (tupU (num (sub bs (A + o) k)) 0) ∧ Below w.heap.size w w' := by
  have HA := hi (at_yes p g cap bs A S o k (w.alloc (.cells #[.int .i64 A, .int .i64 S] 49)) (hM.below (bal w _)) hA ho hm)
  have HM := hi hM
  have HL := hi (show A + o + k ≤ bs.length by omega)
  clear hM hm hA ho
  unfold tupU
  unfold tup win at HA
  unfold win
  go_enter Tryd.func36, Tryd.ntmps36
  go_wp2_with (go_at_call 70; ((with_reducible refine HA.out.mono ?_); rintro e w1 ⟨v, rfl, hv, hb1⟩; obtain ⟨ad, c, rfl, had, hc⟩ := hv))
  have hbw := (bal w (.cells #[.int .i64 A, .int .i64 S] 49)).trans (hb1.mono (by simp))
  have HM1 := hi (HM.out.below hbw)
  have HB := hi hbw
  have HC := hi hc
  clear hb1 hbw hc
  go_loop [12, 28] (fun v i => ∃ j : Nat, i = .int .i64 j ∧ v = .int .u64 (num ((sub bs (A + o) k).take j) : Nat) ∧ Hi (j ≤ k)) (fun _ i => k - (intOf i).toNat)
  case atStart => exact ⟨0, rfl, rfl, hi (Nat.zero_le _)⟩
  case round =>
    obtain ⟨j, rfl, rfl, hj⟩ := hrel
    have hj := hj.out
    by_cases hlt : j < k
    · obtain rfl := had (by omega)
      have hcell := HM1.out.bytes.cell (A + o + j) (by have := HL.out; omega)
      obtain ⟨x, hx⟩ : ∃ x, bs[A + o + j]?.getD 0 = x := ⟨_, rfl⟩
      rw [hx] at hcell
      obtain ⟨N, hN⟩ : ∃ N, num ((sub bs (A + o) k).take j) = N := ⟨_, rfl⟩
      rw [hN]
      have HX := hi hx
      have HN := hi hN
      clear hx hN
      go_wp2
      go_round
      case rel =>
        refine ⟨j + 1, by go_num, ?_, hi hlt⟩
        have hb := HM1.out.bytes.2
        have h1 := num_lt ((sub bs (A + o) k).take j) (fun y hy => sub_mem hb y (List.mem_of_mem_take hy))
        have h2 := num_take (sub bs (A + o) k) j (by rw [sub_len (by have := HL.out; omega)]; exact hlt)
        have h3 : ((sub bs (A + o) k).take j).length = j := by rw [List.length_take, sub_len (by have := HL.out; omega)]; omega
        have h4 : x < 256 := by
          rw [← HX.out, List.getElem?_eq_getElem (by have := HL.out; omega), Option.getD_some]
          exact hb _ (List.getElem_mem _)
        rw [sub_get hlt, HX.out, HN.out] at h2
        rw [h3, HN.out] at h1
        rw [h2, or_step N x j h1 h4 (by omega)]
      case measure => simp [intOf]; omega
    · have e : j = k := by omega
      subst e
      go_wp2
      go_ret2
      have e2 : (sub bs (A + o) j).take j = sub bs (A + o) j := List.take_of_length_le (by rw [sub_len (by have := HL.out; omega)]; exact Nat.le_refl _)
      exact ⟨congrArg (fun t => Ending.returned (.tuple #[.int .u64 ((num t : Nat) : Int), .int .i64 0])) e2, HB.out⟩

set_option maxHeartbeats 1000000 in
theorem read_no (p g cap : Nat) (bs : List Nat) (a s off width : Int) (w : World) (hM : MemAt 96 w p g cap bs)
    (ha0 : -9223372036854775808 ≤ a) (ha1 : a ≤ 9223372036854775807) (hs0 : -9223372036854775808 ≤ s) (hs1 : s ≤ 9223372036854775807) (hn : accE bs.length a s off width ≠ 0) :
    Calls Tryd.prog 36 #[.pointer (some ⟨p, 0, none⟩), win a s, .int .i64 off, .int .i64 width] w fun e w' => e = .returned (tupU 0 (accE bs.length a s off width)) ∧ Below w.heap.size w w' := by
  have HA := hi (at_no p g cap bs a s off width (w.alloc (.cells #[.int .i64 a, .int .i64 s] 49)) (hM.below (bal w _)) ha0 ha1 hs0 hs1 hn)
  obtain ⟨m, hm⟩ : ∃ m, accE bs.length a s off width = m := ⟨_, rfl⟩
  rw [hm] at HA hn ⊢
  have hn' : (m != 0) = true := by simpa using hn
  clear hM ha0 ha1 hs0 hs1 hn hm
  unfold tupU
  unfold tup win at HA
  unfold win
  go_enter Tryd.func36, Tryd.ntmps36
  go_wp2_with (go_at_call 70; ((with_reducible refine HA.out.mono ?_); rintro e w1 ⟨rfl, hb1⟩))
  go_ret2
  exact ⟨rfl, (bal w _).trans (hb1.mono (by simp))⟩

theorem accE_out {n : Nat} {a s off width : Int} (hn : n ≤ 131072) (h : accE n a s off width = 0) :
    ∃ A S o k : Nat, a = A ∧ s = S ∧ off = o ∧ width = k ∧ A + S ≤ n ∧ o + k ≤ S ∧ mayE S o k = 0 ∧ (k = 1 ∨ k = 4 ∨ k = 8) := by
  cases hh : holdsB n a s
  · simp [accE, hh] at h
  · simp only [accE, hh, if_true] at h
    obtain ⟨A, S, rfl, rfl, hA⟩ := holdsB_out hh
    obtain ⟨o, k, rfl, rfl, hk, _, ho⟩ := mayE_out (by omega) (by omega) h
    exact ⟨A, S, o, k, rfl, rfl, rfl, rfl, hA, by omega, h, hk⟩

/-- Reading at every access. -/
theorem read_any (p g cap : Nat) (bs : List Nat) (a s off width : Int) (w : World) (hM : MemAt 96 w p g cap bs)
    (ha0 : -9223372036854775808 ≤ a) (ha1 : a ≤ 9223372036854775807) (hs0 : -9223372036854775808 ≤ s) (hs1 : s ≤ 9223372036854775807) :
    Calls Tryd.prog 36 #[.pointer (some ⟨p, 0, none⟩), win a s, .int .i64 off, .int .i64 width] w fun e w' => e = .returned (tupU (rdE bs a s off width) (accE bs.length a s off width)) ∧ Below w.heap.size w w' := by
  by_cases h : accE bs.length a s off width = 0
  · obtain ⟨A, S, o, k, rfl, rfl, rfl, rfl, hA, ho, hm, hk⟩ := accE_out hM.len h
    have e : rdE bs A S o k = num (sub bs (A + o) k) := by simp [rdE, h]
    rw [h, e]
    exact read_yes p g cap bs A S o k w hM hA ho hm (by omega)
  · have e : rdE bs a s off width = 0 := by simp [rdE, h]
    rw [e]
    exact read_no p g cap bs a s off width w hM ha0 ha1 hs0 hs1 h

end Go.Proofs.YtobhdjepfhbgaaaDoor

namespace Go.Proofs.YtobhdjepfhbgaaaDoor
open Go.ChangeShapes Go.WideShapes Go.ChangeAt Go.RowKit
set_option linter.unusedVariables false

/-- The k least significant bytes of v. -/
def le (k v : Nat) : List Nat := (List.range k).map fun i => v / 256 ^ i % 256
theorem le_len (k v : Nat) : (le k v).length = k := by simp [le]
theorem le_succ (k v : Nat) : le (k + 1) v = le k v ++ [v / 256 ^ k % 256] := by simp [le, List.range_succ]
theorem le_mem (k v : Nat) : ∀ x ∈ le k v, x < 256 := by
  intro x hx
  simp only [le, List.mem_map] at hx
  obtain ⟨i, _, rfl⟩ := hx
  exact Nat.mod_lt _ (by omega)

theorem splice_nil (bs : List Nat) (o : Nat) : splice bs o [] = bs := by simp [splice]
theorem splice_set (bs cs : List Nat) (o x : Nat) (h : o + cs.length < bs.length) : (splice bs o cs).set (o + cs.length) x = splice bs o (cs ++ [x]) := by
  have h1 : (bs.take o).length = o := by simp; omega
  simp only [splice]
  rw [List.set_append_right _ _ (by omega), h1, List.set_append_right _ _ (by omega)]
  have e : o + cs.length - o - cs.length = 0 := by omega
  rw [e, List.drop_eq_getElem_cons h, List.set_cons_zero, List.length_append, List.length_singleton, List.append_assoc, List.singleton_append, Nat.add_assoc]
theorem splice_len (bs cs : List Nat) (o : Nat) (h : o + cs.length ≤ bs.length) : (splice bs o cs).length = bs.length := length_splice bs o cs h

theorem BytesAt.set {W : World} {g : Nat} {bs : List Nat} (h : BytesAt W g bs) (i x : Nat) (hi : i < bs.length) (hx : x < 256) : BytesAt (W.setCell ⟨g, i, none⟩ (.int .u8 (x : Int))) g (bs.set i x) := by
  obtain ⟨⟨r, e⟩, hm⟩ := h
  refine ⟨⟨r, ?_⟩, fun y hy => ?_⟩
  · rw [Joins.block_setCell e]
    congr 2
    simp only [List.setIfInBounds_toArray]
    congr 1
    rw [List.set_append_left _ _ (by rw [u8s_len]; exact hi)]
    simp [u8s, List.map_set]
  · rcases List.mem_or_eq_of_mem_set hy with a | a
    · exact hm y a
    · omega
theorem kept_setCell (W : World) (g i : Nat) (v : Value) : Kept (· = g) W (W.setCell ⟨g, i, none⟩ v) :=
  ⟨rfl, rfl, rfl, by simp [World.setCell], fun k _ hn => Below.heap_setCell _ _ _ k (fun e => hn e)⟩

set_option maxHeartbeats 1000000 in
theorem write_yes (p g cap : Nat) (bs : List Nat) (A S o k v : Nat) (w : World) (hM : MemAt 96 w p g cap bs)
    (hA : A + S ≤ bs.length) (ho : o + k ≤ S) (hm : mayE S o k = 0) (hk : k ≤ 8) (hv : v < 18446744073709551616) :
    Calls Tryd.prog 32 #[.pointer (some ⟨p, 0, none⟩), win A S, .int .i64 o, .int .i64 k, .int .u64 v] w fun e w' => e = .returned (.int .i64 0) ∧ MemAt 96 w' p g cap (splice bs (A + o) (le k v)) ∧ Kept (· = g) w w' := by
  have HA := hi (at_yes p g cap bs A S o k (w.alloc (.cells #[.int .i64 A, .int .i64 S] 49)) (hM.below (bal w _)) hA ho hm)
  have HM := hi hM
  have HL := hi (show A + o + k ≤ bs.length by omega)
  clear hM hm hA ho
  unfold tup win at HA
  unfold win
  go_enter Tryd.func32, Tryd.ntmps32
  go_wp2_with (go_at_call 70; ((with_reducible refine HA.out.mono ?_); rintro e w1 ⟨sv, rfl, hsv, hb1⟩; obtain ⟨ad, c, rfl, had, hc⟩ := hsv))
  have hbw := (bal w (.cells #[.int .i64 A, .int .i64 S] 49)).trans (hb1.mono (by simp))
  have HM1 := hi (HM.out.below hbw)
  have HB := hi hbw
  have HC := hi hc
  clear hb1 hbw hc
  go_loopw [24] (fun i wr => ∃ j : Nat, i = .int .i64 j ∧ Hi (j ≤ k ∧ BytesAt wr g (splice bs (A + o) (le j v)) ∧ Kept (· = g) w1 wr)) (fun i _ => k - (intOf i).toNat)
  case atStart => exact ⟨0, rfl, hi ⟨Nat.zero_le _, by rw [show le 0 v = [] from rfl, splice_nil]; exact HM1.out.bytes, Kept.refl _ _⟩⟩
  case round =>
    obtain ⟨j, rfl, HJ⟩ := hrel
    have hj := HJ.out.1
    by_cases hlt : j < k
    · obtain rfl := had (by omega)
      have hsl := splice_len bs (le j v) (A + o) (by rw [le_len]; have := HL.out; omega)
      have hcell := HJ.out.2.1.cell (A + o + j) (by rw [hsl]; have := HL.out; omega)
      have hfr := HJ.out.2.1.frozen (A + o + j)
      obtain ⟨x, hx⟩ : ∃ x, (splice bs (A + o) (le j v))[A + o + j]?.getD 0 = x := ⟨_, rfl⟩
      rw [hx] at hcell
      clear hx
      have HS := hi hsl
      clear hsl
      go_wp2
      go_roundw
      case rel =>
        refine ⟨j + 1, by go_num, hi ⟨hlt, ?_, HJ.out.2.2.trans (kept_setCell _ _ _ _)⟩⟩
        have e0 : ((2 : Int) ^ (8 * j)) = ((256 ^ j : Nat) : Int) := by rw [Int.pow_mul]; simp
        have e1 : (v : Int) / 2 ^ (8 * j) % 256 = ((v / 256 ^ j % 256 : Nat) : Int) := by rw [e0]; simp
        rw [e1, le_succ]
        have h1 := HJ.out.2.1.set (A + o + j) (v / 256 ^ j % 256) (by rw [HS.out]; have := HL.out; omega) (Nat.mod_lt _ (by omega))
        have h2 := splice_set bs (le j v) (A + o) (v / 256 ^ j % 256) (by rw [le_len]; have := HL.out; omega)
        rw [le_len] at h2
        rw [← h2]
        exact h1
      case measure => simp [intOf]; omega
    · have e : j = k := by omega
      subst e
      go_wp2
      go_ret
      exact ⟨rfl, HM.out.set (((Kept.of HB.out)).trans HJ.out.2.2) HJ.out.2.1 (by rw [splice_len]; rw [le_len]; exact HL.out), (Kept.of HB.out).trans HJ.out.2.2⟩

set_option maxHeartbeats 1000000 in
theorem write_no (p g cap : Nat) (bs : List Nat) (a s off width : Int) (v : Nat) (w : World) (hM : MemAt 96 w p g cap bs)
    (ha0 : -9223372036854775808 ≤ a) (ha1 : a ≤ 9223372036854775807) (hs0 : -9223372036854775808 ≤ s) (hs1 : s ≤ 9223372036854775807) (hn : accE bs.length a s off width ≠ 0) :
    Calls Tryd.prog 32 #[.pointer (some ⟨p, 0, none⟩), win a s, .int .i64 off, .int .i64 width, .int .u64 v] w fun e w' => e = .returned (.int .i64 (accE bs.length a s off width)) ∧ Below w.heap.size w w' := by
  have HA := hi (at_no p g cap bs a s off width (w.alloc (.cells #[.int .i64 a, .int .i64 s] 49)) (hM.below (bal w _)) ha0 ha1 hs0 hs1 hn)
  obtain ⟨m, hm⟩ : ∃ m, accE bs.length a s off width = m := ⟨_, rfl⟩
  rw [hm] at HA hn ⊢
  clear hM ha0 ha1 hs0 hs1 hn hm
  unfold tup win at HA
  unfold win
  go_enter Tryd.func32, Tryd.ntmps32
  go_wp2_with (go_at_call 70; ((with_reducible refine HA.out.mono ?_); rintro e w1 ⟨rfl, hb1⟩))
  have HB := hi ((bal w (.cells #[.int .i64 a, .int .i64 s] 49)).trans (hb1.mono (by simp)))
  clear hb1
  go_loopw [24] (fun i wr => i = .int .i64 0 ∧ Hi (Below w.heap.size w wr)) (fun i _ => 0)
  case atStart => exact ⟨rfl, HB⟩
  case round =>
    obtain ⟨rfl, HJ⟩ := hrel
    go_wp2
    go_ret
    exact ⟨rfl, HJ.out⟩

/-- The bytes behind a write. -/
def wrB (bs : List Nat) (a s off width : Int) (v : Nat) : List Nat := if accE bs.length a s off width = 0 then splice bs (a.toNat + off.toNat) (le width.toNat v) else bs
theorem wrB_len {bs : List Nat} {a s off width : Int} {v : Nat} (hl : bs.length ≤ 131072) : (wrB bs a s off width v).length = bs.length := by
  unfold wrB
  split
  · rename_i h
    obtain ⟨A, S, o, k, rfl, rfl, rfl, rfl, hA, ho, hm, hk⟩ := accE_out hl h
    exact splice_len _ _ _ (by rw [le_len]; simp; omega)
  · rfl

/-- Writing at every access. -/
theorem write_any (p g cap : Nat) (bs : List Nat) (a s off width : Int) (v : Nat) (w : World) (hM : MemAt 96 w p g cap bs)
    (ha0 : -9223372036854775808 ≤ a) (ha1 : a ≤ 9223372036854775807) (hs0 : -9223372036854775808 ≤ s) (hs1 : s ≤ 9223372036854775807) (hv : v < 18446744073709551616) :
    Calls Tryd.prog 32 #[.pointer (some ⟨p, 0, none⟩), win a s, .int .i64 off, .int .i64 width, .int .u64 v] w fun e w' => e = .returned (.int .i64 (accE bs.length a s off width)) ∧ MemAt 96 w' p g cap (wrB bs a s off width v) ∧ Kept (· = g) w w' := by
  by_cases h : accE bs.length a s off width = 0
  · obtain ⟨A, S, o, k, rfl, rfl, rfl, rfl, hA, ho, hm, hk⟩ := accE_out hM.len h
    have e : wrB bs A S o k v = splice bs (A + o) (le k v) := by simp [wrB, h]
    rw [h, e]
    exact write_yes p g cap bs A S o k v w hM hA ho hm (by omega) hv
  · have e : wrB bs a s off width v = bs := by simp [wrB, h]
    rw [e]
    refine (write_no p g cap bs a s off width v w hM ha0 ha1 hs0 hs1 h).mono ?_
    rintro e w' ⟨rfl, hb⟩
    exact ⟨rfl, hM.below hb, Kept.of hb⟩

end Go.Proofs.YtobhdjepfhbgaaaDoor
