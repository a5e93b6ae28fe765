/-
  The memory's own bytes of a window; what an access concerns.
-/
import Derived.Test.YtfnokpajendlmaaMemA
namespace Go.Proofs.Ytfnokpajendlmaa
open Go.ChangeShapes Go.WideShapes Go.ChangeAt Go.RowKit
set_option linter.unusedVariables false
set_option linter.unusedSimpArgs false

/-- A slice of n bytes of the block g from o on. -/
def SlOf (g o n : Nat) (v : Value) : Prop := ∃ ad c, v = .slice ad n c ∧ (0 < n → ad = some ⟨g, o, none⟩) ∧ n ≤ c ∧ (∃ x, ad = some x)

set_option maxHeartbeats 1000000 in
theorem in_any (p g cap : Nat) (bs : List Nat) (A S : Nat) (w : World) (hM : MemAt 73 w p g cap bs) (h : A + S ≤ bs.length) :
    Calls Try.prog 61 #[.pointer (some ⟨p, 0, none⟩), win A S] w fun e w' => ∃ v, e = .returned v ∧ SlOf g A S v ∧ Below w.heap.size w w' := by
  have hc := hM.cell
  have hp := hM.plt
  have hl := hM.len
  have hle := hM.le
  have hcap := hM.cap
  clear hM
  obtain ⟨n, hn⟩ : ∃ n, bs.length = n := ⟨_, rfl⟩
  rw [hn] at hc hl h hle
  clear hn
  unfold win
  have hw : IntKind.i64.wrap ((A : Int) + (S : Int)) = ((A + S : Nat) : Int) := by rw [IntKind.wrap_i64]; omega
  have hcap' : cap ≤ 9223372036854775807 := by unfold maxLen at hcap; omega
  clear hcap
  go_enter Try.func61, Try.ntmps61
  go_wp2
  go_quiet (fail)
  go_wp2
  · go_ret
    exact ⟨_, rfl, ⟨_, _, rfl, fun hS => by omega, by omega, _, rfl⟩, bald w _ _⟩
  · go_ret
    exact ⟨_, rfl, ⟨_, _, rfl, fun hS => rfl, by omega, _, rfl⟩, bald w _ _⟩

/-- The error of an access. -/
def accE (n : Nat) (a s off width : Int) : Int := if holdsB n a s = true then mayE s off width else 42
def tup (v : Value) (e : Int) : Value := .tuple #[v, .int .i64 e]

set_option maxHeartbeats 1000000 in
theorem at_no (p g cap : Nat) (bs : List Nat) (a s off width : Int) (w : World) (hM : MemAt 73 w p g cap bs)
    (ha0 : -9223372036854775808 ≤ a) (ha1 : a ≤ 9223372036854775807) (hs0 : -9223372036854775808 ≤ s) (hs1 : s ≤ 9223372036854775807) (hn : accE bs.length a s off width ≠ 0) :
    Calls Try.prog 42 #[.pointer (some ⟨p, 0, none⟩), win a s, .int .i64 off, .int .i64 width] w fun e w' => e = .returned (tup (.slice none 0 0) (accE bs.length a s off width)) ∧ Below w.heap.size w w' := by
  have hp := hM.plt
  have HM := hi hM
  have HH := hi (holds_any p g cap bs a s (w.alloc (.cells #[.int .i64 a, .int .i64 s] 23)) (hM.below (bal w _)) ha0 ha1 hs0 hs1)
  clear hM ha0 ha1 hs0 hs1
  unfold tup
  unfold win at HH ⊢
  cases hh : holdsB bs.length a s
  · rw [hh] at HH
    have e : accE bs.length a s off width = 42 := by simp [accE, hh]
    rw [e]
    clear e hn hh
    go_enter Try.func42, Try.ntmps42
    go_wp2_with (go_at_call 59; ((with_reducible refine HH.out.mono ?_); rintro e w1 ⟨rfl, hb1⟩))
    go_ret2
    exact ⟨rfl, (bal w _).trans (hb1.mono (by simp))⟩
  · rw [hh] at HH
    have e : accE bs.length a s off width = mayE s off width := by simp [accE, hh]
    rw [e] at hn ⊢
    have hn' : (mayE s off width != 0) = true := by simpa using hn
    obtain ⟨m, hm⟩ : ∃ m, mayE s off width = m := ⟨_, rfl⟩
    have HY := hi (fun W => hm ▸ may_any s off width W)
    rw [hm] at hn' ⊢
    clear e hn hh hm
    go_enter Try.func42, Try.ntmps42
    go_wp2_with (first
      | (go_at_call 59; ((with_reducible refine HH.out.mono ?_); rintro e w1 ⟨rfl, hb1⟩; obtain ⟨hc1, hc2⟩ := bcell hb1))
      | (go_at_call 60; ((with_reducible refine (HY.out _).mono ?_); rintro e w2 ⟨rfl, rfl⟩)))
    go_ret2
    exact ⟨rfl, (bal w _).trans (hb1.mono (by simp))⟩

set_option maxHeartbeats 1000000 in
theorem at_yes (p g cap : Nat) (bs : List Nat) (A S o k : Nat) (w : World) (hM : MemAt 73 w p g cap bs)
    (hA : A + S ≤ bs.length) (ho : o + k ≤ S) (hm : mayE S o k = 0) :
    Calls Try.prog 42 #[.pointer (some ⟨p, 0, none⟩), win A S, .int .i64 o, .int .i64 k] w fun e w' => ∃ v, e = .returned (tup v 0) ∧ SlOf g (A + o) k v ∧ Below w.heap.size w w' := by
  have hp := hM.plt
  have hl := hM.len
  have HM := hi hM
  have hh : holdsB bs.length A S = true := by simp only [holdsB, decide_eq_true_eq]; omega
  have HH := hi (holds_any p g cap bs A S (w.alloc (.cells #[.int .i64 A, .int .i64 S] 23)) (hM.below (bal w _)) (by omega) (by omega) (by omega) (by omega))
  rw [hh] at HH
  have HY := hi (fun W => hm ▸ may_any S o k W)
  have HI := hi (fun W hW => in_any p g cap bs (A + o) k W hW (by omega))
  simp only [Int.natCast_add] at HI
  have hw : IntKind.i64.wrap ((A : Int) + (o : Int)) = ((A : Int) + (o : Int)) := by rw [IntKind.wrap_i64]; omega
  clear hM hh hm hA ho
  unfold tup
  unfold win at HH HI ⊢
  go_enter Try.func42, Try.ntmps42
  go_wp2_with (first
    | (go_at_call 59; ((with_reducible refine HH.out.mono ?_); rintro e w1 ⟨rfl, hb1⟩; obtain ⟨hc1, hc2⟩ := bcell hb1))
    | (go_at_call 60; ((with_reducible refine (HY.out _).mono ?_); rintro e w2 ⟨rfl, rfl⟩))
    | (go_at_call 61; ((with_reducible refine (HI.out _ (HM.out.below ((bal w _).trans (hb1.mono (by simp))))).mono ?_); rintro e w3 ⟨v, rfl, hv, hb3⟩)))
  go_ret2
  exact ⟨_, rfl, hv, (bal w _).trans ((hb1.mono (by simp)).trans (hb3.mono (by have := hb1.size; simp at this; omega)))⟩

end Go.Proofs.Ytfnokpajendlmaa
