/-
  Package irq and the document's: Pending, Ready, Phase at every state.
-/
import Derived.Test.YtjgamfonpagkbaaGnd
namespace Go.Proofs.Ytjgamfonpagkbaa
open Go.ChangeShapes Go.WideShapes Go.ChangeAt Go.RowKit
set_option linter.unusedVariables false

theorem ret_bool {b c : Bool} (h : b = c) : Ending.returned (.bool b) = .returned (.bool c) := by rw [h]
theorem ret_int {a b : Int} (h : a = b) : Ending.returned (.int .i64 a) = .returned (.int .i64 b) := by rw [h]

/-- A box of a state. -/
abbrev Ib (W : World) (B : Nat) (x : St) : Prop := CB W B 50 x.cs

theorem pend_any (x : St) (w : World) : Calls Try.prog 53 #[x.v] w fun e w' => e = .returned (.bool x.pend) ∧ Below w.heap.size w w' := by
  obtain ⟨e, l, q, a⟩ := x
  cases e <;> cases q
  all_goals
    go_enter Try.func53, Try.ntmps53
    go_wp2
    go_ret
    exact ⟨ret_bool (by simp [St.pend]), bal w _⟩

theorem rpend_any (x : St) (w : World) : Calls Try.prog 56 #[x.v] w fun e w' => e = .returned (.bool x.pend) ∧ Below w.heap.size w w' := by
  obtain ⟨e, l, q, a⟩ := x
  cases e <;> cases q <;> cases l
  all_goals
    go_enter Try.func56, Try.ntmps56
    go_wp2
    go_ret
    exact ⟨ret_bool (by simp [St.pend]), bal w _⟩

set_option maxHeartbeats 1000000 in
theorem ready_any (x : St) (w : World) : Calls Try.prog 63 #[x.v] w fun e w' => e = .returned (.bool x.ready) ∧ Below w.heap.size w w' := by
  have HP := hi (pend_any x)
  obtain ⟨p, hp⟩ : ∃ p, x.pend = p := ⟨_, rfl⟩
  have hr : x.ready = (p && !x.a) := by rw [← hp]; rfl
  rw [hr]
  rw [hp] at HP
  obtain ⟨e, l, q, a⟩ := x
  clear hr hp
  dsimp only [St.v] at HP ⊢
  cases p
  all_goals
    go_enter Try.func63, Try.ntmps63
    go_wp2_with (go_at_call 53; ((with_reducible refine (HP.out _).mono ?_); rintro e' w1 ⟨rfl, hb1⟩; obtain ⟨hB, hK⟩ := box_call hb1; obtain ⟨c0, c1, c2, c3⟩ := CB.cells (x := ⟨e, l, q, a⟩) hB; have HK := hi hK; clear hb1 hB hK))
    go_ret
    exact ⟨ret_bool (by simp), HK.out⟩

set_option maxHeartbeats 1000000 in
theorem rready_any (x : St) (w : World) : Calls Try.prog 64 #[x.v] w fun e w' => e = .returned (.bool x.ready) ∧ Below w.heap.size w w' := by
  have HP := hi (rpend_any x)
  obtain ⟨p, hp⟩ : ∃ p, x.pend = p := ⟨_, rfl⟩
  have hr : x.ready = (p && !x.a) := by rw [← hp]; rfl
  rw [hr]
  rw [hp] at HP
  obtain ⟨e, l, q, a⟩ := x
  clear hr hp
  dsimp only [St.v] at HP ⊢
  cases p
  all_goals
    go_enter Try.func64, Try.ntmps64
    go_wp2_with (go_at_call 56; ((with_reducible refine (HP.out _).mono ?_); rintro e' w1 ⟨rfl, hb1⟩; obtain ⟨hB, hK⟩ := box_call hb1; obtain ⟨c0, c1, c2, c3⟩ := CB.cells (x := ⟨e, l, q, a⟩) hB; have HK := hi hK; clear hb1 hB hK))
    go_ret
    exact ⟨ret_bool (by simp), HK.out⟩

end Go.Proofs.Ytjgamfonpagkbaa
