/-
  Bounded windows, Meet and Part, the program's and the document's.
-/
import Derived.Test.YtkgkfgfnhjhabaaDoorMemI
namespace Go.Proofs.YtkgkfgfnhjhabaaDoor
open Go.ChangeShapes Go.WideShapes Go.ChangeAt Go.RowKit
set_option linter.unusedVariables false
set_option linter.unusedSimpArgs false

def fairB (a s : Int) : Bool := decide (0 ≤ a ∧ a ≤ 1099511627776 ∧ 0 ≤ s ∧ s ≤ 1099511627776)
theorem fairB_out {a s : Int} (h : fairB a s = true) : 0 ≤ a ∧ a ≤ 1099511627776 ∧ 0 ≤ s ∧ s ≤ 1099511627776 := by simpa [fairB] using h
theorem ret_bool {b c : Bool} (h : b = c) : Ending.returned (.bool b) = .returned (.bool c) := by rw [h]

set_option maxHeartbeats 1000000 in
theorem bounded_any (a s : Int) (w : World) :
    Calls Tryd.prog 71 #[.agg #[.int .i64 a, .int .i64 s]] w fun e w' => e = .returned (.bool (fairB a s)) ∧ Below w.heap.size w w' := by
  go_enter Tryd.func71, Tryd.ntmps71
  go_wp2
  all_goals go_ret
  all_goals (refine ⟨ret_bool ?_, bal w _⟩)
  all_goals simp only [fairB]
  all_goals (first | (rw [decide_eq_decide]; omega) | (symm; simp only [decide_eq_false_iff_not]; omega) | (symm; simp only [decide_eq_true_eq]; omega))
theorem bal2 {w w1 w2 : World} {o o' : Obj} (h : Below ((w.alloc o).alloc o').heap.size ((w.alloc o).alloc o') w1) (k : Below w1.heap.size w1 w2) : Below w.heap.size w w2 :=
  ((bal w o).alloc (by simp) o').trans ((h.mono (by simp; omega)).trans (k.mono (by have := h.size; simp at this; omega)))

theorem cell_of_box {W : World} {B : Nat} {cs : Array Value} {t : TypeId} (h : W.heap[B]? = some (.cells cs t (0, 0))) (j : Nat) : W.cell? ⟨B, j, none⟩ = cs[j]? := by
  simp [World.cell?, h]
theorem box_new {w : World} {cs ds : Array Value} {T U : TypeId} (o : Nat) : ((w.alloc (.cells cs T)).alloc (.cells ds U)).cell? ⟨w.heap.size, o, none⟩ = cs[o]? ∧ ((w.alloc (.cells cs T)).alloc (.cells ds U)).cell? ⟨w.heap.size + 1, o, none⟩ = ds[o]? := by
  have h1 : ((w.alloc (.cells cs T)).alloc (.cells ds U)).heap[w.heap.size]? = some (.cells cs T (0, 0)) := (Below.heap_alloc _ _ _ (by simp)).trans (heap_new _ _)
  have h2 : ((w.alloc (.cells cs T)).alloc (.cells ds U)).heap[w.heap.size + 1]? = some (.cells ds U (0, 0)) := by
    have := heap_new (w.alloc (.cells cs T)) (.cells ds U)
    rwa [show (w.alloc (.cells cs T)).heap.size = w.heap.size + 1 by simp] at this
  exact ⟨cell_of_box h1 o, cell_of_box h2 o⟩
theorem two_boxes {w w1 : World} {x y z u : Value} {T U : TypeId} (h : Below ((w.alloc (.cells #[x, y] T)).alloc (.cells #[z, u] U)).heap.size ((w.alloc (.cells #[x, y] T)).alloc (.cells #[z, u] U)) w1) :
    w1.cell? ⟨w.heap.size, 0, none⟩ = some x ∧ w1.cell? ⟨w.heap.size, 1, none⟩ = some y ∧ w1.cell? ⟨w.heap.size + 1, 0, none⟩ = some z ∧ w1.cell? ⟨w.heap.size + 1, 1, none⟩ = some u :=
  ⟨(h.cell (p := ⟨w.heap.size, 0, none⟩) (by simp; omega)).trans (box_new 0).1, (h.cell (p := ⟨w.heap.size, 1, none⟩) (by simp; omega)).trans (box_new 1).1, (h.cell (p := ⟨w.heap.size + 1, 0, none⟩) (by simp)).trans (box_new 0).2, (h.cell (p := ⟨w.heap.size + 1, 1, none⟩) (by simp)).trans (box_new 1).2⟩

/-- Whether two windows share a byte. -/
def meetB (a s b t : Int) : Bool := fairB a s && fairB b t && decide (a < b + t ∧ b < a + s ∧ 0 < s ∧ 0 < t)

end Go.Proofs.YtkgkfgfnhjhabaaDoor
