/-
  The document's examples: awake answers true wherever it is called, and what lay lies.
-/
import Derived.Test.YtkgkfgfnhjhabaaDoorMemH
namespace Go.Proofs.YtkgkfgfnhjhabaaDoor
open Go.ChangeShapes Go.WideShapes Go.ChangeAt Go.RowKit
set_option linter.unusedVariables false
set_option linter.unusedSimpArgs false

def bs0 : List Nat := List.replicate 16 0
def bs1 : List Nat := wrB bs0 4 8 0 4 258
theorem ex1 : accE bs0.length 4 8 0 4 = 0 := by kernel_rfl
theorem ex2 : accE bs1.length 4 8 0 8 = 0 ∧ rdE bs1 4 8 0 8 = 258 := ⟨by kernel_rfl, by kernel_rfl⟩
theorem ex3 : accE bs1.length 4 8 4 8 = 41 ∧ rdE bs1 4 8 4 8 = 0 := ⟨by kernel_rfl, by kernel_rfl⟩
theorem ex4 : accE bs1.length 10 8 0 8 = 42 ∧ rdE bs1 10 8 0 8 = 0 := ⟨by kernel_rfl, by kernel_rfl⟩

/-- What lies since w, and a memory that was made since. -/
structure Since (w : World) (p g cap : Nat) (bs : List Nat) (W : World) : Prop where
  mem : MemAt 126 W p g cap bs
  p : w.heap.size ≤ p
  g : w.heap.size ≤ g
  below : Below w.heap.size w W
theorem Since.sz {w : World} {p g cap : Nat} {bs : List Nat} {W : World} (h : Since w p g cap bs W) : w.heap.size ≤ W.heap.size := h.below.size
theorem Since.later {w : World} {p g cap : Nat} {bs : List Nat} {W W' : World} (h : Since w p g cap bs W) (k : Below W.heap.size W W') : Since w p g cap bs W' :=
  ⟨h.mem.below k, h.p, h.g, h.below.trans (k.mono h.sz)⟩
theorem Since.wrote {w : World} {p g cap : Nat} {bs cs : List Nat} {W W' : World} (h : Since w p g cap bs W) (k : Kept (· = g) W W') (m : MemAt 126 W' p g cap cs) : Since w p g cap cs W' :=
  ⟨m, h.p, h.g, h.below.trans (k.toBelow h.sz (fun _ e => by subst e; exact h.g))⟩

theorem aw0 (w : World) : Calls Tryd.prog 39 #[.int .i64 16] w fun e w' => ∃ p g, e = .returned (.tuple #[.pointer (some ⟨p, 0, none⟩), .int .i64 0]) ∧ Since w p g 16 bs0 w' := by
  refine (new_yes 16 w (by omega)).mono ?_
  rintro e w' ⟨p, g, rfl, h1, h2, h3, h4⟩
  exact ⟨p, g, rfl, h1, h2, h3, h4⟩

theorem kept_new {w1 w2 : World} {g : Nat} {cs : Array Value} {T : TypeId} (hg : g < w1.heap.size) (k : Kept (· = g) (w1.alloc (.cells cs T)) w2) :
    w1.heap.size < w2.heap.size ∧ ∀ o, w2.cell? ⟨w1.heap.size, o, none⟩ = cs[o]? := by
  have h0 : (w1.alloc (.cells cs T)).heap.size = w1.heap.size + 1 := by simp
  refine ⟨by have := k.size; omega, fun o => ?_⟩
  have h1 := k.block w1.heap.size (by omega) (fun (e : w1.heap.size = g) => by omega)
  rw [heap_new] at h1
  simp [World.cell?, h1]

end Go.Proofs.YtkgkfgfnhjhabaaDoor
