/-
  MemParts: which part of a window a window is, and whether two share a byte: its walk.
-/
import Derived.Test.YtkgkfgfnhjhabaaDoorMemK
import Derived.Deep.RegionHeld3
namespace Go.Proofs.YtkgkfgfnhjhabaaDoor
open Go.ChangeShapes Go.WideShapes Go.ChangeAt Go.RowKit
set_option linter.unusedVariables false
set_option linter.unusedSimpArgs false

theorem partV_form (a s x n : Int) : ∃ u v e : Int, partV a s x n = .tuple #[.agg #[.int .i64 u, .int .i64 v], .int .i64 e] := by
  unfold partV
  split
  · exact ⟨_, _, _, rfl⟩
  · exact ⟨_, _, _, rfl⟩
theorem meetB_comm (a s b t : Int) : meetB b t a s = meetB a s b t := by
  simp only [meetB]
  rw [Bool.and_comm (fairB b t)]
  congr 1
  rw [decide_eq_decide]
  omega

/-- A box of two cells. -/
structure Box2 (W : World) (p : Nat) (x y : Value) : Prop where
  c0 : W.cell? ⟨p, 0, none⟩ = some x
  c1 : W.cell? ⟨p, 1, none⟩ = some y
  lt : p < W.heap.size
theorem Box2.below {A W : World} {p : Nat} {x y : Value} (h : Box2 A p x y) (k : Below A.heap.size A W) : Box2 W p x y :=
  ⟨(k.cell (p := ⟨p, 0, none⟩) h.lt).trans h.c0, (k.cell (p := ⟨p, 1, none⟩) h.lt).trans h.c1, Nat.lt_of_lt_of_le h.lt k.size⟩
theorem Box2.alloc {A : World} {p : Nat} {x y : Value} (h : Box2 A p x y) (o : Obj) : Box2 (A.alloc o) p x y := h.below (bal A o)
theorem Box2.kept {A W : World} {p : Nat} {x y : Value} (h : Box2 A p x y) {bs : Nat → Prop} (k : Kept bs A W) (hp : ¬ bs p) : Box2 W p x y :=
  ⟨(World.cell?_of_block (w := A) (a := ⟨p, 0, none⟩) (k.block p h.lt hp)).trans h.c0, (World.cell?_of_block (w := A) (a := ⟨p, 1, none⟩) (k.block p h.lt hp)).trans h.c1, Nat.lt_of_lt_of_le h.lt k.size⟩
theorem box2_new (A : World) (x y : Value) (T : TypeId) : Box2 (A.alloc (.cells #[x, y] T)) A.heap.size x y :=
  ⟨cell_of_box (heap_new A (.cells #[x, y] T)) 0, cell_of_box (heap_new A (.cells #[x, y] T)) 1, by simp⟩

structure StP (w : World) (p1 p2 p3 p4 : Nat) (W : World) : Prop where
  below : Below w.heap.size w W
  l1 : p1 < W.heap.size
  l2 : p2 < W.heap.size
  l3 : p3 < W.heap.size
  l4 : p4 < W.heap.size
theorem StP.drew {w : World} {p1 p2 p3 p4 : Nat} {W : World} (h : StP w p1 p2 p3 p4 W) : StP w p1 p2 p3 p4 W.drew := ⟨h.below.drew, h.l1, h.l2, h.l3, h.l4⟩
theorem keepP {w W W' : World} {p1 p2 p3 p4 : Nat} {a s b t u v : Int} (k : Below W.heap.size W W') (h : W.cell? ⟨p1, 0, none⟩ = some (.int .i64 a) ∧ W.cell? ⟨p1, 1, none⟩ = some (.int .i64 s) ∧ W.cell? ⟨p2, 0, none⟩ = some (.int .i64 b) ∧ W.cell? ⟨p2, 1, none⟩ = some (.int .i64 t) ∧ W.cell? ⟨p3, 0, none⟩ = some (.int .i64 u) ∧ W.cell? ⟨p3, 1, none⟩ = some (.int .i64 v) ∧ W.cell? ⟨p4, 0, none⟩ = some (.int .i64 u) ∧ W.cell? ⟨p4, 1, none⟩ = some (.int .i64 v) ∧ StP w p1 p2 p3 p4 W) :
    W'.cell? ⟨p1, 0, none⟩ = some (.int .i64 a) ∧ W'.cell? ⟨p1, 1, none⟩ = some (.int .i64 s) ∧ W'.cell? ⟨p2, 0, none⟩ = some (.int .i64 b) ∧ W'.cell? ⟨p2, 1, none⟩ = some (.int .i64 t) ∧ W'.cell? ⟨p3, 0, none⟩ = some (.int .i64 u) ∧ W'.cell? ⟨p3, 1, none⟩ = some (.int .i64 v) ∧ W'.cell? ⟨p4, 0, none⟩ = some (.int .i64 u) ∧ W'.cell? ⟨p4, 1, none⟩ = some (.int .i64 v) ∧ StP w p1 p2 p3 p4 W' := by
  obtain ⟨c1, c2, c3, c4, c5, c6, c7, c8, ⟨hb, l1, l2, l3, l4⟩⟩ := h
  have hz := k.size
  exact ⟨(k.cell (p := ⟨p1, 0, none⟩) l1).trans c1, (k.cell (p := ⟨p1, 1, none⟩) l1).trans c2, (k.cell (p := ⟨p2, 0, none⟩) l2).trans c3, (k.cell (p := ⟨p2, 1, none⟩) l2).trans c4, (k.cell (p := ⟨p3, 0, none⟩) l3).trans c5, (k.cell (p := ⟨p3, 1, none⟩) l3).trans c6, (k.cell (p := ⟨p4, 0, none⟩) l4).trans c7, (k.cell (p := ⟨p4, 1, none⟩) l4).trans c8, ⟨hb.trans (k.mono hb.size), by omega, by omega, by omega, by omega⟩⟩

end Go.Proofs.YtkgkfgfnhjhabaaDoor
