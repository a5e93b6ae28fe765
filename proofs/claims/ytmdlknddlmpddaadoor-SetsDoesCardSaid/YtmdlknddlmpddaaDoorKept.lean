/-
  A world that lies as another one did but for some blocks. Nothing of the program.
-/
import Derived.Test.YtmdlknddlmpddaaDoorIter
import Derived.Test.YtmdlknddlmpddaaDoorHi
namespace Go.Proofs.YtmdlknddlmpddaaDoor
open Go.ChangeShapes Go.WideShapes Go.ChangeAt Go.RowKit Go.Shelf
set_option linter.unusedVariables false

/-- Whatever lay in A lies so in W, but for the blocks bs. -/
structure Kept (bs : Nat → Prop) (A W : World) : Prop where
  os : W.os = A.os
  tape : W.tape = A.tape
  output : W.output = A.output
  size : A.heap.size ≤ W.heap.size
  block : ∀ k, k < A.heap.size → ¬ bs k → W.heap[k]? = A.heap[k]?
theorem Kept.refl (bs : Nat → Prop) (A : World) : Kept bs A A := ⟨rfl, rfl, rfl, Nat.le_refl _, fun _ _ _ => rfl⟩
theorem Kept.trans {bs : Nat → Prop} {A B C : World} (h : Kept bs A B) (k : Kept bs B C) : Kept bs A C :=
  ⟨k.os.trans h.os, k.tape.trans h.tape, k.output.trans h.output, Nat.le_trans h.size k.size, fun i hi hn => (k.block i (Nat.lt_of_lt_of_le hi h.size) hn).trans (h.block i hi hn)⟩
theorem Kept.below {bs : Nat → Prop} {A B C : World} (h : Kept bs A B) (k : Below B.heap.size B C) : Kept bs A C :=
  h.trans ⟨k.os, k.tape, k.output, k.size, fun i hi _ => k.block i hi⟩
theorem Kept.grown {bs : Nat → Prop} {A B C : World} {row : Option Nat} (h : Kept bs A B) (hg : B.grownBy C row) (hr : ∀ r, row = some r → bs r ∨ A.heap.size ≤ r) : Kept bs A C :=
  ⟨hg.os.trans h.os, hg.tape.trans h.tape, hg.output.trans h.output, Nat.le_trans h.size hg.size, fun i hi hn => (hg.block i (Nat.lt_of_lt_of_le hi h.size) (fun e => by
    rcases hr i e.symm with x | x
    · exact hn x
    · omega)).trans (h.block i hi hn)⟩
theorem Kept.toBelow {bs : Nat → Prop} {A B : World} (h : Kept bs A B) {n : Nat} (hn : n ≤ A.heap.size) (hb : ∀ k, bs k → n ≤ k) : Below n A B :=
  ⟨h.os, h.tape, h.output, h.size, fun k hk => h.block k (by omega) (fun x => by have := hb k x; omega)⟩
theorem Kept.boxed {bs : Nat → Prop} {A B : World} (h : Kept bs A B) {b : Nat} {t : TypeId} {v : Value} (g : Boxed A b t v) (hn : ¬ bs b) : Boxed B b t v := (h.block b g.lt hn).trans g
theorem Kept.cell {bs : Nat → Prop} {A B : World} (h : Kept bs A B) {b o : Nat} {v : Value} (g : A.cell? ⟨b, o, none⟩ = some v) (hn : ¬ bs b) : B.cell? ⟨b, o, none⟩ = some v :=
  (World.cell?_of_block (w := A) (h.block b (World.block_lt_of_cell? A _ g) hn)).trans g
theorem Kept.ownFrom {β : Type} {bs : Nat → Prop} {A : World} {B : Nat} (hB : A.heap.size ≤ B) : OwnFrom B (fun (_ : β) W => Kept bs A W) := fun _ _ _ _ hs hg hr => hs.grown hg (fun r e => .inr (Nat.le_trans hB (hr r e).1))
theorem Kept.of_append {bs : Nat → Prop} {A W W' : World} {ob hi : Nat} (h : Kept bs A W) (hb : Below ob W W') (hs : Stays (ob + 1) hi W W') (hh : A.heap.size ≤ hi) (ho : bs ob) : Kept bs A W' :=
  ⟨hb.os.trans h.os, hb.tape.trans h.tape, hb.output.trans h.output, Nat.le_trans h.size hb.size, fun k hk hn => by
    have hne : k ≠ ob := fun e => hn (by rw [e]; exact ho)
    refine Eq.trans ?_ (h.block k hk hn)
    rcases Nat.lt_or_ge k ob with x | x
    · exact hb.block k x
    · exact hs k (by omega) (by omega)⟩

end Go.Proofs.YtmdlknddlmpddaaDoor
