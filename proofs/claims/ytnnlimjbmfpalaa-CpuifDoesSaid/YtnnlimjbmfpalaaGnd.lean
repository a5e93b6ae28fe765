/-
  Ground for layer 8: a world kept but for some blocks; a block of cells.
-/
import Derived.Test.YtnnlimjbmfpalaaHi
import Derived.WalkKit
import Derived.ProofKit
import Derived.BigQuiet
import Derived.BigRegion
import Derived.Deep.QuietTactic
import Derived.Laws.CopyOwn
import Derived.Laws.IdiomCopy
import Derived.OwnWalk
import Derived.Lib.SliceRun
import Derived.Sort.Row
import Derived.RangeFuncRecord
namespace Go.Proofs.Ytnnlimjbmfpalaa
open Go.ChangeShapes Go.WideShapes Go.ChangeAt Go.RowKit
set_option linter.unusedVariables false

theorem Below.grew {W W' : World} (h : Below W.heap.size W W') : W.grownBy W' none := ⟨h.os, h.tape, h.output, h.size, fun k hk _ => h.block k hk⟩

/-- Whatever lay in A lies so in W, but for the blocks bs. -/
structure Kept (bs : Nat → Prop) (A W : World) : Prop where
  os : W.os = A.os
  tape : W.tape = A.tape
  output : W.output = A.output
  size : A.heap.size ≤ W.heap.size
  block : ∀ k, k < A.heap.size → ¬ bs k → W.heap[k]? = A.heap[k]?
theorem Kept.refl (bs : Nat → Prop) (A : World) : Kept bs A A := ⟨rfl, rfl, rfl, Nat.le_refl _, fun _ _ _ => rfl⟩
theorem Kept.trans {bs : Nat → Prop} {A B C : World} (h : Kept bs A B) (k : Kept bs B C) : Kept bs A C :=
  ⟨k.os.trans h.os, k.tape.trans h.tape, k.output.trans h.output, Nat.le_trans h.size k.size, fun i hi hn => (k.block i (Nat.lt_of_lt_of_le hi h.size) hn).trans (h.block i hi hn)⟩
theorem Kept.mono {bs cs : Nat → Prop} {A B : World} (h : Kept bs A B) (hs : ∀ k, bs k → cs k) : Kept cs A B :=
  ⟨h.os, h.tape, h.output, h.size, fun i hi hn => h.block i hi (fun x => hn (hs i x))⟩
theorem Kept.mono' {bs cs : Nat → Prop} {A B : World} (h : Kept bs A B) (hs : ∀ k, k < A.heap.size → bs k → cs k) : Kept cs A B :=
  ⟨h.os, h.tape, h.output, h.size, fun i hi hn => h.block i hi (fun x => hn (hs i hi x))⟩
theorem Kept.of {bs : Nat → Prop} {A B : World} (k : Below A.heap.size A B) : Kept bs A B := ⟨k.os, k.tape, k.output, k.size, fun i hi _ => k.block i hi⟩
theorem Kept.below {bs : Nat → Prop} {A B C : World} (h : Kept bs A B) (k : Below B.heap.size B C) : Kept bs A C := h.trans (Kept.of k)
theorem Kept.toBelow {bs : Nat → Prop} {A B : World} (h : Kept bs A B) {n : Nat} (hn : n ≤ A.heap.size) (hb : ∀ k, bs k → n ≤ k) : Below n A B :=
  ⟨h.os, h.tape, h.output, h.size, fun k hk => h.block k (by omega) (fun x => by have := hb k x; omega)⟩
theorem Kept.none {A B : World} (h : Kept (fun _ => False) A B) : Below A.heap.size A B := h.toBelow (Nat.le_refl _) (fun _ x => x.elim)

theorem bcell {W w1 : World} (hb : Below W.heap.size W w1) : (∀ b o, b < W.heap.size → w1.cell? ⟨b, o, none⟩ = W.cell? ⟨b, o, none⟩) ∧ (∀ b o, b < W.heap.size → w1.frozen? ⟨b, o, none⟩ = W.frozen? ⟨b, o, none⟩) :=
  ⟨fun b o h => hb.cell (p := ⟨b, o, none⟩) h, fun b o h => hb.frozen (p := ⟨b, o, none⟩) h⟩


theorem bal (w : World) (o : Obj) : Below w.heap.size w (w.alloc o) := (Below.refl _ _).alloc (Nat.le_refl _) o
theorem bald (w : World) (o : Obj) (n : Nat) : Below w.heap.size w ((w.alloc o).drewN n) := ⟨(bal w o).os, (bal w o).tape, (bal w o).output, (bal w o).size, (bal w o).block⟩
theorem Below.drewN {n m : Nat} {A B : World} (h : Below n A B) : Below n A (B.drewN m) := ⟨h.os, h.tape, h.output, h.size, h.block⟩


/-- A block of cells of a type. -/
def CB (W : World) (B : Nat) (t : TypeId) (cs : Array Value) : Prop := W.heap[B]? = some (.cells cs t (0, 0))
theorem CB.lt {W : World} {B : Nat} {t : TypeId} {cs : Array Value} (h : CB W B t cs) : B < W.heap.size := (Array.getElem?_eq_some_iff.1 h).1
theorem CB.cell {W : World} {B : Nat} {t : TypeId} {cs : Array Value} (h : CB W B t cs) (j : Nat) : W.cell? ⟨B, j, none⟩ = cs[j]? := by simp [World.cell?, show W.heap[B]? = _ from h]
theorem CB.frozen {W : World} {B : Nat} {t : TypeId} {cs : Array Value} (h : CB W B t cs) (o : Nat) : W.frozen? ⟨B, o, none⟩ = false := by simp [World.frozen?, show W.heap[B]? = _ from h]
theorem CB.new (W : World) (t : TypeId) (cs : Array Value) : CB (W.alloc (.cells cs t)) W.heap.size t cs := World.alloc_heap_new W _
theorem CB.below {W W' : World} {B : Nat} {t : TypeId} {cs : Array Value} (h : CB W B t cs) (k : Below W.heap.size W W') : CB W' B t cs := (k.block B h.lt).trans h
theorem CB.alloc {W : World} {B : Nat} {t : TypeId} {cs : Array Value} (h : CB W B t cs) (o : Obj) : CB (W.alloc o) B t cs := h.below (bal W o)
theorem CB.set {W : World} {B : Nat} {t : TypeId} {cs : Array Value} (h : CB W B t cs) (o : Nat) (v : Value) : CB (W.setCell ⟨B, o, none⟩ v) B t (cs.setIfInBounds o v) := by
  rw [Go.Sort.setCell_eq]
  show (W.heap.modify B _)[B]? = _
  rw [Array.getElem?_modify, if_pos rfl, show W.heap[B]? = _ from h]
  rfl
theorem CB.other {W : World} {B : Nat} {t : TypeId} {cs : Array Value} (h : CB W B t cs) (b o : Nat) (v : Value) (hne : B ≠ b) : CB (W.setCell ⟨b, o, none⟩ v) B t cs := (Below.heap_setCell W ⟨b, o, none⟩ v B hne).trans h
theorem CB.kept {W W' : World} {B : Nat} {t : TypeId} {cs : Array Value} {row : Option Nat} (h : CB W B t cs) (hg : W.grownBy W' row) (hne : some B ≠ row) : CB W' B t cs := (hg.block B h.lt hne).trans h
theorem CB.drew {W : World} {B : Nat} {t : TypeId} {cs : Array Value} (h : CB W B t cs) : CB W.drew B t cs := h
theorem box_call {w w1 : World} {cs : Array Value} {t : TypeId} (hb : Below (w.alloc (.cells cs t)).heap.size (w.alloc (.cells cs t)) w1) : CB w1 w.heap.size t cs ∧ Below w.heap.size w w1 :=
  ⟨(CB.new w t cs).below hb, (bal w _).trans (hb.mono (by simp))⟩

end Go.Proofs.Ytnnlimjbmfpalaa
