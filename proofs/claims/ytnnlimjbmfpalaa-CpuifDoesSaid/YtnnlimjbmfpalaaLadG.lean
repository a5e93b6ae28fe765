/-
  Package ladder: Only and its iterator, for every loop body: the places of one group where something runs, rising.
-/
import Derived.Test.YtnnlimjbmfpalaaLadF
namespace Go.Proofs.Ytnnlimjbmfpalaa
open Go.ChangeShapes Go.WideShapes Go.ChangeAt Go.RowKit Go.Shelf
set_option linter.unusedVariables false
attribute [local go_sem] Oper.semAt_some

/-- Those of a list that lie in a group. -/
def inG (g : Int) (xs : List Nat) : List Nat := xs.filter fun i => decide ((i : Int) % 2 = g)
theorem inG_yes {g : Int} {x : Nat} (xs : List Nat) (h : (x : Int) % 2 = g) : inG g (xs ++ [x]) = inG g xs ++ [x] := by simp [inG, h]
theorem inG_no {g : Int} {x : Nat} (xs : List Nat) (h : ¬ (x : Int) % 2 = g) : inG g (xs ++ [x]) = inG g xs := by simp [inG, h]
theorem inG_pre {g : Int} {pre xs : List Nat} (h : pre <+: xs) : inG g pre <+: inG g xs := by
  obtain ⟨r, rfl⟩ := h
  unfold inG
  rw [List.filter_append]
  exact List.prefix_append _ _
def onlyL (f : Rg) (g : Int) : List Nat := inG g (rungs f)
abbrev enc1 (i : Nat) : Array Value := #[.int .i64 (8 * ((i : Int) / 2))]

/-- What a round over one group's places keeps. -/
structure KpO (c B : Nat) (W W' : World) : Prop where
  size : W.heap.size ≤ W'.heap.size
  same : ∀ i, (c ≤ i ∧ i < c + 2) ∨ (B ≤ i ∧ i < B + 4) → W'.heap[i]? = W.heap[i]?
theorem KpO.trans {c B : Nat} {X Y Z : World} (h : KpO c B X Y) (k : KpO c B Y Z) : KpO c B X Z := ⟨Nat.le_trans h.size k.size, fun i hi => (k.same i hi).trans (h.same i hi)⟩
theorem KpO.of_below {c B : Nat} {W W' : World} (h : Below W.heap.size W W') (hc : c + 2 ≤ W.heap.size) (hB : B + 4 ≤ W.heap.size) : KpO c B W W' := ⟨h.size, fun i hi => h.block i (by omega)⟩
theorem KpO.refl (c B : Nat) (W : World) : KpO c B W W := ⟨Nat.le_refl _, fun _ _ => rfl⟩

/-- The iterator's own box, and the group that it has captured. -/
structure OB (l c B : Nat) (g : Int) (V : World) : Prop where
  y : CB V B 52 #[.func (.yield l) #[] #[]]
  g : CB V (c + 1) 3 #[.int .i64 g]
theorem OB.kept {l c B : Nat} {g : Int} {V V' : World} (h : OB l c B g V) (k : ∀ i, (c ≤ i ∧ i < c + 2) ∨ (B ≤ i ∧ i < B + 4) → V'.heap[i]? = V.heap[i]?) : OB l c B g V' :=
  ⟨(k _ (by omega)).trans h.y, (k _ (by omega)).trans h.g⟩

end Go.Proofs.Ytnnlimjbmfpalaa
