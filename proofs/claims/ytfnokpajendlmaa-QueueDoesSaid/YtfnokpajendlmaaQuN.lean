/-
  A queue in a memory, fresh.
-/
import Derived.Test.YtfnokpajendlmaaQuL
namespace Go.Proofs.Ytfnokpajendlmaa
open Go.ChangeShapes Go.WideShapes Go.ChangeAt Go.RowKit
set_option linter.unusedVariables false
set_option linter.unusedSimpArgs false

def frS (e : Nat) : Int := 32 * (1 + (e % 20 : Nat))
def frQ (e : Nat) : Qu := ⟨16, frS e, 0, 0⟩
theorem frS_bd (e : Nat) : 32 ≤ frS e ∧ frS e ≤ 640 ∧ frS e % 32 = 0 := by unfold frS; omega
theorem frQ_right (e : Nat) : rightB (frS e) 32 = true := by have := frS_bd e; simp [rightB]; omega
theorem frQ_new (e : Nat) : newOk 16 (frS e) = true ∧ newQ 16 (frS e) = frQ e := by
  have : newOk 16 (frS e) = true := by simp [newOk, frQ_right]
  exact ⟨this, by rw [newQ, if_pos this]; rfl⟩
theorem frQ_fair (e : Nat) : (frQ e).Fair := by
  have := frS_bd e
  refine ⟨?_, ?_, ?_, ?_⟩ <;> simp only [frQ, i64B] <;> omega
theorem frQ_lies (e : Nat) : Lies (List.replicate 700 0) (frQ e) ∧ eachL (List.replicate 700 0) (frQ e) = [] ∧ lefN (frQ e) = 0 ∧ rooN (frQ e) = frS e / 32 - 1 :=
  Lies.fresh (by rw [List.length_replicate]; omega) (by decide) (frQ_right e) (by have := frS_bd e; rw [List.length_replicate]; omega)
/-- A memory and a queue's box, made since w. -/
structure FrI (w : World) (p g b : Nat) (bs : List Nat) (q : Qu) (W : World) : Prop where
  m : Since w p g 700 bs W
  q : CB W b 25 (Qu.cs q)
theorem FrI.later {w : World} {p g b : Nat} {bs : List Nat} {q : Qu} {W W' : World} (s : FrI w p g b bs q W) (k : Below W.heap.size W W') : FrI w p g b bs q W' := ⟨s.m.later k, s.q.below k⟩
theorem FrI.qk {w : World} {p g b : Nat} {bs : List Nat} {q q' : Qu} {W W' : World} (s : FrI w p g b bs q W) (k : QK W b q' W') (hb : w.heap.size ≤ b) : FrI w p g b bs q' W' := by
  obtain ⟨h1, h2⟩ := mem_apart s.m.mem s.q (by decide) (by decide)
  exact ⟨⟨s.m.mem.kept k.kept (fun e => h1 e.symm) (fun e => h2 e.symm), s.m.p, s.m.g, s.m.below.trans (k.kept.toBelow s.m.below.size (fun y e => by omega))⟩, k.q⟩
end Go.Proofs.Ytfnokpajendlmaa
