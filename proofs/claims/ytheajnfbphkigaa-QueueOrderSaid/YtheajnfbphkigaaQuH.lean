/-
  The document's examples hold (awake): for every call.
-/
import Derived.Test.YtheajnfbphkigaaQuG
import Derived.Test.YtheajnfbphkigaaMjC
import Derived.BigQuiet
import Derived.Deep.QuietTactic
namespace Go.Proofs.Ytheajnfbphkigaa
open Go.ChangeShapes Go.WideShapes Go.ChangeAt Go.RowKit
set_option linter.unusedVariables false
set_option linter.unusedSimpArgs false
attribute [local go_sem high] eql_cm neq_cm guard_cm

/-- A queue's box and its memory, both made since. -/
structure LQ (w : World) (p g cap b : Nat) (bs : List Nat) (q : Qu) (W : World) : Prop where
  m : MemAt 104 W p g cap bs
  q : CB W b 25 (Qu.cs q)
  below : Below w.heap.size w W
  lp : w.heap.size ≤ p
  lg : w.heap.size ≤ g
  lb : w.heap.size ≤ b
theorem LQ.later {w : World} {p g cap b : Nat} {bs : List Nat} {q : Qu} {W W' : World} (h : LQ w p g cap b bs q W) (k : Below W.heap.size W W') : LQ w p g cap b bs q W' := ⟨h.m.below k, h.q.below k, h.below.trans (k.mono h.below.size), h.lp, h.lg, h.lb⟩
theorem LQ.qm {w : World} {p g cap b : Nat} {bs bs' : List Nat} {q q' : Qu} {W W' : World} (h : LQ w p g cap b bs q W) (k : QM W p g cap b bs' q' W') : LQ w p g cap b bs' q' W' :=
  ⟨k.m, k.q, h.below.trans (k.kept.toBelow h.below.size (fun x e => by have := h.lg; have := h.lb; omega)), h.lp, h.lg, h.lb⟩
theorem LQ.qk {w : World} {p g cap b : Nat} {bs : List Nat} {q q' : Qu} {W W' : World} (h : LQ w p g cap b bs q W) (k : QK W b q' W') : LQ w p g cap b bs q' W' := by
  obtain ⟨h1, h2⟩ := mem_apart h.m h.q (by decide) (by decide)
  exact ⟨h.m.kept k.kept (fun e => h1 e.symm) (fun e => h2 e.symm), k.q, h.below.trans (k.kept.toBelow h.below.size (fun x e => by have := h.lb; omega)), h.lp, h.lg, h.lb⟩
theorem LQ.put {w : World} {p g cap b : Nat} {bs : List Nat} {q q' : Qu} {W : World} (h : LQ w p g cap b bs q W) (j : Nat) (u : Value) (hq : (Qu.cs q).setIfInBounds j u = Qu.cs q') : LQ w p g cap b bs q' (W.setCell ⟨b, j, none⟩ u) := h.qk ((QK.refl h.q).put j u hq)
theorem LQ.four {w : World} {p g cap b : Nat} {bs : List Nat} {a s r v : Int} {W : World} (h : LQ w p g cap b bs ⟨a, s, r, v⟩ W) : W.cell? ⟨b, 0, none⟩ = some (.int .i64 a) ∧ W.cell? ⟨b, 1, none⟩ = some (.int .i64 s) ∧ W.cell? ⟨b, 2, none⟩ = some (.int .i64 r) ∧ W.cell? ⟨b, 3, none⟩ = some (.int .i64 v) := CB.four h.q

def aS : Cm := ⟨5, 0, 0, 0, 0, 0, 0, 0, false⟩
def a0L : List Nat := List.replicate 200 0
def aT : Nat × Int × Qu × List Nat := fillS [aS, aS, aS] a0L ⟨8, 96, 0, 0⟩
theorem aS_fair : aS.Fair := by constructor <;> (unfold i64B; decide)
theorem ex_new : newOk 8 96 = true ∧ newQ 8 96 = ⟨8, 96, 0, 0⟩ := by decide
theorem ex_room : rooN ⟨8, 96, 0, 0⟩ = 2 := by decide
theorem ex_fill : aT.1 = 2 ∧ aT.2.1 = 2 ∧ aT.2.2.1 = ⟨8, 96, 0, 64⟩ := by decide +kernel
theorem ex_head : headV aT.2.2.2 ⟨8, 96, 0, 64⟩ = aS ∧ headE aT.2.2.2 ⟨8, 96, 0, 64⟩ = 0 := by decide +kernel
theorem ex_pass : passE ⟨8, 96, 0, 64⟩ = 0 ∧ passQ ⟨8, 96, 0, 64⟩ = ⟨8, 96, 32, 64⟩ := by decide
theorem ex_left : lefN ⟨8, 96, 32, 64⟩ = 1 ∧ rooN ⟨8, 96, 32, 64⟩ = 1 ∧ lefN ⟨8, 96, 32, 0⟩ = 2 := by decide
theorem ex_set : setE ⟨8, 96, 32, 64⟩ 33 = 1 ∧ setQ ⟨8, 96, 32, 64⟩ 33 = ⟨8, 96, 32, 64⟩ ∧ setE ⟨8, 96, 32, 64⟩ 0 = 0 ∧ setQ ⟨8, 96, 32, 64⟩ 0 = ⟨8, 96, 32, 0⟩ := by decide
theorem ex_wrong : wrongN (eachL aT.2.2.2 ⟨8, 96, 32, 0⟩) = 1 := by decide +kernel
theorem q_fair (a s r v : Int) (ha : i64B a) (hs : i64B s) (hr : i64B r) (hv : i64B v) : (⟨a, s, r, v⟩ : Qu).Fair := ⟨ha, hs, hr, hv⟩
theorem ex_fair : (⟨8, 96, 0, 0⟩ : Qu).Fair ∧ (⟨8, 96, 0, 64⟩ : Qu).Fair ∧ (⟨8, 96, 32, 64⟩ : Qu).Fair ∧ (⟨8, 96, 32, 0⟩ : Qu).Fair := by
  refine ⟨?_, ?_, ?_, ?_⟩ <;> (constructor <;> (unfold i64B; decide))

end Go.Proofs.Ytheajnfbphkigaa
