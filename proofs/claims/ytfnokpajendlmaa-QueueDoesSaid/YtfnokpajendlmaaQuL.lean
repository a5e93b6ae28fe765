/-
  Both memories and a queue's box; QueueEmpty.
-/
import Derived.Test.YtfnokpajendlmaaQjH
namespace Go.Proofs.Ytfnokpajendlmaa
open Go.ChangeShapes Go.WideShapes Go.ChangeAt Go.RowKit
set_option linter.unusedVariables false
set_option linter.unusedSimpArgs false

/-- Both memories, and a queue's box. -/
structure TQ (w : World) (p g c q h d b : Nat) (bs bs2 : List Nat) (x : Qu) (W : World) : Prop where
  t : Two w p g c q h d bs bs2 W
  q : CB W b 25 (Qu.cs x)
  lb : w.heap.size ≤ b
theorem TQ.later {w : World} {p g c q h d b : Nat} {bs bs2 : List Nat} {x : Qu} {W W' : World} (s : TQ w p g c q h d b bs bs2 x W) (k : Below W.heap.size W W') : TQ w p g c q h d b bs bs2 x W' := ⟨s.t.later k, s.q.below k, s.lb⟩
theorem TQ.ne {w : World} {p g c q h d b : Nat} {bs bs2 : List Nat} {x : Qu} {W : World} (s : TQ w p g c q h d b bs bs2 x W) : b ≠ p ∧ b ≠ g ∧ b ≠ q ∧ b ≠ h := by
  obtain ⟨h1, h2⟩ := mem_apart s.t.mem s.q (by decide) (by decide)
  obtain ⟨h3, h4⟩ := mem_apart s.t.ref s.q (by decide) (by decide)
  exact ⟨h1, h2, h3, h4⟩
theorem TQ.qm {w : World} {p g c q h d b : Nat} {bs bs' bs2 : List Nat} {x x' : Qu} {W W' : World} (s : TQ w p g c q h d b bs bs2 x W) (k : QM W p g c b bs' x' W') : TQ w p g c q h d b bs' bs2 x' W' := by
  obtain ⟨h1, h2, h3, h4⟩ := s.ne
  have t := s.t
  refine ⟨⟨k.m, t.ref.kept k.kept (fun e => e.elim (fun e => t.ref.neb t.mem e) (fun e => h3 e.symm)) (fun e => e.elim (fun e => t.gh e.symm) (fun e => h4 e.symm)), t.below.trans (k.kept.toBelow t.sz (fun y e => by have := t.lg; have := s.lb; omega)), t.lp, t.lg, t.lq, t.lh, t.gh, t.pq⟩, k.q, s.lb⟩
theorem TQ.qk {w : World} {p g c q h d b : Nat} {bs bs2 : List Nat} {x x' : Qu} {W W' : World} (s : TQ w p g c q h d b bs bs2 x W) (k : QK W b x' W') : TQ w p g c q h d b bs bs2 x' W' := by
  obtain ⟨h1, h2, h3, h4⟩ := s.ne
  have t := s.t
  exact ⟨⟨t.mem.kept k.kept (fun e => h1 e.symm) (fun e => h2 e.symm), t.ref.kept k.kept (fun e => h3 e.symm) (fun e => h4 e.symm), t.below.trans (k.kept.toBelow t.sz (fun y e => by have := s.lb; omega)), t.lp, t.lg, t.lq, t.lh, t.gh, t.pq⟩, k.q, s.lb⟩
/-- And the queue as it was, and a command. -/
structure EmS (w : World) (p g c q h d b cb wb : Nat) (bs bs2 : List Nat) (x o : Qu) (y : Cm) (W : World) : Prop where
  s : TQ w p g c q h d b bs bs2 x W
  c : CB W cb 36 (Cm.cs y)
  o : CB W wb 25 (Qu.cs o)
  ne : wb ≠ b
theorem EmS.later {w : World} {p g c q h d b cb wb : Nat} {bs bs2 : List Nat} {x o : Qu} {y : Cm} {W W' : World} (s : EmS w p g c q h d b cb wb bs bs2 x o y W) (k : Below W.heap.size W W') : EmS w p g c q h d b cb wb bs bs2 x o y W' := ⟨s.s.later k, s.c.below k, s.o.below k, s.ne⟩
theorem EmS.cb {w : World} {p g c q h d b cb wb : Nat} {bs bs2 : List Nat} {x o : Qu} {y : Cm} {W : World} (s : EmS w p g c q h d b cb wb bs bs2 x o y W) : cb ≠ b := by
  intro e
  have h1 : W.heap[cb]? = _ := s.c
  rw [e, show W.heap[b]? = _ from s.s.q] at h1
  simp at h1
theorem EmS.qk {w : World} {p g c q h d b cb wb : Nat} {bs bs2 : List Nat} {x x' o : Qu} {y : Cm} {W W' : World} (s : EmS w p g c q h d b cb wb bs bs2 x o y W) (k : QK W b x' W') : EmS w p g c q h d b cb wb bs bs2 x' o y W' :=
  ⟨s.s.qk k, s.c.keptB k.kept s.cb, s.o.keptB k.kept s.ne, s.ne⟩
theorem EmS.qm {w : World} {p g c q h d b cb wb : Nat} {bs bs' bs2 : List Nat} {x x' o : Qu} {y : Cm} {W W' : World} (s : EmS w p g c q h d b cb wb bs bs2 x o y W) (k : QM W p g c b bs' x' W') : EmS w p g c q h d b cb wb bs' bs2 x' o y W' :=
  ⟨s.s.qm k, s.c.keptB k.kept (fun e => e.elim (mem_apart s.s.t.mem s.c (by decide) (by decide)).2 s.cb), s.o.keptB k.kept (fun e => e.elim (mem_apart s.s.t.mem s.o (by decide) (by decide)).2 s.ne), s.ne⟩
theorem EmS.four {w : World} {p g c q h d b cb wb : Nat} {bs bs2 : List Nat} {o : Qu} {a s r v : Int} {y : Cm} {W : World} (k : EmS w p g c q h d b cb wb bs bs2 ⟨a, s, r, v⟩ o y W) : W.cell? ⟨b, 0, none⟩ = some (.int .i64 a) ∧ W.cell? ⟨b, 1, none⟩ = some (.int .i64 s) ∧ W.cell? ⟨b, 2, none⟩ = some (.int .i64 r) ∧ W.cell? ⟨b, 3, none⟩ = some (.int .i64 v) := CB.four k.s.q
theorem EmS.was {w : World} {p g c q h d b cb wb : Nat} {bs bs2 : List Nat} {x : Qu} {a s r v : Int} {y : Cm} {W : World} (k : EmS w p g c q h d b cb wb bs bs2 x ⟨a, s, r, v⟩ y W) : W.cell? ⟨wb, 0, none⟩ = some (.int .i64 a) ∧ W.cell? ⟨wb, 1, none⟩ = some (.int .i64 s) ∧ W.cell? ⟨wb, 2, none⟩ = some (.int .i64 r) ∧ W.cell? ⟨wb, 3, none⟩ = some (.int .i64 v) := CB.four k.o

end Go.Proofs.Ytfnokpajendlmaa
