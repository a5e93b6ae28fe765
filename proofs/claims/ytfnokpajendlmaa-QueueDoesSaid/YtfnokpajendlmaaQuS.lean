/-
  QueueLoop.
-/
import Derived.Test.YtfnokpajendlmaaQuN
namespace Go.Proofs.Ytfnokpajendlmaa
open Go.ChangeShapes Go.WideShapes Go.ChangeAt Go.RowKit
set_option linter.unusedVariables false
set_option linter.unusedSimpArgs false
attribute [local go_sem high] eql_cm neq_cm guard_cm
attribute [local go_sem] Oper.semAt_some

theorem Since.from_ {w w1 : World} {p g cap : Nat} {bs : List Nat} {W : World} (h : Since w1 p g cap bs W) (k : Below w.heap.size w w1) : Since w p g cap bs W :=
  ⟨h.mem, Nat.le_trans k.size h.p, Nat.le_trans k.size h.g, k.trans (h.below.mono k.size)⟩
theorem FrI.qm_ {w : World} {p g b : Nat} {bs bs' : List Nat} {q q' : Qu} {W W' : World} (s : FrI w p g b bs q W) (k : QM W p g 700 b bs' q' W') (hb : w.heap.size ≤ b) : FrI w p g b bs' q' W' :=
  ⟨⟨k.m, s.m.p, s.m.g, s.m.below.trans (k.kept.toBelow s.m.below.size (fun y e => by have := s.m.g; omega))⟩, k.q⟩
theorem results_b {fn : Func} {c : Tmp} (h : fn.results = #[.cell c 4]) (tmps : Array Value) (w : World) (b : Nat) (v : Value) (hp : tmps.getD c undef = .pointer (some ⟨b, 0, none⟩)) (hb : CB w b 4 #[v]) :
    (results fn tmps).run Try.prog w = .ok v w := by
  have hp' : tmps[c]?.getD undef = .pointer (some ⟨b, 0, none⟩) := by simpa using hp
  have c0 := hb.cell 0
  simp at c0
  simp [results, h, go_sem, hp', c0]
theorem wrongN_zero : ∀ l : List Cm, wrongN (l.map fun c => (c, (0 : Int))) = 0
  | [] => rfl
  | c :: l => by have h := wrongN_zero l; simp [wrongN] at h ⊢
/-- The three boxes that the law lays first, and what waits behind them. -/
structure LpA (w : World) (sv : Value) (most : Nat) (a : Option Addr) (B off : Nat) (cs : List Cm) (W : World) : Prop where
  c : CB W w.heap.size 78 #[sv]
  o : CB W (w.heap.size + 1) 5 #[.int .u8 most]
  r : CB W (w.heap.size + 2) 4 #[.bool false]
  s : CmdsAt W a B off cs
  lt : cs ≠ [] → B < w.heap.size
theorem LpA.later {w : World} {sv : Value} {most : Nat} {a : Option Addr} {B off : Nat} {cs : List Cm} {W W' : World} (h : LpA w sv most a B off cs W) (k : Below W.heap.size W W') : LpA w sv most a B off cs W' := ⟨h.c.below k, h.o.below k, h.r.below k, h.s.below k, h.lt⟩
theorem LpA.kept {w : World} {sv : Value} {most : Nat} {a : Option Addr} {B off : Nat} {cs : List Cm} {W W' : World} {bs : Nat → Prop} (h : LpA w sv most a B off cs W) (k : Kept bs W W') (hn : ∀ i, bs i → w.heap.size + 3 ≤ i) : LpA w sv most a B off cs W' :=
  ⟨h.c.keptB k (fun e => by have := hn _ e; omega), h.o.keptB k (fun e => by have := hn _ e; omega), h.r.keptB k (fun e => by have := hn _ e; omega), h.s.kept k (fun hne e => by have := hn _ e; have := h.lt hne; omega), h.lt⟩
theorem LpA.three {w : World} {sv : Value} {most : Nat} {a : Option Addr} {B off : Nat} {cs : List Cm} {W : World} (h : LpA w sv most a B off cs W) : W.cell? ⟨w.heap.size, 0, none⟩ = some sv ∧ W.cell? ⟨w.heap.size + 1, 0, none⟩ = some (.int .u8 most) ∧ W.cell? ⟨w.heap.size + 2, 0, none⟩ = some (.bool false) := ⟨h.c.cell 0, h.o.cell 0, h.r.cell 0⟩

theorem kept_grown_ {A A' : World} {row : Option Nat} (hg : A.grownBy A' row) : Kept (fun i => row = some i) A A' :=
  ⟨hg.os, hg.tape, hg.output, hg.size, fun i hi' hn => hg.block i hi' (fun e => hn e.symm)⟩
/-- Ahead of the loop and in it. -/
structure LpI (w : World) (p g b nb : Nat) (ln : List Nat) (q : Qu) (sv : Value) (most : Nat) (a : Option Addr) (B off : Nat) (cs : List Cm) (n k : Nat) (W : World) : Prop where
  f : FrI w p g b ln q W
  a : LpA w sv most a B off cs W
  n : CB W nb 3 #[.int .i64 n]
  k : CB W (nb + 1) 3 #[.int .i64 k]
theorem LpI.later {w : World} {p g b nb : Nat} {ln : List Nat} {q : Qu} {sv : Value} {most : Nat} {a : Option Addr} {B off : Nat} {cs : List Cm} {n k : Nat} {W W' : World} (h : LpI w p g b nb ln q sv most a B off cs n k W) (z : Below W.heap.size W W') : LpI w p g b nb ln q sv most a B off cs n k W' := ⟨h.f.later z, h.a.later z, h.n.below z, h.k.below z⟩
theorem LpI.kept {w : World} {p g b nb B0 : Nat} {ln : List Nat} {q : Qu} {sv : Value} {most : Nat} {a : Option Addr} {B off : Nat} {cs : List Cm} {n k : Nat} {W W' : World} {bs : Nat → Prop} (h : LpI w p g b nb ln q sv most a B off cs n k W) (z : Kept bs W W') (hp : p < B0) (hg : g < B0) (hb : b < B0) (hnb : nb + 1 < B0) (hw : w.heap.size + 3 ≤ B0) (hn : ∀ i, bs i → B0 ≤ i) : LpI w p g b nb ln q sv most a B off cs n k W' :=
  ⟨⟨⟨h.f.m.mem.kept z (fun e => by have := hn _ e; omega) (fun e => by have := hn _ e; omega), h.f.m.p, h.f.m.g, h.f.m.below.trans (z.toBelow h.f.m.below.size (fun i e => by have := hn _ e; omega))⟩, h.f.q.keptB z (fun e => by have := hn _ e; omega)⟩,
    h.a.kept z (fun i e => by have := hn _ e; omega), h.n.keptB z (fun e => by have := hn _ e; omega), h.k.keptB z (fun e => by have := hn _ e; omega)⟩
theorem LpI.inc {w : World} {p g b nb : Nat} {ln : List Nat} {q : Qu} {sv : Value} {most : Nat} {a : Option Addr} {B off : Nat} {cs : List Cm} {n k : Nat} {W : World} (h : LpI w p g b nb ln q sv most a B off cs n k W) (hp : p < nb) (hg : g < nb) (hb : b < nb) (hw : w.heap.size + 3 ≤ nb) : LpI w p g b nb ln q sv most a B off cs n (k + 1) (W.setCell ⟨nb + 1, 0, none⟩ (.int .i64 ((k : Int) + 1))) := by
  have z := kept_setCell W (nb + 1) 0 (.int .i64 ((k : Int) + 1))
  exact ⟨⟨⟨h.f.m.mem.kept z (by omega) (by omega), h.f.m.p, h.f.m.g, h.f.m.below.trans (z.toBelow h.f.m.below.size (fun i e => by omega))⟩, h.f.q.keptB z (by omega)⟩,
    h.a.kept z (fun i e => by omega), h.n.keptB z (by omega), by have := h.k.set 0 (.int .i64 ((k : Int) + 1)); simpa using this⟩
theorem lp_abl {w : World} {p g b nb B0 k0 : Nat} {ln : List Nat} {q : Qu} {sv : Value} {most : Nat} {a : Option Addr} {B off : Nat} {cs : List Cm} {n : Nat} (hp : p < B0) (hg : g < B0) (hb : b < B0) (hnb : nb + 1 < B0) (hw : w.heap.size + 3 ≤ B0) : AbL B0 k0 (fun (pre : List (Cm × Int)) V => LpI w p g b nb ln q sv most a B off cs n pre.length V) := fun s A A' row hs hgr hr =>
  hs.kept (kept_grown_ hgr) hp hg hb hnb hw (fun i e => by rcases hr i e with ⟨h1, h2, _⟩ | ⟨h1, h2⟩ <;> omega)
end Go.Proofs.Ytfnokpajendlmaa
