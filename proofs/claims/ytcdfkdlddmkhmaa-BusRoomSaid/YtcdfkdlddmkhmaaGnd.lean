/-
  Ground for layer 5: a world kept but for some blocks; spans, and slices of spans. Nothing of the program.
-/
import Derived.Test.YtcdfkdlddmkhmaaHi
import Derived.WalkKit
import Derived.ProofKit
import Derived.BigQuiet
import Derived.BigRegion
import Derived.Deep.QuietTactic
import Derived.Laws.CopyOwn
import Derived.Laws.IdiomCopy
import Derived.OwnWalk
import Derived.Lib.SliceRun
namespace Go.Proofs.Ytcdfkdlddmkhmaa
open Go.ChangeShapes Go.WideShapes Go.ChangeAt Go.RowKit
set_option linter.unusedVariables false

theorem Below.grew {W W' : World} (h : Below W.heap.size W W') : W.grownBy W' none := ⟨h.os, h.tape, h.output, h.size, fun k hk _ => h.block k hk⟩

/-- Whatever lay in A lies so in W, but for the blocks bs. -/
structure Kept (bs : Nat → Prop) (A W : World) : Prop where
  os : W.os = A.os
  tape : W.tape = A.tape
  output : W.output = A.output
  size : A.heap.size ≤ W.heap.size
  block : ∀ k, k < A.heap.size → ¬ bs k → W.heap[k]? = A.heap[k]?
theorem Kept.refl (bs : Nat → Prop) (A : World) : Kept bs A A := ⟨rfl, rfl, rfl, Nat.le_refl _, fun _ _ _ => rfl⟩
theorem Kept.trans {bs : Nat → Prop} {A B C : World} (h : Kept bs A B) (k : Kept bs B C) : Kept bs A C :=
  ⟨k.os.trans h.os, k.tape.trans h.tape, k.output.trans h.output, Nat.le_trans h.size k.size, fun i hi hn => (k.block i (Nat.lt_of_lt_of_le hi h.size) hn).trans (h.block i hi hn)⟩
theorem Kept.mono {bs cs : Nat → Prop} {A B : World} (h : Kept bs A B) (hs : ∀ k, bs k → cs k) : Kept cs A B :=
  ⟨h.os, h.tape, h.output, h.size, fun i hi hn => h.block i hi (fun x => hn (hs i x))⟩
theorem Kept.mono' {bs cs : Nat → Prop} {A B : World} (h : Kept bs A B) (hs : ∀ k, k < A.heap.size → bs k → cs k) : Kept cs A B :=
  ⟨h.os, h.tape, h.output, h.size, fun i hi hn => h.block i hi (fun x => hn (hs i hi x))⟩
theorem Kept.of {bs : Nat → Prop} {A B : World} (k : Below A.heap.size A B) : Kept bs A B := ⟨k.os, k.tape, k.output, k.size, fun i hi _ => k.block i hi⟩
theorem Kept.below {bs : Nat → Prop} {A B C : World} (h : Kept bs A B) (k : Below B.heap.size B C) : Kept bs A C := h.trans (Kept.of k)
theorem Kept.toBelow {bs : Nat → Prop} {A B : World} (h : Kept bs A B) {n : Nat} (hn : n ≤ A.heap.size) (hb : ∀ k, bs k → n ≤ k) : Below n A B :=
  ⟨h.os, h.tape, h.output, h.size, fun k hk => h.block k (by omega) (fun x => by have := hb k x; omega)⟩
theorem Kept.none {A B : World} (h : Kept (fun _ => False) A B) : Below A.heap.size A B := h.toBelow (Nat.le_refl _) (fun _ x => x.elim)

theorem bcell {W w1 : World} (hb : Below W.heap.size W w1) : (∀ b o, b < W.heap.size → w1.cell? ⟨b, o, none⟩ = W.cell? ⟨b, o, none⟩) ∧ (∀ b o, b < W.heap.size → w1.frozen? ⟨b, o, none⟩ = W.frozen? ⟨b, o, none⟩) :=
  ⟨fun b o h => hb.cell (p := ⟨b, o, none⟩) h, fun b o h => hb.frozen (p := ⟨b, o, none⟩) h⟩


theorem bal (w : World) (o : Obj) : Below w.heap.size w (w.alloc o) := (Below.refl _ _).alloc (Nat.le_refl _) o
theorem bald (w : World) (o : Obj) (n : Nat) : Below w.heap.size w ((w.alloc o).drewN n) := ⟨(bal w o).os, (bal w o).tape, (bal w o).output, (bal w o).size, (bal w o).block⟩
theorem Below.drewN {n m : Nat} {A B : World} (h : Below n A B) : Below n A (B.drewN m) := ⟨h.os, h.tape, h.output, h.size, h.block⟩

/-- A span. -/
structure Sp where
  b : Int
  s : Int
  k : Int
  i : Int
deriving DecidableEq, Inhabited
abbrev Sp.v (x : Sp) : Value := .agg #[.int .i64 x.b, .int .i64 x.s, .int .i64 x.k, .int .i64 x.i]
def Sp.cs (x : Sp) : List Value := [.int .i64 x.b, .int .i64 x.s, .int .i64 x.k, .int .i64 x.i]
def Sp.zero : Sp := ⟨0, 0, 0, 0⟩
/-- Its numbers are an int's. -/
structure Sp.Fair (x : Sp) : Prop where
  b0 : -9223372036854775808 ≤ x.b
  b1 : x.b ≤ 9223372036854775807
  s0 : -9223372036854775808 ≤ x.s
  s1 : x.s ≤ 9223372036854775807
  k0 : -9223372036854775808 ≤ x.k
  k1 : x.k ≤ 9223372036854775807
  i0 : -9223372036854775808 ≤ x.i
  i1 : x.i ≤ 9223372036854775807
/-- May it be? -/
structure Sp.Ok (x : Sp) : Prop where
  s1 : 1 ≤ x.s
  b0 : 0 ≤ x.b
  e1 : x.b + x.s ≤ 1099511627776
  k1 : 1 ≤ x.k
  k4 : x.k ≤ 4
  i0 : 0 ≤ x.i
def okB (x : Sp) : Bool := decide (1 ≤ x.s ∧ 0 ≤ x.b ∧ x.b + x.s ≤ 1099511627776 ∧ 1 ≤ x.k ∧ x.k ≤ 4 ∧ 0 ≤ x.i)
theorem okB_iff (x : Sp) : okB x = true ↔ x.Ok := by
  simp only [okB, decide_eq_true_eq]
  exact ⟨fun ⟨a, b, c, d, e, f⟩ => ⟨a, b, c, d, e, f⟩, fun ⟨a, b, c, d, e, f⟩ => ⟨a, b, c, d, e, f⟩⟩

/-- The cells of the spans xs stand in block g from o on. -/
def SpCells (W : World) (g o : Nat) (xs : List Sp) : Prop := ∀ j x, xs[j]? = some x →
  W.cell? ⟨g, o + j * 4, none⟩ = some (.int .i64 x.b) ∧ W.cell? ⟨g, o + j * 4 + 1, none⟩ = some (.int .i64 x.s) ∧ W.cell? ⟨g, o + j * 4 + 2, none⟩ = some (.int .i64 x.k) ∧ W.cell? ⟨g, o + j * 4 + 3, none⟩ = some (.int .i64 x.i)
/-- The slice v holds the spans xs, in a block from lo up to (not with) hi. -/
def SpIn (lo hi : Nat) (W : World) (v : Value) (xs : List Sp) : Prop :=
  ∃ a cap, v = .slice a xs.length cap ∧ xs.length ≤ 4398046511104 ∧ (∀ x ∈ xs, x.Fair) ∧ (xs ≠ [] → ∃ g o : Nat, a = some ⟨g, o, none⟩ ∧ lo ≤ g ∧ g < hi ∧ SpCells W g o xs)

theorem SpCells.lt {W : World} {g o : Nat} {xs : List Sp} (h : SpCells W g o xs) (hne : xs ≠ []) : g < W.heap.size := by
  cases xs with
  | nil => exact absurd rfl hne
  | cons x r => exact World.block_lt_of_cell? W _ (h 0 x rfl).1
theorem SpCells.of_block {A W : World} {g o : Nat} {xs : List Sp} (h : SpCells A g o xs) (e : W.heap[g]? = A.heap[g]?) : SpCells W g o xs := fun j x hx => by
  obtain ⟨a, b, c, d⟩ := h j x hx
  have K : ∀ o, W.cell? ⟨g, o, none⟩ = A.cell? ⟨g, o, none⟩ := fun o => World.cell?_of_block (w := A) e
  exact ⟨(K _).trans a, (K _).trans b, (K _).trans c, (K _).trans d⟩
theorem SpIn.kept {lo hi : Nat} {A W : World} {v : Value} {xs : List Sp} (h : SpIn lo hi A v xs) (k : ∀ i, lo ≤ i → i < hi → W.heap[i]? = A.heap[i]?) : SpIn lo hi W v xs := by
  obtain ⟨a, cap, rfl, hl, hf, hcs⟩ := h
  refine ⟨a, cap, rfl, hl, hf, fun hne => ?_⟩
  obtain ⟨g, o, rfl, h1, h2, hc⟩ := hcs hne
  exact ⟨g, o, rfl, h1, h2, hc.of_block (k g h1 h2)⟩
theorem SpIn.below {lo hi n : Nat} {A W : World} {v : Value} {xs : List Sp} (h : SpIn lo hi A v xs) (k : Below n A W) (hn : hi ≤ n) : SpIn lo hi W v xs := h.kept fun i _ b => k.block i (by omega)
theorem SpIn.mono {lo hi lo' hi' : Nat} {A : World} {v : Value} {xs : List Sp} (h : SpIn lo hi A v xs) (h1 : lo' ≤ lo) (h2 : hi ≤ hi') : SpIn lo' hi' A v xs := by
  obtain ⟨a, cap, rfl, hl, hf, hcs⟩ := h
  refine ⟨a, cap, rfl, hl, hf, fun hne => ?_⟩
  obtain ⟨g, o, rfl, x1, x2, hc⟩ := hcs hne
  exact ⟨g, o, rfl, by omega, by omega, hc⟩
theorem SpIn.top {lo hi : Nat} {A : World} {v : Value} {xs : List Sp} (h : SpIn lo hi A v xs) : SpIn lo A.heap.size A v xs := by
  obtain ⟨a, cap, rfl, hl, hf, hcs⟩ := h
  refine ⟨a, cap, rfl, hl, hf, fun hne => ?_⟩
  obtain ⟨g, o, rfl, x1, x2, hc⟩ := hcs hne
  exact ⟨g, o, rfl, x1, hc.lt hne, hc⟩
/-- One element read. -/
theorem SpIn.read {lo hi k : Nat} {W : World} {a : Option Addr} {cap : Nat} {xs : List Sp} (h : SpIn lo hi W (.slice a xs.length cap) xs) (hk : k < xs.length) :
    ∃ (x : Sp) (g o : Nat), xs[k]? = some x ∧ x ∈ xs ∧ a = some ⟨g, o, none⟩ ∧ lo ≤ g ∧ g < hi ∧ x.Fair ∧
    W.cell? ⟨g, o + k * 4, none⟩ = some (.int .i64 x.b) ∧ W.cell? ⟨g, o + k * 4 + 1, none⟩ = some (.int .i64 x.s) ∧ W.cell? ⟨g, o + k * 4 + 2, none⟩ = some (.int .i64 x.k) ∧ W.cell? ⟨g, o + k * 4 + 3, none⟩ = some (.int .i64 x.i) := by
  obtain ⟨a', cap', e, _, hf, hcs⟩ := h
  simp only [Value.slice.injEq, true_and] at e
  obtain ⟨rfl, rfl⟩ := e
  obtain ⟨g, o, rfl, h1, h2, hc⟩ := hcs (fun e => by simp [e] at hk)
  have hm : xs[k] ∈ xs := List.getElem_mem hk
  obtain ⟨c0, c1, c2, c3⟩ := hc k xs[k] (List.getElem?_eq_getElem hk)
  exact ⟨xs[k], g, o, List.getElem?_eq_getElem hk, hm, rfl, h1, h2, hf _ hm, c0, c1, c2, c3⟩
theorem SpIn.slice {lo hi : Nat} {W : World} {v : Value} {xs : List Sp} (h : SpIn lo hi W v xs) : ∃ a cap, v = .slice a xs.length cap := by obtain ⟨a, cap, e, _⟩ := h; exact ⟨a, cap, e⟩
theorem SpIn.len {lo hi : Nat} {W : World} {v : Value} {xs : List Sp} (h : SpIn lo hi W v xs) : xs.length ≤ 4398046511104 := by obtain ⟨a, cap, e, l, _⟩ := h; exact l
theorem SpIn.fair {lo hi : Nat} {W : World} {v : Value} {xs : List Sp} (h : SpIn lo hi W v xs) : ∀ x ∈ xs, x.Fair := by obtain ⟨a, cap, e, l, f, _⟩ := h; exact f

end Go.Proofs.Ytcdfkdlddmkhmaa
