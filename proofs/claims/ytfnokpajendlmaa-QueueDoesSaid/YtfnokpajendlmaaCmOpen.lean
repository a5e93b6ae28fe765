/-
  Arguments opened: a command, four words, read off the data that came in.
-/
import Derived.Test.YtfnokpajendlmaaMjD
import Derived.ProofKit
import Derived.OpenShut
import Derived.JoinedCond
import Derived.Deep.DeepHandedRow
import Derived.Deep.Slices
import Derived.SizedLaws
import Derived.Lib.SmallJoins
import Derived.Laws.IdiomArrays
namespace Go.Proofs.Ytfnokpajendlmaa
open Go.ChangeShapes Go.WideShapes Go.ChangeAt Go.RowKit Go.Joins Go.Deep
set_option linter.unusedVariables false
set_option linter.unusedSimpArgs false
set_option maxRecDepth 100000

theorem cellsCmd : Try.prog.cellsOf 36 = 9 := by kernel_rfl
theorem cellsN : Try.prog.cellsOf 3 = 1 := by kernel_rfl
theorem cellsOp : Try.prog.cellsOf 34 = 1 := by kernel_rfl
theorem cellsB : Try.prog.cellsOf 4 = 1 := by kernel_rfl
theorem cellsU : Try.prog.cellsOf 37 = 1 := by kernel_rfl
theorem underN : Try.prog.underlying 3 = some (.int .i64) := by kernel_rfl
theorem underOp : Try.prog.underlying 34 = some (.int .i64) := by kernel_rfl
theorem underB : Try.prog.underlying 4 = some .bool := by kernel_rfl
theorem underU : Try.prog.underlying 37 = some (.int .u64) := by kernel_rfl
theorem cmd_fields : ∃ f0 f1 f2 f3 f4 f5 f6 f7 f8 : Field, Try.prog.underlying 36 = some (.struct #[f0, f1, f2, f3, f4, f5, f6, f7, f8]) ∧ (f0.type = 34 ∧ f0.offset = 0) ∧ (f1.type = 3 ∧ f1.offset = 1) ∧ (f2.type = 3 ∧ f2.offset = 2) ∧ (f3.type = 3 ∧ f3.offset = 3) ∧ (f4.type = 3 ∧ f4.offset = 4) ∧ (f5.type = 3 ∧ f5.offset = 5) ∧ (f6.type = 3 ∧ f6.offset = 6) ∧ (f7.type = 3 ∧ f7.offset = 7) ∧ (f8.type = 4 ∧ f8.offset = 8) :=
  ⟨_, _, _, _, _, _, _, _, _, Try.underlying36, ⟨rfl, rfl⟩, ⟨rfl, rfl⟩, ⟨rfl, rfl⟩, ⟨rfl, rfl⟩, ⟨rfl, rfl⟩, ⟨rfl, rfl⟩, ⟨rfl, rfl⟩, ⟨rfl, rfl⟩, ⟨rfl, rfl⟩⟩
def Small {H : Type} (t : TypeId) (d : DataW H) : Prop := ∀ m ∈ d.weights Try.prog t, m ≤ reachBytes
theorem wf64 {n : Int} (h : (Lit.int .i64 n).wf = true) : i64B n := by
  simp [Lit.wf, IntKind.max, IntKind.min, IntKind.signed, IntKind.bits] at h
  constructor <;> omega
theorem wfu64 {n : Int} (h : (Lit.int .u64 n).wf = true) : 0 ≤ n ∧ n < 18446744073709551616 := by
  simp [Lit.wf, IntKind.max, IntKind.min, IntKind.signed, IntKind.bits] at h
  omega

section
variable {H : Type} {enc : TypeId × Value → H} {w : World} {base : Nat} {spare : Nat → Bool} {held : Bool}

theorem open_cmd_cs {fuel : Nat} {cs : List Value} {y : DataW H × List MemPlace} (h : DataW.trod enc Try.prog w base spare held fuel 36 cs = some y) :
    ∃ x : Cm, cs = x.cs.toList ∧ x.Fair := by
  obtain ⟨f0, f1, f2, f3, f4, f5, f6, f7, f8, hu, ⟨t0, o0⟩, ⟨t1, o1⟩, ⟨t2, o2⟩, ⟨t3, o3⟩, ⟨t4, o4⟩, ⟨t5, o5⟩, ⟨t6, o6⟩, ⟨t7, o7⟩, ⟨t8, o8⟩⟩ := cmd_fields
  obtain ⟨xs, k, hk, hxy, hlen, hxl, hf⟩ := DataW.trod_struct hu h
  rw [cellsCmd] at hlen
  match cs, hlen, xs, hxl with
  | [v0, v1, v2, v3, v4, v5, v6, v7, v8], _, [y0, y1, y2, y3, y4, y5, y6, y7, y8], _ =>
    have g0 := hf 0 f0 rfl
    have g1 := hf 1 f1 rfl
    have g2 := hf 2 f2 rfl
    have g3 := hf 3 f3 rfl
    have g4 := hf 4 f4 rfl
    have g5 := hf 5 f5 rfl
    have g6 := hf 6 f6 rfl
    have g7 := hf 7 f7 rfl
    have g8 := hf 8 f8 rfl
    rw [t0, o0, cellsOp] at g0
    rw [t1, o1, cellsN] at g1
    rw [t2, o2, cellsN] at g2
    rw [t3, o3, cellsN] at g3
    rw [t4, o4, cellsN] at g4
    rw [t5, o5, cellsN] at g5
    rw [t6, o6, cellsN] at g6
    rw [t7, o7, cellsN] at g7
    rw [t8, o8, cellsB] at g8
    obtain ⟨z0, e0, _, w0⟩ := DataW.trod_int underOp (show DataW.trod enc Try.prog w base spare held k 34 [v0] = some y0 from g0)
    obtain ⟨z1, e1, _, w1⟩ := DataW.trod_int underN (show DataW.trod enc Try.prog w base spare held k 3 [v1] = some y1 from g1)
    obtain ⟨z2, e2, _, w2⟩ := DataW.trod_int underN (show DataW.trod enc Try.prog w base spare held k 3 [v2] = some y2 from g2)
    obtain ⟨z3, e3, _, w3⟩ := DataW.trod_int underN (show DataW.trod enc Try.prog w base spare held k 3 [v3] = some y3 from g3)
    obtain ⟨z4, e4, _, w4⟩ := DataW.trod_int underN (show DataW.trod enc Try.prog w base spare held k 3 [v4] = some y4 from g4)
    obtain ⟨z5, e5, _, w5⟩ := DataW.trod_int underN (show DataW.trod enc Try.prog w base spare held k 3 [v5] = some y5 from g5)
    obtain ⟨z6, e6, _, w6⟩ := DataW.trod_int underN (show DataW.trod enc Try.prog w base spare held k 3 [v6] = some y6 from g6)
    obtain ⟨z7, e7, _, w7⟩ := DataW.trod_int underN (show DataW.trod enc Try.prog w base spare held k 3 [v7] = some y7 from g7)
    obtain ⟨z8, e8, _⟩ := DataW.trod_bool underB (show DataW.trod enc Try.prog w base spare held k 4 [v8] = some y8 from g8)
    simp only [List.cons.injEq, and_true] at e0 e1 e2 e3 e4 e5 e6 e7 e8
    exact ⟨⟨z0, z1, z2, z3, z4, z5, z6, z7, z8⟩, by rw [e0, e1, e2, e3, e4, e5, e6, e7, e8]; rfl, wf64 w0, wf64 w1, wf64 w2, wf64 w3, wf64 w4, wf64 w5, wf64 w6, wf64 w7⟩

theorem open_agg_cs {r : Reach} {b0 : Nat} {t : TypeId} {fs : Array Field} {v : Value} {d : DataW H} {p : List MemPlace} (hu : Try.prog.underlying t = some (.struct fs)) (hv : Value.okWide Try.prog w r b0 t v) (h : DataW.Trod enc Try.prog w base spare held t v d p) :
    ∃ (cs : Array Value) (fuel : Nat), v = .agg cs ∧ DataW.trod enc Try.prog w base spare held fuel t cs.toList = some (d, p) := by
  obtain ⟨fuel, hf⟩ := h
  simp only [Value.okWide, hu] at hv
  obtain ⟨cs, rfl, _, _⟩ := hv
  exact ⟨cs, fuel, rfl, by simpa [Value.cells] using hf⟩
theorem open_cmd {r : Reach} {b0 : Nat} {v : Value} {d : DataW H} {p : List MemPlace} (hv : Value.okWide Try.prog w r b0 36 v) (h : DataW.Trod enc Try.prog w base spare held 36 v d p) : ∃ x : Cm, v = x.v ∧ x.Fair := by
  obtain ⟨cs, fuel, rfl, hf⟩ := open_agg_cs Try.underlying36 hv h
  obtain ⟨x, e, hx⟩ := open_cmd_cs hf
  refine ⟨x, ?_, hx⟩
  have : cs = x.cs := by cases cs; simp only at e; rw [e]
  rw [this]; rfl
def fourW (a b c d : Nat) : Ws := fun j => if j = 0 then a else if j = 1 then b else if j = 2 then c else d
theorem open_w4 {r : Reach} {b0 : Nat} {v : Value} {d : DataW H} {p : List MemPlace} (hv : Value.okWide Try.prog w r b0 94 v) (h : DataW.Trod enc Try.prog w base spare held 94 v d p) :
    ∃ x : Ws, v = .agg #[.int .u64 (x 0), .int .u64 (x 1), .int .u64 (x 2), .int .u64 (x 3)] ∧ ∀ j, x j < 18446744073709551616 := by
  obtain ⟨cs, rfl, hsz, _⟩ : ∃ cs, v = .agg cs ∧ cs.size = Try.prog.cellsOf 94 ∧ Row.okWide Try.prog w r b0 94 cs := by
    simpa [Value.okWide, Try.underlying94] using hv
  rw [show Try.prog.cellsOf 94 = 4 by kernel_rfl] at hsz
  obtain ⟨l⟩ := cs
  match l, hsz with
  | [c0, c1, c2, c3], _ =>
    obtain ⟨fuel, hf⟩ := h
    obtain ⟨y0, y1, y2, y3, m, hx, hy0, hy1, hy2, hy3⟩ := trod_array4 Try.underlying94 cellsU hf
    obtain ⟨x0, e0, _, w0⟩ := DataW.trod_int Try.underlying37 hy0
    obtain ⟨x1, e1, _, w1⟩ := DataW.trod_int Try.underlying37 hy1
    obtain ⟨x2, e2, _, w2⟩ := DataW.trod_int Try.underlying37 hy2
    obtain ⟨x3, e3, _, w3⟩ := DataW.trod_int Try.underlying37 hy3
    simp only [List.cons.injEq, and_true] at e0 e1 e2 e3
    subst e0 e1 e2 e3
    obtain ⟨a0, b0'⟩ := wfu64 w0
    obtain ⟨a1, b1⟩ := wfu64 w1
    obtain ⟨a2, b2⟩ := wfu64 w2
    obtain ⟨a3, b3⟩ := wfu64 w3
    obtain ⟨n0, rfl⟩ := Int.eq_ofNat_of_zero_le a0
    obtain ⟨n1, rfl⟩ := Int.eq_ofNat_of_zero_le a1
    obtain ⟨n2, rfl⟩ := Int.eq_ofNat_of_zero_le a2
    obtain ⟨n3, rfl⟩ := Int.eq_ofNat_of_zero_le a3
    refine ⟨fourW n0 n1 n2 n3, rfl, fun j => ?_⟩
    unfold fourW
    split
    · omega
    · split
      · omega
      · split <;> omega
end

end Go.Proofs.Ytfnokpajendlmaa
