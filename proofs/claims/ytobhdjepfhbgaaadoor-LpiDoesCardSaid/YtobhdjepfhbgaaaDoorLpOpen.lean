/-
  Arguments opened: a window.
-/
import Derived.Test.YtobhdjepfhbgaaaDoorLrF
import Derived.ProofKit
import Derived.OpenShut
import Derived.JoinedCond
import Derived.Deep.DeepHandedRow
import Derived.Deep.Slices
import Derived.SizedLaws
import Derived.Lib.SmallJoins
namespace Go.Proofs.YtobhdjepfhbgaaaDoor
open Go.ChangeShapes Go.WideShapes Go.ChangeAt Go.RowKit Go.Joins Go.Deep
set_option linter.unusedVariables false
set_option linter.unusedSimpArgs false
set_option maxRecDepth 100000

theorem cellsN : Tryd.prog.cellsOf 3 = 1 := by kernel_rfl
theorem cellsWin : Tryd.prog.cellsOf 49 = 2 := by kernel_rfl
theorem underN : Tryd.prog.underlying 3 = some (.int .i64) := by kernel_rfl
theorem win_fields : ∃ f0 f1 : Field, Tryd.prog.underlying 49 = some (.struct #[f0, f1]) ∧ (f0.type = 3 ∧ f0.offset = 0) ∧ (f1.type = 3 ∧ f1.offset = 1) :=
  ⟨_, _, Tryd.underlying49, ⟨rfl, rfl⟩, ⟨rfl, rfl⟩⟩
theorem wf64 {n : Int} (h : (Lit.int .i64 n).wf = true) : i64B n := by
  simp [Lit.wf, IntKind.max, IntKind.min, IntKind.signed, IntKind.bits] at h
  constructor <;> omega

section
variable {H : Type} {enc : TypeId × Value → H} {w : World} {base : Nat} {spare : Nat → Bool} {held : Bool}

theorem open_agg_cs {r : Reach} {b0 : Nat} {t : TypeId} {fs : Array Field} {v : Value} {d : DataW H} {p : List MemPlace} (hu : Tryd.prog.underlying t = some (.struct fs)) (hv : Value.okWide Tryd.prog w r b0 t v) (h : DataW.Trod enc Tryd.prog w base spare held t v d p) :
    ∃ (cs : Array Value) (fuel : Nat), v = .agg cs ∧ DataW.trod enc Tryd.prog w base spare held fuel t cs.toList = some (d, p) := by
  obtain ⟨fuel, hf⟩ := h
  simp only [Value.okWide, hu] at hv
  obtain ⟨cs, rfl, _, _⟩ := hv
  exact ⟨cs, fuel, rfl, by simpa [Value.cells] using hf⟩
theorem open_win_cs {fuel : Nat} {cs : List Value} {y : DataW H × List MemPlace} (h : DataW.trod enc Tryd.prog w base spare held fuel 49 cs = some y) :
    ∃ a s : Int, cs = [.int .i64 a, .int .i64 s] ∧ i64B a ∧ i64B s := by
  obtain ⟨f0, f1, hu, ⟨t0, o0⟩, ⟨t1, o1⟩⟩ := win_fields
  obtain ⟨xs, k, hk, hxy, hlen, hxl, hf⟩ := DataW.trod_struct hu h
  rw [cellsWin] at hlen
  match cs, hlen, xs, hxl with
  | [v0, v1], _, [y0, y1], _ =>
    have g0 := hf 0 f0 rfl
    have g1 := hf 1 f1 rfl
    rw [t0, o0, cellsN] at g0
    rw [t1, o1, cellsN] at g1
    obtain ⟨z0, e0, _, w0⟩ := DataW.trod_int underN (show DataW.trod enc Tryd.prog w base spare held k 3 [v0] = some y0 from g0)
    obtain ⟨z1, e1, _, w1⟩ := DataW.trod_int underN (show DataW.trod enc Tryd.prog w base spare held k 3 [v1] = some y1 from g1)
    simp only [List.cons.injEq, and_true] at e0 e1
    exact ⟨z0, z1, by rw [e0, e1], wf64 w0, wf64 w1⟩
theorem open_win {r : Reach} {b0 : Nat} {v : Value} {d : DataW H} {p : List MemPlace} (hv : Value.okWide Tryd.prog w r b0 49 v) (h : DataW.Trod enc Tryd.prog w base spare held 49 v d p) :
    ∃ a s : Int, v = .agg #[.int .i64 a, .int .i64 s] ∧ i64B a ∧ i64B s := by
  obtain ⟨cs, fuel, rfl, hf⟩ := open_agg_cs Tryd.underlying49 hv h
  obtain ⟨a, s, e, h1, h2⟩ := open_win_cs hf
  exact ⟨a, s, by cases cs; simp only at e; rw [e], h1, h2⟩
end

end Go.Proofs.YtobhdjepfhbgaaaDoor
