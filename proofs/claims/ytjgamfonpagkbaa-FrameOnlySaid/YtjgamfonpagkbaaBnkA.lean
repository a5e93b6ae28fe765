/-
  Layer 9, plain: lines, entries, candidates; the package's valid, candidate, before, order.
-/
import Derived.Test.YtjgamfonpagkbaaPriR
import Derived.Test.YtjgamfonpagkbaaIrqC
namespace Go.Proofs.Ytjgamfonpagkbaa
open Go.ChangeShapes Go.WideShapes Go.ChangeAt Go.RowKit
set_option linter.unusedVariables false

/-- A line: an interrupt's state, enabled, group, priority. -/
structure Ln where
  st : St
  en : Bool
  g : Int
  p : Int
deriving DecidableEq, Inhabited
abbrev Ln.v (x : Ln) : Value := .agg #[.bool x.st.e, .bool x.st.l, .bool x.st.h, .bool x.st.a, .bool x.en, .int .i64 x.g, .int .i64 x.p]
def Ln.cs (x : Ln) : List Value := [.bool x.st.e, .bool x.st.l, .bool x.st.h, .bool x.st.a, .bool x.en, .int .i64 x.g, .int .i64 x.p]
def Ln.zero : Ln := ⟨St.zero, false, 0, 0⟩
def Ln.Right (x : Ln) : Prop := x.g = 0 ∨ x.g = 1
def Ln.okB (x : Ln) : Bool := (decide (x.g = 0) || decide (x.g = 1)) && decide (0 ≤ x.p) && decide (x.p ≤ 255)
/-- An entry: a line with its text. -/
structure En where
  ln : Ln
  s : ByteArray
deriving DecidableEq, Inhabited
abbrev En.v (x : En) : Value := .agg #[.bool x.ln.st.e, .bool x.ln.st.l, .bool x.ln.st.h, .bool x.ln.st.a, .bool x.ln.en, .int .i64 x.ln.g, .int .i64 x.ln.p, .string x.s]
def En.cs (x : En) : List Value := [.bool x.ln.st.e, .bool x.ln.st.l, .bool x.ln.st.h, .bool x.ln.st.a, .bool x.ln.en, .int .i64 x.ln.g, .int .i64 x.ln.p, .string x.s]
/-- A candidate. -/
structure Cd where
  id : Int
  p : Int
  g : Int
  is : Bool
deriving DecidableEq, Inhabited
abbrev Cd.v (x : Cd) : Value := .agg #[.int .i64 x.id, .int .i64 x.p, .int .i64 x.g, .bool x.is]
abbrev Cd.cs (x : Cd) : Array Value := #[.int .i64 x.id, .int .i64 x.p, .int .i64 x.g, .bool x.is]
def Cd.zero : Cd := ⟨0, 0, 0, false⟩
def candV (id : Int) (x : Ln) : Cd := ⟨id, x.p, x.g, true⟩
def befC (x y : Cd) : Bool := beforeB x.p x.id y.p y.id
def ordC (x y : Cd) : Int := if befC x y then -1 else if befC y x then 1 else 0

set_option maxHeartbeats 1000000 in
theorem valid_any (x : Ln) (w : World) : Calls Try.prog 60 #[x.v] w fun e w' => e = .returned (.bool x.okB) ∧ Below w.heap.size w w' := by
  obtain ⟨⟨e, l, h, a⟩, en, g, p⟩ := x
  dsimp only [Ln.v]
  by_cases h1 : g = 0
  · subst h1
    by_cases h2 : 0 ≤ p
    · go_enter Try.func60, Try.ntmps60
      go_wp2
      go_ret
      exact ⟨ret_bool (by simp [Ln.okB, h2]), bal w _⟩
    · go_enter Try.func60, Try.ntmps60
      go_wp2
      go_ret
      exact ⟨ret_bool (by simp [Ln.okB]; omega), bal w _⟩
  · have q1 : (g == 0) = false := by simpa using h1
    by_cases h3 : g = 1
    · subst h3
      by_cases h2 : 0 ≤ p
      · go_enter Try.func60, Try.ntmps60
        go_wp2
        go_ret
        exact ⟨ret_bool (by simp [Ln.okB, h2]), bal w _⟩
      · go_enter Try.func60, Try.ntmps60
        go_wp2
        go_ret
        exact ⟨ret_bool (by simp [Ln.okB]; omega), bal w _⟩
    · have q3 : (g == 1) = false := by simpa using h3
      go_enter Try.func60, Try.ntmps60
      go_wp2
      go_ret
      exact ⟨ret_bool (by simp [Ln.okB, h1, h3]), bal w _⟩

end Go.Proofs.Ytjgamfonpagkbaa
