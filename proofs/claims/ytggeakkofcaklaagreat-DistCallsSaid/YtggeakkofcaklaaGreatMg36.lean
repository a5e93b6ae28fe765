import Derived.Test.YtggeakkofcaklaaGreatMg34
import Derived.Test.YtggeakkofcaklaaGreatMg35
namespace Go.Proofs.YtggeakkofcaklaaGreat
open Go.ChangeShapes Go.WideShapes Go.ChangeAt Go.RowKit Go.Shelf
set_option linter.unusedVariables false
attribute [local go_sem] Oper.semAt_some
structure Xa where
  d : Int
  off : Int
  k : Int
  id : Int
  v : Nat
  a : Int
  s : St
  hi : Bool
deriving DecidableEq
abbrev Xa.v_ (x : Xa) : Value := .agg #[.int .i64 x.d, .int .i64 x.off, .int .i64 x.k, .int .i64 x.id, .int .u64 x.v, .int .i64 x.a, .bool x.s.e, .bool x.s.l, .bool x.s.h, .bool x.s.a, .bool x.hi]
abbrev Xa.cs (x : Xa) : Array Value := #[.int .i64 x.d, .int .i64 x.off, .int .i64 x.k, .int .i64 x.id, .int .u64 x.v, .int .i64 x.a, .bool x.s.e, .bool x.s.l, .bool x.s.h, .bool x.s.a, .bool x.hi]
def wideV (x : Xa) : Int := if x.hi then 8 else 4
theorem wide_any (x : Xa) (w : World) : Calls Tryz.prog 45 #[x.v_] w fun e w' => e = .returned (.int .i64 (wideV x)) ∧ Below w.heap.size w w' := by
  obtain ⟨d, off, k, id, v, a, ⟨se, sl, sh, sa⟩, h⟩ := x
  unfold wideV
  cases h
  all_goals
    go_enter Tryz.func45, Tryz.ntmps45
    go_wp2
    go_ret
    exact ⟨rfl, bal w _⟩
end Go.Proofs.YtggeakkofcaklaaGreat
