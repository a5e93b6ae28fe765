import Derived.Test.YtdmlpdghhogkaaaGreatMg09
namespace Go.Proofs.YtdmlpdghhogkaaaGreat
open Go.ChangeShapes Go.WideShapes Go.ChangeAt Go.RowKit Go.Shelf
set_option linter.unusedVariables false
attribute [local go_sem] Oper.semAt_some
theorem pres_yes {f0 : Int} {n : Nat} {fp : Int} {k : Nat} (h : hasB f0 n (fp + k) = true) : presL f0 n fp (k + 1) = presL f0 n fp k ++ [k] := by
  rw [presL, List.range_succ, filterN_yes _ h]; rfl
theorem pres_no {f0 : Int} {n : Nat} {fp : Int} {k : Nat} (h : hasB f0 n (fp + k) = false) : presL f0 n fp (k + 1) = presL f0 n fp k := by
  rw [presL, List.range_succ, filterN_no _ h]; rfl
theorem LnC.below {W W' : World} {g o : Nat} {x : Ln} (h : LnC W g o x) (hg : g < W.heap.size) (k : Below W.heap.size W W') : LnC W' g o x := h.heap (k.block g hg)
theorem LnC.drew {W : World} {g o : Nat} {x : Ln} (h : LnC W g o x) : LnC W.drew g o x := h.heap rfl
end Go.Proofs.YtdmlpdghhogkaaaGreat
