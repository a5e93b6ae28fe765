import Derived.Test.YtieedhdmpabfkaaGreatMg41
set_option linter.unusedSimpArgs false
namespace Go.Proofs.YtieedhdmpabfkaaGreat
open Go.ChangeShapes Go.WideShapes Go.ChangeAt Go.RowKit Go.Shelf
set_option linter.unusedVariables false
theorem getV_sh {D : Ds} {k i : Nat} (hk : k < D.cs.length) (hi : i < D.sh.length) : getV D k (32 + i) = ((nthE D.sh i).ln, 0) := by
 unfold getV
 rw [if_pos (by simp [hasN]; omega), if_neg (by omega)]
 rw [getR_at 32 hi]
end Go.Proofs.YtieedhdmpabfkaaGreat
