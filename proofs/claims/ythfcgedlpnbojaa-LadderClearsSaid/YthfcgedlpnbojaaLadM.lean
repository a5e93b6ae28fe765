/-
  The law LadderClears at every input.
-/
import Derived.Test.YthfcgedlpnbojaaLadL1
import Derived.Test.YthfcgedlpnbojaaLadL2
import Derived.Test.YthfcgedlpnbojaaLadL3
import Derived.Test.YthfcgedlpnbojaaLadL4
import Derived.Test.YthfcgedlpnbojaaLadL5
import Derived.Test.YthfcgedlpnbojaaLadL6
namespace Go.Proofs.Ythfcgedlpnbojaa
open Go.ChangeShapes Go.WideShapes Go.ChangeAt Go.RowKit
set_option linter.unusedVariables false

theorem lawClears_any (a b : Nat) (x y : Ac) (w : World) (ha : a < 4294967296) (hb : b < 4294967296) :
    Calls Try.prog 8 #[.int .u32 a, .int .u32 b, x.v, y.v] w fun e w' => e = .returned (.bool true) ∧ Below w.heap.size w w' := by
  obtain ⟨d1, g1, p1⟩ := x
  obtain ⟨d2, g2, p2⟩ := y
  have l1 := gO_lt g1
  have l2 := gO_lt g2
  by_cases e1 : gO g1 = gO g2
  · have t1 : ((gO g1 : Int) == (gO g2 : Int)) = true := by rw [e1]; simp
    by_cases e2 : kO p1 = kO p2
    · have t2 : (8 * (kO p1 : Int) == 8 * (kO p2 : Int)) = true := by simp; omega
      cases hx : ofW a b (plc g1 p1)
      · exact clears_tt_false a b _ d1 g1 p1 d2 g2 p2 w ha hb rfl hx t1 t2
      · exact clears_tt_true a b _ d1 g1 p1 d2 g2 p2 w ha hb rfl hx t1 t2
    · have t2 : (8 * (kO p1 : Int) == 8 * (kO p2 : Int)) = false := by simp; omega
      have hne : plc g2 p2 ≠ plc g1 p1 := by unfold plc; omega
      cases hx : ofW a b (plc g1 p1)
      · exact clears_tf_false a b _ d1 g1 p1 d2 g2 p2 w ha hb rfl hx t1 t2 hne
      · exact clears_tf_true a b _ d1 g1 p1 d2 g2 p2 w ha hb rfl hx t1 t2 hne
  · have t1 : ((gO g1 : Int) == (gO g2 : Int)) = false := by simp; omega
    have hne : plc g2 p2 ≠ plc g1 p1 := by unfold plc; omega
    cases hx : ofW a b (plc g1 p1)
    · exact clears_f_false a b _ d1 g1 p1 d2 g2 p2 w ha hb rfl hx t1 hne
    · exact clears_f_true a b _ d1 g1 p1 d2 g2 p2 w ha hb rfl hx t1 hne

end Go.Proofs.Ythfcgedlpnbojaa
