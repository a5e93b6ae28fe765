import Derived.Test.YtggeakkofcaklaaGreatMg28
namespace Go.Proofs.YtggeakkofcaklaaGreat
open Go.ChangeShapes Go.WideShapes Go.ChangeAt Go.RowKit Go.Shelf
set_option linter.unusedVariables false
attribute [local go_sem] Oper.semAt_some
section
variable {w : World} {lo hi' : Nat} {b c : Nat → Nat} {D : Ds}
end
end Go.Proofs.YtggeakkofcaklaaGreat
namespace Go.Proofs.YtggeakkofcaklaaGreat
open Go.ChangeShapes Go.WideShapes Go.ChangeAt Go.RowKit Go.Shelf
set_option linter.unusedVariables false
attribute [local go_sem] Oper.semAt_some
theorem Col.from_ {w w1 W : World} {o : Value} {xs : List Int} (h : Col w1 o xs W) (hb : Below w.heap.size w w1) : Col w o xs W := ⟨own_base h.own hb.size, hb.trans (h.below.mono hb.size)⟩
section
variable {w : World} {lo hi' : Nat} {b c : Nat → Nat} {D : Ds}
end
end Go.Proofs.YtggeakkofcaklaaGreat
