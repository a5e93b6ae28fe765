import Derived.Test.YtggeakkofcaklaaGreatMg23
namespace Go.Proofs.YtggeakkofcaklaaGreat
open Go.ChangeShapes Go.WideShapes Go.ChangeAt Go.RowKit Go.Shelf
set_option linter.unusedVariables false
attribute [local go_sem] Oper.semAt_some
section
variable {w : World} {lo hi' : Nat} {b c : Nat → Nat} {D : Ds}
end
end Go.Proofs.YtggeakkofcaklaaGreat
