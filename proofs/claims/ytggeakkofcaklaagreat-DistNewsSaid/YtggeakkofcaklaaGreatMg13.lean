import Derived.Test.YtggeakkofcaklaaGreatMg08
import Derived.Test.YtggeakkofcaklaaGreatMg10
import Derived.Test.YtggeakkofcaklaaGreatMg12
namespace Go.Proofs.YtggeakkofcaklaaGreat
open Go.ChangeShapes Go.WideShapes Go.ChangeAt Go.RowKit Go.Shelf
set_option linter.unusedVariables false
attribute [local go_sem] Oper.semAt_some
attribute [local go_sem high] neqLn guardL
structure RW (w1 : World) (b lg xg : Nat) (la xa : Option Addr) (lc xc : Nat) (f0 : Int) (es es' : List En) (V : World) : Prop where
  rf : RfAt V b lg xg la xa lc xc f0 es'
  kept : Kept (fun i => es ≠ [] ∧ (i = lg ∨ i = xg)) w1 V
section
variable {w1 V V' : World} {b lg xg : Nat} {la xa : Option Addr} {lc xc : Nat} {f0 : Int} {es es' : List En}
theorem RW.later (h : RW w1 b lg xg la xa lc xc f0 es es' V) (k : Below V.heap.size V V') : RW w1 b lg xg la xa lc xc f0 es es' V' := ⟨h.rf.below k, h.kept.below k⟩
theorem RW.setLn (h : RW w1 b lg xg la xa lc xc f0 es es' V) {k : Nat} {x : En} (hk : es'[k]? = some x) (hne : es ≠ []) (y : Ln) : RW w1 b lg xg la xa lc xc f0 es (es'.set k ⟨y, x.s⟩) (V.setCells lg (k * 7) y.cs) :=
  ⟨h.rf.setLn hk y, kept_sets (bs := fun i => es ≠ [] ∧ (i = lg ∨ i = xg)) (b := lg) ⟨hne, .inl rfl⟩ _ _ h.kept⟩
theorem RW.drew (h : RW w1 b lg xg la xa lc xc f0 es es' V) : RW w1 b lg xg la xa lc xc f0 es es' V.drew := ⟨h.rf.drew, h.kept.drew⟩
end
end Go.Proofs.YtggeakkofcaklaaGreat
