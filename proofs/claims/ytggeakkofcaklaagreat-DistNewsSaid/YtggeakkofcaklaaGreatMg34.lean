import Derived.Test.YtggeakkofcaklaaGreatMg33
namespace Go.Proofs.YtggeakkofcaklaaGreat
open Go.ChangeShapes Go.WideShapes Go.ChangeAt Go.RowKit Go.Shelf
set_option linter.unusedVariables false
attribute [local go_sem] Oper.semAt_some
structure TwD (W : World) (p q r s : Nat) (b c b' c' : Nat → Nat) (D : Ds) : Prop where
  di : DiAt W p q b c D
  rd : RdAt W r s b' c' D
  sep : ∀ i, InR p q i → ¬ InR r s i
structure TwAf (w : World) (p q r s : Nat) (b c b' c' : Nat → Nat) (D : Ds) (W : World) : Prop where
  tw : TwD W p q r s b c b' c' D
  kept : Kept (fun i => InR p q i ∨ InR r s i) w W
section
variable {w W : World} {p q r s : Nat} {b c b' c' : Nat → Nat} {D D' : Ds}
theorem TwD.below (h : TwD w p q r s b c b' c' D) (k : Below w.heap.size w W) : TwD W p q r s b c b' c' D := ⟨h.di.below k, h.rd.below k, h.sep⟩
theorem TwAf.of (h : TwD w p q r s b c b' c' D) (k : Below w.heap.size w W) : TwAf w p q r s b c b' c' D W := ⟨h.below k, Kept.of k⟩
theorem TwAf.from_ {W1 W2 : World} (k : Below w.heap.size w W1) (h : TwAf W1 p q r s b c b' c' D W2) : TwAf w p q r s b c b' c' D W2 := ⟨h.tw, (Kept.of k).trans h.kept⟩
structure Xa.Ok (x : Xa) : Prop where
  off : Int64 x.off
  k : Int64 x.k
  id : Int64 x.id
  v : x.v < 18446744073709551616
end
end Go.Proofs.YtggeakkofcaklaaGreat
