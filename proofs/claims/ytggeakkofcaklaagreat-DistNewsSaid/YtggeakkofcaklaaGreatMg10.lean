import Derived.Test.YtggeakkofcaklaaGreatMg09
namespace Go.Proofs.YtggeakkofcaklaaGreat
open Go.ChangeShapes Go.WideShapes Go.ChangeAt Go.RowKit
set_option linter.unusedVariables false
structure ThL (w : World) (l m : Ln) (W : World) : Prop where
  a : CB W w.heap.size 58 l.ca
  z : CB W (w.heap.size + 1) 58 Ln.zero.ca
  o : CB W (w.heap.size + 2) 58 m.ca
  below : Below w.heap.size w W
theorem ThL.new (w : World) (l : Ln) : ThL w l l (((w.alloc (.cells l.ca 58)).alloc (.cells Ln.zero.ca 58)).alloc (.cells l.ca 58)) :=
  ⟨((CB.new w _ _).alloc _).alloc _, cb_mid, by have := CB.new ((w.alloc (.cells l.ca 58)).alloc (.cells Ln.zero.ca 58)) 58 l.ca; simpa using this, bal_three w _ _ _⟩
theorem ThL.later {w W W' : World} {l m : Ln} (h : ThL w l m W) (k : Below W.heap.size W W') : ThL w l m W' := ⟨h.a.below k, h.z.below k, h.o.below k, h.below.trans (k.mono h.below.size)⟩
theorem ThL.end_ {w W : World} {l m : Ln} (h : ThL w l m W) (x : St) : CB (setL (setI W (w.heap.size + 2) 0 x) (w.heap.size + 1) 0 { m with st := x }) (w.heap.size + 1) 58 (Ln.ca { m with st := x }) ∧ Below w.heap.size w (setL (setI W (w.heap.size + 2) 0 x) (w.heap.size + 1) 0 { m with st := x }) :=
  ⟨(h.z.otherI (by omega) x).putL _, below_putL (below_putI h.below (by omega) x) (by omega) _⟩
end Go.Proofs.YtggeakkofcaklaaGreat
