/-
  A fact laid behind a structure: no tactic opens it (Lib.hid's own is opened by tactics that compare by unfolding). Nothing of the program.
-/
import Derived.Test.YtobhdjepfhbgaaaDoorRows
namespace Go.Proofs.YtobhdjepfhbgaaaDoor

structure Hi (p : Prop) : Prop where
  out : p
theorem hi {p : Prop} (h : p) : Hi p := ⟨h⟩

end Go.Proofs.YtobhdjepfhbgaaaDoor
