/-
  A state's letters; Text, the program's and the document's, at every state.
-/
import Derived.Test.YtjcgcnghjcbkeaaIrqC
namespace Go.Proofs.Ytjcgcnghjcbkeaa
open Go.ChangeShapes Go.WideShapes Go.ChangeAt Go.RowKit
set_option linter.unusedVariables false

/-- The letters of a state. -/
def St.txt (x : St) : List UInt8 := [if x.e then 101 else 108] ++ (if x.l then [104] else []) ++ (if x.h then [119] else []) ++ (if x.a then [97] else [])

set_option maxHeartbeats 2000000 in
theorem text_any (x : St) (w : World) : Calls Try.prog 19 #[x.v] w fun e w' => e = .returned (.string ⟨x.txt.toArray⟩) ∧ Below w.heap.size w w' := by
  obtain ⟨e, l, q, a⟩ := x
  cases e <;> cases l <;> cases q <;> cases a
  all_goals
    go_enter Try.func19, Try.ntmps19
    go_wp2
    go_ret
    exact ⟨rfl, bal w _⟩

set_option maxHeartbeats 2000000 in
theorem rtext_any (x : St) (w : World) : Calls Try.prog 20 #[x.v] w fun e w' => e = .returned (.string ⟨x.txt.toArray⟩) ∧ Below w.heap.size w w' := by
  obtain ⟨e, l, q, a⟩ := x
  cases e <;> cases l <;> cases q <;> cases a
  all_goals
    go_enter Try.func20, Try.ntmps20
    go_wp2
    go_ret
    exact ⟨rfl, bal w _⟩

end Go.Proofs.Ytjcgcnghjcbkeaa
