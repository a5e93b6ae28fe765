/-
  Package ladder: Of at one, two and three words.
-/
import Derived.Test.YtnnlimjbmfpalaaLadB

namespace Go.Proofs.Ytnnlimjbmfpalaa
open Go.ChangeShapes Go.WideShapes Go.ChangeAt Go.RowKit
set_option linter.unusedVariables false

theorem size_u32 : (Try.prog.info? 24).map (·.size) = some 1 := by kernel_rfl

theorem add_mid_ (b o j : Nat) : (⟨b, o, none⟩ : Addr).add j = ⟨b, o + j, none⟩ := by unfold Addr.add; split <;> simp_all
theorem cell_two {w : World} {o o' : Obj} {B : Nat} {cs : List Value} (hc : ∀ j x, cs[j]? = some x → w.cell? ⟨B, j, none⟩ = some x) (hB : B < w.heap.size) (j : Nat) (x : Value) (hx : cs[j]? = some x) :
    ((w.alloc o).alloc o').cell? ((⟨B, 0, none⟩ : Addr).add j) = some x := by
  have h := (bal_two w o o').cell (p := ⟨B, 0 + j, none⟩) hB
  rw [Nat.zero_add] at h
  rw [show (⟨B, 0, none⟩ : Addr).add j = ⟨B, j, none⟩ by rw [add_mid_, Nat.zero_add], h]
  exact hc j x hx

end Go.Proofs.Ytnnlimjbmfpalaa
