/-
  A region that draws its order, read only, within a round of a range over a function: walked once, in the order of the text. The fence of a round asks something else of a 'defer' alone. Nothing of the program.
-/
import Derived.Test.YtfnokpajendlmaaWin
import Derived.Sort.QuietTacIn
import Derived.OrdersIn
namespace Go.Proofs.Ytfnokpajendlmaa
open Go.ChangeShapes Go.WideShapes Go.ChangeAt Go.RowKit
set_option linter.unusedVariables false

/-- No operation of the region defers a call. -/
def noDefer (ops : Array Oper) : Bool := ops.all fun o => match o.op with | .defer _ => false | _ => true
theorem noDefer_at {ops : Array Oper} (h : noDefer ops = true) {i : Nat} {o : Oper} (ho : ops[i]? = some o) : ∀ c, o.op ≠ .defer c := fun c e => by
  obtain ⟨hi, rfl⟩ := Array.getElem?_eq_some_iff.1 ho
  have h1 := Array.all_eq_true.1 h i hi
  rw [e] at h1
  cases h1
section
variable {F : Fence} {n : Nat} {P : Program} {ops : Array Oper}
theorem wpOpIn_round {Q : Exit → Act → World → Prop} {i l : Nat} {K K' : Act → World → Prop} {a : Act} {w : World} (hro : F.round = none) (hd : noDefer ops = true) (hK : ∀ a w, K a w → K' a w) (h : wpOpIn F n P ops Q i K a w) : wpOpIn (F.inRound l) n P ops Q i K' a w := by
  have h' := wpOpIn_mono (fun a w => hK a w) h
  unfold wpOpIn at h' ⊢
  split
  · rename_i ho; simp only [ho] at h'; exact h'
  · rename_i o ho
    simp only [ho] at h'
    split
    · rename_i hw
      simp only [hw, if_true] at h'
      unfold Oper.wpIn at h' ⊢
      rw [hro, Oper.semAt_none] at h'
      rw [Fence.inRound_round, Oper.semAt_eq _ _ _ (noDefer_at hd ho)]
      exact h'
    · rename_i hw
      simp only [hw] at h'
      exact h'
theorem wpAnyIn_round {Q : Exit → Act → World → Prop} {l : Nat} {md : Region.Mode} (hro : F.round = none) (hd : noDefer ops = true) : ∀ (fuel : Nat) (listed : Array Bool) (a : Act) (w : World), wpAnyIn F n P md ops Q fuel listed a w → wpAnyIn (F.inRound l) n P md ops Q fuel listed a w
  | 0, _, _, _, h => h
  | fuel + 1, _, _, _, h => ⟨h.1, fun i hi => wpOpIn_round hro hd (fun a w => wpAnyIn_round hro hd fuel _ a w) (h.2 i hi)⟩
theorem wpIn_region_quiet_round {id l : Nat} {Q : Exit → Act → World → Prop} {a : Act} {w : World} {os : List Oper} (hro : F.round = none) (hd : noDefer os.toArray = true) (hm : P.follows .mixedOrders = true) (hB : Region.lexB .any os.toArray = true)
    (h : wpQuietIn F n P os.toArray (fun w' => ∃ n, w' = w.drewN n) (fun a' => ∀ w', (∃ n, w' = w.drewN n) → Q .normal a' w') os a) : (Code.region id os.toArray true).wpIn (F.inRound l) n P Q a w := by
  simp only [Region.lexB, Bool.and_eq_true] at hB
  refine wpIn_region_any hm (wpAnyIn_round hro hd _ _ _ _ (wpAnyIn_of_quiet (C := fun w' => ∃ n, w' = w.drewN n) (Q := fun a' => ∀ w', (∃ n, w' = w.drewN n) → Q .normal a' w') hro (fun _ w' hw' h => h w' hw') _ _ _ _ ⟨1, rfl⟩ ?_))
  have := wpAnyQIn_lex (F := F) (n := n) (C := fun w' => ∃ n, w' = w.drewN n) (md := .any) hB.1 os 0 (Array.replicate os.toArray.size false) a (by simp) (by simpa using hB.2) h
  simpa using this
end

end Go.Proofs.Ytfnokpajendlmaa
