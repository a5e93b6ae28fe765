/-
  A region that draws its order, in a round of a range over a function: the walk under a condition (what its own operations read). Nothing of the program.
-/
import Derived.OwnWalkIn
import Derived.Deep.RegionHeld3
import Derived.RangeFuncCalls
import Derived.Test.YtobhdjepfhbgaaaDoorGnd
namespace Go.Proofs.YtobhdjepfhbgaaaDoor
open Go.ChangeShapes Go.WideShapes Go.ChangeAt Go.RowKit
set_option linter.unusedVariables false

def plainOp (o : Oper) : Bool := match o.op with
  | .defer _ => false
  | _ => true
theorem plainOp_out {o : Oper} (h : plainOp o = true) : ∀ c, o.op ≠ .defer c := fun c e => by simp [plainOp, e] at h

section
variable {F : Fence} {n : Nat} {P : Program} {ops : Array Oper} {md : Region.Mode} {C : World → Prop}

/-- A post that speaks of the way on alone. -/
def NormQ (R : Act → World → Prop) : Exit → Act → World → Prop
  | .normal, a, w => R a w
  | _, _, _ => False
theorem normQ_in {Q : Exit → Act → World → Prop} {a : Act} {w : World} (h : Q .normal a w) : NormQ (fun a w => Q .normal a w) .normal a w := h
theorem normQ_out {R : Act → World → Prop} : ¬ LetsOut (NormQ R) := fun ⟨_, _, h⟩ => h
theorem rows_r (l : Nat) {row : String} {args : Array Value} {w : World} {R : Value → World → Prop} (h : Rows P row args w R) : RowsIn (Fence.wide.inRound l) n P row args w R := fun c cs _ => let ⟨v, w', r, s⟩ := h c cs; ⟨v, w', r, stepsIn_wide.2 s⟩
theorem wpOpIn_of_op {l : Nat} {Q : Exit → Act → World → Prop} {R : Act → World → Prop} (hnd : ∀ (j : Nat) (o : Oper), ops[j]? = some o → plainOp o = true) {i : Nat} {a : Act} {w : World} {K K' : Act → World → Prop} (hK : ∀ a w, K a w → K' a w)
    (h : wpOp P ops (NormQ R) i K a w) : wpOpIn (Fence.wide.inRound l) n P ops Q i K' a w := by
  unfold wpOp at h
  unfold wpOpIn
  split
  · rename_i ho; simp only [ho] at h; exact hK _ _ h
  · rename_i o ho
    simp only [ho] at h
    split
    · rename_i hw
      simp only [hw, if_true] at h
      rcases h with h | h
      · unfold Oper.wp at h
        unfold Oper.wpIn
        refine ⟨fun _ _ => trivial, ?_⟩
        rw [Oper.semAt_plain _ _ _ (plainOp_out (hnd i o ho))]
        generalize (execOp a.eval o).run P w = r at *
        cases r with
        | ok x w' =>
          cases x <;> simp only [Oper.upon] at h <;> simp only [Oper.uponIn]
          case value u => exact hK _ _ h
          case skip => exact hK _ _ h
          case defer d => exact hK _ _ h
          case enter f args => exact ⟨fun hd => by simp [Fence.inRound, Fence.wide] at hd, CallsIn.inRound l (callsIn_wide.2 (h.mono fun e w'' he => by
            cases e with
            | returned v => exact hK _ _ he
            | panicked c => exact he.elim
            | outgrown => exact (normQ_out he).elim))⟩
          case row row args => exact ⟨fun hd => by simp [Fence.inRound, Fence.wide] at hd, rows_r l (h.mono fun _ _ he => hK _ _ he)⟩
        | halt x w' => cases x <;> simp only [Oper.upon] at h <;> exact h.elim
      · exact (normQ_out h.2).elim
    · rename_i hw
      simp only [hw] at h
      exact ⟨fun _ _ => trivial, hK _ _ h⟩
theorem wpAnyIn_of_any {l : Nat} {Q : Exit → Act → World → Prop} {R : Act → World → Prop} (hnd : ∀ (j : Nat) (o : Oper), ops[j]? = some o → plainOp o = true) (hR : ∀ a w, R a w → Q .normal a w) : ∀ (fuel : Nat) (listed : Array Bool) (a : Act) (w : World),
    wpAny P md ops (NormQ R) fuel listed a w → wpAnyIn (Fence.wide.inRound l) n P md ops Q fuel listed a w
  | 0, _, _, _, h => ⟨h.1, hR _ _ h.2⟩
  | fuel + 1, _, _, _, h => ⟨fun h0 => hR _ _ (h.1 h0), fun i hi => wpOpIn_of_op hnd (fun a' w' => wpAnyIn_of_any hnd hR fuel _ a' w') (h.2 i hi)⟩
/-- The beginning of a walk under a condition, in a round. -/
theorem region_held_r {l : Nat} {id : Nat} {Q : Exit → Act → World → Prop} {S : World → Prop} {a : Act} {w : World} {os : List Oper} (hm : P.follows .mixedOrders = true) (hnd : os.all plainOp = true) (hS : S w.drew)
    (h : S w.drew → wpAnyH P .any os.toArray (NormQ fun a w => Q .normal a w) S os.toArray.size (Array.replicate os.toArray.size false) a w.drew) : (Code.region id os.toArray true).wpIn (Fence.wide.inRound l) n P Q a w :=
  wpIn_region_any hm (wpAnyIn_of_any (fun j o ho => List.all_eq_true.1 hnd o (List.mem_of_getElem? (by simpa using ho))) (fun _ _ h => h) _ _ _ _ (wpAny_of_held _ _ _ _ (h hS)))
end

end Go.Proofs.YtobhdjepfhbgaaaDoor
