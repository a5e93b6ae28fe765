/-
  What is taken first, plain: it waits, is let in, and nothing else that waits and is let in comes ahead of it.
-/
import Derived.Test.YtjcbclfomnjdkaaDoorLpA
namespace Go.Proofs.YtjcbclfomnjdkaaDoor
open Go.ChangeShapes Go.WideShapes Go.ChangeAt Go.RowKit
set_option linter.unusedVariables false
set_option linter.unusedSimpArgs false

def cdK (x : St) (k : Nat) : Cd := ⟨((8192 + k : Nat) : Int), realN (cfgK x k), 1, true⟩
def BestInv (x : St) (l : List Nat) (c : Cd) : Prop :=
  (c = ⟨0, 0, 0, false⟩ ∧ ∀ k ∈ l, ¬ cfgK x k % 2 = 1) ∨
  (∃ k, k ∈ l ∧ cfgK x k % 2 = 1 ∧ c = cdK x k ∧ ∀ j ∈ l, cfgK x j % 2 = 1 → realN (cfgK x k) < realN (cfgK x j) ∨ (realN (cfgK x k) = realN (cfgK x j) ∧ k ≤ j))
theorem BestInv.step {x : St} {l : List Nat} {c : Cd} (h : BestInv x l c) (k : Nat) : BestInv x (l ++ [k]) (bestC x c k) := by
  by_cases hk : cfgK x k % 2 = 1
  · rcases h with ⟨rfl, h⟩ | ⟨m, hm, hm1, rfl, hall⟩
    · refine .inr ⟨k, by simp, hk, ?_, fun j hj hj1 => ?_⟩
      · rw [bestC, if_pos ⟨hk, .inl rfl⟩]; rfl
      · rcases List.mem_append.1 hj with h1 | h1
        · exact absurd hj1 (h j h1)
        · have e : j = k := by simpa using h1
          subst e; exact .inr ⟨rfl, Nat.le_refl _⟩
    · by_cases hb : realN (cfgK x k) < realN (cfgK x m) ∨ (realN (cfgK x k) = realN (cfgK x m) ∧ k < m)
      · refine .inr ⟨k, by simp, hk, ?_, fun j hj hj1 => ?_⟩
        · have hb2 : (realN (cfgK x k) : Int) < (cdK x m).p ∨ ((realN (cfgK x k) : Int) = (cdK x m).p ∧ ((8192 + k : Nat) : Int) < (cdK x m).id) := by
            show (realN (cfgK x k) : Int) < (realN (cfgK x m) : Int) ∨ ((realN (cfgK x k) : Int) = (realN (cfgK x m) : Int) ∧ ((8192 + k : Nat) : Int) < ((8192 + m : Nat) : Int))
            omega
          rw [bestC, if_pos ⟨hk, .inr hb2⟩]; rfl
        · rcases List.mem_append.1 hj with h1 | h1
          · have := hall j h1 hj1; omega
          · have e : j = k := by simpa using h1
            subst e; exact .inr ⟨rfl, Nat.le_refl _⟩
      · refine .inr ⟨m, by simp [hm], hm1, ?_, fun j hj hj1 => ?_⟩
        · rw [bestC, if_neg]
          rintro ⟨_, h1 | h1⟩
          · cases h1
          · have h2 : (realN (cfgK x k) : Int) < (realN (cfgK x m) : Int) ∨ ((realN (cfgK x k) : Int) = (realN (cfgK x m) : Int) ∧ ((8192 + k : Nat) : Int) < ((8192 + m : Nat) : Int)) := h1
            omega
        · rcases List.mem_append.1 hj with h1 | h1
          · exact hall j h1 hj1
          · have e : j = k := by simpa using h1
            subst e; omega
  · have e : bestC x c k = c := by rw [bestC, if_neg (fun h => hk h.1)]
    rw [e]
    rcases h with ⟨rfl, h⟩ | ⟨m, hm, hm1, rfl, hall⟩
    · exact .inl ⟨rfl, fun j hj => by
        rcases List.mem_append.1 hj with h1 | h1
        · exact h j h1
        · have e : j = k := by simpa using h1
          subst e; exact hk⟩
    · exact .inr ⟨m, by simp [hm], hm1, rfl, fun j hj hj1 => by
        rcases List.mem_append.1 hj with h1 | h1
        · exact hall j h1 hj1
        · have e : j = k := by simpa using h1
          subst e; exact absurd hj1 hk⟩
theorem best_inv (x : St) (l : List Nat) : BestInv x l (bestL x l) := by
  have : ∀ (l pre : List Nat) (c : Cd), BestInv x pre c → BestInv x (pre ++ l) (l.foldl (bestC x) c) := by
    intro l
    induction l with
    | nil => intro pre c h; simpa using h
    | cons a r ih =>
      intro pre c h
      have h2 := ih (pre ++ [a]) (bestC x c a) (h.step a)
      simpa using h2
  have h := this l [] ⟨0, 0, 0, false⟩ (.inl ⟨rfl, fun k hk => by cases hk⟩)
  simpa [bestL] using h
/-- How many of them are let in. -/
def inN (x : St) (l : List Nat) : Nat := (l.filter fun k => decide (cfgK x k % 2 = 1)).length
theorem inN_snoc (x : St) (l : List Nat) (k : Nat) : inN x (l ++ [k]) = if cfgK x k % 2 = 1 then inN x l + 1 else inN x l := by
  unfold inN
  rw [List.filter_append]
  by_cases h : cfgK x k % 2 = 1 <;> simp [h]
theorem inN_le (x : St) (l : List Nat) : inN x l ≤ l.length := List.length_filter_le _ _
theorem inN_pos (x : St) (l : List Nat) : 0 < inN x l ↔ ∃ k, k ∈ l ∧ cfgK x k % 2 = 1 := by
  unfold inN
  rw [List.length_pos_iff_exists_mem]
  simp
theorem best_is (x : St) (l : List Nat) : (bestL x l).is = decide (0 < inN x l) := by
  rcases best_inv x l with ⟨e, h⟩ | ⟨k, hk, hk1, e, _⟩
  · have : ¬ 0 < inN x l := fun h1 => by
      obtain ⟨k, hk, hk1⟩ := (inN_pos x l).1 h1
      exact h k hk hk1
    rw [e, decide_eq_false this]
  · rw [e, decide_eq_true ((inN_pos x l).2 ⟨k, hk, hk1⟩)]; rfl
/-- Nothing that waits and is let in comes ahead of it. -/
theorem best_not {x : St} {l : List Nat} {k : Nat} (hk : k ∈ l) (h1 : cfgK x k % 2 = 1) : (bestL x l).is = true ∧ ¬ ((realN (cfgK x k) : Int) < (bestL x l).p) ∧ ¬ ((realN (cfgK x k) : Int) = (bestL x l).p ∧ ((8192 + k : Nat) : Int) < (bestL x l).id) := by
  rcases best_inv x l with ⟨e, h⟩ | ⟨m, hm, hm1, e, hall⟩
  · exact absurd h1 (h k hk)
  · rw [e]
    have h2 := hall k hk h1
    refine ⟨rfl, ?_, ?_⟩
    · show ¬ ((realN (cfgK x k) : Int) < (realN (cfgK x m) : Int)); omega
    · show ¬ ((realN (cfgK x k) : Int) = (realN (cfgK x m) : Int) ∧ ((8192 + k : Nat) : Int) < ((8192 + m : Nat) : Int)); omega
/-- The last question of the law. -/
theorem best_last {bs : List Nat} {x : St} {L : Nat} (ok : x.Ok L) (hon : x.on = true) (h : (bestV x).is = true) :
    inV x (bestV x).id = true ∧ prV x (bestV x).id = (bestV x).p ∧ (bestV x).g = 1 ∧ hasV bs x (bestV x).id = true := by
  unfold bestV at h ⊢
  rcases best_inv x (lst x.P x.n) with ⟨e, _⟩ | ⟨m, hm, hm1, e, _⟩
  · rw [e] at h; cases h
  · rw [e]
    obtain ⟨h1, h2⟩ := lst_mem.1 hm
    have ho : ownB x ((8192 + m : Nat) : Int) = true := by rw [ownB_at]; simpa using h1
    refine ⟨?_, ?_, rfl, ?_⟩
    · show inV x ((8192 + m : Nat) : Int) = true
      rw [inV, ho, kOf_at, Bool.true_and]; simpa using hm1
    · show prV x ((8192 + m : Nat) : Int) = (realN (cfgK x m) : Int)
      rw [prV, if_pos ho, kOf_at]
    · show hasV bs x ((8192 + m : Nat) : Int) = true
      rw [hasV, ho, kOf_at, Bool.true_and, hasK, if_pos hon]; exact h2
theorem best_off {x : St} {L : Nat} (ok : x.Ok L) (hon : x.on = false) : bestV x = ⟨0, 0, 0, false⟩ := by
  unfold bestV
  rw [lst_none (ok.off hon)]; rfl
theorem wait_on {bs : List Nat} {x : St} (hon : x.on = true) : waitL bs x = lst x.P x.n := lst_congr (fun k _ => by unfold hasK; rw [if_pos hon])

end Go.Proofs.YtjcbclfomnjdkaaDoor
