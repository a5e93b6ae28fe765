/-
  Two ladders compared; the law LadderBack at every input.
-/
import Derived.Test.YtnnlimjbmfpalaaLadI
import Derived.Laws.StructEq
import Derived.ChangeKeysEq
namespace Go.Proofs.Ytnnlimjbmfpalaa
open Go.ChangeShapes Go.WideShapes Go.ChangeAt Go.RowKit
set_option linter.unusedVariables false

def eq2 (a b c d : Int) : Bool := a == c && b == d
theorem eq2_self (a b : Int) : eq2 a b a b = true := by simp [eq2]
theorem equal_words (d : Nat) (a b a' b' : Int) (w : World) : (Op.equalIn (d + 2) 25 (.agg #[.int .u32 a, .int .u32 b]) (.agg #[.int .u32 a', .int .u32 b'])).run Try.prog w = .ok (eq2 a b a' b') w := by
  have u3 := Try.underlying24
  have a3 := Try.isAgg24
  obtain ⟨i, hi⟩ : ∃ i, Try.prog.info? 24 = some i := by
    cases h : Try.prog.info? 24 with
    | none => have := size_u32; simp [h] at this
    | some i => exact ⟨i, rfl⟩
  have hc : Try.prog.cellsOf 24 = 1 := by kernel_rfl
  rw [run_equalIn_array w (d + 1) _ _ Try.underlying25 hi, hc]
  simp only [Op.eqItems, List.range_succ, List.range_zero, List.nil_append, List.cons_append]
  go_simp
  unfold eq2
  by_cases h1 : a = a' <;> by_cases h2 : b = b' <;> simp [h1, h2]
theorem equal2 (a b a' b' : Int) (w : World) : (Op.equalIn 10000 27 (.agg #[.int .u32 a, .int .u32 b]) (.agg #[.int .u32 a', .int .u32 b'])).run Try.prog w = .ok (eq2 a b a' b') w := by
  have hS : Try.prog.underlying 27 = some (.struct (Try.prog.fieldsOf 27)) := by kernel_rfl
  have hp : Try.prog.stoodInHeld 27 = false := by kernel_rfl
  have e1 := fun W => equal_words 9997 a b a' b' W
  have a3 := Try.isAgg25
  have z3 := Try.sizeOf25
  rw [show (10000 : Nat) = 9999 + 1 from rfl, run_equalIn_agg w 9999 _ _ _ hS hp]
  simp only [Program.fieldsOf, Try.underlying27]
  go_simp
  cases eq2 a b a' b' <;> rfl
theorem eql2 (a b a' b' : Int) (w : World) : (binOp .eql 27 (.agg #[.int .u32 a, .int .u32 b]) (.agg #[.int .u32 a', .int .u32 b'])).run Try.prog w = .ok (.bool (eq2 a b a' b')) w := by
  rw [run_eql_struct, equal2]; rfl
theorem guard2 (op : BinOp) (x y : Operand) (xs ys : Array Value) (w : World) : (eqGuard op 27 x y (.agg xs) (.agg ys)).run Try.prog w = .ok () w := run_eqGuard_agg w op _ _ _ _ _ (by kernel_rfl)
attribute [local go_sem high] eql2 guard2

/-! ### What is pushed on top -/
theorem rungs_lt {f : Rg} {i : Nat} (h : i ∈ rungs f) : i < 64 ∧ f i = true := (mem_upto f i 64).1 h
theorem upto_first {f : Rg} {i : Nat} (hi : f i = true) (hl : ∀ j, j < i → f j = false) : ∀ n, (upto f n).head? = if i < n then some i else none
  | 0 => by simp [upto]
  | n + 1 => by
    have ih := upto_first hi hl n
    by_cases h : i < n
    · rw [if_pos h] at ih
      rw [if_pos (by omega)]
      rw [upto]
      split
      · cases hu : upto f n with
        | nil => rw [hu] at ih; simp at ih
        | cons a r => rw [hu] at ih; simpa using ih
      · exact ih
    · rw [if_neg h] at ih
      have hu : upto f n = [] := List.head?_eq_none_iff.1 ih
      by_cases e : i = n
      · subst e
        rw [upto_pos hi, hu, if_pos (by omega)]; rfl
      · rw [if_neg (by omega), upto_neg (hl n (by omega)), hu]; rfl
theorem top_first {f : Rg} {i : Nat} (hi : f i = true) (h64 : i < 64) (hl : ∀ j, j < i → f j = false) : top f = some i := by
  rw [top, rungs, upto_first hi hl 64, if_pos h64]
theorem upto_head {f : Rg} {i : Nat} : ∀ {n : Nat}, (upto f n).head? = some i → ∀ j, j < i → f j = false
  | 0, h, j, hj => by simp [upto] at h
  | n + 1, h, j, hj => by
    by_cases hu : upto f n = []
    · have hn : ∀ j, j < n → f j = false := fun j hj => by
        cases hf : f j with
        | false => rfl
        | true => have := (mem_upto f j n).2 ⟨hj, hf⟩; rw [hu] at this; simp at this
      rw [upto] at h
      split at h
      · rw [hu] at h
        obtain rfl : n = i := by simpa using h
        exact hn j hj
      · rw [hu] at h; simp at h
    · have h2 : (upto f n).head? = some i := by
        rw [upto] at h
        split at h
        · cases hx : upto f n with
          | nil => exact absurd hx hu
          | cons a r => rw [hx] at h; simpa using h
        · exact h
      exact upto_head h2 j hj
theorem top_min {f : Rg} {i : Nat} (h : top f = some i) (j : Nat) (hj : j < i) : f j = false := upto_head h j hj
theorem top_none {f : Rg} (h : top f = none) (j : Nat) (hj : j < 64) : f j = false := by
  have hr : rungs f = [] := List.head?_eq_none_iff.1 h
  cases hf : f j with
  | false => rfl
  | true => have := (mem_upto f j 64).2 ⟨hj, hf⟩; rw [show upto f 64 = rungs f from rfl, hr] at this; simp at this
/-- Nothing runs at a place ahead of what runs. -/
theorem run_before {f : Rg} {k g : Nat} (hk : k < 32) (hg : g < 2) (h : 8 * (k : Int) < (runV f).1) (j : Nat) (hj : j ≤ 2 * k + g) : f j = false := by
  cases ht : top f with
  | none => exact top_none ht j (by omega)
  | some t =>
    rw [runV_some ht] at h
    dsimp only at h
    exact top_min ht j (by omega)
theorem push_top {f : Rg} {k g : Nat} (hk : k < 32) (hg : g < 2) (h : 8 * (k : Int) < (runV f).1) : top (put f (2 * k + g) true) = some (2 * k + g) :=
  top_first (put_same _ _ _) (by omega) (fun j hj => by rw [put_other f true (by omega)]; exact run_before hk hg h j (by omega))
theorem push_drop {f : Rg} {k g : Nat} (hk : k < 32) (hg : g < 2) (h : 8 * (k : Int) < (runV f).1) : dropR (put f (2 * k + g) true) = f := by
  rw [dropR_some (push_top hk hg h), put_put]
  exact put_id (run_before hk hg h _ (Nat.le_refl _))

end Go.Proofs.Ytnnlimjbmfpalaa
