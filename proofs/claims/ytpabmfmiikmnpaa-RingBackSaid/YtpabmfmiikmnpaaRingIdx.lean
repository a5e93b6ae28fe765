/-
  Package ring, the plain reckoning by indexes: where the next entry stands, how many wait, and that as many steps as there are entries lead back.
-/
import Derived.Test.YtpabmfmiikmnpaaRingC
namespace Go.Proofs.Ytpabmfmiikmnpaa
set_option linter.unusedVariables false

theorem idx_of {s t a : Int} (h : mayB s t a = true) : a = a / t * t ∧ 0 ≤ a / t ∧ a / t < s / t := ⟨(may_mul h).symm, (hasB_out (may_has h)).2.1, (hasB_out (may_has h)).2.2⟩
theorem size_of {s t : Int} (h : rightB s t = true) : s = s / t * t := by
  obtain ⟨k1, k2, k3, _⟩ := rightB_out h
  exact (Int.ediv_mul_cancel (Int.dvd_of_emod_eq_zero k3)).symm

theorem mul_lt {i j t : Int} (h1 : 1 ≤ t) : i * t < j * t ↔ i < j := ⟨fun h => Int.lt_of_mul_lt_mul_right h (by omega), fun h => Int.mul_lt_mul_of_pos_right h (by omega)⟩

theorem left_idx {s t r v : Int} (h : mayB s t r = true) (g : mayB s t v = true) : leftR s t r v = if v / t < r / t then v / t - r / t + s / t else v / t - r / t := by
  obtain ⟨hr, _⟩ := mayB_out h
  obtain ⟨k1, k2, k3, k4⟩ := rightB_out hr
  obtain ⟨er, _, _⟩ := idx_of h
  obtain ⟨ev, _, _⟩ := idx_of g
  have es := size_of hr
  have hlt : v < r ↔ v / t < r / t := by
    rw [← mul_lt k1 (i := v / t), ← er, ← ev]
  unfold leftR
  by_cases x : v < r
  · rw [if_pos x, if_pos (hlt.1 x)]
    have : v - r + s = (v / t - r / t + s / t) * t := by rw [Int.add_mul, Int.sub_mul, ← er, ← ev, ← es]
    rw [this, Int.mul_ediv_cancel _ (by omega)]
  · rw [if_neg x, if_neg (fun y => x (hlt.2 y))]
    have : v - r = (v / t - r / t) * t := by rw [Int.sub_mul, ← er, ← ev]
    rw [this, Int.mul_ediv_cancel _ (by omega)]

theorem next_idx {s t a : Int} (h : mayB s t a = true) : nextR s t a / t = if a / t + 1 = s / t then 0 else a / t + 1 := by
  obtain ⟨hr, _⟩ := mayB_out h
  obtain ⟨k1, k2, k3, k4⟩ := rightB_out hr
  obtain ⟨ea, _, _⟩ := idx_of h
  have es := size_of hr
  have e : a + t = (a / t + 1) * t := by rw [Int.add_mul, ← ea]; omega
  unfold nextR
  by_cases x : a / t + 1 = s / t
  · rw [if_pos x, if_pos (by rw [e, x, ← es])]; simp
  · rw [if_neg x, if_neg (fun y => x (by
      have : (a / t + 1) * t = s / t * t := by rw [← e, ← es]; exact y
      exact Int.eq_of_mul_eq_mul_right (by omega) this)), e, Int.mul_ediv_cancel _ (by omega)]

theorem idx_inj {s t a b : Int} (h : mayB s t a = true) (g : mayB s t b = true) (e : a / t = b / t) : a = b := by
  rw [(idx_of h).1, (idx_of g).1, e]

theorem seq_idx {s t a : Int} (h : mayB s t a = true) : ∀ k : Nat, (k : Int) ≤ s / t → seqR s t a k / t = if a / t + k < s / t then a / t + k else a / t + k - s / t
  | 0, _ => by
    obtain ⟨_, h1, h2⟩ := idx_of h
    simp [seqR]; omega
  | k + 1, hk => by
    obtain ⟨_, h1, h2⟩ := idx_of h
    have ih := seq_idx h k (by omega)
    rw [seqR, next_idx (seqR_may h k), ih]
    split <;> split <;> (try split) <;> omega

/-- As many steps as there are entries lead back. -/
theorem seq_round {s t a : Int} (h : mayB s t a = true) : seqR s t a (s / t).toNat = a := by
  obtain ⟨_, h1, h2⟩ := idx_of h
  refine idx_inj (seqR_may h _) h ?_
  rw [seq_idx h _ (by omega)]
  split <;> omega

/-- An entry more. -/
theorem left_to {s t r v : Int} (h : mayB s t r = true) (g : mayB s t v = true) : leftR s t r (nextR s t v) = if s / t - 1 - leftR s t r v = 0 then 0 else leftR s t r v + 1 := by
  obtain ⟨_, h1, h2⟩ := idx_of h
  obtain ⟨_, g1, g2⟩ := idx_of g
  rw [left_idx h (next_may g), left_idx h g, next_idx g]
  split <;> split <;> split <;> (try split) <;> omega

/-- An entry less. -/
theorem left_from {s t r v : Int} (h : mayB s t r = true) (g : mayB s t v = true) : leftR s t (nextR s t r) v = if leftR s t r v = 0 then s / t - 1 else leftR s t r v - 1 := by
  obtain ⟨_, h1, h2⟩ := idx_of h
  obtain ⟨_, g1, g2⟩ := idx_of g
  rw [left_idx (next_may h) g, left_idx h g, next_idx h]
  split <;> split <;> split <;> (try split) <;> omega

end Go.Proofs.Ytpabmfmiikmnpaa
