import Derived.Test.YtdmlpdghhogkaaaGreatMg47
namespace Go.Proofs.YtdmlpdghhogkaaaGreat
open Go.ChangeShapes Go.WideShapes Go.ChangeAt Go.RowKit Go.Shelf
set_option linter.unusedVariables false
theorem items_mem : ∀ {f : Int} {es : List En} {x : It}, x ∈ items f es → ∃ k : Nat, k < es.length ∧ x = (f + k, nthE es k)
  | f, [], x, h => by simp [items] at h
  | f, e :: r, x, h => by
    rw [items] at h
    rcases List.mem_cons.1 h with rfl | h
    · exact ⟨0, by simp, by simp [nthE]⟩
    · obtain ⟨k, hk, rfl⟩ := items_mem h
      refine ⟨k + 1, by simp; omega, ?_⟩
      simp only [nthE, List.getElem?_cons_succ, Prod.mk.injEq, and_true]
      omega
theorem befC_iff {x y : Cd} : befC x y = true ↔ x.p < y.p ∨ (x.p = y.p ∧ x.id < y.id) := by simp [befC, beforeB]
theorem befC_irr (x : Cd) : befC x x = false := by
  cases h : befC x x
  · rfl
  · rw [befC_iff] at h; omega
theorem befC_ntrans {x y z : Cd} (h1 : befC x y = false) (h2 : befC y z = false) : befC x z = false := by
  cases h : befC x z
  · rfl
  · have n1 : ¬ befC x y = true := by simp [h1]
    have n2 : ¬ befC y z = true := by simp [h2]
    rw [befC_iff] at h n1 n2; omega
theorem stepC_cases (c : Cd) (x : It) : stepC c x = candV x.1 x.2.ln ∨ (stepC c x = c ∧ c.is = true) := by
  unfold stepC
  cases h : c.is
  · left; simp
  · cases h2 : befC (candV x.1 x.2.ln) c
    · right; simp
    · left; simp
theorem bestC_mem : ∀ (xs : List It), xs ≠ [] → ∃ x ∈ xs, bestC xs = candV x.1 x.2.ln := by
  intro xs
  have key : ∀ (ys : List It) (c : Cd), (c.is = true ∨ ys ≠ []) → (∃ x ∈ ys, ys.foldl stepC c = candV x.1 x.2.ln) ∨ (ys.foldl stepC c = c ∧ c.is = true) := by
    intro ys
    induction ys with
    | nil => intro c h; rcases h with h | h
             · exact .inr ⟨rfl, h⟩
             · exact absurd rfl h
    | cons y r ih =>
      intro c h
      rw [List.foldl_cons]
      rcases stepC_cases c y with e | ⟨e, hc⟩
      · rcases ih (stepC c y) (.inl (by rw [e]; rfl)) with ⟨x, hx, h2⟩ | ⟨h2, _⟩
        · exact .inl ⟨x, List.mem_cons_of_mem _ hx, h2⟩
        · exact .inl ⟨y, by simp, by rw [h2, e]⟩
      · rw [e]
        rcases ih c (.inl hc) with ⟨x, hx, h2⟩ | h2
        · exact .inl ⟨x, List.mem_cons_of_mem _ hx, h2⟩
        · exact .inr h2
  intro hne
  rcases key xs Cd.zero (.inr hne) with h | ⟨_, h⟩
  · exact h
  · cases h
theorem bestC_min (xs : List It) : ∀ x ∈ xs, befC (candV x.1 x.2.ln) (bestC xs) = false := by
  have key : ∀ (ys : List It) (c : Cd), (c.is = true → befC c (ys.foldl stepC c) = false) ∧ ∀ x ∈ ys, befC (candV x.1 x.2.ln) (ys.foldl stepC c) = false := by
    intro ys
    induction ys with
    | nil => intro c; exact ⟨fun _ => befC_irr c, fun x hx => by simp at hx⟩
    | cons y r ih =>
      intro c
      rw [List.foldl_cons]
      obtain ⟨i1, i2⟩ := ih (stepC c y)
      have hs : (stepC c y).is = true := by rcases stepC_cases c y with e | ⟨e, h⟩ <;> rw [e] <;> first | rfl | exact h
      have h1 := i1 hs
      have hy : befC (candV y.1 y.2.ln) (stepC c y) = false := by
        unfold stepC
        cases hb : (!c.is || befC (candV y.1 y.2.ln) c)
        · simp only [Bool.false_eq_true, if_false]
          simp at hb
          exact hb.2
        · simp only [if_true]
          exact befC_irr _
      refine ⟨fun hc => ?_, fun x hx => ?_⟩
      · refine befC_ntrans ?_ h1
        unfold stepC
        cases hb : (!c.is || befC (candV y.1 y.2.ln) c)
        · simp only [Bool.false_eq_true, if_false]
          exact befC_irr _
        · simp only [if_true]
          simp [hc] at hb
          cases h9 : befC c (candV y.1 y.2.ln)
          · rfl
          · rw [befC_iff] at hb h9
            omega
      · rcases List.mem_cons.1 hx with rfl | hx
        · exact befC_ntrans hy h1
        · exact i2 x hx
  exact (key xs Cd.zero).2
theorem bestC_is {xs : List It} (h : xs ≠ []) : (bestC xs).is = true := by
  obtain ⟨x, _, e⟩ := bestC_mem xs h
  rw [e]
  rfl
theorem seen_mem {D : Ds} {k : Int} {x : It} (h : x ∈ seenL D k) : ∃ j : Nat, k = j ∧ j < D.cs.length ∧ ((∃ i : Nat, i < (D.nth j).es.length ∧ x = ((i : Int), nthE (D.nth j).es i)) ∨ (∃ i : Nat, i < D.sh.length ∧ x = (32 + (i : Int), nthE D.sh i) ∧ targV D x.2.s = k)) := by
  unfold seenL at h
  split at h
  · rename_i hk
    obtain ⟨j, rfl, hj⟩ := hasN_at hk
    refine ⟨j, rfl, hj, ?_⟩
    rw [Int.toNat_natCast] at h
    rcases List.mem_append.1 h with h | h
    · obtain ⟨i, hi, rfl⟩ := items_mem h
      exact .inl ⟨i, hi, by simp⟩
    · obtain ⟨h1, h2⟩ := List.mem_filter.1 h
      obtain ⟨i, hi, rfl⟩ := items_mem h1
      exact .inr ⟨i, hi, rfl, by simpa [toB] using h2⟩
  · simp at h
theorem getR_at (f : Int) {es : List En} {i : Nat} (hi : i < es.length) : getR f es (f + i) = (nthE es i, 0) := by
  unfold getR
  rw [if_pos (by rw [hasB_iff]; omega), show f + (i : Int) - f = i by omega]
  rfl
theorem seen_get {D : Ds} (ok : D.Ok) {k : Int} {x : It} (h : x ∈ seenL D k) : getV D k x.1 = (x.2.ln, 0) := by
  obtain ⟨j, rfl, hj, ⟨i, hi, rfl⟩ | ⟨i, hi, rfl, _⟩⟩ := seen_mem h
  · have h32 := ok.own j hj
    have g := getR_at 0 hi
    rw [Int.zero_add] at g
    unfold getV
    rw [if_pos (by simp [hasN]; omega), if_pos (by show (i : Int) < 32; omega), Int.toNat_natCast]
    dsimp only
    rw [g]
  · unfold getV
    rw [if_pos (by simp [hasN]; omega), if_neg (by show ¬ (32 + (i : Int) < 32); omega)]
    dsimp only
    rw [getR_at 32 hi]
theorem ready_mem {D : Ds} {k : Int} {x : It} (h : x ∈ readyL D k) : x ∈ seenL D k ∧ x.2.ln.en = true ∧ x.2.ln.st.ready = true ∧ asleepV D k = false := by
  unfold readyL at h
  split at h
  · simp at h
  · rename_i ha
    obtain ⟨h1, h2⟩ := List.mem_filter.1 h
    unfold rdyB at h2
    simp only [Bool.and_eq_true] at h2
    exact ⟨h1, h2.1, h2.2.2, by simpa using ha⟩
theorem ready_act {x : St} (h : x.ready = true) : x.a = false := by
  unfold St.ready at h
  simp at h
  exact h.2
theorem best_of {xs : List It} {x : It} (h : x ∈ xs) : (bestC xs).is = true ∧ ¬ x.2.ln.p < (bestC xs).p ∧ (x.2.ln.p = (bestC xs).p → ¬ x.1 < (bestC xs).id) := by
  have h1 := bestC_min xs x h
  have h2 : ¬ befC (candV x.1 x.2.ln) (bestC xs) = true := by simp [h1]
  rw [befC_iff] at h2
  refine ⟨bestC_is (fun e => by rw [e] at h; simp at h), fun q => h2 (.inl q), fun e q => h2 (.inr ⟨e, q⟩)⟩
end Go.Proofs.YtdmlpdghhogkaaaGreat
