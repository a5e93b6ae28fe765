import Derived.Test.YtieedhdmpabfkaaGreatMg39
set_option linter.unusedSimpArgs false
namespace Go.Proofs.YtieedhdmpabfkaaGreat
open Go.ChangeShapes Go.WideShapes Go.ChangeAt Go.RowKit Go.Shelf
set_option linter.unusedVariables false
theorem items_mem : ∀ {f : Int} {es : List En} {x : It}, x ∈ items f es → ∃ k : Nat, k < es.length ∧ x = (f + k, nthE es k)
 | f, [], x, h => by simp [items] at h
 | f, e :: r, x, h => by
  rw [items] at h
  rcases List.mem_cons.1 h with rfl | h
  ·exact ⟨0, by simp, by simp [nthE]⟩
  ·obtain ⟨k, hk, rfl⟩ := items_mem h
   refine ⟨k + 1, by simp; omega, ?_⟩
   simp only [nthE, List.getElem?_cons_succ, Prod.mk.injEq, and_true]
   omega
theorem seen_mem {D : Ds} {k : Int} {x : It} (h : x ∈ seenL D k) : ∃ j : Nat, k = j ∧ j < D.cs.length ∧ ((∃ i : Nat, i < (D.nth j).es.length ∧ x = ((i : Int), nthE (D.nth j).es i)) ∨ (∃ i : Nat, i < D.sh.length ∧ x = (32 + (i : Int), nthE D.sh i) ∧ targV D x.2.s = k)) := by
 unfold seenL at h
 split at h
 ·rename_i hk
  obtain ⟨j, rfl, hj⟩ := hasN_at hk
  refine ⟨j, rfl, hj, ?_⟩
  rw [Int.toNat_natCast] at h
  rcases List.mem_append.1 h with h | h
  ·obtain ⟨i, hi, rfl⟩ := items_mem h
   exact .inl ⟨i, hi, by simp⟩
  ·obtain ⟨h1, h2⟩ := List.mem_filter.1 h
   obtain ⟨i, hi, rfl⟩ := items_mem h1
   exact .inr ⟨i, hi, rfl, by simpa [toB] using h2⟩
 ·simp at h
theorem getR_at (f : Int) {es : List En} {i : Nat} (hi : i < es.length) : getR f es (f + i) = (nthE es i, 0) := by
 unfold getR
 rw [if_pos (by rw [hasB_iff]; omega), show f + (i : Int) - f = i by omega]
 rfl
theorem seen_get {D : Ds} (ok : D.Ok) {k : Int} {x : It} (h : x ∈ seenL D k) : getV D k x.1 = (x.2.ln, 0) := by
 obtain ⟨j, rfl, hj, ⟨i, hi, rfl⟩ | ⟨i, hi, rfl, _⟩⟩ := seen_mem h
 ·have h32 := ok.own j hj
  have g := getR_at 0 hi
  rw [Int.zero_add] at g
  unfold getV
  rw [if_pos (by simp [hasN]; omega), if_pos (by show (i : Int) < 32; omega), Int.toNat_natCast]
  dsimp only
  rw [g]
 ·unfold getV
  rw [if_pos (by simp [hasN]; omega), if_neg (by show ¬ (32 + (i : Int) < 32); omega)]
  dsimp only
  rw [getR_at 32 hi]
theorem ready_mem {D : Ds} {k : Int} {x : It} (h : x ∈ readyL D k) : x ∈ seenL D k ∧ x.2.ln.en = true ∧ x.2.ln.st.ready = true ∧ asleepV D k = false := by
 unfold readyL at h
 split at h
 ·simp at h
 ·rename_i ha
  obtain ⟨h1, h2⟩ := List.mem_filter.1 h
  unfold rdyB at h2
  simp only [Bool.and_eq_true] at h2
  exact ⟨h1, h2.1, h2.2.2, by simpa using ha⟩
structure DK (n : Nat) (w : World) (p q : Nat) (b c : Nat → Nat) (D : Ds) (l : Nat) (F : Nat → Prop) (W : World) : Prop where
 di : DiAt W p q b c D
 ql : q ≤ l
 ge : ∀ i, F i → l ≤ i
 below : Below n w W
 nl : n ≤ l
 lz : l ≤ W.heap.size
theorem DK.pb {n : Nat} {w : World} {p q : Nat} {b c : Nat → Nat} {D : Ds} {l : Nat} {F : Nat → Prop} {W : World} (h : DK n w p q b c D l F W) : p < q := by have := h.di.rng 0 (by omega); omega
theorem DK.later {n : Nat} {w : World} {p q : Nat} {b c : Nat → Nat} {D : Ds} {l : Nat} {F : Nat → Prop} {W W' : World} (h : DK n w p q b c D l F W) (k : Below W.heap.size W W') (hn : n ≤ W.heap.size) : DK n w p q b c D l F W' := ⟨h.di.below k, h.ql, h.ge, h.below.trans (k.mono hn), h.nl, Nat.le_trans h.lz k.size⟩
theorem DK.set {n : Nat} {w : World} {p q : Nat} {b c : Nat → Nat} {D : Ds} {l : Nat} {F : Nat → Prop} {W : World} (h : DK n w p q b c D l F W) {x o : Nat} (hx : l ≤ x) (u : Value) : DK n w p q b c D l F (W.setCell ⟨x, o, none⟩ u) :=
 ⟨h.di.same (by simp) (fun i a e => Below.heap_setCell W ⟨x, o, none⟩ _ i (by have := h.ql; show i ≠ x; omega)), h.ql, h.ge, h.below.setCell (by have := h.nl; show n ≤ x; omega) _, h.nl, by simpa using h.lz⟩
end Go.Proofs.YtieedhdmpabfkaaGreat
