/-
  What comes of the rows of neighbours put one by one: the set itself; and each row begins behind the last one and a gap. Plain reckoning.
-/
import Derived.Test.YtmdlknddlmpddaaDoorSetM
import Derived.Test.YtmdlknddlmpddaaDoorSetJ
namespace Go.Proofs.YtmdlknddlmpddaaDoor
open Go.ChangeShapes Go.WideShapes Go.ChangeAt Go.RowKit Go.Shelf
set_option linter.unusedVariables false

def fillS (T : Words) (a : Int) : Nat → Words
  | 0 => T
  | n + 1 => putS (fillS T a n) (a + n)
def lastOf (l : Int) (xs : List Rn) : Int := xs.foldl (fun _ x => x.1.2) l
def fillAll (T : Words) (xs : List Rn) : Words := xs.foldl (fun T x => fillS T x.1.1 (x.1.2 - x.1.1 + 1).toNat) T
theorem fillAll_snoc (T : Words) (xs : List Rn) (x : Rn) : fillAll T (xs ++ [x]) = fillS (fillAll T xs) x.1.1 (x.1.2 - x.1.1 + 1).toNat := by simp [fillAll]
theorem lastOf_snoc (l : Int) (xs : List Rn) (x : Rn) : lastOf l (xs ++ [x]) = x.1.2 := by simp [lastOf]

theorem mem_fillS (T : Words) (a : Nat) (j : Nat) : ∀ n, a + n ≤ 16384 → memS (fillS T a n) j = (memS T j || (decide (a ≤ j) && decide (j < a + n)))
  | 0, _ => by
    have : (decide (a ≤ j) && decide (j < a + 0)) = false := by rw [← Bool.decide_and]; exact decide_eq_false (by omega)
    rw [this]; simp [fillS]
  | n + 1, h => by
    have ih := mem_fillS T a j n (by omega)
    have ho : okM ((a : Int) + (n : Int)) = true := decide_eq_true (by omega)
    rw [show fillS T a (n + 1) = putS (fillS T a n) (a + n) from rfl, mem_put, ih, ho, Bool.or_assoc]
    refine congrArg (fun z => memS T j || z) ?_
    have e : ((a : Int) + (n : Int)).toNat = a + n := by omega
    rw [e, Bool.true_and, ← Bool.decide_and, ← Bool.decide_and, Bool.eq_iff_iff, Bool.or_eq_true, decide_eq_true_iff, decide_eq_true_iff, beq_iff_eq]
    omega

theorem fill_all {S : Words} : ∀ {xs : List Rn} {m : Nat} (T : Words), RunFrom S m xs → (∀ j, j < 16384 → memS T j = (memS S j && decide (j < m))) → ∀ j, j < 16384 → memS (fillAll T xs) j = memS S j
  | [], m, T, h, hT, j, hj => by
    rw [fillAll, List.foldl_nil, hT j hj]
    by_cases e : j < m
    · simp [e]
    · rw [h.2.2.1 j (by omega) hj]; simp
  | x :: r, m, T, ⟨k, g, e, hk, hlt, h1, h2, h3⟩, hT, j, hj => by
    have hg := h2.2.1
    have e1 : x.1.1 = (k : Int) := by rw [e]
    have e2 : (x.1.2 - x.1.1 + 1).toNat = g - k := by rw [e]; simp; omega
    show memS (fillAll (fillS T x.1.1 (x.1.2 - x.1.1 + 1).toNat) r) j = _
    rw [e2, e1]
    refine fill_all (m := g) _ h3 (fun i hi => ?_) j hj
    rw [mem_fillS T k i (g - k) (by omega), hT i hi]
    have hm := h1.1
    by_cases c1 : i < m
    · have d1 : (decide (k ≤ i) && decide (i < k + (g - k))) = false := by rw [← Bool.decide_and]; exact decide_eq_false (by omega)
      rw [d1, decide_eq_true c1, decide_eq_true (show i < g by omega), Bool.or_false]
    · rw [decide_eq_false c1, Bool.and_false, Bool.false_or]
      by_cases c2 : i < k
      · rw [h1.2.2.1 i (by omega) c2, decide_eq_false (show ¬ k ≤ i by omega)]; rfl
      · by_cases c3 : i < g
        · have h4 : (!memS S i) = false := h2.2.2.1 i (by omega) c3
          have h5 : memS S i = true := by simpa using h4
          rw [h5, decide_eq_true (show k ≤ i by omega), decide_eq_true (show i < k + (g - k) by omega), decide_eq_true c3]; done
        · rw [decide_eq_false (show ¬ i < k + (g - k) by omega), decide_eq_false c3]; simp

/-- Each row begins behind the last one's end and a gap. -/
theorem rising {S : Words} : ∀ {xs : List Rn} {m : Nat} {l : Int}, RunFrom S m xs → (∀ k, IsNx (memS S) m k → k < 16384 → l + 1 < (k : Int)) → ∀ a b, a ++ [b] <+: xs → lastOf l a + 1 < b.1.1
  | [], m, l, _, _, a, b, h => by have := h.length_le; simp at this
  | x :: r, m, l, ⟨k, g, e, hk, hlt, h1, h2, h3⟩, hl, [], b, h => by
    have : b = x := by simpa using h
    subst this
    rw [e]
    exact hl k h1 hk
  | x :: r, m, l, ⟨k, g, e, hk, hlt, h1, h2, h3⟩, hl, y :: a, b, h => by
    rw [List.cons_append, List.cons_prefix_cons] at h
    obtain ⟨rfl, h⟩ := h
    have e2 : y.1.2 = (g : Int) - 1 := by rw [e]
    show lastOf y.1.2 a + 1 < _
    rw [e2]
    refine rising h3 (fun k' hk' hlt' => ?_) a b h
    have h4 := hk'.1
    rcases Nat.lt_or_ge g k' with z | z
    · omega
    · have eg : k' = g := by omega
      have h5 := hk'.2.2.2 hlt'
      have h6 : (!memS S g) = true := h2.2.2.2 (by omega)
      rw [eg] at h5
      rw [h5] at h6
      cases h6

theorem rising_all {S : Words} {xs : List Rn} (h : RunFrom S 0 xs) (a : List Rn) (b : Rn) (hp : a ++ [b] <+: xs) : lastOf (-2) a + 1 < b.1.1 :=
  rising h (fun k _ _ => by omega) a b hp
theorem fill_same {S : Words} {xs : List Rn} (h : RunFrom S 0 xs) (j : Nat) (hj : j < 16384) : memS (fillAll S0 xs) j = memS S j :=
  fill_all S0 h (fun i _ => by simp [mem_zero]) j hj

theorem fillS_lt {T : Words} (hT : ∀ i, T i < 18446744073709551616) (a : Int) : ∀ n i, fillS T a n i < 18446744073709551616
  | 0, i => hT i
  | n + 1, i => by
    have ih := fillS_lt hT a n
    unfold fillS putS
    split
    · exact flip_lt ih _ i
    · exact ih i

end Go.Proofs.YtmdlknddlmpddaaDoor
