import Derived.Test.YtieedhdmpabfkaaGreatMg41
import Derived.Test.YtieedhdmpabfkaaGreatMg42
import Derived.Test.YtieedhdmpabfkaaGreatMg25
set_option linter.unusedSimpArgs false
namespace Go.Proofs.YtieedhdmpabfkaaGreat
open Go.ChangeShapes Go.WideShapes Go.ChangeAt Go.RowKit Go.Shelf
set_option linter.unusedVariables false
abbrev RiseN (l : List Int) : Prop := l.Pairwise (· < ·)
theorem rises_ext : ∀ {a b : List Int}, RiseN a → RiseN b → (∀ x, x ∈ a ↔ x ∈ b) → a = b
 | [], [], _, _, _ => rfl
 | [], y :: b, _, _, h => absurd ((h y).2 (by simp)) (by simp)
 | x :: a, [], _, _, h => absurd ((h x).1 (by simp)) (by simp)
 | x :: a, y :: b, ha, hb, h => by
  obtain ⟨ha1, ha2⟩ := List.pairwise_cons.1 ha
  obtain ⟨hb1, hb2⟩ := List.pairwise_cons.1 hb
  have hxy : x = y := by
   rcases List.mem_cons.1 ((h x).1 (by simp)) with e | e
   ·exact e
   ·have h1 := hb1 x e
    rcases List.mem_cons.1 ((h y).2 (by simp)) with e2 | e2
    ·exact e2.symm
    ·have := ha1 y e2
     omega
  subst hxy
  rw [rises_ext ha2 hb2 (fun z => ?_)]
  constructor
  ·intro hz
   rcases List.mem_cons.1 ((h z).1 (List.mem_cons_of_mem _ hz)) with e | e
   ·subst e; have := ha1 z hz; omega
   ·exact e
  ·intro hz
   rcases List.mem_cons.1 ((h z).2 (List.mem_cons_of_mem _ hz)) with e | e
   ·subst e; have := hb1 z hz; omega
   ·exact e
theorem uptoN_rise (f : Nat → Bool) : ∀ n : Nat, RiseN (nums (upto f n))
 | 0 => by simp [upto, nums]
 | n + 1 => by
  rw [upto]
  split
  ·rw [nums_append]
   refine List.pairwise_append.2 ⟨uptoN_rise f n, by simp [nums], fun x hx y hy => ?_⟩
   obtain ⟨i, hi, rfl⟩ := List.mem_map.1 hx
   have := ((mem_upto f i n).1 hi).1
   simp [nums] at hy
   subst hy
   omega
  ·exact uptoN_rise f n
theorem ids_rise {xs : List It} (h : RiseI xs) : RiseN (idsOf xs) := by
 unfold idsOf
 refine List.pairwise_map.2 ?_
 exact h
theorem ids_at {f : Int} {es : List En} {i : Nat} (hi : i < es.length) : (f + (i : Int), nthE es i) ∈ items f es := by
 induction es generalizing f i with
 | nil => simp at hi
 | cons e r ih =>
  cases i with
  | zero => rw [items]; simp [nthE]
  | succ i =>
   rw [items]
   refine List.mem_cons_of_mem _ ?_
   have := ih (f := f + 1) (i := i) (by simpa using hi)
   have e2 : f + ((i + 1 : Nat) : Int) = f + 1 + (i : Int) := by omega
   rw [e2]
   simpa [nthE] using this
theorem targetV_sh {D : Ds} {i : Nat} (hi : i < D.sh.length) : targetV D (32 + i) = targV D (nthE D.sh i).s := by
 unfold targetV
 rw [if_pos (by rw [hasB_iff]; omega), show (32 + (i : Int) - 32).toNat = i by omega]
theorem seen_ids {D : Ds} (ok : D.Ok) (k : Int) : idsOf (seenL D k) = rseenV D k := by
 by_cases hk : hasN D.cs.length k = true
 ·refine rises_ext (ids_rise (seen_rise ok k)) (by unfold rseenV; rw [if_pos hk]; exact uptoN_rise _ _) (fun x => ?_)
  obtain ⟨j, rfl, hj⟩ := hasN_at hk
  have h32 := ok.own j hj
  unfold rseenV
  rw [if_pos hk]
  constructor
  ·intro hx
   obtain ⟨y, hy, rfl⟩ := List.mem_map.1 hx
   obtain ⟨j', e, _, ⟨i, hi, rfl⟩ | ⟨i, hi, rfl, ht⟩⟩ := seen_mem hy
   ·obtain rfl : j = j' := by omega
    refine List.mem_map.2 ⟨i, (mem_upto _ _ _).2 ⟨by omega, ?_⟩, rfl⟩
    unfold rseenF
    simp
    left; omega
   ·refine List.mem_map.2 ⟨32 + i, (mem_upto _ _ _).2 ⟨by omega, ?_⟩, by simp⟩
    unfold rseenF
    have e2 : ((32 + i : Nat) : Int) = 32 + (i : Int) := by omega
    rw [e2, targetV_sh hi]
    dsimp only at ht
    rw [ht]
    simp
  ·intro hx
   obtain ⟨i, hi, rfl⟩ := List.mem_map.1 hx
   obtain ⟨hi1, hi2⟩ := (mem_upto _ _ _).1 hi
   unfold seenL idsOf
   rw [if_pos hk, Int.toNat_natCast]
   by_cases hi32 : i < 32
   ·have := ids_at (f := 0) (es := (D.nth j).es) (i := i) (by omega)
    rw [Int.zero_add] at this
    exact List.mem_map.2 ⟨_, List.mem_append_left _ this, rfl⟩
   ·obtain ⟨m, rfl⟩ : ∃ m, i = 32 + m := ⟨i - 32, by omega⟩
    have hm : m < D.sh.length := by omega
    have e2 : ((32 + m : Nat) : Int) = 32 + (m : Int) := by omega
    have ht : targV D (nthE D.sh m).s = j := by
     unfold rseenF at hi2
     rw [e2, targetV_sh hm] at hi2
     have : ¬ (32 + m < 32) := by omega
     simpa [this] using hi2
    refine List.mem_map.2 ⟨(32 + (m : Int), nthE D.sh m), List.mem_append_right _ (List.mem_filter.2 ⟨ids_at hm, ?_⟩), by simp⟩
    unfold toB
    simpa using ht
 ·unfold rseenV seenL
  rw [if_neg hk, if_neg hk]
  rfl
theorem ids_filter {p : It → Bool} {q : Int → Bool} : ∀ {xs : List It}, (∀ x ∈ xs, p x = q x.1) → idsOf (xs.filter p) = (idsOf xs).filter q
 | [], _ => rfl
 | x :: r, h => by
  have h1 := h x (by simp)
  have h2 := ids_filter (xs := r) (fun y hy => h y (List.mem_cons_of_mem _ hy))
  unfold idsOf at h2 ⊢
  rw [List.filter_cons, List.map_cons, List.filter_cons, ← h1]
  cases p x
  ·simpa using h2
  ·simpa using h2
theorem ready_ids {D : Ds} (ok : D.Ok) (k : Int) : idsOf (readyL D k) = rreadyV D k := by
 unfold readyL rreadyV
 split
 ·rfl
 ·rw [← seen_ids ok k]
  refine ids_filter (fun x hx => ?_)
  unfold rreadyF rdyB rdyL
  rw [seen_get ok hx]
theorem best_same {D : Ds} (ok : D.Ok) (k : Int) : rbestV D k = bestC (readyL D k) := by
 unfold rbestV rbestG bestC
 rw [← ready_ids ok k]
 have key : ∀ (xs : List It) (c : Cd), (∀ x ∈ xs, x ∈ seenL D k) → (idsOf xs).foldl (fun c id => stepG c id (getV D k id).1) c = xs.foldl stepC c := by
  intro xs
  induction xs with
  | nil => intro c _; rfl
  | cons x r ih =>
   intro c hx
   rw [show idsOf (x :: r) = x.1 :: idsOf r from rfl, List.foldl_cons, List.foldl_cons]
   rw [show stepG c x.1 (getV D k x.1).1 = stepC c x from by rw [seen_get ok (hx x (by simp))]; rfl]
   exact ih _ (fun y hy => hx y (List.mem_cons_of_mem _ hy))
 exact key _ _ (fun x hx => (ready_mem hx).1)
end Go.Proofs.YtieedhdmpabfkaaGreat
