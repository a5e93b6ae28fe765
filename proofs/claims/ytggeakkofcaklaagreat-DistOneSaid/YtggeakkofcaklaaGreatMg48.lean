import Derived.Test.YtggeakkofcaklaaGreatMg47
namespace Go.Proofs.YtggeakkofcaklaaGreat
open Go.ChangeShapes Go.WideShapes Go.ChangeAt Go.RowKit Go.Shelf
set_option linter.unusedVariables false
def markD (r : Nat) : Deferred := { target := .collected r, args := #[] }
def Marks (n : Nat) (rs : List Nat) (W : World) : Prop := rs.Nodup ∧ ∀ r ∈ rs, n ≤ r ∧ W.heap[r]? = some (.deferred (some []))
theorem Marks.nil (n : Nat) (W : World) : Marks n [] W := ⟨List.nodup_nil, fun r h => by simp at h⟩
theorem Marks.heap {n : Nat} {rs : List Nat} {W W' : World} (h : Marks n rs W) (k : ∀ r ∈ rs, W'.heap[r]? = W.heap[r]?) : Marks n rs W' := ⟨h.1, fun r hr => ⟨(h.2 r hr).1, (k r hr).trans (h.2 r hr).2⟩⟩
theorem Marks.lt {n : Nat} {rs : List Nat} {W : World} (h : Marks n rs W) : ∀ r ∈ rs, r < W.heap.size := fun r hr => (Array.getElem?_eq_some_iff.1 (h.2 r hr).2).1
theorem Marks.below {n : Nat} {rs : List Nat} {W W' : World} (h : Marks n rs W) (k : Below W.heap.size W W') : Marks n rs W' := h.heap (fun r hr => k.block r (h.lt r hr))
theorem Marks.cons {n : Nat} {rs : List Nat} {W : World} (h : Marks n rs W) {r : Nat} (h1 : n ≤ r) (h2 : W.heap[r]? = some (.deferred (some []))) (h3 : r ∉ rs) : Marks n (r :: rs) W :=
  ⟨List.nodup_cons.2 ⟨h3, h.1⟩, fun x hx => by rcases List.mem_cons.1 hx with rfl | hx; exact ⟨h1, h2⟩; exact h.2 x hx⟩
theorem leaves_marks {F : Fence} {m : Nat} {P : Program} {fn : Func} {tmps : Array Value} {R : Ending → World → Prop} : ∀ (rs : List Nat) (n : Nat) (W : World), n ≤ W.heap.size → Marks n rs W →
    (∀ W', Below n W W' → (∀ i, i ∉ rs → W'.heap[i]? = W.heap[i]?) → LeavesInM F m P fn tmps R [] .returning W') → LeavesInM F m P fn tmps R (rs.map markD) .returning W
  | [], n, W, hn, h, k => k W (Below.refl _ _) (fun _ _ => rfl)
  | r :: rs, n, W, hn, h, k => by
    have hr := h.2 r (by simp)
    have hd := List.nodup_cons.1 h.1
    have hb : Below n W (W.putObj r (.deferred none)) := below_put (Below.refl _ _) _ hn hr.1
    refine ⟨by simp, .inl ⟨r, _, rfl, run_takeDeferred hr.2, ?_⟩⟩
    refine leaves_marks rs n _ (by simpa using hn) ⟨hd.2, fun x hx => ⟨(h.2 x (by simp [hx])).1, (World.putObj_heap_other (by intro e; subst e; exact hd.1 hx)).trans (h.2 x (by simp [hx])).2⟩⟩ (fun W' h1 h2 => k W' (hb.trans h1) (fun i hi => ?_))
    simp only [List.mem_cons, not_or] at hi
    exact (h2 i hi.2).trans (World.putObj_heap_other (by intro e; exact hi.1 e))
abbrev RiseI (xs : List It) : Prop := xs.Pairwise (fun x y => x.1 < y.1)
theorem items_rise : ∀ (f : Int) (es : List En), RiseI (items f es)
  | f, [] => List.Pairwise.nil
  | f, e :: r => by
    rw [items]
    refine List.Pairwise.cons (fun y hy => ?_) (items_rise (f + 1) r)
    obtain ⟨k, _, rfl⟩ := items_mem hy
    show f < f + 1 + (k : Int)
    omega
theorem seen_rise {D : Ds} (ok : D.Ok) (k : Int) : RiseI (seenL D k) := by
  unfold seenL
  split
  · rename_i hk
    obtain ⟨j, rfl, hj⟩ := hasN_at hk
    rw [Int.toNat_natCast]
    refine List.pairwise_append.2 ⟨items_rise _ _, (items_rise _ _).sublist List.filter_sublist, fun x hx y hy => ?_⟩
    obtain ⟨i, hi, rfl⟩ := items_mem hx
    obtain ⟨i', _, rfl⟩ := items_mem (List.mem_filter.1 hy).1
    have := ok.own j hj
    show (0 : Int) + i < 32 + i'
    omega
  · exact List.Pairwise.nil
theorem ready_rise {D : Ds} (ok : D.Ok) (k : Int) : RiseI (readyL D k) := by
  unfold readyL
  split
  · exact List.Pairwise.nil
  · exact (seen_rise ok k).sublist List.filter_sublist
def shd (xs : List It) : List Int := (idsOf xs).filter (fun i => decide (32 ≤ i))
theorem shd_yes {pre : List It} {x : It} (h : 32 ≤ x.1) : shd (pre ++ [x]) = shd pre ++ [x.1] := by simp [shd, idsOf, h]
theorem shd_no {pre : List It} {x : It} (h : ¬ 32 ≤ x.1) : shd (pre ++ [x]) = shd pre := by simp [shd, idsOf, h]
theorem shd_len (xs : List It) : (shd xs).length ≤ xs.length := by
  have := List.length_filter_le (fun i => decide ((32 : Int) ≤ i)) (idsOf xs)
  rw [idsOf_len] at this
  exact this
def oneL (D : Ds) : Nat → List Int
  | 0 => []
  | k + 1 => oneL D k ++ shd (readyL D k)
theorem oneL_len {D : Ds} (ok : D.Ok) : ∀ k : Nat, (oneL D k).length ≤ 96 * k
  | 0 => by simp [oneL]
  | k + 1 => by
    have h1 := oneL_len ok k
    have h2 := shd_len (readyL D k)
    have h3 := readyL_len ok k
    rw [oneL, List.length_append]
    omega
theorem shd_mem {xs : List It} {y : Int} (h : y ∈ shd xs) : ∃ x ∈ xs, x.1 = y ∧ 32 ≤ y := by
  obtain ⟨h1, h2⟩ := List.mem_filter.1 h
  obtain ⟨x, hx, rfl⟩ := List.mem_map.1 h1
  exact ⟨x, hx, rfl, by simpa using h2⟩
theorem one_target {D : Ds} (ok : D.Ok) : ∀ (k : Nat) (y : Int), y ∈ oneL D k → targetV D y < k
  | 0, y, h => by simp [oneL] at h
  | k + 1, y, h => by
    rcases List.mem_append.1 h with h | h
    · have := one_target ok k y h
      omega
    · obtain ⟨x, hx, rfl, h32⟩ := shd_mem h
      have := seen_target (ready_mem hx).1 ok h32
      omega
theorem one_new {D : Ds} (ok : D.Ok) (k : Nat) {pre : List It} {x : It} (h : pre ++ [x] <+: readyL D k) (h32 : 32 ≤ x.1) : isIn (oneL D k ++ shd pre) x.1 = false ∧ targetV D x.1 = k := by
  have hx : x ∈ readyL D k := h.subset (by simp)
  have ht := seen_target (ready_mem hx).1 ok h32
  refine ⟨?_, ht⟩
  unfold isIn
  rw [decide_eq_false_iff_not, List.mem_append]
  rintro (h1 | h1)
  · have := one_target ok k _ h1
    omega
  · obtain ⟨y, hy, e, _⟩ := shd_mem h1
    have hr := (ready_rise ok k).sublist h.sublist
    have := (List.pairwise_append.1 hr).2.2 y hy x (by simp)
    omega
end Go.Proofs.YtggeakkofcaklaaGreat
