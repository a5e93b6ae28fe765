import Derived.Test.YtieedhdmpabfkaaGreatMg40
set_option linter.unusedSimpArgs false
namespace Go.Proofs.YtieedhdmpabfkaaGreat
open Go.ChangeShapes Go.WideShapes Go.ChangeAt Go.RowKit Go.Shelf
set_option linter.unusedVariables false
def markD (r : Nat) : Deferred := { target := .collected r, args := #[] }
def Marks (n : Nat) (rs : List Nat) (W : World) : Prop := rs.Nodup ∧ ∀ r ∈ rs, n ≤ r ∧ W.heap[r]? = some (.deferred (some []))
theorem Marks.nil (n : Nat) (W : World) : Marks n [] W := ⟨List.nodup_nil, fun r h => by simp at h⟩
theorem Marks.heap {n : Nat} {rs : List Nat} {W W' : World} (h : Marks n rs W) (k : ∀ r ∈ rs, W'.heap[r]? = W.heap[r]?) : Marks n rs W' := ⟨h.1, fun r hr => ⟨(h.2 r hr).1, (k r hr).trans (h.2 r hr).2⟩⟩
theorem Marks.lt {n : Nat} {rs : List Nat} {W : World} (h : Marks n rs W) : ∀ r ∈ rs, r < W.heap.size := fun r hr => (Array.getElem?_eq_some_iff.1 (h.2 r hr).2).1
theorem Marks.below {n : Nat} {rs : List Nat} {W W' : World} (h : Marks n rs W) (k : Below W.heap.size W W') : Marks n rs W' := h.heap (fun r hr => k.block r (h.lt r hr))
theorem Marks.cons {n : Nat} {rs : List Nat} {W : World} (h : Marks n rs W) {r : Nat} (h1 : n ≤ r) (h2 : W.heap[r]? = some (.deferred (some []))) (h3 : r ∉ rs) : Marks n (r :: rs) W :=
 ⟨List.nodup_cons.2 ⟨h3, h.1⟩, fun x hx => by rcases List.mem_cons.1 hx with rfl | hx; exact ⟨h1, h2⟩; exact h.2 x hx⟩
theorem leaves_marks {F : Fence} {m : Nat} {P : Program} {fn : Func} {tmps : Array Value} {R : Ending → World → Prop} : ∀ (rs : List Nat) (n : Nat) (W : World), n ≤ W.heap.size → Marks n rs W →
  (∀ W', Below n W W' → (∀ i, i ∉ rs → W'.heap[i]? = W.heap[i]?) → LeavesInM F m P fn tmps R [] .returning W') → LeavesInM F m P fn tmps R (rs.map markD) .returning W
 | [], n, W, hn, h, k => k W (Below.refl _ _) (fun _ _ => rfl)
 | r :: rs, n, W, hn, h, k => by
  have hr := h.2 r (by simp)
  have hd := List.nodup_cons.1 h.1
  have hb : Below n W (W.putObj r (.deferred none)) := below_put (Below.refl _ _) _ hn hr.1
  refine ⟨by simp, .inl ⟨r, _, rfl, run_takeDeferred hr.2, ?_⟩⟩
  refine leaves_marks rs n _ (by simpa using hn) ⟨hd.2, fun x hx => ⟨(h.2 x (by simp [hx])).1, (World.putObj_heap_other (by intro e; subst e; exact hd.1 hx)).trans (h.2 x (by simp [hx])).2⟩⟩ (fun W' h1 h2 => k W' (hb.trans h1) (fun i hi => ?_))
  simp only [List.mem_cons, not_or] at hi
  exact (h2 i hi.2).trans (World.putObj_heap_other (by intro e; exact hi.1 e))
abbrev RiseI (xs : List It) : Prop := xs.Pairwise (fun x y => x.1 < y.1)
theorem items_rise : ∀ (f : Int) (es : List En), RiseI (items f es)
 | f, [] => List.Pairwise.nil
 | f, e :: r => by
  rw [items]
  refine List.Pairwise.cons (fun y hy => ?_) (items_rise (f + 1) r)
  obtain ⟨k, _, rfl⟩ := items_mem hy
  show f < f + 1 + (k : Int)
  omega
theorem seen_rise {D : Ds} (ok : D.Ok) (k : Int) : RiseI (seenL D k) := by
 unfold seenL
 split
 ·rename_i hk
  obtain ⟨j, rfl, hj⟩ := hasN_at hk
  rw [Int.toNat_natCast]
  refine List.pairwise_append.2 ⟨items_rise _ _, (items_rise _ _).sublist List.filter_sublist, fun x hx y hy => ?_⟩
  obtain ⟨i, hi, rfl⟩ := items_mem hx
  obtain ⟨i', _, rfl⟩ := items_mem (List.mem_filter.1 hy).1
  have := ok.own j hj
  show (0 : Int) + i < 32 + i'
  omega
 ·exact List.Pairwise.nil
end Go.Proofs.YtieedhdmpabfkaaGreat
