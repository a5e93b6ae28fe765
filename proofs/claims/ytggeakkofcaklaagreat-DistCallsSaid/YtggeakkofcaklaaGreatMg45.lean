import Derived.Test.YtggeakkofcaklaaGreatMg44
import Derived.Test.YtggeakkofcaklaaGreatMg33
import Derived.Maps.OwnIn
namespace Go.Proofs.YtggeakkofcaklaaGreat
open Go.ChangeShapes Go.WideShapes Go.ChangeAt Go.RowKit Go.Shelf
set_option linter.unusedVariables false
attribute [local go_sem] Oper.semAt_some
theorem own_heap {W W' : World} {base sz n : Nat} {te : TypeId} {v : Value} {cs : List Value} (h : W.ownsRow base te sz v n cs) (hk : ∀ g, v.ownBlock = some g → W'.heap[g]? = W.heap[g]?) : W'.ownsRow base te sz v n cs := by
  rcases h with ⟨h0, h1 | ⟨g, cap, cur, rfl, hb, hg, rest⟩⟩
  · exact ⟨h0, .inl h1⟩
  · exact ⟨h0, .inr ⟨g, cap, cur, rfl, hb, (hk g rfl).trans hg, rest⟩⟩
def GrJ (base b : Nat) (xs : List Int) (F : Nat → Prop) (W : World) : Prop :=
  ∃ v, ¬ F b ∧ CB W b 47 #[v] ∧ W.ownsRow base 3 1 v xs.length (ints xs) ∧ ∀ g, v.ownBlock = some g → ¬ F g
theorem GrJ.step {base b : Nat} {xs : List Int} {F R : Nat → Prop} {V w9 : World} {v v' : Value} {x : Int} {tmp : Obj} {m : Nat} (hm : xs.length = m) (hb : b < base) (h1 : ¬ F b) (h2 : CB V b 47 #[v]) (h3 : V.ownsRow base 3 1 v m (ints xs)) (h4 : ∀ g, v.ownBlock = some g → ¬ F g)
    (hF : ∀ i, F i → i < V.heap.size ∧ ¬ R i) (hR : ∀ i, R i → i < base ∧ i ≠ b) (hz : base ≤ V.heap.size)
    (ho : w9.ownsRow base 3 1 v' (m + 1) (ints xs ++ [.int .i64 x])) (hg : (V.alloc tmp).grownBy w9 v.ownBlock) (hat : v'.ownBlock = v.ownBlock ∨ v'.ownBlock = some (V.alloc tmp).heap.size) :
    CB w9 b 47 #[v] ∧ GrJ base b (xs ++ [x]) F (w9.setCell ⟨b, 0, none⟩ v') ∧ KF F R V (w9.setCell ⟨b, 0, none⟩ v') ∧ Below b V (w9.setCell ⟨b, 0, none⟩ v') := by
  subst hm
  have hbv := h2.lt
  have hgz := hg.size
  rw [World.size_alloc] at hgz
  have hvb : ∀ g, v.ownBlock = some g → base ≤ g ∧ g < V.heap.size := fun g e => h3.lt g e
  have K : ∀ i, i < V.heap.size → v.ownBlock ≠ some i → w9.heap[i]? = V.heap[i]? := fun i q1 q2 => (hg.block i (by rw [World.size_alloc]; omega) (Ne.symm q2)).trans ((bal V tmp).block i q1)
  have hb9 : CB w9 b 47 #[v] := h2.heap (K b hbv (fun e => by have := hvb b e; omega))
  have S : ∀ i, i ≠ b → (w9.setCell ⟨b, 0, none⟩ v').heap[i]? = w9.heap[i]? := fun i q => Below.heap_setCell w9 ⟨b, 0, none⟩ v' i q
  refine ⟨hb9, ⟨v', h1, by simpa using hb9.set 0 v', ?_, fun g e => ?_⟩, ⟨by rw [World.size_setCell]; omega, fun i q => ?_⟩, ?_⟩
  · rw [List.length_append, ints_append]
    refine own_heap ho (fun g e => S g (fun e2 => ?_))
    have := (ho.lt g e).1
    omega
  · rcases hat with q | q
    · exact h4 g (by rw [← q]; exact e)
    · rw [q, World.size_alloc] at e
      simp only [Option.some.injEq] at e
      intro x
      have := (hF g x).1
      omega
  · have hi : i < V.heap.size ∧ v.ownBlock ≠ some i ∧ i ≠ b := by
      rcases q with q | q
      · exact ⟨(hF i q).1, fun e => h4 i e q, fun e => h1 (e ▸ q)⟩
      · have := hR i q
        exact ⟨by omega, fun e => by have := hvb i e; omega, this.2⟩
    rw [S i hi.2.2, K i hi.1 hi.2.1]
  · exact (((Below.refl b V).alloc (by omega) tmp).grown hg (by rw [World.size_alloc]; omega) (fun j e => by have := hvb j e; omega)).setCell (p := ⟨b, 0, none⟩) (Nat.le_refl _) v'
def OwnI (B : Nat) (W : World) (v : Value) (xs : List Int) : Prop := ∃ base, B ≤ base ∧ W.ownsRow base 3 1 v xs.length (ints xs)
theorem OwnI.at_ {B : Nat} {W : World} {v : Value} {xs : List Int} (h : OwnI B W v xs) : IntsAt W v xs := by obtain ⟨base, _, h⟩ := h; exact intsAt_row h
theorem OwnI.slice {B : Nat} {W : World} {v : Value} {xs : List Int} (h : OwnI B W v xs) : ∃ a c, v = .slice a xs.length c := by obtain ⟨base, _, h⟩ := h; exact own_slice h
theorem OwnI.kept {B : Nat} {W W' : World} {v : Value} {xs : List Int} {bs : Nat → Prop} (h : OwnI B W v xs) (k : Kept bs W W') (hb : ∀ i, bs i → i < B) : OwnI B W' v xs := by
  obtain ⟨base, hB, h⟩ := h
  exact ⟨base, hB, own_heap h (fun g e => k.block g (h.lt g e).2 (fun x => by have := hb g x; have := (h.lt g e).1; omega))⟩
theorem OwnI.below {B : Nat} {W W' : World} {v : Value} {xs : List Int} (h : OwnI B W v xs) (k : Below W.heap.size W W') : OwnI B W' v xs := by
  obtain ⟨base, hB, h⟩ := h
  exact ⟨base, hB, own_heap h (fun g e => k.block g (h.lt g e).2)⟩
theorem seenL_len {D : Ds} (ok : D.Ok) (k : Int) : (seenL D k).length ≤ 96 := by
  unfold seenL
  split
  · rename_i h
    obtain ⟨j, rfl, hj⟩ := hasN_at h
    have h1 := ok.own j hj
    have h2 := ok.m
    have h3 := List.length_filter_le (toB D j) (items 32 D.sh)
    rw [items_len] at h3
    rw [List.length_append, items_len, Int.toNat_natCast, h1]
    omega
  · simp
end Go.Proofs.YtggeakkofcaklaaGreat
