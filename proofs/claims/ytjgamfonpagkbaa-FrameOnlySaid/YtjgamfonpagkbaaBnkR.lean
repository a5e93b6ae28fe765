/-
  Rows of cells at the beginning of a block; lists of things of m cells each. Nothing of the program.
-/
import Derived.Test.YtjgamfonpagkbaaGnd
import Derived.Deep.MidRow
import Derived.Laws.AppendOwn
namespace Go.Proofs.Ytjgamfonpagkbaa
open Go.ChangeShapes Go.WideShapes Go.ChangeAt Go.RowKit
set_option linter.unusedVariables false

/-! ### Lists -/
theorem splice_nil {α : Type} (L : List α) (o : Nat) : splice L o [] = L := by simp [splice]
theorem splice_right {α : Type} (A B : List α) (o : Nat) (vs : List α) : splice (A ++ B) (A.length + o) vs = A ++ splice B o vs := by
  simp only [splice]
  rw [List.take_append, List.take_of_length_le (by omega), List.drop_append, List.drop_of_length_le (by omega)]
  simp [Nat.add_assoc]
theorem splice_cons {α : Type} (L : List α) (o : Nat) (v : α) (r : List α) (h : o < L.length) : splice L o (v :: r) = splice (L.set o v) (o + 1) r := by
  obtain ⟨A, x, B, rfl, hA⟩ : ∃ A x B, L = A ++ x :: B ∧ A.length = o := ⟨L.take o, L[o], L.drop (o + 1), by simp, by simp; omega⟩
  subst hA
  have h1 := splice_right A (x :: B) 0 (v :: r)
  have h2 := splice_right (A ++ [v]) B 0 r
  rw [Nat.add_zero] at h1 h2
  rw [h1, List.set_append_right _ _ (Nat.le_refl _), Nat.sub_self, List.set_cons_zero, show A ++ v :: B = (A ++ [v]) ++ B by simp, show A.length + 1 = (A ++ [v]).length by simp, h2]
  simp [splice, Nat.add_comm]
theorem splice_left {α : Type} (A B : List α) (o : Nat) (vs : List α) (h : o + vs.length ≤ A.length) : splice (A ++ B) o vs = splice A o vs ++ B := by
  simp only [splice]
  rw [List.take_append_of_le_length (by omega), List.drop_append_of_le_length h]
  simp
theorem splice_prefix {α : Type} {A C : List α} (h : A <+: C) (o : Nat) (vs : List α) (ho : o + vs.length ≤ A.length) : splice A o vs <+: splice C o vs := by
  obtain ⟨B, rfl⟩ := h
  rw [splice_left A B o vs ho]
  exact List.prefix_append _ _
theorem splice_all {α : Type} (L vs : List α) (h : L.length = vs.length) : splice L 0 vs = vs := by simp [splice, ← h]

section
variable {α : Type} {enc : α → List Value} {m : Nat}
/-- The cells of a list's elements, one behind the other. -/
def flat (enc : α → List Value) (xs : List α) : List Value := xs.flatMap enc
theorem flat_nil (enc : α → List Value) : flat enc [] = [] := rfl
theorem flat_cons (enc : α → List Value) (x : α) (xs : List α) : flat enc (x :: xs) = enc x ++ flat enc xs := rfl
theorem flat_append (xs ys : List α) : flat enc (xs ++ ys) = flat enc xs ++ flat enc ys := by simp [flat]
theorem flat_one (x : α) : flat enc [x] = enc x := by simp [flat]
theorem flat_len (hm : ∀ x, (enc x).length = m) : ∀ xs : List α, (flat enc xs).length = xs.length * m
  | [] => by simp [flat]
  | x :: r => by rw [flat_cons, List.length_append, hm, flat_len hm r, List.length_cons, Nat.add_mul, Nat.one_mul, Nat.add_comm]
theorem flat_get (hm : ∀ x, (enc x).length = m) : ∀ (xs : List α) (k c : Nat) (x : α), c < m → xs[k]? = some x → (flat enc xs)[k * m + c]? = (enc x)[c]?
  | [], k, c, x, _, h => by simp at h
  | y :: r, 0, c, x, hc, h => by
    simp only [List.getElem?_cons_zero, Option.some.injEq] at h
    subst h
    rw [flat_cons, Nat.zero_mul, Nat.zero_add, List.getElem?_append_left (by rw [hm]; exact hc)]
  | y :: r, k + 1, c, x, hc, h => by
    rw [flat_cons, List.getElem?_append_right (by rw [hm, Nat.add_mul]; omega), hm, show (k + 1) * m + c - m = k * m + c by rw [Nat.add_mul]; omega]
    exact flat_get hm r k c x hc (by simpa using h)
theorem flat_set (hm : ∀ x, (enc x).length = m) : ∀ (xs : List α) (k j : Nat) (x y : α) (vs : List Value), xs[k]? = some x → j + vs.length ≤ m → enc y = splice (enc x) j vs → splice (flat enc xs) (k * m + j) vs = flat enc (xs.set k y)
  | [], k, j, x, y, vs, h, _, _ => by simp at h
  | z :: r, 0, j, x, y, vs, h, hj, he => by
    simp only [List.getElem?_cons_zero, Option.some.injEq] at h
    subst h
    rw [flat_cons, Nat.zero_mul, Nat.zero_add, splice_left _ _ _ _ (by rw [hm]; exact hj), List.set_cons_zero, flat_cons, he]
  | z :: r, k + 1, j, x, y, vs, h, hj, he => by
    have ih := flat_set hm r k j x y vs (by simpa using h) hj he
    have e : (k + 1) * m + j = (enc z).length + (k * m + j) := by rw [hm, Nat.add_mul]; omega
    rw [flat_cons, e, splice_right, ih, List.set_cons_succ, flat_cons]
theorem flat_take (hm : ∀ x, (enc x).length = m) (xs : List α) (k : Nat) (hk : k ≤ xs.length) : (flat enc xs).take (k * m) = flat enc (xs.take k) := by
  have e : xs = xs.take k ++ xs.drop k := (List.take_append_drop k xs).symm
  have hl : (flat enc (xs.take k)).length = k * m := by rw [flat_len hm, List.length_take, Nat.min_eq_left hk]
  conv => lhs; rw [e, flat_append, ← hl, List.take_left']
theorem flat_one_cell (h : ∀ x, ∀ v ∈ enc x, v.oneCell' = true) (xs : List α) : ∀ v ∈ flat enc xs, v.oneCell' = true := by
  intro v hv
  simp only [flat, List.mem_flatMap] at hv
  obtain ⟨x, _, hx⟩ := hv
  exact h x v hx
theorem flat_replicate (n : Nat) (x : α) : flat enc (List.replicate (n + 1) x) = enc x ++ flat enc (List.replicate n x) := by rw [List.replicate_succ, flat_cons]
end

/-! ### Blocks -/
theorem Kept.set {bs : Nat → Prop} {A W : World} (h : Kept bs A W) (p : Addr) (v : Value) (hb : bs p.block) : Kept bs A (W.setCell p v) :=
  h.trans (by
    have k := (Below.refl p.block W).setCell (p := p) (Nat.le_refl _) v
    exact ⟨k.os, k.tape, k.output, k.size, fun i hi hn => Below.heap_setCell W p v i (fun e => hn (by rw [e]; exact hb))⟩)
theorem kept_sets {bs : Nat → Prop} {A : World} {b : Nat} (hb : bs b) : ∀ (vs : List Value) (o : Nat) {W : World}, Kept bs A W → Kept bs A (W.setCells b o vs)
  | [], _, _, h => h
  | v :: r, o, W, h => kept_sets hb r (o + 1) (h.set ⟨b, o, none⟩ v hb)
theorem Kept.drewN {bs : Nat → Prop} {A W : World} (h : Kept bs A W) (m : Nat) : Kept bs A (W.drewN m) := ⟨h.os, h.tape, h.output, h.size, h.block⟩
theorem Kept.drew {bs : Nat → Prop} {A W : World} (h : Kept bs A W) : Kept bs A W.drew := ⟨h.os, h.tape, h.output, h.size, h.block⟩
theorem Kept.heap {bs : Nat → Prop} {A W : World} (h : Kept bs A W) {i : Nat} (hi : i < A.heap.size) (hn : ¬ bs i) : W.heap[i]? = A.heap[i]? := h.block i hi hn
theorem CB.heap {W W' : World} {B : Nat} {t : TypeId} {cs : Array Value} (h : CB W B t cs) (e : W'.heap[B]? = W.heap[B]?) : CB W' B t cs := e.trans h
theorem size_sets (b : Nat) : ∀ (vs : List Value) (o : Nat) (W : World), (W.setCells b o vs).heap.size = W.heap.size
  | [], _, _ => rfl
  | v :: r, o, W => by rw [World.setCells, size_sets b r]; simp
theorem heap_sets {b i : Nat} (hne : i ≠ b) : ∀ (vs : List Value) (o : Nat) (W : World), (W.setCells b o vs).heap[i]? = W.heap[i]?
  | [], _, _ => rfl
  | v :: r, o, W => by rw [World.setCells, heap_sets hne r]; exact Below.heap_setCell W ⟨b, o, none⟩ v i hne

/-- Cells lie at the beginning of a block. -/
def Row (W : World) (g : Nat) (t : TypeId) (cs : List Value) : Prop := ∃ A, CB W g t A ∧ cs <+: A.toList
section
variable {W W' : World} {g : Nat} {t : TypeId} {cs : List Value}
theorem Row.lt (h : Row W g t cs) : g < W.heap.size := by obtain ⟨A, h1, _⟩ := h; exact h1.lt
theorem Row.frozen (h : Row W g t cs) (o : Nat) : W.frozen? ⟨g, o, none⟩ = false := by obtain ⟨A, h1, _⟩ := h; exact h1.frozen o
theorem Row.cell (h : Row W g t cs) {i : Nat} (hi : i < cs.length) : W.cell? ⟨g, i, none⟩ = cs[i]? := by
  obtain ⟨A, h1, B, h2⟩ := h
  rw [h1.cell, ← Array.getElem?_toList, ← h2, List.getElem?_append_left hi]
theorem Row.heap (h : Row W g t cs) (e : W'.heap[g]? = W.heap[g]?) : Row W' g t cs := by obtain ⟨A, h1, h2⟩ := h; exact ⟨A, h1.heap e, h2⟩
theorem Row.below (h : Row W g t cs) (k : Below W.heap.size W W') : Row W' g t cs := h.heap (k.block g h.lt)
theorem Row.kept {bs : Nat → Prop} (h : Row W g t cs) (k : Kept bs W W') (hn : ¬ bs g) : Row W' g t cs := h.heap (k.block g h.lt hn)
theorem Row.range (h : Row W g t cs) (o : Nat) (sub : List Value) (hs : ∀ j v, sub[j]? = some v → cs[o + j]? = some v) : W.rangeAt g o sub := fun j v hv => by
  have h1 := hs j v hv
  rw [h.cell (List.getElem?_eq_some_iff.1 h1).1, h1]
theorem Row.there (h : Row W g t cs) {o n : Nat} (ho : o + n ≤ cs.length) : W.there g o n := fun j hj => by
  rw [h.cell (by omega), List.getElem?_eq_getElem (by omega)]
  exact ⟨rfl, h.frozen _⟩
theorem Row.set (h : Row W g t cs) {o : Nat} (v : Value) (ho : o < cs.length) : Row (W.setCell ⟨g, o, none⟩ v) g t (cs.set o v) := by
  obtain ⟨A, h1, B, h2⟩ := h
  refine ⟨_, h1.set o v, B, ?_⟩
  rw [Array.toList_setIfInBounds, ← h2, List.set_append_left _ _ ho]
theorem Row.sets : ∀ (vs : List Value) (o : Nat) {W : World} {cs : List Value}, Row W g t cs → o + vs.length ≤ cs.length → Row (W.setCells g o vs) g t (splice cs o vs)
  | [], o, W, cs, h, _ => by rw [splice_nil]; exact h
  | v :: r, o, W, cs, h, ho => by
    simp only [List.length_cons] at ho
    rw [splice_cons cs o v r (by omega), World.setCells]
    exact Row.sets r (o + 1) (h.set v (by omega)) (by simp; omega)
theorem Row.own {base n sz : Nat} {cap : Nat} (h : W.ownsRow base t sz (.slice (some ⟨g, 0, none⟩) n cap) n cs) : Row W g t cs := by
  rcases h.2 with ⟨e, _⟩ | ⟨g', c', cur, e, hb, hg, h1, h2, h3, h4⟩
  · cases e
  · simp only [Value.slice.injEq, Option.some.injEq, Addr.mk.injEq] at e
    obtain ⟨⟨rfl, _⟩, _, _⟩ := e
    exact ⟨cur, hg, by rw [← h4]; exact List.take_prefix _ _⟩
theorem Row.of (h : CB W g t cs.toArray) : Row W g t cs := ⟨_, h, by simp⟩
end

theorem all_one {cs : List Value} (h : ∀ v ∈ cs, v.oneCell' = true) : cs.toArray.all (·.oneCell') = true := all_oneCell_toArray h

end Go.Proofs.Ytjgamfonpagkbaa
