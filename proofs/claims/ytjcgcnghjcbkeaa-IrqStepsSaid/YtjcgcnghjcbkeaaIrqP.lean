/-
  Play, and its iterator: the states behind the first act, the first two acts, and so on.
-/
import Derived.Test.YtjcgcnghjcbkeaaIrqO
namespace Go.Proofs.Ytjcgcnghjcbkeaa
open Go.ChangeShapes Go.WideShapes Go.ChangeAt Go.RowKit Go.Shelf
set_option linter.unusedVariables false
attribute [local go_sem] Oper.semAt_some

/-- What Play hands back: its iterator, and what that has captured, all of it in blocks from c on. -/
structure PlayBox (c hi : Nat) (x : St) (ks : List Int) (v : Value) (W : World) : Prop where
  st : CB W c 23 x.cs
  acts : CB W (c + 1) 24 #[v]
  ints : IntsIn c hi W v ks
  hi2 : c + 2 ≤ hi
theorem PlayBox.kept {c hi : Nat} {x : St} {ks : List Int} {v : Value} {W W' : World} (h : PlayBox c hi x ks v W) (k : ∀ i, c ≤ i → i < hi → W'.heap[i]? = W.heap[i]?) : PlayBox c hi x ks v W' :=
  ⟨(k c (Nat.le_refl _) (by have := h.hi2; omega)).trans h.st, (k (c + 1) (by omega) (by have := h.hi2; omega)).trans h.acts, h.ints.kept k, h.hi2⟩

set_option maxHeartbeats 2000000 in
theorem mkplay_any (x : St) (ks : List Int) (v : Value) (w : World) (h : IntsAt w v ks) (hl : ks.length ≤ 17592186044416) :
    Calls Try.prog 10 #[x.v, v] w fun e w' => ∃ v', e = .returned (.func (.func 27) #[] #[.pointer (some ⟨w.heap.size, 0, none⟩), .pointer (some ⟨w.heap.size + 1, 0, none⟩)]) ∧
      PlayBox w.heap.size w'.heap.size x ks v' w' ∧ Below w.heap.size w w' := by
  have H2 := hi (h.below (bal_two w (.cells x.cs 23) (.cells #[v] 24)))
  have HC := hi (fun (W : World) (h : IntsAt W v ks) => clone_any ks v W h hl)
  obtain ⟨a0, cap0, rfl⟩ := h.slice
  clear h
  obtain ⟨n, hn⟩ : ∃ n, ks.length = n := ⟨_, rfl⟩
  rw [hn] at H2 HC ⊢
  have HN := hi hn
  clear hn hl
  obtain ⟨e, l, q, a⟩ := x
  dsimp only [St.v, St.cs] at *
  go_enter Try.func10, Try.ntmps10
  go_wp2_with (first
    | (go_at_call 26; ((with_reducible refine (HC.out _ H2.out).mono ?_); rintro e' w1 ⟨v', rfl, hi1, hb⟩; obtain ⟨a1, cap1, rfl⟩ := hi1.slice; obtain ⟨hB, hB2, hK⟩ := box_call2 hb; have f := hB2.frozen; have c0 := hB2.cell 0; have HB := hi hB; have HB2 := hi hB2; have HK := hi hK; have HI := hi hi1; have HZ := hi hb.size; clear hb hB hB2 hK hi1))
    | gi_in)
  go_ret
  have hz : (w1.setCell ⟨w.heap.size + 1, 0, none⟩ (.slice a1 ks.length cap1)).heap.size = w1.heap.size := by simp
  have hz2 := HZ.out
  have hi3 := HI.out
  simp only [World.size_alloc] at hz2 hi3
  refine ⟨_, rfl, ⟨HB.out.other _ _ _ (by omega), HB2.out.set 0 _, ?_, by rw [hz]; omega⟩, below_set HK.out (by omega) _⟩
  rw [hz]
  exact (hi3.kept (fun i h1 h2 => Below.heap_setCell _ _ _ i (show i ≠ w.heap.size + 1 by omega))).mono (by omega) (Nat.le_refl _)

/-! ### The states that a loop goes through -/
def path (x : St) (ks : List Int) : List St := (List.range ks.length).map fun k => x.upto ks (k + 1)
theorem path_len (x : St) (ks : List Int) : (path x ks).length = ks.length := by simp [path]
theorem path_get {x : St} {ks : List Int} {k : Nat} (h : k < ks.length) : (path x ks)[k]? = some (x.upto ks (k + 1)) := by simp [path, h]
theorem path_take {x : St} {ks : List Int} {k : Nat} (h : k < ks.length) : (path x ks).take (k + 1) = (path x ks).take k ++ [x.upto ks (k + 1)] := by
  rw [List.take_add_one, path_get h]; rfl
theorem path_next {x : St} {ks : List Int} {pre : List St} {y : St} (h : pre ++ [y] <+: path x ks) : pre.length < ks.length ∧ y = x.upto ks (pre.length + 1) := by
  obtain ⟨r, hr⟩ := h
  have hl : pre.length < ks.length := by rw [← path_len x ks, ← hr]; simp
  refine ⟨hl, ?_⟩
  have := path_get (x := x) hl
  rw [← hr] at this
  simpa using this

/-- What a round over Play's states keeps: what the iterator has captured, and its own state's box. -/
def KpP (c c2 B : Nat) (W W' : World) : Prop := ∀ i, (c ≤ i ∧ i < c2) ∨ (B ≤ i ∧ i < B + 1) → W'.heap[i]? = W.heap[i]?
theorem KpP.trans {c c2 B : Nat} {X Y Z : World} (h : KpP c c2 B X Y) (k : KpP c c2 B Y Z) : KpP c c2 B X Z := fun i hi => (k i hi).trans (h i hi)
theorem KpP.of_below {c c2 B : Nat} {W W' : World} (h : Below W.heap.size W W') (hc : c2 ≤ W.heap.size) (hB : B + 1 ≤ W.heap.size) : KpP c c2 B W W' := fun i hi => h.block i (by omega)
theorem KpP.refl (c c2 B : Nat) (W : World) : KpP c c2 B W W := fun _ _ => rfl

theorem grown_setO (W : World) (b o : Nat) (v : Value) : W.grownBy (W.setCell ⟨b, o, none⟩ v) (some b) :=
  ⟨by first | rfl | simp, by first | rfl | simp, by first | rfl | simp, by simp, fun k _ hne => Below.heap_setCell W ⟨b, o, none⟩ v k (fun e => hne (by rw [e]))⟩
theorem AbW.setO {β : Type} {B k : Nat} {J : β → World → Prop} (h : AbW B k J) {s : β} {W : World} {l o : Nat} (v : Value) (hs : J s W) (h1 : B ≤ l) (h2 : l < B + k) : J s (W.setCell ⟨l, o, none⟩ v) :=
  h s W _ (some l) hs (grown_setO W l o v) (fun r e => by cases e; exact ⟨h1, h2⟩)
theorem AbW.set4 {β : Type} {B k : Nat} {J : β → World → Prop} (h : AbW B k J) {s : β} {W : World} {l : Nat} (x : St) (hs : J s W) (h1 : B ≤ l) (h2 : l < B + k) :
    J s ((((W.setCell ⟨l, 0, none⟩ (.bool x.e)).setCell ⟨l, 1, none⟩ (.bool x.l)).setCell ⟨l, 2, none⟩ (.bool x.h)).setCell ⟨l, 3, none⟩ (.bool x.a)) :=
  h.setO _ (h.setO _ (h.setO _ (h.setO _ hs h1 h2) h1 h2) h1 h2) h1 h2
theorem heap_set4 (W : World) (b : Nat) (x : St) (i : Nat) (hi : i ≠ b) : ((((W.setCell ⟨b, 0, none⟩ (.bool x.e)).setCell ⟨b, 1, none⟩ (.bool x.l)).setCell ⟨b, 2, none⟩ (.bool x.h)).setCell ⟨b, 3, none⟩ (.bool x.a)).heap[i]? = W.heap[i]? :=
  (Below.heap_setCell _ ⟨b, 3, none⟩ _ i hi).trans ((Below.heap_setCell _ ⟨b, 2, none⟩ _ i hi).trans ((Below.heap_setCell _ ⟨b, 1, none⟩ _ i hi).trans (Below.heap_setCell _ ⟨b, 0, none⟩ _ i hi)))

/-- Where the iterator stands. -/
structure PI (c c2 B : Nat) (W0 : World) (y : St) (J : World → Prop) (V : World) : Prop where
  now : CB V B 23 y.cs
  cap : ∀ i, c ≤ i → i < c2 → V.heap[i]? = W0.heap[i]?
  size : B + 1 ≤ V.heap.size
  j : J V
theorem PI.call {c c2 B : Nat} {W0 : World} {y : St} {J : World → Prop} {V w1 : World} (hJ : AbW B 1 (fun (_ : Unit) V => J V)) (hc : c2 ≤ B) (h : PI c c2 B W0 y J V) (k : Below V.heap.size V w1) (z : St) :
    PI c c2 B W0 z J ((((w1.setCell ⟨B, 0, none⟩ (.bool z.e)).setCell ⟨B, 1, none⟩ (.bool z.l)).setCell ⟨B, 2, none⟩ (.bool z.h)).setCell ⟨B, 3, none⟩ (.bool z.a)) :=
  ⟨CB.set4 (z := y) (h.now.below k) z, fun i h1 h2 => (heap_set4 _ _ _ i (by omega)).trans ((k.block i (by have := h.size; omega)).trans (h.cap i h1 h2)),
   by have := h.size; have := k.size; simp; omega, hJ.set4 (s := ()) z (hJ.grow (s := ()) h.j (Below.grew k)) (Nat.le_refl _) (by omega)⟩

end Go.Proofs.Ytjcgcnghjcbkeaa
