/-
  What is let go, one after the other; the law LadderEmpties at every input.
-/
import Derived.Test.YtnnlimjbmfpalaaLadJ
import Derived.Deep.RegionHeld3
import Derived.BigRegion
import Derived.IntWalk
import Derived.Deep.RegionWith
namespace Go.Proofs.Ytnnlimjbmfpalaa
open Go.ChangeShapes Go.WideShapes Go.ChangeAt Go.RowKit
set_option linter.unusedVariables false
attribute [local go_sem high] eql2 guard2

theorem upto_congr {f g : Rg} : ∀ n : Nat, (∀ j, j < n → f j = g j) → upto f n = upto g n
  | 0, _ => rfl
  | n + 1, h => by rw [upto, upto, upto_congr n (fun j hj => h j (by omega)), h n (by omega)]
theorem upto_nil {f : Rg} (n : Nat) (h : ∀ j, j < n → f j = false) : upto f n = [] := by
  cases hu : upto f n with
  | nil => rfl
  | cons a r =>
    have := (mem_upto f a n).1 (by rw [hu]; simp)
    rw [h a this.1] at this
    simp at this
theorem upto_drop {f : Rg} {x : Nat} (hx : f x = true) (hl : ∀ j, j < x → f j = false) : ∀ n, x < n → upto f n = x :: upto (put f x false) n
  | 0, h => by omega
  | n + 1, h => by
    by_cases e : x = n
    · subst e
      rw [upto_pos hx, upto_nil x hl, upto_neg (put_same f x false), upto_nil x (fun j hj => by rw [put_other f false (by omega)]; exact hl j hj)]
      rfl
    · have ih := upto_drop hx hl n (by omega)
      rw [upto, upto, ih, put_other f false (by omega : n ≠ x)]
      split <;> rfl
theorem rungs_drop {f : Rg} {x : Nat} (h : top f = some x) : rungs f = x :: rungs (put f x false) := upto_drop (top_lt h).2 (top_min h) 64 (top_lt h).1
theorem top_of_cons {f : Rg} {x : Nat} {r : List Nat} (h : rungs f = x :: r) : top f = some x := by rw [top, h]; rfl
theorem wd_none {f : Rg} (h : rungs f = []) (g : Nat) (hg : g < 2) : wd f g = 0 := by
  have := sumB_congr (f := fun k => f (2 * k + g)) (g := fun _ => false) 32 (fun i hi => top_none (by rw [top, h]; rfl) _ (by omega))
  rw [wd, this]
  exact sumB_eq (fun i _ => by simp) (by decide)

/-- Where the loop stands. -/
structure EmI (w : World) (B n k : Nat) (L : Int) (h : Rg) (W : World) : Prop where
  box : CB W B 27 (lcs h)
  below : Below w.heap.size w W
  len : (rungs h).length + k = n
  lo : ∀ y ∈ rungs h, L ≤ 8 * ((y : Int) / 2)
theorem EmI.next {w W W' : World} {B n k : Nat} {L : Int} {h : Rg} {x : Nat} (H : EmI w B n k L h W) (ht : top h = some x) (hb : CB W' B 27 (lcs (put h x false))) (hw : Below w.heap.size w W') :
    EmI w B n (k + 1) (8 * ((x : Int) / 2)) (put h x false) W' :=
  ⟨hb, hw, by have := H.len; rw [rungs_drop ht] at this; simp at this; omega, fun y hy => by
    have h1 := (rungs_lt hy).2
    have h2 : y ≠ x := fun e => by rw [e, put_same] at h1; simp at h1
    rw [put_other h false h2] at h1
    have h3 : ¬ y < x := fun e => by rw [top_min ht y e] at h1; simp at h1
    omega⟩
theorem EmI.head {w W : World} {B n k : Nat} {L : Int} {h : Rg} (H : EmI w B n k L h W) (hk : k < n) : ∃ x, top h = some x ∧ L ≤ 8 * ((x : Int) / 2) ∧ (rungs h).length = (rungs (put h x false)).length + 1 := by
  cases hr : rungs h with
  | nil => have := H.len; rw [hr] at this; simp at this; omega
  | cons x r =>
    have ht := top_of_cons hr
    refine ⟨x, ht, H.lo x (by rw [hr]; simp), ?_⟩
    rw [← hr, rungs_drop ht]; rfl

theorem keepE {w W W' : World} {b c : Nat} {a1 b1 a2 b2 : Int} {t : TypeId} (k : Below W.heap.size W W') (h : AtG w [(b, t, #[.int .u32 a1, .int .u32 b1]), (c, t, #[.int .u32 a2, .int .u32 b2])] W) :
    W'.cell? ⟨b, 0, none⟩ = some (.int .u32 a1) ∧ W'.cell? ⟨b, 1, none⟩ = some (.int .u32 b1) ∧ W'.cell? ⟨c, 0, none⟩ = some (.int .u32 a2) ∧ W'.cell? ⟨c, 1, none⟩ = some (.int .u32 b2) ∧ AtG w [(b, t, #[.int .u32 a1, .int .u32 b1]), (c, t, #[.int .u32 a2, .int .u32 b2])] W' :=
  ⟨(h.later k).b0.cell 0, (h.later k).b0.cell 1, (h.later k).tl.b0.cell 0, (h.later k).tl.b0.cell 1, h.later k⟩

end Go.Proofs.Ytnnlimjbmfpalaa
