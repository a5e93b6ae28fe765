/-
  Small facts for iterators written by hand: which blocks stay, a box that collects. Nothing of the program.
-/
import Derived.Test.YtobhdjepfhbgaaaDoorStM
import Derived.Test.YtobhdjepfhbgaaaDoorInts
namespace Go.Proofs.YtobhdjepfhbgaaaDoor
open Go.ChangeShapes Go.WideShapes Go.ChangeAt Go.RowKit Go.Shelf
set_option linter.unusedVariables false

/-- The blocks from lo on, below hi, lie as they lay. -/
def Stays (lo hi : Nat) (W W' : World) : Prop := ∀ k, lo ≤ k → k < hi → W'.heap[k]? = W.heap[k]?
theorem Stays.refl (lo hi : Nat) (W : World) : Stays lo hi W W := fun _ _ _ => rfl
theorem Stays.trans {lo hi : Nat} {A B C : World} (h : Stays lo hi A B) (k : Stays lo hi B C) : Stays lo hi A C := fun i h1 h2 => (k i h1 h2).trans (h i h1 h2)
theorem Stays.below {lo hi : Nat} {W W' : World} (h : Below W.heap.size W W') (hh : hi ≤ W.heap.size) : Stays lo hi W W' := fun i _ h2 => h.block i (by omega)
theorem stays_b {lo hi : Nat} {w : World} (hn : hi ≤ w.heap.size) (W : World) (l : Nat) (o o' : Obj) (hl : w.heap.size ≤ l) (h : W.heap[l]? = some o) (_ : o.isCells = false) (_ : o.isWalk = false) : Stays lo hi W (W.putObj l o') :=
  fun k _ hk => World.putObj_heap_other (by omega)

theorem abides_below {β : Type} {B : Nat} {J : β → World → Prop} (hJ : AbidesFrom B J) {x : β} {W W' : World} (h : J x W) (k : Below W.heap.size W W') : J x W' :=
  hJ x W W' none h (Below.grew k) (fun r e => by cases e)

theorem ownsRow_base {W : World} {base base' : Nat} {e : TypeId} {size : Nat} {v : Value} {k : Nat} {xs : List Value} (h : W.ownsRow base e size v k xs) (hb : base' ≤ base) : W.ownsRow base' e size v k xs := by
  refine ⟨h.1, ?_⟩
  rcases h.2 with hn | ⟨g, cap, cur, hv, hbg, rest⟩
  · exact .inl hn
  · exact .inr ⟨g, cap, cur, hv, Nat.le_trans hb hbg, rest⟩

/-- As 'Boxed.appended', where the row lies behind what stays. -/
theorem boxed_appended {W w1 : World} {lo hi B : Nat} {t e : TypeId} {size : Nat} {v v' : Value} {k m : Nat} {xs ys : List Value} {tmp : Obj}
    (hv : Boxed W B t v) (hte : t ≠ e) (hrow : W.ownsRow hi e size v k xs) (hhi : hi ≤ W.heap.size) (hlo : lo ≤ B) (hBh : B < hi)
    (hown' : w1.ownsRow hi e size v' m ys) (hgrow : (W.alloc tmp).grownBy w1 v.ownBlock) :
    Boxed w1 B t v ∧ Boxed (w1.setCell ⟨B, 0, none⟩ v') B t v' ∧ (w1.setCell ⟨B, 0, none⟩ v').ownsRow hi e size v' m ys ∧ KeepsOthers W (w1.setCell ⟨B, 0, none⟩ v') ∧ Below lo W (w1.setCell ⟨B, 0, none⟩ v') ∧ Stays (B + 1) hi W (w1.setCell ⟨B, 0, none⟩ v') := by
  obtain ⟨a1, a2, _, a4, a5⟩ := hv.appended hte (ownsRow_base hrow (show lo ≤ hi by omega)) (show lo ≤ W.heap.size by omega) hlo (ownsRow_base hown' (show lo ≤ hi by omega)) hgrow
  refine ⟨a1, a2, hown'.kept (grownBy_setCell' w1 B v') (.inr (a1.not_row hte hown').symm), a4, a5, fun i h1 h2 => ?_⟩
  refine (Below.heap_setCell _ _ _ i (by simp; omega)).trans ((hgrow.block i (by simp; omega) fun e' => ?_).trans (Below.heap_alloc _ _ _ (by omega)))
  rcases hrow.2 with ⟨rfl, _⟩ | ⟨g, cap, cur, rfl, hb, _, _⟩
  · simp [Value.ownBlock] at e'
  · simp [Value.ownBlock] at e'
    omega

end Go.Proofs.YtobhdjepfhbgaaaDoor
