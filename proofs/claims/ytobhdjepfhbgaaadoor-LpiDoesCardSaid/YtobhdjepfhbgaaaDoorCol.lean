/-
  A slice of ints that a call collects in blocks of its own, while all that lay stays. Nothing of the program but []int's and int's numbers.
-/
import Derived.Test.YtobhdjepfhbgaaaDoorStN
import Derived.OwnWalk
namespace Go.Proofs.YtobhdjepfhbgaaaDoor
open Go.ChangeShapes Go.WideShapes Go.ChangeAt Go.RowKit Go.Shelf
set_option linter.unusedVariables false

/-- o holds xs in a block made since w (or is nil), and what lay in w lies. -/
structure Col (w : World) (o : Value) (xs : List Int) (W : World) : Prop where
  own : W.ownsRow w.heap.size 3 1 o xs.length (xs.map (Value.int .i64))
  below : Below w.heap.size w W
theorem Col.sz {w W : World} {o : Value} {xs : List Int} (h : Col w o xs W) : w.heap.size ≤ W.heap.size := h.below.size
theorem Col.nil (w W : World) (h : Below w.heap.size w W) : Col w (.slice none 0 0) [] W := ⟨World.ownsRow_nil _ _ _ _, h⟩
theorem Col.slice {w W : World} {o : Value} {xs : List Int} (h : Col w o xs W) : ∃ a cap, o = .slice a xs.length cap := by
  rcases h.own.2 with ⟨rfl, h0⟩ | ⟨g, cap, cur, rfl, _⟩
  · exact ⟨none, 0, by rw [h0]⟩
  · exact ⟨_, _, rfl⟩
theorem Col.app {w W w1 : World} {o v' : Value} {xs : List Int} {x : Int} {tmp : Obj} (h : Col w o xs W)
    (hown : w1.ownsRow w.heap.size 3 1 v' (xs.length + 1) (xs.map (Value.int .i64) ++ [.int .i64 x])) (hg : (W.alloc tmp).grownBy w1 o.ownBlock) :
    Col w v' (xs ++ [x]) w1 ∧ ∃ g cap, v' = .slice (some ⟨g, 0, none⟩) (xs.length + 1) cap := by
  refine ⟨⟨by simpa using hown, ?_⟩, ownsRow_succ hown⟩
  refine Below.grown (h.below.alloc h.sz _) hg (by have := h.sz; simp; omega) (fun k e => (h.own.lt k e).1)
theorem Col.app2 {w W w1 : World} {o v' : Value} {xs : List Int} {x y : Int} {tmp : Obj} (h : Col w o xs W)
    (hown : w1.ownsRow w.heap.size 3 1 v' (xs.length + 2) (xs.map (Value.int .i64) ++ [.int .i64 x, .int .i64 y])) (hg : (W.alloc tmp).grownBy w1 o.ownBlock) :
    Col w v' (xs ++ [x, y]) w1 ∧ ∃ g cap, v' = .slice (some ⟨g, 0, none⟩) (xs.length + 2) cap := by
  refine ⟨⟨by simpa using hown, ?_⟩, ownsRow_succ hown⟩
  refine Below.grown (h.below.alloc h.sz _) hg (by have := h.sz; simp; omega) (fun k e => (h.own.lt k e).1)
theorem Col.later {w W W' : World} {o : Value} {xs : List Int} (h : Col w o xs W) (k : Below W.heap.size W W') : Col w o xs W' :=
  ⟨h.own.kept (Below.grew k) (by cases ho : o.ownBlock with
    | none => exact .inl rfl
    | some b => exact .inr (by simp)), h.below.trans (k.mono h.sz)⟩

end Go.Proofs.YtobhdjepfhbgaaaDoor
