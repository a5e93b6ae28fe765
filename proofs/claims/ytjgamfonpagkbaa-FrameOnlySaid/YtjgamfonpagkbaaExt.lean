/-
  Rows in boxes; what a loop's own blocks are put into; a result in a cell.
-/
import Derived.Test.YtjgamfonpagkbaaBnkV
import Derived.Maps.AppendAt
import Derived.Laws.AppendOwn
import Derived.Shelf.Abstract
namespace Go.Proofs.Ytjgamfonpagkbaa
open Go.ChangeShapes Go.WideShapes Go.ChangeAt Go.RowKit Go.Shelf
set_option linter.unusedVariables false
attribute [local go_sem] Oper.semAt_some

theorem own_slice {W : World} {base sz : Nat} {te : TypeId} {v : Value} {n : Nat} {cs : List Value} (h : W.ownsRow base te sz v n cs) : ∃ a c, v = .slice a n c := by
  rcases h.2 with ⟨rfl, h0⟩ | ⟨g, cap, cur, rfl, _⟩
  · exact ⟨_, _, by rw [h0]⟩
  · exact ⟨_, _, rfl⟩
theorem own_base {W : World} {base base' sz : Nat} {te : TypeId} {v : Value} {n : Nat} {cs : List Value} (h : W.ownsRow base te sz v n cs) (hb : base' ≤ base) : W.ownsRow base' te sz v n cs := by
  rcases h with ⟨h0, h1 | ⟨g, cap, cur, e, hg, rest⟩⟩
  · exact ⟨h0, .inl h1⟩
  · exact ⟨h0, .inr ⟨g, cap, cur, e, Nat.le_trans hb hg, rest⟩⟩
theorem below_put {n : Nat} {w W : World} (h : Below n w W) {l : Nat} (o : Obj) (hn : n ≤ W.heap.size) (hl : n ≤ l) : Below n w (W.putObj l o) :=
  h.trans ⟨rfl, rfl, rfl, by simp, fun i hi' => World.putObj_heap_other (by omega)⟩
theorem kpx_put {lo hi k B : Nat} {W : World} {l : Nat} {o' : Obj} (h1 : hi ≤ l) (h2 : l < B) : KpX lo hi k B W (W.putObj l o') := ⟨by simp, fun i q => World.putObj_heap_other (by omega)⟩
theorem kpx_set {lo hi k B : Nat} {W : World} {b o : Nat} {v : Value} (h1 : hi ≤ b ∨ b < lo) (h2 : b < B) : KpX lo hi k B W (W.setCell ⟨b, o, none⟩ v) := ⟨by simp, fun i q => Below.heap_setCell W ⟨b, o, none⟩ v i (show i ≠ b by omega)⟩
theorem results_cellb {fn : Func} {c : Tmp} (h : fn.results = #[.cell c 4]) (tmps : Array Value) (w : World) (b : Nat) (v : Bool) (hp : tmps.getD c undef = .pointer (some ⟨b, 0, none⟩)) (hb : CB w b 4 #[.bool v]) : (results fn tmps).run Try.prog w = .ok (.bool v) w := by
  have hp' : tmps[c]?.getD undef = .pointer (some ⟨b, 0, none⟩) := by simpa using hp
  have c0 := hb.cell 0
  simp at c0
  simp [results, h, go_sem, hp', c0]

theorem CB.keptB {W W' : World} {B : Nat} {t : TypeId} {cs : Array Value} {bs : Nat → Prop} (h : CB W B t cs) (k : Kept bs W W') (hn : ¬ bs B) : CB W' B t cs := h.heap (k.block B h.lt hn)

end Go.Proofs.Ytjgamfonpagkbaa
