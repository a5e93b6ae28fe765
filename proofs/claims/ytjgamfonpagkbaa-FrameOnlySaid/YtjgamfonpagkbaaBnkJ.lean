/-
  Package bank: Ready and its iterator, over any iterator; All as an iterator value.
-/
import Derived.Test.YtjgamfonpagkbaaBnkI
namespace Go.Proofs.Ytjgamfonpagkbaa
open Go.ChangeShapes Go.WideShapes Go.ChangeAt Go.RowKit Go.Shelf
set_option linter.unusedVariables false
attribute [local go_sem] Oper.semAt_some

theorem all_iter {lo hi' pf pb g cap : Nat} {f : Int} {es : List En} {W : World} (h : ItAt lo hi' W pf pb g cap f es) (hf : Fit f es.length) (hh : hi' ≤ W.heap.size) :
    Iter lo hi' 0 (.func (.func 42) #[] #[.pointer (some ⟨pb, 0, none⟩), .pointer (some ⟨pf, 0, none⟩)]) (items f es) W :=
  ⟨_, _, rfl, enters_of Try.func42 (by kernel_rfl) rfl, hh, fun W' hs hk l J Jx W2 hW hJ hJx hY h0 =>
    all1_any lo hi' l pf pb g cap f es J Jx W2 hJ hf ((h.heap hk).below hW) hY h0⟩

/-- What is yielded of All, of Ready, of Of. -/
def Yields (w : World) (k : Nat) (xs : List It) (e : Ending) (w' : World) : Prop := ∃ fv, e = .returned fv ∧ Iter w.heap.size w'.heap.size k fv xs w' ∧ Below w.heap.size w w'
theorem all_it {b g cap : Nat} {f : Int} {es : List En} {w : World} (h : BkAt w b g cap f es) (hf : Fit f es.length) :
    Calls Try.prog 21 #[.pointer (some ⟨b, 0, none⟩)] w (Yields w 0 (items f es)) :=
  (all_any h hf).mono fun e w' ⟨pf, pb, g', cap', he, hA, hB⟩ => ⟨_, he, all_iter hA hf (Nat.le_refl _), hB⟩

theorem noFn : ∀ (f : FuncId), none = some f → Fence.wide.fn f := fun _ h => by cases h
theorem run_store_fn {P : Program} (w : World) (a : Addr) (g : Nat) (lb : Array Value) {v : Value} (h : w.cell? a = some v) (hf : w.frozen? a = false) : (store a (.func (.func g) #[] lb)).run P w = .ok () (w.setCell a (.func (.func g) #[] lb)) := by
  rw [run_store P w a _ _ rfl, h]
  simp [hf]

end Go.Proofs.Ytjgamfonpagkbaa
