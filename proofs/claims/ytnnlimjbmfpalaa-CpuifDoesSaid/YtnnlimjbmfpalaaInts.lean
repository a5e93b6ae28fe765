/-
  crierref01.Same at every two slices of ints within the reach: whether they hold the same numbers.
-/
import Derived.Test.YtnnlimjbmfpalaaRows
import Derived.WalkKit
import Derived.ProofKit
import Derived.Lib.Hide
import Derived.BigQuiet
import Derived.Deep.QuietTactic
namespace Go.Proofs.Ytnnlimjbmfpalaa
open Go.ChangeShapes Go.WideShapes Go.ChangeAt Go.RowKit
set_option linter.unusedVariables false

/-- The slice value v holds the ints xs. -/
def IntsAt (W : World) (v : Value) (xs : List Int) : Prop :=
  ∃ (a : Option Addr) (cap : Nat), v = .slice a xs.length cap ∧ (xs.length ≤ cap ∧ cap ≤ maxLen) ∧ (xs ≠ [] → ∃ b off : Nat, a = some ⟨b, off, none⟩ ∧ ∀ j, j < xs.length → W.cell? ⟨b, off + j, none⟩ = some (.int .i64 (xs[j]?.getD 0)))

theorem intsAt_row {W : World} {base : Nat} {v : Value} {xs : List Int} (h : W.ownsRow base 3 1 v xs.length (xs.map (Value.int .i64))) : IntsAt W v xs := by
  rcases h.2 with ⟨rfl, h0⟩ | ⟨g, cap, cur, rfl, hb, hg, h1, h2, h3, h4⟩
  · exact ⟨none, 0, by rw [h0], ⟨by omega, by unfold maxLen; omega⟩, fun hx => absurd (List.length_eq_zero_iff.1 h0) hx⟩
  · refine ⟨some ⟨g, 0, none⟩, cap, rfl, ⟨h1, h2⟩, fun _ => ⟨g, 0, rfl, fun j hj => ?_⟩⟩
    have hc : cur.toList[j]? = some (.int .i64 (xs[j]?.getD 0)) := by
      have h5 : (cur.toList.take (xs.length * 1))[j]? = (xs.map (Value.int .i64))[j]? := by rw [h4]
      rw [List.getElem?_take_of_lt (by omega)] at h5
      rw [h5]
      simp [hj]
    simp only [World.cell?, hg]
    simpa using hc

theorem list_ne {xs ys : List Int} (hl : xs.length = ys.length) (hne : xs ≠ ys) : ¬ ∀ j, j < xs.length → xs[j]?.getD 0 = ys[j]?.getD 0 := fun h => hne (by
  apply List.ext_getElem hl
  intro i h1 h2
  have := h i h1
  simpa [h1, h2] using this)

def Upto (xs ys : List Int) (k : Nat) : Prop := ∀ j, j < k → xs[j]?.getD 0 = ys[j]?.getD 0
theorem Upto.zero (xs ys : List Int) : Upto xs ys 0 := fun j h => by omega
theorem Upto.succ {xs ys : List Int} {k : Nat} (h : Upto xs ys k) (e : xs[k]?.getD 0 = ys[k]?.getD 0) : Upto xs ys (k + 1) := fun j hj => by
  by_cases x : j = k
  · subst x; exact e
  · exact h j (by omega)

def sameB (xs ys : List Int) : Bool := decide (xs = ys)

theorem sameB_upto {xs ys : List Int} (hl : xs.length = ys.length) (h : Upto xs ys xs.length) : sameB xs ys = true := by
  by_cases e : xs = ys
  · simp [sameB, e]
  · exact absurd h (list_ne hl e)
theorem sameB_at {xs ys : List Int} {k : Nat} (h : xs[k]?.getD 0 ≠ ys[k]?.getD 0) : sameB xs ys = false := by
  have : xs ≠ ys := fun e => h (by rw [e])
  simp [sameB, this]
theorem sameB_len {xs ys : List Int} (h : xs.length ≠ ys.length) : sameB xs ys = false := by
  have : xs ≠ ys := fun e => h (by rw [e])
  simp [sameB, this]

end Go.Proofs.Ytnnlimjbmfpalaa
