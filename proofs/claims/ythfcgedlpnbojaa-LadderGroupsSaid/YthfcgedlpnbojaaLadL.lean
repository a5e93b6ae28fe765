/-
  The law LadderClears at every input.
-/
import Derived.Test.YthfcgedlpnbojaaLadK
namespace Go.Proofs.Ythfcgedlpnbojaa
open Go.ChangeShapes Go.WideShapes Go.ChangeAt Go.RowKit
set_option linter.unusedVariables false
attribute [local go_sem high] eql2 guard2

theorem low_248 : ∀ n : Nat, n < 256 → n &&& 248 = 8 * (n / 8) := by decide +kernel
theorem i64_and248 (p : Int) : bits .and .i64 p 248 = 8 * (kO p : Int) := by
  show IntKind.i64.wrap ((BitVec.ofInt 64 p &&& BitVec.ofInt 64 (248 : Int)).toNat : Int) = _
  have e : (BitVec.ofInt 64 p &&& BitVec.ofInt 64 (248 : Int)).toNat = 8 * kO p := by
    rw [BitVec.toNat_and, show (BitVec.ofInt 64 (248 : Int)).toNat = 248 from rfl]
    have h1 : (BitVec.ofInt 64 p).toNat &&& 248 = ((BitVec.ofInt 64 p).toNat % 256) &&& 248 := by
      apply Nat.eq_of_testBit_eq
      intro i
      rw [Nat.testBit_and, Nat.testBit_and, show (256 : Nat) = 2 ^ 8 from rfl, Nat.testBit_mod_two_pow]
      by_cases hi : i < 8
      · simp [hi]
      · have : (248 : Nat) < 2 ^ i := Nat.lt_of_lt_of_le (by decide) (show 2 ^ 8 ≤ 2 ^ i from Nat.pow_le_pow_right (by decide) (by omega))
        simp [Nat.testBit_lt_two_pow this]
    rw [h1, low_248 _ (by omega), BitVec.toNat_ofInt]
    unfold kO
    omega
  have := kO_lt p
  rw [e, IntKind.wrap_i64]
  omega

/-- An act: what to do, a group, a priority. -/
structure Ac where
  d : Int
  g : Int
  p : Int
deriving Inhabited
abbrev Ac.cs (x : Ac) : Array Value := #[.int .i64 x.d, .int .i64 x.g, .int .i64 x.p]
abbrev Ac.v (x : Ac) : Value := .agg x.cs
def Ac.at (x : Ac) : Nat := plc x.g x.p
theorem CB.three {W : World} {b : Nat} {t : TypeId} {x y z : Value} (h : CB W b t #[x, y, z]) : W.cell? ⟨b, 0, none⟩ = some x ∧ W.cell? ⟨b, 1, none⟩ = some y ∧ W.cell? ⟨b, 2, none⟩ = some z := ⟨h.cell 0, h.cell 1, h.cell 2⟩

/-- Whether two acts name one place. -/
theorem same_at (x y : Ac) : (decide ((gO x.g : Int) = gO y.g) && decide (8 * (kO x.p : Int) = 8 * (kO y.p : Int))) = decide (x.at = y.at) := by
  have h1 := gO_lt x.g
  have h2 := gO_lt y.g
  unfold Ac.at plc
  by_cases a : gO x.g = gO y.g <;> by_cases b : kO x.p = kO y.p
  · simp [a, b]
  · have : ¬ 2 * kO x.p + gO x.g = 2 * kO y.p + gO y.g := by omega
    have h3 : ¬ (8 * (kO x.p : Int) = 8 * (kO y.p : Int)) := by omega
    simp [this, h3]
  · have : ¬ 2 * kO x.p + gO x.g = 2 * kO y.p + gO y.g := by omega
    have h3 : ¬ ((gO x.g : Int) = gO y.g) := by omega
    simp [this, h3]
  · have : ¬ 2 * kO x.p + gO x.g = 2 * kO y.p + gO y.g := by omega
    have h3 : ¬ ((gO x.g : Int) = gO y.g) := by omega
    simp [this, h3]

/-! ### The walks -/
theorem keep7 {w W : World} {m1 m2 m3 m4 : Nat} {T A : TypeId} {c1 c2 c3 c4 : Value} {d1 g1 p1 d2 g2 p2 : Value} (h : AtG w [(m2, T, #[c3, c4]), (m1, T, #[c1, c2]), (m3, A, #[d2, g2, p2]), (m4, A, #[d1, g1, p1])] W) :
    W.cell? ⟨m1, 0, none⟩ = some c1 ∧ W.cell? ⟨m1, 1, none⟩ = some c2 ∧ W.cell? ⟨m4, 1, none⟩ = some g1 ∧ W.cell? ⟨m4, 2, none⟩ = some p1 ∧ AtG w [(m2, T, #[c3, c4]), (m1, T, #[c1, c2]), (m3, A, #[d2, g2, p2]), (m4, A, #[d1, g1, p1])] W :=
  ⟨h.tl.b0.cell 0, h.tl.b0.cell 1, h.tl.tl.tl.b0.cell 1, h.tl.tl.tl.b0.cell 2, h⟩
theorem fresh7 {w W : World} {L : List (Nat × TypeId × Array Value)} (h : AtG w L W) : ∀ r ∈ L, r.1 ≠ W.heap.size := fun r hr e => by
  have := (h.box r hr).lt
  omega
theorem keep8 {w W : World} {m0 m1 m2 m3 m4 : Nat} {T A : TypeId} {b1 b2 c1 c2 c3 c4 : Value} {d1 g1 p1 d2 g2 p2 : Value} (h : AtG w [(m0, T, #[b1, b2]), (m2, T, #[c3, c4]), (m1, T, #[c1, c2]), (m3, A, #[d2, g2, p2]), (m4, A, #[d1, g1, p1])] W) :
    W.cell? ⟨m0, 0, none⟩ = some b1 ∧ W.cell? ⟨m0, 1, none⟩ = some b2 ∧ W.cell? ⟨m2, 0, none⟩ = some c3 ∧ W.cell? ⟨m2, 1, none⟩ = some c4 ∧ W.cell? ⟨m1, 0, none⟩ = some c1 ∧ W.cell? ⟨m1, 1, none⟩ = some c2 ∧ W.cell? ⟨m3, 1, none⟩ = some g2 ∧ W.cell? ⟨m3, 2, none⟩ = some p2 ∧ W.cell? ⟨m4, 1, none⟩ = some g1 ∧ W.cell? ⟨m4, 2, none⟩ = some p1 ∧ AtG w [(m0, T, #[b1, b2]), (m2, T, #[c3, c4]), (m1, T, #[c1, c2]), (m3, A, #[d2, g2, p2]), (m4, A, #[d1, g1, p1])] W :=
  ⟨h.b0.cell 0, h.b0.cell 1, h.tl.b0.cell 0, h.tl.b0.cell 1, h.tl.tl.b0.cell 0, h.tl.tl.b0.cell 1, h.tl.tl.tl.b0.cell 1, h.tl.tl.tl.b0.cell 2, h.tl.tl.tl.tl.b0.cell 1, h.tl.tl.tl.tl.b0.cell 2, h⟩

end Go.Proofs.Ythfcgedlpnbojaa
