/-
  Counting: of two sets the words' numbers of ones, joined and met (for SetsCounts).
-/
import Derived.Test.YtmdlknddlmpddaaDoorSetK
import Derived.Test.YtmdlknddlmpddaaDoorSetsAny
namespace Go.Proofs.YtmdlknddlmpddaaDoor
open Go.ChangeShapes Go.WideShapes Go.ChangeAt Go.RowKit Go.Shelf
set_option linter.unusedVariables false

theorem or2 (x y : Nat) : (x ||| y) % 2 + (x &&& y) % 2 = x % 2 + y % 2 := by
  have h1 := @Nat.or_mod_two_pow x y 1
  have h2 := @Nat.and_mod_two_pow x y 1
  rw [show (2 : Nat) ^ 1 = 2 from rfl] at h1 h2
  rw [h1, h2]
  rcases Nat.mod_two_eq_zero_or_one x with a | a <;> rcases Nat.mod_two_eq_zero_or_one y with b | b <;> rw [a, b] <;> rfl
theorem pop_or : ∀ (n x y : Nat), popN n (x ||| y) + popN n (x &&& y) = popN n x + popN n y
  | 0, _, _ => rfl
  | n + 1, x, y => by
    have ih := pop_or n (x / 2) (y / 2)
    have h := or2 x y
    have e1 : (x ||| y) / 2 = x / 2 ||| y / 2 := by
      have := @Nat.shiftRight_or_distrib 1 x y
      simpa [Nat.shiftRight_eq_div_pow] using this
    have e2 : (x &&& y) / 2 = x / 2 &&& y / 2 := by
      have := @Nat.shiftRight_and_distrib 1 x y
      simpa [Nat.shiftRight_eq_div_pow] using this
    simp only [popN, e1, e2]
    omega

theorem not_bit {y : Nat} (hy : y < 18446744073709551616) (i : Nat) : (18446744073709551615 - y).testBit i = (decide (i < 64) && !y.testBit i) := by
  have := Nat.testBit_two_pow_sub_succ (n := 64) (x := y) hy i
  rw [← this]
  congr 1
  omega
theorem less_or {x y : Nat} (hx : x < 18446744073709551616) (hy : y < 18446744073709551616) : (x &&& (18446744073709551615 - y)) ||| (x &&& y) = x := by
  apply Nat.eq_of_testBit_eq
  intro i
  rw [Nat.testBit_or, Nat.testBit_and, Nat.testBit_and, not_bit hy]
  by_cases hi : i < 64
  · simp [hi]; cases x.testBit i <;> cases y.testBit i <;> rfl
  · have : x.testBit i = false := Nat.testBit_lt_two_pow (Nat.lt_of_lt_of_le hx (Nat.pow_le_pow_right (n := 2) (i := 64) (by omega) (by omega)))
    simp [this]
theorem less_and {x y : Nat} (hy : y < 18446744073709551616) : (x &&& (18446744073709551615 - y)) &&& (x &&& y) = 0 := by
  apply Nat.eq_of_testBit_eq
  intro i
  rw [Nat.testBit_and, Nat.testBit_and, Nat.testBit_and, not_bit hy]
  cases x.testBit i <;> cases y.testBit i <;> simp
theorem popN_zero : ∀ n, popN n 0 = 0
  | 0 => rfl
  | n + 1 => by simp [popN, popN_zero n]
theorem pop_less {x y : Nat} (hx : x < 18446744073709551616) (hy : y < 18446744073709551616) : popN 64 (x &&& (18446744073709551615 - y)) + popN 64 (x &&& y) = popN 64 x := by
  have h := pop_or 64 (x &&& (18446744073709551615 - y)) (x &&& y)
  rw [less_or hx hy, less_and hy, popN_zero] at h
  omega

theorem len_or (S T : Words) (N : Nat) : ∀ n, n ≤ N → lenTo (joinTo orG S T N) n + lenTo (joinTo meetG S T N) n = lenTo S n + lenTo T n
  | 0, _ => rfl
  | n + 1, h => by
    have ih := len_or S T N n (by omega)
    have hp := pop_or 64 (S n) (T n)
    have e1 : joinTo orG S T N n = S n ||| T n := by simp [joinTo, orG, show n < N by omega]
    have e2 : joinTo meetG S T N n = S n &&& T n := by simp [joinTo, meetG, show n < N by omega]
    rw [lenTo, lenTo, lenTo, lenTo, e1, e2]
    omega
theorem len_less (S T : Words) (hS : ∀ i, S i < 18446744073709551616) (hT : ∀ i, T i < 18446744073709551616) (N : Nat) : ∀ n, n ≤ N → lenTo (joinTo lessG S T N) n + lenTo (joinTo meetG S T N) n = lenTo S n
  | 0, _ => rfl
  | n + 1, h => by
    have ih := len_less S T hS hT N n (by omega)
    have hp := pop_less (hS n) (hT n)
    have e1 : joinTo lessG S T N n = S n &&& (18446744073709551615 - T n) := by simp [joinTo, lessG, show n < N by omega]
    have e2 : joinTo meetG S T N n = S n &&& T n := by simp [joinTo, meetG, show n < N by omega]
    rw [lenTo, lenTo, lenTo, e1, e2]
    omega

/-- A new set beside what lies. -/
def MadeSet (w : World) (S : Words) (W : World) (e : Ending) (W' : World) : Prop := ∃ B : Nat, e = .returned (.pointer (some ⟨B, 0, none⟩)) ∧ Good w B S W' ∧ Below W.heap.size W W'
theorem made {w W : World} {B : Nat} {S J : Words} (h : Good w B S W) {e : Ending} {W' : World} (hn : NewSet J W e W') : MadeSet w J W e W' :=
  ⟨_, hn.1, ⟨hn.2.1, h.2.1.trans (hn.2.2.mono h.2.1.size), h.2.2.1.below hn.2.2, h.2.1.size, h.2.2.2.2⟩, hn.2.2⟩
theorem union_made (w W : World) (B C : Nat) (S T J : Words) (h : Good w B S W) (g : Good w C T W) (e : joinTo orG S T 256 = J) :
    Calls Tryd.prog 25 #[.pointer (some ⟨B, 0, none⟩), .pointer (some ⟨C, 0, none⟩)] W (MadeSet w J W) := e ▸ (union_any B C S T W h.1 g.1).mono fun _ _ hn => made h hn
theorem meet_made (w W : World) (B C : Nat) (S T J : Words) (h : Good w B S W) (g : Good w C T W) (e : joinTo meetG S T 256 = J) :
    Calls Tryd.prog 26 #[.pointer (some ⟨B, 0, none⟩), .pointer (some ⟨C, 0, none⟩)] W (MadeSet w J W) := e ▸ (meet_any B C S T W h.1 g.1).mono fun _ _ hn => made h hn
theorem less_made (w W : World) (B C : Nat) (S T J : Words) (h : Good w B S W) (g : Good w C T W) (e : joinTo lessG S T 256 = J) :
    Calls Tryd.prog 27 #[.pointer (some ⟨B, 0, none⟩), .pointer (some ⟨C, 0, none⟩)] W (MadeSet w J W) := e ▸ (less_any B C S T W h.1 g.1).mono fun _ _ hn => made h hn
theorem of_made (xs : List Int) (a : Option Addr) (cap : Nat) (w W : World) (hb : Below w.heap.size w W) (hT : TabW W) (h0 : 0 < w.heap.size) (hv : IntsAt w (.slice a xs.length cap) xs) (hl : xs.length ≤ 9223372036854775806) (J : Words) (e : putAll S0 xs = J) :
    Calls Tryd.prog 10 #[.slice a xs.length cap] W (MadeSet w J W) :=
  e ▸ (of_any xs a cap W (intsAt_grew hv hb) hl).mono fun e W' ⟨he, hR, hB⟩ => ⟨_, he, ⟨hR, hb.trans (hB.mono hb.size), hT.below hB, hb.size, h0⟩, hB⟩
theorem same_made (w W : World) (B C : Nat) (S T : Words) (h : Good w B S W) (g : Good w C T W) (e : sameW S T = true) :
    Calls Tryd.prog 31 #[.pointer (some ⟨B, 0, none⟩), .pointer (some ⟨C, 0, none⟩)] W fun e W' => e = .returned (.bool true) ∧ Below W.heap.size W W' :=
  (same_sets B C S T W h.1 g.1).mono fun e' W' ⟨he, m, hm⟩ => ⟨by rw [he, e], by rw [hm]; exact below_drewN (Below.refl _ _) m⟩

theorem putS_lt {S : Words} (hS : ∀ i, S i < 18446744073709551616) (m : Int) : ∀ i, putS S m i < 18446744073709551616 := by
  unfold putS; split
  · exact flip_lt hS _
  · exact hS
theorem putAll_lt : ∀ (xs : List Int) {S : Words}, (∀ i, S i < 18446744073709551616) → ∀ i, putAll S xs i < 18446744073709551616
  | [], _, h => h
  | x :: r, S, h => putAll_lt r (putS_lt h x)
theorem s0_lt (i : Nat) : S0 i < 18446744073709551616 := by simp [S0]

end Go.Proofs.YtmdlknddlmpddaaDoor
