/-
  Plain reckoning: bits of numbers, as the model's '&', '&^' and shifts make them, bit by bit. Nothing of the program.
-/
import Derived.Test.YtnnlimjbmfpalaaLadA
import Derived.Laws.BitsLemmas
import Derived.Laws.Entries
namespace Go.Proofs.Ytnnlimjbmfpalaa
set_option linter.unusedVariables false

/-- A number's bit. -/
def bt (p : Int) (k : Nat) : Bool := decide (p / 2 ^ k % 2 = 1)
/-- Its lowest eight bits. -/
def low8 (p : Int) : Nat := (p % 256).toNat
theorem low8_lt (p : Int) : low8 p < 256 := by unfold low8; omega

theorem bt_low8 (p : Int) (i : Nat) (hi : i < 8) : (low8 p).testBit i = bt p i := by
  have hp : (2 : Int) ^ i * 2 ^ (8 - i) = 256 := by
    rw [← Int.pow_add, show i + (8 - i) = 8 by omega]; rfl
  have hq : (2 : Int) ^ (8 - i) = 2 * 2 ^ (7 - i) := by
    rw [show 8 - i = (7 - i) + 1 by omega, Int.pow_succ]; omega
  have hpos : (0 : Int) < 2 ^ i := Int.pow_pos (by decide)
  rw [Nat.testBit_eq_decide_div_mod_eq, bt]
  have e : ((low8 p / 2 ^ i % 2 : Nat) : Int) = p / 2 ^ i % 2 := by
    have e1 : ((low8 p : Nat) : Int) = p % 256 := by unfold low8; omega
    rw [Int.natCast_emod, Int.natCast_ediv, e1, Int.natCast_pow]
    simp only [Int.cast_ofNat_Int]
    have e2 : p = p % 256 + 2 ^ i * (2 ^ (8 - i) * (p / 256)) := by rw [← Int.mul_assoc, hp]; omega
    conv => rhs; rw [e2, Int.add_mul_ediv_left _ _ (by omega), hq, Int.mul_assoc, Int.add_mul_emod_self_left]
  by_cases h : low8 p / 2 ^ i % 2 = 1
  · have : p / 2 ^ i % 2 = 1 := by rw [← e, h]; rfl
    simp [h, this]
  · have : ¬ p / 2 ^ i % 2 = 1 := by rw [← e]; omega
    simp [h, this]

theorem ofInt_low (p : Int) : (BitVec.ofInt 64 p).toNat % 256 = low8 p := by
  rw [BitVec.toNat_ofInt]; unfold low8; omega

/-- '&' with a number of eight bits. -/
theorem land_low {x m : Nat} (hm : m < 256) : x &&& m = x % 256 &&& m := by
  apply Nat.eq_of_testBit_eq
  intro i
  rw [Nat.testBit_and, Nat.testBit_and, show (256 : Nat) = 2 ^ 8 from rfl, Nat.testBit_mod_two_pow]
  by_cases hi : i < 8
  · simp [hi]
  · have : m < 2 ^ i := Nat.lt_of_lt_of_le hm (show 2 ^ 8 ≤ 2 ^ i from Nat.pow_le_pow_right (by decide) (by omega))
    simp [Nat.testBit_lt_two_pow this]
theorem and_low (p : Int) (m : Nat) (hm : m < 256) : bits .and .i64 p (m : Int) = ((low8 p &&& m : Nat) : Int) := by
  show IntKind.i64.wrap ((BitVec.ofInt 64 p &&& BitVec.ofInt 64 (m : Int)).toNat : Int) = _
  have e : (BitVec.ofInt 64 p &&& BitVec.ofInt 64 (m : Int)).toNat = low8 p &&& m := by
    rw [BitVec.toNat_and, BitVec.ofInt_natCast, BitVec.toNat_ofNat, Nat.mod_eq_of_lt (show m < 2 ^ 64 by omega), ← ofInt_low p, land_low hm]
  have : low8 p &&& m < 256 := Nat.and_lt_two_pow (n := 8) _ (by omega)
  rw [e, IntKind.wrap_i64]
  omega
theorem and_low_left (m : Nat) (hm : m < 256) (p : Int) : bits .and .i64 (m : Int) p = ((low8 p &&& m : Nat) : Int) := by
  rw [← and_low p m hm]
  show IntKind.i64.wrap ((BitVec.ofInt 64 (m : Int) &&& BitVec.ofInt 64 p).toNat : Int) = IntKind.i64.wrap ((BitVec.ofInt 64 p &&& BitVec.ofInt 64 (m : Int)).toNat : Int)
  rw [BitVec.and_comm]
theorem low8_wrap (n : Int) : low8 (IntKind.i64.wrap n) = low8 n := by
  rw [IntKind.wrap_i64]; unfold low8; omega
/-- '&^', as far as the lowest eight bits go. -/
theorem andNot_low (p q : Int) : low8 (bits .andNot .i64 p q) = low8 p &&& (255 - low8 q) := by
  show low8 (IntKind.i64.wrap ((BitVec.ofInt 64 p &&& ~~~ BitVec.ofInt 64 q).toNat : Int)) = _
  have hq : ((~~~ BitVec.ofInt 64 q).toNat) % 256 = 255 - low8 q := by
    rw [BitVec.toNat_not, ← ofInt_low q]
    have := (BitVec.ofInt 64 q).isLt
    omega
  rw [low8_wrap, BitVec.toNat_and]
  have e : low8 (((BitVec.ofInt 64 p).toNat &&& (~~~ BitVec.ofInt 64 q).toNat : Nat) : Int) = ((BitVec.ofInt 64 p).toNat &&& (~~~ BitVec.ofInt 64 q).toNat) % 256 := by unfold low8; omega
  rw [e, show (256 : Nat) = 2 ^ 8 from rfl, Nat.and_mod_two_pow, show (2 : Nat) ^ 8 = 256 from rfl, hq, ofInt_low]
theorem low8_nat (m : Nat) (hm : m < 256) : low8 (m : Int) = m := by unfold low8; omega
theorem low8_small (p : Int) (h : 0 ≤ p) (h2 : p < 256) : ((low8 p : Nat) : Int) = p := by unfold low8; omega

end Go.Proofs.Ytnnlimjbmfpalaa
