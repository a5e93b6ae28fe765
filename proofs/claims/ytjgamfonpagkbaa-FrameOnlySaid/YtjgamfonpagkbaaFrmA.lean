/-
  Layer 11, plain: the fields of a register's value, bit by bit. Nothing of the program.
-/
import Derived.Test.YtjgamfonpagkbaaPriA
import Derived.Laws.BitsAllLaws
namespace Go.Proofs.Ytjgamfonpagkbaa
set_option linter.unusedVariables false

/-- How many bits a register has for an interrupt. -/
def wideN (r : Int) : Nat := if r = 11 then 8 else if r = 12 then 2 else if r = 13 then 63 else 1
theorem wide_pos (r : Int) : 1 ≤ wideN r ∧ wideN r ≤ 63 := by
  unfold wideN
  split
  · omega
  · split
    · omega
    · split <;> omega
/-- The number whose bits from m on are ones, n of them, below 64. -/
def maskN (n m : Nat) : Nat := (2 ^ n - 1) * 2 ^ m % 2 ^ 64
theorem maskN_lt (n m : Nat) : maskN n m < 18446744073709551616 := Nat.mod_lt _ (by decide)
theorem mask_bit (n m i : Nat) : (maskN n m).testBit i = (decide (i < 64) && (decide (m ≤ i) && decide (i - m < n))) := by
  rw [maskN, Nat.testBit_mod_two_pow, Nat.testBit_mul_two_pow, Nat.testBit_two_pow_sub_one]
/-- The field at place k of a value, each field of n bits. -/
def fieldN (n v k : Nat) : Nat := sumB (fun i => v.testBit (n * k + i)) n
/-- A value with the field at place k as x's lowest bits. -/
def withN (n v k x : Nat) : Nat := sumB (fun i => if n * k ≤ i ∧ i < n * k + n then x.testBit (i - n * k) else v.testBit i) 64
theorem fieldN_lt (n v k : Nat) : fieldN n v k < 2 ^ n := sumB_lt _ _
theorem fieldN_lt63 {n : Nat} (h : n ≤ 63) (v k : Nat) : fieldN n v k < 9223372036854775808 := Nat.lt_of_lt_of_le (fieldN_lt n v k) (Nat.pow_le_pow_right (n := 2) (by decide) h)
theorem withN_lt (n v k x : Nat) : withN n v k x < 18446744073709551616 := sumB_lt _ 64
theorem bit_big {v : Nat} (h : v < 18446744073709551616) {i : Nat} (hi : 64 ≤ i) : v.testBit i = false :=
  Nat.testBit_lt_two_pow (Nat.lt_of_lt_of_le h (show 2 ^ 64 ≤ 2 ^ i from Nat.pow_le_pow_right (by decide) hi))
theorem field_eq (n v k : Nat) (hv : v < 18446744073709551616) : (v &&& maskN n (k * n)) / 2 ^ (k * n) = fieldN n v k := by
  apply Nat.eq_of_testBit_eq
  intro i
  rw [Nat.testBit_div_two_pow, Nat.testBit_and, mask_bit, fieldN, sumB_bit, Nat.mul_comm n k, Nat.add_comm i, Nat.add_sub_cancel_left]
  by_cases h : k * n + i < 64
  · by_cases h2 : i < n <;> simp [h, h2]
  · rw [bit_big hv (by omega)]; simp
theorem with_eq (n v k x : Nat) (hv : v < 18446744073709551616) : (v &&& (18446744073709551615 - maskN n (k * n))) ||| (x * 2 ^ (k * n) % 18446744073709551616 &&& maskN n (k * n)) = withN n v k x := by
  apply Nat.eq_of_testBit_eq
  intro i
  have e : 18446744073709551615 - maskN n (k * n) = 2 ^ 64 - (maskN n (k * n) + 1) := by omega
  rw [e, Nat.testBit_or, Nat.testBit_and, Nat.testBit_two_pow_sub_succ (maskN_lt _ _), Nat.testBit_and, show (18446744073709551616 : Nat) = 2 ^ 64 from rfl, Nat.testBit_mod_two_pow, Nat.testBit_mul_two_pow, mask_bit, withN, sumB_bit, Nat.mul_comm n k]
  by_cases h : i < 64
  · by_cases h1 : k * n ≤ i
    · by_cases h2 : i - k * n < n
      · have h3 : i < k * n + n := by omega
        simp [h, h1, h2, h3]
      · have h3 : ¬ i < k * n + n := by omega
        simp [h, h1, h2, h3]
    · simp [h, h1]
  · rw [bit_big hv (by omega)]; simp [h]
theorem withN_bit (n v k x i : Nat) : (withN n v k x).testBit i = (decide (i < 64) && (if n * k ≤ i ∧ i < n * k + n then x.testBit (i - n * k) else v.testBit i)) := by rw [withN, sumB_bit]

/-! ### The document's loops over bits -/
theorem sumB_succ_t {f : Nat → Bool} {n : Nat} (h : f n = true) : sumB f (n + 1) = sumB f n + 2 ^ n := by rw [sumB, h]; rfl
theorem sumB_succ_f {f : Nat → Bool} {n : Nat} (h : f n = false) : sumB f (n + 1) = sumB f n := by rw [sumB, h]; rfl
/-- Half of With: the first j bits of the field are put. -/
def withTo (n v k x j : Nat) : Nat := sumB (fun i => if n * k ≤ i ∧ i < n * k + j then x.testBit (i - n * k) else v.testBit i) 64
theorem withTo_all (n v k x : Nat) : withTo n v k x n = withN n v k x := rfl
theorem withTo_zero (n k x : Nat) {v : Nat} (hv : v < 18446744073709551616) : withTo n v k x 0 = v := by
  refine sumB_eq (fun i _ => ?_) hv
  rw [if_neg (by omega)]
theorem withTo_bit (n v k x j i : Nat) : (withTo n v k x j).testBit i = (decide (i < 64) && (if n * k ≤ i ∧ i < n * k + j then x.testBit (i - n * k) else v.testBit i)) := by rw [withTo, sumB_bit]
theorem withTo_lt (n v k x j : Nat) : withTo n v k x j < 18446744073709551616 := sumB_lt _ 64
theorem sumB_put (f g : Nat → Bool) (a : Nat) : ∀ n, (∀ i, i ≠ a → g i = f i) → a < n → sumB g n + (if f a then 2 ^ a else 0) = sumB f n + (if g a then 2 ^ a else 0)
  | 0, _, h => by omega
  | n + 1, h, ha => by
    by_cases e : a = n
    · subst e
      rw [sumB, sumB, sumB_congr a (fun i hi => h i (by omega))]
      omega
    · have ih := sumB_put f g a n h (by omega)
      rw [sumB, sumB, h n (fun x => e x.symm)]
      omega
theorem withTo_step (n v k x j : Nat) (hj : n * k + j < 64) : withTo n v k x (j + 1) + (if v.testBit (n * k + j) then 2 ^ (n * k + j) else 0) = withTo n v k x j + (if x.testBit j then 2 ^ (n * k + j) else 0) := by
  have h1 := sumB_put (fun i => if n * k ≤ i ∧ i < n * k + j then x.testBit (i - n * k) else v.testBit i) (fun i => if n * k ≤ i ∧ i < n * k + (j + 1) then x.testBit (i - n * k) else v.testBit i) (n * k + j) 64 (fun i hi => by
    by_cases h2 : n * k ≤ i
    · by_cases h3 : i < n * k + j
      · simp [h2, h3, show i < n * k + (j + 1) by omega]
      · simp [h2, h3, show ¬ i < n * k + (j + 1) by omega]
    · simp [h2]) hj
  have e1 : ¬ (n * k ≤ n * k + j ∧ n * k + j < n * k + j) := by omega
  have e2 : n * k ≤ n * k + j ∧ n * k + j < n * k + (j + 1) := by omega
  simp only [e2, Nat.add_sub_cancel_left] at h1
  simpa [withTo] using h1
theorem withTo_over (n v k x j : Nat) (hj : 64 ≤ n * k + j) : withTo n v k x (j + 1) = withTo n v k x j :=
  sumB_congr 64 (fun i hi => by
    by_cases h2 : n * k ≤ i
    · simp [h2, show i < n * k + (j + 1) by omega, show i < n * k + j by omega]
    · simp [h2])
theorem withTo_at (n v k x j : Nat) (hj : n * k + j < 64) : (withTo n v k x j).testBit (n * k + j) = v.testBit (n * k + j) := by
  rw [withTo_bit, if_neg (by omega)]; simp [hj]

/-- A bit, as the document asks for it. -/
theorem and_one (x i : Nat) (hx : x < 18446744073709551616) : bits .and .u64 ((x : Int) / 2 ^ i) 1 = ((if x.testBit i then 1 else 0 : Nat) : Int) := by
  have e1 : ((x : Int) / 2 ^ i) = ((x / 2 ^ i : Nat) : Int) := by
    rw [Int.natCast_ediv, Int.natCast_pow]; rfl
  rw [e1, show (1 : Int) = ((1 : Nat) : Int) from rfl, u64_and_nat _ _ (Nat.lt_of_le_of_lt (Nat.div_le_self _ _) hx) (by decide)]
  congr 1
  rw [Nat.and_one_is_mod, Nat.testBit_eq_decide_div_mod_eq]
  by_cases h : x / 2 ^ i % 2 = 1
  · simp [h]
  · simp [h]; omega

end Go.Proofs.Ytjgamfonpagkbaa
