/-
  Plain reckoning: a ladder as the places where something runs (place 2 k + g: the priority 8 k in group g), its two words, what an act makes of them. Nothing of the program.
-/
import Derived.Laws.BitsLemmas
import Derived.Laws.Entries
namespace Go.Proofs.Ytnnlimjbmfpalaa
set_option linter.unusedVariables false

/-- The number whose bits below n are f's. -/
def sumB (f : Nat → Bool) : Nat → Nat
  | 0 => 0
  | n + 1 => sumB f n + if f n then 2 ^ n else 0
theorem sumB_lt (f : Nat → Bool) : ∀ n, sumB f n < 2 ^ n
  | 0 => by simp [sumB]
  | n + 1 => by
    have := sumB_lt f n
    rw [sumB, Nat.pow_succ]
    split <;> omega
theorem sumB_bit (f : Nat → Bool) : ∀ n i, (sumB f n).testBit i = (decide (i < n) && f i)
  | 0, i => by simp [sumB]
  | n + 1, i => by
    have hl := sumB_lt f n
    have ih := sumB_bit f n i
    rw [sumB]
    by_cases hf : f n
    · rw [if_pos hf, Nat.add_comm]
      by_cases hi : i = n
      · subst hi
        rw [Nat.testBit_two_pow_add_eq, ih]; simp [hf]
      · by_cases hlt : i < n
        · rw [Nat.testBit_two_pow_add_gt hlt, ih]
          simp [hlt, Nat.lt_succ_of_lt hlt]
        · rw [Nat.testBit_lt_two_pow]
          · simp; omega
          · have : 2 ^ (n + 1) ≤ 2 ^ i := Nat.pow_le_pow_right (by decide) (by omega)
            rw [Nat.pow_succ] at this; omega
    · rw [if_neg hf, Nat.add_zero, ih]
      by_cases hi : i = n
      · subst hi; simp [hf]
      · have : i < n + 1 ↔ i < n := by omega
        simp [this]
theorem sumB_eq {x n : Nat} {f : Nat → Bool} (h : ∀ i, i < n → x.testBit i = f i) (hx : x < 2 ^ n) : sumB f n = x := by
  apply Nat.eq_of_testBit_eq
  intro i
  rw [sumB_bit]
  by_cases hi : i < n
  · simp [hi, h i hi]
  · have : x < 2 ^ i := Nat.lt_of_lt_of_le hx (Nat.pow_le_pow_right (by decide) (by omega))
    simp [hi, Nat.testBit_lt_two_pow this]
theorem sumB_congr {f g : Nat → Bool} : ∀ n, (∀ i, i < n → f i = g i) → sumB f n = sumB g n
  | 0, _ => rfl
  | n + 1, h => by rw [sumB, sumB, sumB_congr n (fun i hi => h i (by omega)), h n (by omega)]

/-! ### Places -/
abbrev Rg := Nat → Bool
def wd (f : Rg) (g : Nat) : Nat := sumB (fun k => f (2 * k + g)) 32
theorem wd_lt (f : Rg) (g : Nat) : wd f g < 4294967296 := sumB_lt _ 32
theorem wd_bit (f : Rg) (g k : Nat) (hk : k < 32) : (wd f g).testBit k = f (2 * k + g) := by rw [wd, sumB_bit]; simp [hk]
def put (f : Rg) (i : Nat) (v : Bool) : Rg := fun j => if j = i then v else f j
theorem put_same (f : Rg) (i : Nat) (v : Bool) : put f i v i = v := by simp [put]
theorem put_other (f : Rg) {i j : Nat} (v : Bool) (h : j ≠ i) : put f i v j = f j := by simp [put, h]
theorem put_put (f : Rg) (i : Nat) (u v : Bool) : put (put f i u) i v = put f i v := by funext j; unfold put; by_cases h : j = i <;> simp [h]
theorem put_id {f : Rg} {i : Nat} {v : Bool} (h : f i = v) : put f i v = f := by funext j; unfold put; by_cases e : j = i <;> simp [e, h]

/-- The words that come: places of two numbers. -/
def ofW (a b : Nat) : Rg := fun i => if i % 2 = 0 then a.testBit (i / 2) else b.testBit (i / 2)
theorem wd_ofW0 {a : Nat} (b : Nat) (ha : a < 4294967296) : wd (ofW a b) 0 = a := sumB_eq (fun i _ => by
  rw [ofW, if_pos (by omega), show (2 * i + 0) / 2 = i by omega]) ha
theorem wd_ofW1 (a : Nat) {b : Nat} (hb : b < 4294967296) : wd (ofW a b) 1 = b := sumB_eq (fun i _ => by
  rw [ofW, if_neg (by omega), show (2 * i + 1) / 2 = i by omega]) hb
theorem ofW_bit {a b : Nat} (ha : a < 4294967296) (hb : b < 4294967296) {i : Nat} (hi : ¬ i < 64) : ofW a b i = false := by
  have hp : (4294967296 : Nat) ≤ 2 ^ (i / 2) := by
    have := Nat.pow_le_pow_right (n := 2) (by decide) (show 32 ≤ i / 2 by omega)
    exact this
  unfold ofW
  split
  · exact Nat.testBit_lt_two_pow (by omega)
  · exact Nat.testBit_lt_two_pow (by omega)

/-- Which place a group and a priority name. -/
def kO (p : Int) : Nat := (p / 8 % 32).toNat
def gO (g : Int) : Nat := (g % 2).toNat
def plc (g p : Int) : Nat := 2 * kO p + gO g
theorem kO_lt (p : Int) : kO p < 32 := by unfold kO; omega
theorem gO_lt (g : Int) : gO g < 2 := by unfold gO; omega
theorem plc_lt (g p : Int) : plc g p < 64 := by have := kO_lt p; have := gO_lt g; unfold plc; omega

/-! ### The words, by acts -/
theorem wd_put_other (f : Rg) (k g h : Nat) (v : Bool) (hg : g < 2) (hh : h < 2) (hne : g ≠ h) : wd (put f (2 * k + g) v) h = wd f h :=
  sumB_congr 32 (fun j _ => put_other f v (by omega))
theorem wd_put_or (f : Rg) (k g : Nat) (hk : k < 32) : wd f g ||| 2 ^ k = wd (put f (2 * k + g) true) g := by
  apply Nat.eq_of_testBit_eq
  intro i
  rw [Nat.testBit_or, Nat.testBit_two_pow, wd, wd, sumB_bit, sumB_bit]
  by_cases hi : i = k
  · subst hi; simp [hk, put_same]
  · have : 2 * i + g ≠ 2 * k + g := by omega
    have h2 : ¬ k = i := fun e => hi e.symm
    simp [put_other f true this, h2]
theorem wd_put_clear (f : Rg) (k g : Nat) (hk : k < 32) : wd f g &&& (4294967295 - 2 ^ k) = wd (put f (2 * k + g) false) g := by
  apply Nat.eq_of_testBit_eq
  intro i
  have hp : 2 ^ k < 2 ^ 32 := Nat.pow_lt_pow_right (by decide) hk
  rw [Nat.testBit_and, show (4294967295 - 2 ^ k) = 2 ^ 32 - (2 ^ k + 1) by omega, Nat.testBit_two_pow_sub_succ hp, Nat.testBit_two_pow, wd, wd, sumB_bit, sumB_bit]
  by_cases hi : i = k
  · subst hi; simp [put_same]
  · have : 2 * i + g ≠ 2 * k + g := by omega
    have h2 : ¬ k = i := fun e => hi e.symm
    by_cases hl : i < 32 <;> simp [put_other f false this, h2, hl]
theorem wd_and (f : Rg) (k g : Nat) (hk : k < 32) : wd f g &&& 2 ^ k = if f (2 * k + g) then 2 ^ k else 0 := by
  apply Nat.eq_of_testBit_eq
  intro i
  rw [Nat.testBit_and, Nat.testBit_two_pow, wd, sumB_bit]
  by_cases hi : i = k
  · subst hi
    cases hf : f (2 * i + g) <;> simp [hk]
  · have h2 : ¬ k = i := fun e => hi e.symm
    cases hf : f (2 * k + g) <;> simp [h2]

/-- The model's '&', '|' and '&^' of words of 32 bits. -/
theorem u32_and {a b : Nat} (ha : a < 4294967296) (hb : b < 4294967296) : bits .and .u32 (a : Int) (b : Int) = ((a &&& b : Nat) : Int) := by
  show IntKind.u32.wrap ((BitVec.ofInt 32 (a : Int) &&& BitVec.ofInt 32 (b : Int)).toNat : Int) = _
  have e : (BitVec.ofInt 32 (a : Int) &&& BitVec.ofInt 32 (b : Int)).toNat = a &&& b := by
    rw [BitVec.toNat_and, BitVec.ofInt_natCast, BitVec.ofInt_natCast, BitVec.toNat_ofNat, BitVec.toNat_ofNat, Nat.mod_eq_of_lt (show a < 2 ^ 32 by omega), Nat.mod_eq_of_lt (show b < 2 ^ 32 by omega)]
  have : a &&& b < 2 ^ 32 := Nat.and_lt_two_pow _ (by omega)
  rw [e, IntKind.wrap_u32]; omega
theorem u32_or {a b : Nat} (ha : a < 4294967296) (hb : b < 4294967296) : bits .or .u32 (a : Int) (b : Int) = ((a ||| b : Nat) : Int) := by
  show IntKind.u32.wrap ((BitVec.ofInt 32 (a : Int) ||| BitVec.ofInt 32 (b : Int)).toNat : Int) = _
  have e : (BitVec.ofInt 32 (a : Int) ||| BitVec.ofInt 32 (b : Int)).toNat = a ||| b := by
    rw [BitVec.toNat_or, BitVec.ofInt_natCast, BitVec.ofInt_natCast, BitVec.toNat_ofNat, BitVec.toNat_ofNat, Nat.mod_eq_of_lt (show a < 2 ^ 32 by omega), Nat.mod_eq_of_lt (show b < 2 ^ 32 by omega)]
  have : a ||| b < 2 ^ 32 := Nat.or_lt_two_pow (by omega) (by omega)
  rw [e, IntKind.wrap_u32]; omega
theorem u32_andNot {a b : Nat} (ha : a < 4294967296) (hb : b < 4294967296) : bits .andNot .u32 (a : Int) (b : Int) = ((a &&& (4294967295 - b) : Nat) : Int) := by
  show IntKind.u32.wrap ((BitVec.ofInt 32 (a : Int) &&& ~~~ BitVec.ofInt 32 (b : Int)).toNat : Int) = _
  have e : (BitVec.ofInt 32 (a : Int) &&& ~~~ BitVec.ofInt 32 (b : Int)).toNat = a &&& (4294967295 - b) := by
    rw [BitVec.toNat_and, BitVec.toNat_not, BitVec.ofInt_natCast, BitVec.ofInt_natCast, BitVec.toNat_ofNat, BitVec.toNat_ofNat, Nat.mod_eq_of_lt (show a < 2 ^ 32 by omega), Nat.mod_eq_of_lt (show b < 2 ^ 32 by omega)]
  have : a &&& (4294967295 - b) < 2 ^ 32 := Nat.and_lt_two_pow _ (by omega)
  rw [e, IntKind.wrap_u32]; omega
theorem i64_and_mask (p : Int) (n : Nat) (hn : n ≤ 8) : bits .and .i64 p ((2 ^ n - 1 : Nat) : Int) = p % ((2 ^ n : Nat) : Int) := by
  show IntKind.i64.wrap ((BitVec.ofInt 64 p &&& BitVec.ofInt 64 ((2 ^ n - 1 : Nat) : Int)).toNat : Int) = _
  have hp : 2 ^ n ≤ 256 := Nat.pow_le_pow_right (n := 2) (by decide) hn
  have h0 : 0 < 2 ^ n := Nat.two_pow_pos n
  have e : (BitVec.ofInt 64 p &&& BitVec.ofInt 64 ((2 ^ n - 1 : Nat) : Int)).toNat = (BitVec.ofInt 64 p).toNat % 2 ^ n := by
    rw [BitVec.toNat_and, BitVec.ofInt_natCast, BitVec.toNat_ofNat, Nat.mod_eq_of_lt (show 2 ^ n - 1 < 2 ^ 64 by omega), Nat.and_two_pow_sub_one_eq_mod]
  rw [e, BitVec.toNat_ofInt, IntKind.wrap_i64]
  have hd : ((2 ^ 64 : Nat) : Int) = ((2 ^ n : Nat) : Int) * ((2 ^ (64 - n) : Nat) : Int) := by
    rw [← Int.natCast_mul, ← Nat.pow_add, show n + (64 - n) = 64 by omega]
  have h1 : ((p % ((2 ^ 64 : Nat) : Int)).toNat : Int) = p % ((2 ^ 64 : Nat) : Int) := Int.toNat_of_nonneg (Int.emod_nonneg _ (by decide))
  have h2 : (((p % ((2 ^ 64 : Nat) : Int)).toNat % 2 ^ n : Nat) : Int) = p % ((2 ^ n : Nat) : Int) := by
    rw [Int.natCast_emod, h1, hd, Int.emod_emod_of_dvd _ (Int.dvd_mul_right _ _)]
  rw [h2]
  have := Int.emod_nonneg p (show ((2 ^ n : Nat) : Int) ≠ 0 by omega)
  have := Int.emod_lt_of_pos p (show 0 < ((2 ^ n : Nat) : Int) by omega)
  omega
theorem i64_and1 (p : Int) : bits .and .i64 p 1 = p % 2 := i64_and_mask p 1 (by decide)
theorem i64_and31 (p : Int) : bits .and .i64 p 31 = p % 32 := i64_and_mask p 5 (by decide)

end Go.Proofs.Ytnnlimjbmfpalaa
