/-
  Layer 12, plain: calls, their numbers, bits, the processors that are called. Nothing of the program.
-/
import Derived.Test.YtkfnelhafflimaaPriA
import Derived.Laws.BitsAllLaws
namespace Go.Proofs.Ytkfnelhafflimaa
set_option linter.unusedVariables false

/-! ### Bits -/
theorem bt_nat (n k : Nat) : bt (n : Int) k = n.testBit k := by
  rw [bt, Nat.testBit_eq_decide_div_mod_eq]
  have e : ((n : Int) / 2 ^ k % 2) = ((n / 2 ^ k % 2 : Nat) : Int) := by
    rw [Int.natCast_emod, Int.natCast_ediv, Int.natCast_pow]; rfl
  rw [e]
  congr 1
  apply propext
  omega
theorem or_low (p q : Int) : low8 (bits .or .i64 p q) = low8 p ||| low8 q := by
  show low8 (IntKind.i64.wrap ((BitVec.ofInt 64 p ||| BitVec.ofInt 64 q).toNat : Int)) = _
  rw [low8_wrap, BitVec.toNat_or]
  have e : low8 (((BitVec.ofInt 64 p).toNat ||| (BitVec.ofInt 64 q).toNat : Nat) : Int) = ((BitVec.ofInt 64 p).toNat ||| (BitVec.ofInt 64 q).toNat) % 256 := by unfold low8; omega
  rw [e, show (256 : Nat) = 2 ^ 8 from rfl, Nat.or_mod_two_pow, show (2 : Nat) ^ 8 = 256 from rfl, ofInt_low, ofInt_low]
theorem bt_or (p q : Int) (k : Nat) (hk : k < 8) : bt (bits .or .i64 p q) k = (bt p k || bt q k) := by
  rw [← bt_low8 _ _ hk, or_low, Nat.testBit_or, bt_low8 _ _ hk, bt_low8 _ _ hk]
theorem i64_and1 (p : Int) : bits .and .i64 p 1 = p % 2 := by
  rw [show (1 : Int) = ((1 : Nat) : Int) from rfl, and_low p 1 (by decide), Nat.and_one_is_mod]
  unfold low8
  omega
theorem i64_or_nat {a b : Nat} (ha : a < 256) (hb : b < 256) : bits .or .i64 (a : Int) (b : Int) = ((a ||| b : Nat) : Int) := by
  show IntKind.i64.wrap ((BitVec.ofInt 64 (a : Int) ||| BitVec.ofInt 64 (b : Int)).toNat : Int) = _
  have e : (BitVec.ofInt 64 (a : Int) ||| BitVec.ofInt 64 (b : Int)).toNat = a ||| b := by
    rw [BitVec.toNat_or, BitVec.ofInt_natCast, BitVec.ofInt_natCast, BitVec.toNat_ofNat, BitVec.toNat_ofNat, Nat.mod_eq_of_lt (show a < 2 ^ 64 by omega), Nat.mod_eq_of_lt (show b < 2 ^ 64 by omega)]
  have : a ||| b < 2 ^ 8 := Nat.or_lt_two_pow (by omega) (by omega)
  rw [e, IntKind.wrap_i64]; omega
theorem and_split (a M k c : Nat) (hc : c < 2 ^ k) : a &&& (M * 2 ^ k + c) = ((a / 2 ^ k) &&& M) * 2 ^ k + (a % 2 ^ k &&& c) := by
  have hp : 0 < 2 ^ k := Nat.two_pow_pos k
  have h1 : (a &&& (M * 2 ^ k + c)) / 2 ^ k = (a / 2 ^ k) &&& M := by
    have := @Nat.shiftRight_and_distrib k a (M * 2 ^ k + c)
    simp only [Nat.shiftRight_eq_div_pow] at this
    rw [this]
    congr 1
    rw [Nat.mul_comm, Nat.mul_add_div hp, Nat.div_eq_of_lt hc, Nat.add_zero]
  have h2 : (a &&& (M * 2 ^ k + c)) % 2 ^ k = (a % 2 ^ k &&& c) := by
    rw [Nat.and_mod_two_pow]
    congr 1
    rw [Nat.mul_comm, Nat.mul_add_mod, Nat.mod_eq_of_lt hc]
  rw [← h1, ← h2, Nat.mul_comm _ (2 ^ k), Nat.mul_comm _ (2 ^ k), Nat.div_add_mod]

/-! ### Calls -/
structure Cl where
  id : Int
  all : Bool
  tg : Int
  odd : Bool
deriving DecidableEq
abbrev Cl.v (c : Cl) : Value := .agg #[.int .i64 c.id, .bool c.all, .int .i64 c.tg, .bool c.odd]
abbrev Cl.cs (c : Cl) : Array Value := #[.int .i64 c.id, .bool c.all, .int .i64 c.tg, .bool c.odd]
def Cl.zero : Cl := ⟨0, false, 0, false⟩

/-- Whether a call by fr goes to processor k. -/
def callV (c : Cl) (fr : Int) (k : Nat) : Bool := if c.all then decide ((k : Int) ≠ fr) else (!c.odd && bt c.tg k)
/-- How many processors there are. -/
def capN (cores : Int) : Nat := (min cores 8).toNat
theorem capN_le (cores : Int) : capN cores ≤ 8 := by unfold capN; omega
theorem capN_8 : capN 8 = 8 := by decide

/-- The numbers below n of which f holds. -/
def upto (f : Nat → Bool) : Nat → List Nat
  | 0 => []
  | n + 1 => if f n then upto f n ++ [n] else upto f n
theorem upto_pos {f : Nat → Bool} {n : Nat} (h : f n = true) : upto f (n + 1) = upto f n ++ [n] := by rw [upto, if_pos h]
theorem upto_neg {f : Nat → Bool} {n : Nat} (h : f n = false) : upto f (n + 1) = upto f n := by rw [upto, if_neg (by simp [h])]
theorem upto_pre (f : Nat → Bool) : ∀ (n k : Nat), k ≤ n → upto f k <+: upto f n
  | 0, k, h => by obtain rfl : k = 0 := by omega
                  exact List.prefix_rfl
  | n + 1, k, h => by
    by_cases e : k = n + 1
    · rw [e]; exact List.prefix_rfl
    · have ih := upto_pre f n k (by omega)
      rw [upto]
      split
      · exact ih.trans (List.prefix_append _ _)
      · exact ih
theorem upto_len (f : Nat → Bool) : ∀ n : Nat, (upto f n).length ≤ n
  | 0 => by simp [upto]
  | n + 1 => by
    have := upto_len f n
    rw [upto]
    split
    · simp; omega
    · omega
theorem mem_upto (f : Nat → Bool) (i : Nat) : ∀ n : Nat, i ∈ upto f n ↔ i < n ∧ f i = true
  | 0 => by simp [upto]
  | n + 1 => by
    have ih := mem_upto f i n
    rw [upto]
    split
    · rename_i h
      rw [List.mem_append, ih, List.mem_singleton]
      constructor
      · rintro (⟨a, b⟩ | rfl)
        · exact ⟨by omega, b⟩
        · exact ⟨by omega, h⟩
      · rintro ⟨a, b⟩
        by_cases e : i = n
        · exact .inr e
        · exact .inl ⟨by omega, b⟩
    · rename_i h
      rw [ih]
      constructor
      · rintro ⟨a, b⟩; exact ⟨by omega, b⟩
      · rintro ⟨a, b⟩
        refine ⟨?_, b⟩
        by_cases e : i = n
        · subst e; exact absurd b h
        · omega
theorem upto_none {f : Nat → Bool} : ∀ {n : Nat}, (∀ i, i < n → f i = false) → upto f n = []
  | 0, _ => rfl
  | n + 1, h => by rw [upto_neg (h n (by omega)), upto_none (fun i hi => h i (by omega))]
theorem upto_mono {f g : Nat → Bool} : ∀ {n : Nat}, (∀ i, i < n → f i = true → g i = true) → (upto f n).length ≤ (upto g n).length
  | 0, _ => Nat.le_refl _
  | n + 1, h => by
    have ih := upto_mono (n := n) (fun i hi => h i (by omega))
    rw [upto, upto]
    by_cases hf : f n = true
    · rw [if_pos hf, if_pos (h n (by omega) hf)]; simp; exact ih
    · rw [if_neg hf]
      split
      · simp; omega
      · exact ih
theorem upto_congr {f g : Nat → Bool} : ∀ {n : Nat}, (∀ i, i < n → f i = g i) → upto f n = upto g n
  | 0, _ => rfl
  | n + 1, h => by rw [upto, upto, h n (by omega), upto_congr (fun i hi => h i (by omega))]
theorem upto_le {f : Nat → Bool} {m n : Nat} (h : m ≤ n) : (upto f m).length ≤ (upto f n).length := (upto_pre f n m h).length_le
theorem upto_but (a : Int) : ∀ n : Nat, (upto (fun k => decide ((k : Int) ≠ a)) n).length = if 0 ≤ a ∧ a < n then n - 1 else n
  | 0 => by simp [upto]
  | n + 1 => by
    have ih := upto_but a n
    by_cases h : (n : Int) = a
    · rw [upto_neg (by simp [h]), ih, if_neg (by omega), if_pos (by omega)]; omega
    · rw [upto_pos (by simp [h]), List.length_append, ih]
      by_cases h2 : 0 ≤ a ∧ a < (n : Int)
      · rw [if_pos h2, if_pos (by omega)]; simp; omega
      · rw [if_neg h2, if_neg (by omega)]; simp
/-- They rise. -/
theorem upto_at (f : Nat → Bool) : ∀ (n i : Nat) (h : i < (upto f n).length), (upto f n)[i] < n ∧ f (upto f n)[i] = true
  | n, i, h => (mem_upto f _ n).1 (List.getElem_mem h)
theorem upto_rise (f : Nat → Bool) : ∀ (n i j : Nat) (hij : i < j) (hj : j < (upto f n).length), (upto f n)[i]'(by omega) < (upto f n)[j]
  | 0, i, j, hij, hj => by simp [upto] at hj
  | n + 1, i, j, hij, hj => by
    by_cases hf : f n = true
    · simp only [upto_pos hf] at hj ⊢
      simp at hj
      by_cases e : j = (upto f n).length
      · subst e
        rw [List.getElem_append_left (by omega), List.getElem_append_right (by omega)]
        simpa using (upto_at f n i (by omega)).1
      · rw [List.getElem_append_left (by omega), List.getElem_append_left (by omega)]
        exact upto_rise f n i j hij (by omega)
    · have hf' : f n = false := by simpa using hf
      simp only [upto_neg hf'] at hj ⊢
      exact upto_rise f n i j hij hj

def toL (c : Cl) (fr cores : Int) : List Nat := upto (callV c fr) (capN cores)
theorem toL_len (c : Cl) (fr cores : Int) : (toL c fr cores).length ≤ 8 := Nat.le_trans (upto_len _ _) (capN_le _)
def nums (xs : List Nat) : List Int := xs.map fun (i : Nat) => (i : Int)
theorem nums_append (a b : List Nat) : nums (a ++ b) = nums a ++ nums b := by simp [nums]
theorem nums_one (i : Nat) : nums [i] = [(i : Int)] := rfl
theorem nums_len (a : List Nat) : (nums a).length = a.length := by simp [nums]
theorem nums_at {xs : List Nat} {i : Nat} (h : i < xs.length) : (nums xs)[i]?.getD 0 = (xs[i] : Int) := by simp [nums, h]

/-! ### Numbers of calls -/
def decV (v : Nat) : Cl := ⟨((v / 2 ^ 24 % 16 : Nat) : Int), decide (v / 2 ^ 40 % 2 = 1), ((v % 65536 : Nat) : Int), decide (v &&& 72041097085255680 ≠ 0)⟩
def oddV (v : Nat) : Bool := decide (v / 2 ^ 16 % 2 ^ 8 ≠ 0) || decide (v / 2 ^ 32 % 2 ^ 8 ≠ 0) || decide (v / 2 ^ 44 % 2 ^ 4 ≠ 0) || decide (v / 2 ^ 48 % 2 ^ 8 ≠ 0)
theorem odd_mask (v : Nat) : v &&& 72041097085255680 = (v / 2 ^ 48 % 256 * 2 ^ 4 + v / 2 ^ 44 % 16) * 2 ^ 44 + v / 2 ^ 32 % 256 * 2 ^ 32 + v / 2 ^ 16 % 256 * 2 ^ 16 := by
  rw [show (72041097085255680 : Nat) = 16773375 * 2 ^ 32 + 16711680 from rfl, and_split _ _ _ _ (by decide)]
  rw [show (16773375 : Nat) = 65520 * 2 ^ 8 + 255 from rfl, and_split _ _ _ _ (by decide)]
  rw [show (65520 : Nat) = 4095 * 2 ^ 4 + 0 from rfl, and_split _ _ _ _ (by decide)]
  rw [show (16711680 : Nat) = 255 * 2 ^ 16 + 0 from rfl, and_split _ _ _ _ (by decide)]
  simp only [Nat.and_zero, nat_mask12, nat_mask8]
  omega
theorem odd_eq (v : Nat) : decide (v &&& 72041097085255680 ≠ 0) = oddV v := by
  rw [odd_mask, oddV]
  rw [← Bool.decide_or, ← Bool.decide_or, ← Bool.decide_or]
  congr 1
  apply propext
  omega

end Go.Proofs.Ytkfnelhafflimaa
