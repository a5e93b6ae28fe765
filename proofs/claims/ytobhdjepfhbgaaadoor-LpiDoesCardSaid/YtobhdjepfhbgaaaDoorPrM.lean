/-
  Plain reckoning: bits of numbers, as the model's '&', '&^' and shifts make them, bit by bit. Nothing of the program.
  Package prio: the contracts of Real, Level, Sub, Passes, Preempts, Before, Mask at every input; the document's bit, Before.
  The document's Real, Sub and Mask, bit by bit: the same numbers as the package's.
-/
import Derived.Laws.BitsLemmas
import Derived.Laws.Entries
import Derived.Test.YtobhdjepfhbgaaaDoorRows
import Derived.WalkKit
import Derived.ProofKit
import Derived.Lib.Hide
namespace Go.Proofs.YtobhdjepfhbgaaaDoor
set_option linter.unusedVariables false

/-- The number whose bits below n are f's. -/
def sumB (f : Nat → Bool) : Nat → Nat
  | 0 => 0
  | n + 1 => sumB f n + if f n then 2 ^ n else 0
theorem sumB_lt (f : Nat → Bool) : ∀ n, sumB f n < 2 ^ n
  | 0 => by simp [sumB]
  | n + 1 => by
    have := sumB_lt f n
    rw [sumB, Nat.pow_succ]
    split <;> omega
theorem sumB_bit (f : Nat → Bool) : ∀ n i, (sumB f n).testBit i = (decide (i < n) && f i)
  | 0, i => by simp [sumB]
  | n + 1, i => by
    have hl := sumB_lt f n
    have ih := sumB_bit f n i
    rw [sumB]
    by_cases hf : f n
    · rw [if_pos hf, Nat.add_comm]
      by_cases hi : i = n
      · subst hi
        rw [Nat.testBit_two_pow_add_eq, ih]; simp [hf]
      · by_cases hlt : i < n
        · rw [Nat.testBit_two_pow_add_gt hlt, ih]
          simp [hlt, Nat.lt_succ_of_lt hlt]
        · rw [Nat.testBit_lt_two_pow]
          · simp; omega
          · have : 2 ^ (n + 1) ≤ 2 ^ i := Nat.pow_le_pow_right (by decide) (by omega)
            rw [Nat.pow_succ] at this; omega
    · rw [if_neg hf, Nat.add_zero, ih]
      by_cases hi : i = n
      · subst hi; simp [hf]
      · have : i < n + 1 ↔ i < n := by omega
        simp [this]
theorem sumB_eq {x n : Nat} {f : Nat → Bool} (h : ∀ i, i < n → x.testBit i = f i) (hx : x < 2 ^ n) : sumB f n = x := by
  apply Nat.eq_of_testBit_eq
  intro i
  rw [sumB_bit]
  by_cases hi : i < n
  · simp [hi, h i hi]
  · have : x < 2 ^ i := Nat.lt_of_lt_of_le hx (Nat.pow_le_pow_right (by decide) (by omega))
    simp [hi, Nat.testBit_lt_two_pow this]
theorem sumB_congr {f g : Nat → Bool} : ∀ n, (∀ i, i < n → f i = g i) → sumB f n = sumB g n
  | 0, _ => rfl
  | n + 1, h => by rw [sumB, sumB, sumB_congr n (fun i hi => h i (by omega)), h n (by omega)]

/-- A number's bit. -/
def bt (p : Int) (k : Nat) : Bool := decide (p / 2 ^ k % 2 = 1)
/-- Its lowest eight bits. -/
def low8 (p : Int) : Nat := (p % 256).toNat
theorem low8_lt (p : Int) : low8 p < 256 := by unfold low8; omega

theorem bt_low8 (p : Int) (i : Nat) (hi : i < 8) : (low8 p).testBit i = bt p i := by
  have hp : (2 : Int) ^ i * 2 ^ (8 - i) = 256 := by
    rw [← Int.pow_add, show i + (8 - i) = 8 by omega]; rfl
  have hq : (2 : Int) ^ (8 - i) = 2 * 2 ^ (7 - i) := by
    rw [show 8 - i = (7 - i) + 1 by omega, Int.pow_succ]; omega
  have hpos : (0 : Int) < 2 ^ i := Int.pow_pos (by decide)
  rw [Nat.testBit_eq_decide_div_mod_eq, bt]
  have e : ((low8 p / 2 ^ i % 2 : Nat) : Int) = p / 2 ^ i % 2 := by
    have e1 : ((low8 p : Nat) : Int) = p % 256 := by unfold low8; omega
    rw [Int.natCast_emod, Int.natCast_ediv, e1, Int.natCast_pow]
    simp only [Int.cast_ofNat_Int]
    have e2 : p = p % 256 + 2 ^ i * (2 ^ (8 - i) * (p / 256)) := by rw [← Int.mul_assoc, hp]; omega
    conv => rhs; rw [e2, Int.add_mul_ediv_left _ _ (by omega), hq, Int.mul_assoc, Int.add_mul_emod_self_left]
  by_cases h : low8 p / 2 ^ i % 2 = 1
  · have : p / 2 ^ i % 2 = 1 := by rw [← e, h]; rfl
    simp [h, this]
  · have : ¬ p / 2 ^ i % 2 = 1 := by rw [← e]; omega
    simp [h, this]

theorem ofInt_low (p : Int) : (BitVec.ofInt 64 p).toNat % 256 = low8 p := by
  rw [BitVec.toNat_ofInt]; unfold low8; omega

/-- '&' with a number of eight bits. -/
theorem land_low {x m : Nat} (hm : m < 256) : x &&& m = x % 256 &&& m := by
  apply Nat.eq_of_testBit_eq
  intro i
  rw [Nat.testBit_and, Nat.testBit_and, show (256 : Nat) = 2 ^ 8 from rfl, Nat.testBit_mod_two_pow]
  by_cases hi : i < 8
  · simp [hi]
  · have : m < 2 ^ i := Nat.lt_of_lt_of_le hm (show 2 ^ 8 ≤ 2 ^ i from Nat.pow_le_pow_right (by decide) (by omega))
    simp [Nat.testBit_lt_two_pow this]
theorem and_low (p : Int) (m : Nat) (hm : m < 256) : bits .and .i64 p (m : Int) = ((low8 p &&& m : Nat) : Int) := by
  show IntKind.i64.wrap ((BitVec.ofInt 64 p &&& BitVec.ofInt 64 (m : Int)).toNat : Int) = _
  have e : (BitVec.ofInt 64 p &&& BitVec.ofInt 64 (m : Int)).toNat = low8 p &&& m := by
    rw [BitVec.toNat_and, BitVec.ofInt_natCast, BitVec.toNat_ofNat, Nat.mod_eq_of_lt (show m < 2 ^ 64 by omega), ← ofInt_low p, land_low hm]
  have : low8 p &&& m < 256 := Nat.and_lt_two_pow (n := 8) _ (by omega)
  rw [e, IntKind.wrap_i64]
  omega
theorem and_low_left (m : Nat) (hm : m < 256) (p : Int) : bits .and .i64 (m : Int) p = ((low8 p &&& m : Nat) : Int) := by
  rw [← and_low p m hm]
  show IntKind.i64.wrap ((BitVec.ofInt 64 (m : Int) &&& BitVec.ofInt 64 p).toNat : Int) = IntKind.i64.wrap ((BitVec.ofInt 64 p &&& BitVec.ofInt 64 (m : Int)).toNat : Int)
  rw [BitVec.and_comm]
theorem low8_wrap (n : Int) : low8 (IntKind.i64.wrap n) = low8 n := by
  rw [IntKind.wrap_i64]; unfold low8; omega
/-- '&^', as far as the lowest eight bits go. -/
theorem andNot_low (p q : Int) : low8 (bits .andNot .i64 p q) = low8 p &&& (255 - low8 q) := by
  show low8 (IntKind.i64.wrap ((BitVec.ofInt 64 p &&& ~~~ BitVec.ofInt 64 q).toNat : Int)) = _
  have hq : ((~~~ BitVec.ofInt 64 q).toNat) % 256 = 255 - low8 q := by
    rw [BitVec.toNat_not, ← ofInt_low q]
    have := (BitVec.ofInt 64 q).isLt
    omega
  rw [low8_wrap, BitVec.toNat_and]
  have e : low8 (((BitVec.ofInt 64 p).toNat &&& (~~~ BitVec.ofInt 64 q).toNat : Nat) : Int) = ((BitVec.ofInt 64 p).toNat &&& (~~~ BitVec.ofInt 64 q).toNat) % 256 := by unfold low8; omega
  rw [e, show (256 : Nat) = 2 ^ 8 from rfl, Nat.and_mod_two_pow, show (2 : Nat) ^ 8 = 256 from rfl, hq, ofInt_low]
theorem low8_nat (m : Nat) (hm : m < 256) : low8 (m : Int) = m := by unfold low8; omega
theorem low8_small (p : Int) (h : 0 ≤ p) (h2 : p < 256) : ((low8 p : Nat) : Int) = p := by unfold low8; omega

end Go.Proofs.YtobhdjepfhbgaaaDoor

namespace Go.Proofs.YtobhdjepfhbgaaaDoor
open Go.ChangeShapes Go.WideShapes Go.ChangeAt Go.RowKit
set_option linter.unusedVariables false

theorem ret_int {k : IntKind} {a b : Int} (h : a = b) : Ending.returned (.int k a) = .returned (.int k b) := by rw [h]
theorem ret_bool {a b : Bool} (h : a = b) : Ending.returned (.bool a) = .returned (.bool b) := by rw [h]

def realV (p : Int) : Int := ((low8 p &&& 248 : Nat) : Int)
def beforeB (p a q b : Int) : Bool := decide (p < q) || (decide (p = q) && decide (a < b))

theorem real_any (p : Int) (w : World) : Calls Tryd.prog 69 #[.int .i64 p] w fun e w' => e = .returned (.int .i64 (realV p)) ∧ w = w' := by
  go_enter Tryd.func69, Tryd.ntmps69
  go_wp2
  go_ret
  exact ⟨ret_int (and_low p 248 (by decide)), rfl⟩

theorem before_any (p a q b : Int) (w : World) : Calls Tryd.prog 67 #[.int .i64 p, .int .i64 a, .int .i64 q, .int .i64 b] w fun e w' => e = .returned (.bool (beforeB p a q b)) ∧ w = w' := by
  go_enter Tryd.func67, Tryd.ntmps67
  go_wp2
  all_goals
    go_ret
    refine ⟨ret_bool ?_, rfl⟩
    unfold beforeB
    simp [*]

theorem refBefore_any (p a q b : Int) (w : World) : Calls Tryd.prog 74 #[.int .i64 p, .int .i64 a, .int .i64 q, .int .i64 b] w fun e w' => e = .returned (.bool (beforeB p a q b)) ∧ w = w' := by
  by_cases h : p = q
  · have hb : beforeB p a q b = decide (a < b) := by simp [beforeB, h]
    have hq : (p != q) = false := by simp [h]
    rw [hb]
    clear hb h
    go_enter Tryd.func74, Tryd.ntmps74
    go_wp2
    go_ret
    exact ⟨rfl, rfl⟩
  · have hb : beforeB p a q b = decide (p < q) := by simp [beforeB, h]
    have hq : (p != q) = true := by simp [h]
    rw [hb]
    clear hb h
    go_enter Tryd.func74, Tryd.ntmps74
    go_wp2
    go_ret
    exact ⟨rfl, rfl⟩

theorem bit_any (p : Int) (k : Nat) (w : World) (hk : k ≤ 63) : Calls Tryd.prog 89 #[.int .i64 p, .int .i64 k] w fun e w' => e = .returned (.bool (bt p k)) ∧ w = w' := by
  go_enter Tryd.func89, Tryd.ntmps89
  go_wp2
  go_ret
  refine ⟨ret_bool ?_, rfl⟩
  have e : bits .and .i64 (p / 2 ^ k) 1 = p / 2 ^ k % 2 := by
    rw [show (1 : Int) = ((1 : Nat) : Int) from rfl, and_low _ 1 (by decide), show (1 : Nat) = 2 ^ 1 - 1 from rfl, Nat.and_two_pow_sub_one_eq_mod]
    unfold low8; omega
  rw [e]
  unfold bt
  by_cases h : p / 2 ^ k % 2 = 1 <;> simp [h]

theorem and7 (p : Int) : bits .and .i64 p 7 = p % 8 := by
  rw [show (7 : Int) = ((7 : Nat) : Int) from rfl, and_low p 7 (by decide), show (7 : Nat) = 2 ^ 3 - 1 from rfl, Nat.and_two_pow_sub_one_eq_mod]
  unfold low8; omega

end Go.Proofs.YtobhdjepfhbgaaaDoor

namespace Go.Proofs.YtobhdjepfhbgaaaDoor
open Go.ChangeShapes Go.WideShapes Go.ChangeAt Go.RowKit
set_option linter.unusedVariables false

/-- The bits from a on below n. -/
def part (f : Nat → Bool) (a n : Nat) : Nat := sumB (fun i => decide (a ≤ i) && f i) n
theorem part_at (f : Nat → Bool) (a : Nat) : part f a a = 0 := by
  unfold part
  rw [sumB_congr (g := fun _ => false) a (fun i hi => by simp; omega)]
  exact sumB_eq (x := 0) (fun i _ => by simp) (Nat.pow_pos (by decide))
theorem part_succ (f : Nat → Bool) (a n : Nat) (h : a ≤ n) : part f a (n + 1) = part f a n + if f n then 2 ^ n else 0 := by
  unfold part
  rw [sumB]
  simp [h]
theorem part_lt (f : Nat → Bool) (a n : Nat) : part f a n < 2 ^ n := sumB_lt _ _

theorem real_part (p : Int) : realV p = ((part (bt p) 3 8 : Nat) : Int) := by
  unfold realV part
  rw [sumB_eq (x := low8 p &&& 248)]
  · intro i hi
    rw [Nat.testBit_and, bt_low8 p i hi]
    have : (248 : Nat).testBit i = decide (3 ≤ i) := by
      match i, hi with
      | 0, _ => rfl
      | 1, _ => rfl
      | 2, _ => rfl
      | 3, _ => rfl
      | 4, _ => rfl
      | 5, _ => rfl
      | 6, _ => rfl
      | 7, _ => rfl
      | i + 8, hi => omega
    rw [this, Bool.and_comm]
  · exact Nat.and_lt_two_pow (n := 8) _ (by decide)

theorem pow63 {k : Nat} (h : k ≤ 7) : (2 : Nat) ^ k ≤ 128 := Nat.pow_le_pow_right (n := 2) (by decide) h
theorem pow_i {k : Nat} (h : k ≤ 7) : (0 : Int) ≤ 2 ^ k ∧ (2 : Int) ^ k ≤ 128 := by
  have hk : k = 0 ∨ k = 1 ∨ k = 2 ∨ k = 3 ∨ k = 4 ∨ k = 5 ∨ k = 6 ∨ k = 7 := by omega
  rcases hk with rfl | rfl | rfl | rfl | rfl | rfl | rfl | rfl <;> decide
theorem part_int {f : Nat → Bool} {a n : Nat} (hs : part f a (n + 1) = part f a n + if f n then 2 ^ n else 0) (h : f n = true) : Value.int .i64 (((part f a n : Nat) : Int) + 2 ^ n) = .int .i64 ((part f a (n + 1) : Nat) : Int) := by
  rw [hs, h]; simp
theorem part_int0 {f : Nat → Bool} {a n : Nat} (hs : part f a (n + 1) = part f a n + if f n then 2 ^ n else 0) (h : f n = false) : Value.int .i64 ((part f a n : Nat) : Int) = .int .i64 ((part f a (n + 1) : Nat) : Int) := by
  rw [hs, h]; simp

set_option maxHeartbeats 1000000 in
theorem refReal_any (p : Int) (w : World) : Calls Tryd.prog 75 #[.int .i64 p] w fun e w' => e = .returned (.int .i64 (realV p)) ∧ w = w' := by
  have hr := Lib.hid (real_part p)
  go_enter Tryd.func75, Tryd.ntmps75
  go_wp2
  go_loop [3, 4] (fun n i => ∃ k : Nat, 3 ≤ k ∧ k ≤ 8 ∧ i = .int .i64 k ∧ n = .int .i64 ((part (bt p) 3 k : Nat) : Int)) (fun _ i => 8 - (intOf i).toNat)
  case atStart => exact ⟨3, by omega, by omega, rfl, by rw [part_at]; rfl⟩
  case round =>
    obtain ⟨k, h3, h8, rfl, rfl⟩ := hrel
    by_cases hlt : k ≤ 7
    · have hs := Lib.hid (part_succ (bt p) 3 k h3)
      have hl : part (bt p) 3 k < 256 := Nat.lt_of_lt_of_le (part_lt _ _ _) (Nat.le_trans (Nat.pow_le_pow_right (n := 2) (by decide) hlt) (by decide))
      obtain ⟨hp0, hp1⟩ := pow_i hlt
      cases hb : bt p k
      · have HB := Lib.hid hb
        clear hb
        go_wp2_with (go_at_call 89; ((with_reducible refine (bit_any p k _ (by omega)).mono ?_); rintro e w1 ⟨rfl, rfl⟩; rw [HB.out]))
        go_round
        case rel => exact ⟨k + 1, by omega, by omega, by go_num, part_int0 hs.out HB.out⟩
        case measure => simp [intOf]; omega
      · have HB := Lib.hid hb
        clear hb
        go_wp2_with (go_at_call 89; ((with_reducible refine (bit_any p k _ (by omega)).mono ?_); rintro e w1 ⟨rfl, rfl⟩; rw [HB.out]))
        go_round
        case rel => exact ⟨k + 1, by omega, by omega, by go_num, part_int hs.out HB.out⟩
        case measure => simp [intOf]; omega
    · have : k = 8 := by omega
      subst this
      go_wp2
      go_ret
      exact ⟨ret_int hr.out.symm, rfl⟩

end Go.Proofs.YtobhdjepfhbgaaaDoor
