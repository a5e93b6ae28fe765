/-
  Package prio: Real, Before; the document's bit, Real, Before: at every input.
-/
import Derived.Test.YtjgamfonpagkbaaRows
import Derived.Test.YtjgamfonpagkbaaPriA
import Derived.WalkKit
import Derived.ProofKit
import Derived.Lib.Hide
import Derived.Test.YtjgamfonpagkbaaIrqA
namespace Go.Proofs.Ytjgamfonpagkbaa
open Go.ChangeShapes Go.WideShapes Go.ChangeAt Go.RowKit
set_option linter.unusedVariables false

def realV (p : Int) : Int := ((low8 p &&& 248 : Nat) : Int)
def beforeB (p a q b : Int) : Bool := decide (p < q) || (decide (p = q) && decide (a < b))

theorem real_any (p : Int) (w : World) : Calls Try.prog 57 #[.int .i64 p] w fun e w' => e = .returned (.int .i64 (realV p)) ∧ w = w' := by
  go_enter Try.func57, Try.ntmps57
  go_wp2
  go_ret
  exact ⟨ret_int (and_low p 248 (by decide)), rfl⟩

theorem bit_any (p : Int) (k : Nat) (w : World) (hk : k ≤ 63) : Calls Try.prog 69 #[.int .i64 p, .int .i64 k] w fun e w' => e = .returned (.bool (bt p k)) ∧ w = w' := by
  go_enter Try.func69, Try.ntmps69
  go_wp2
  go_ret
  refine ⟨ret_bool ?_, rfl⟩
  have e : bits .and .i64 (p / 2 ^ k) 1 = p / 2 ^ k % 2 := by
    rw [show (1 : Int) = ((1 : Nat) : Int) from rfl, and_low _ 1 (by decide), show (1 : Nat) = 2 ^ 1 - 1 from rfl, Nat.and_two_pow_sub_one_eq_mod]
    unfold low8; omega
  rw [e]
  unfold bt
  by_cases h : p / 2 ^ k % 2 = 1 <;> simp [h]

/-- The bits from a on below n. -/
def part (f : Nat → Bool) (a n : Nat) : Nat := sumB (fun i => decide (a ≤ i) && f i) n
theorem part_at (f : Nat → Bool) (a : Nat) : part f a a = 0 := by
  unfold part
  rw [sumB_congr (g := fun _ => false) a (fun i hi => by simp; omega)]
  exact sumB_eq (x := 0) (fun i _ => by simp) (Nat.pow_pos (by decide))
theorem part_succ (f : Nat → Bool) (a n : Nat) (h : a ≤ n) : part f a (n + 1) = part f a n + if f n then 2 ^ n else 0 := by
  unfold part
  rw [sumB]
  simp [h]
theorem part_lt (f : Nat → Bool) (a n : Nat) : part f a n < 2 ^ n := sumB_lt _ _

theorem real_part (p : Int) : realV p = ((part (bt p) 3 8 : Nat) : Int) := by
  unfold realV part
  rw [sumB_eq (x := low8 p &&& 248)]
  · intro i hi
    rw [Nat.testBit_and, bt_low8 p i hi]
    have : (248 : Nat).testBit i = decide (3 ≤ i) := by
      match i, hi with
      | 0, _ => rfl
      | 1, _ => rfl
      | 2, _ => rfl
      | 3, _ => rfl
      | 4, _ => rfl
      | 5, _ => rfl
      | 6, _ => rfl
      | 7, _ => rfl
      | i + 8, hi => omega
    rw [this, Bool.and_comm]
  · exact Nat.and_lt_two_pow (n := 8) _ (by decide)

theorem pow63 {k : Nat} (h : k ≤ 7) : (2 : Nat) ^ k ≤ 128 := Nat.pow_le_pow_right (n := 2) (by decide) h
theorem pow_i {k : Nat} (h : k ≤ 7) : (0 : Int) ≤ 2 ^ k ∧ (2 : Int) ^ k ≤ 128 := by
  have hk : k = 0 ∨ k = 1 ∨ k = 2 ∨ k = 3 ∨ k = 4 ∨ k = 5 ∨ k = 6 ∨ k = 7 := by omega
  rcases hk with rfl | rfl | rfl | rfl | rfl | rfl | rfl | rfl <;> decide
theorem part_int {f : Nat → Bool} {a n : Nat} (hs : part f a (n + 1) = part f a n + if f n then 2 ^ n else 0) (h : f n = true) : Value.int .i64 (((part f a n : Nat) : Int) + 2 ^ n) = .int .i64 ((part f a (n + 1) : Nat) : Int) := by
  rw [hs, h]; simp
theorem part_int0 {f : Nat → Bool} {a n : Nat} (hs : part f a (n + 1) = part f a n + if f n then 2 ^ n else 0) (h : f n = false) : Value.int .i64 ((part f a n : Nat) : Int) = .int .i64 ((part f a (n + 1) : Nat) : Int) := by
  rw [hs, h]; simp

set_option maxHeartbeats 1000000 in
theorem refReal_any (p : Int) (w : World) : Calls Try.prog 62 #[.int .i64 p] w fun e w' => e = .returned (.int .i64 (realV p)) ∧ w = w' := by
  have hr := Lib.hid (real_part p)
  go_enter Try.func62, Try.ntmps62
  go_wp2
  go_loop [3, 4] (fun n i => ∃ k : Nat, 3 ≤ k ∧ k ≤ 8 ∧ i = .int .i64 k ∧ n = .int .i64 ((part (bt p) 3 k : Nat) : Int)) (fun _ i => 8 - (intOf i).toNat)
  case atStart => exact ⟨3, by omega, by omega, rfl, by rw [part_at]; rfl⟩
  case round =>
    obtain ⟨k, h3, h8, rfl, rfl⟩ := hrel
    by_cases hlt : k ≤ 7
    · have hs := Lib.hid (part_succ (bt p) 3 k h3)
      have hl : part (bt p) 3 k < 256 := Nat.lt_of_lt_of_le (part_lt _ _ _) (Nat.le_trans (Nat.pow_le_pow_right (n := 2) (by decide) hlt) (by decide))
      obtain ⟨hp0, hp1⟩ := pow_i hlt
      cases hb : bt p k
      · have HB := Lib.hid hb
        clear hb
        go_wp2_with (go_at_call 69; ((with_reducible refine (bit_any p k _ (by omega)).mono ?_); rintro e w1 ⟨rfl, rfl⟩; rw [HB.out]))
        go_round
        case rel => exact ⟨k + 1, by omega, by omega, by go_num, part_int0 hs.out HB.out⟩
        case measure => simp [intOf]; omega
      · have HB := Lib.hid hb
        clear hb
        go_wp2_with (go_at_call 69; ((with_reducible refine (bit_any p k _ (by omega)).mono ?_); rintro e w1 ⟨rfl, rfl⟩; rw [HB.out]))
        go_round
        case rel => exact ⟨k + 1, by omega, by omega, by go_num, part_int hs.out HB.out⟩
        case measure => simp [intOf]; omega
    · have : k = 8 := by omega
      subst this
      go_wp2
      go_ret
      exact ⟨ret_int hr.out.symm, rfl⟩

end Go.Proofs.Ytjgamfonpagkbaa
