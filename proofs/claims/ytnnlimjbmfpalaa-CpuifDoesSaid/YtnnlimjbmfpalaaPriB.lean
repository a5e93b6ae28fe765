/-
  Package prio: the contracts of Real, Level, Sub, Passes, Preempts, Before, Mask at every input; the document's bit, Before.
-/
import Derived.Test.YtnnlimjbmfpalaaRows
import Derived.Test.YtnnlimjbmfpalaaPriA
import Derived.WalkKit
import Derived.ProofKit
import Derived.Lib.Hide
namespace Go.Proofs.Ytnnlimjbmfpalaa
open Go.ChangeShapes Go.WideShapes Go.ChangeAt Go.RowKit
set_option linter.unusedVariables false

theorem ret_int {k : IntKind} {a b : Int} (h : a = b) : Ending.returned (.int k a) = .returned (.int k b) := by rw [h]
theorem ret_bool {a b : Bool} (h : a = b) : Ending.returned (.bool a) = .returned (.bool b) := by rw [h]

def realV (p : Int) : Int := ((low8 p &&& 248 : Nat) : Int)
def subV (p m : Int) : Int := ((low8 p &&& (255 - low8 m) : Nat) : Int)
def fromV (g p : Int) : Nat := if g = 0 then (p % 8).toNat + 1 else max (p % 8).toNat 1
def maskN (f : Nat) : Nat := 256 - 2 ^ f
def maskV (g p : Int) : Int := ((maskN (fromV g p) : Nat) : Int)
def beforeB (p a q b : Int) : Bool := decide (p < q) || (decide (p = q) && decide (a < b))

theorem real_any (p : Int) (w : World) : Calls Try.prog 50 #[.int .i64 p] w fun e w' => e = .returned (.int .i64 (realV p)) ∧ w = w' := by
  go_enter Try.func50, Try.ntmps50
  go_wp2
  go_ret
  exact ⟨ret_int (and_low p 248 (by decide)), rfl⟩

theorem level_any (p m : Int) (w : World) : Calls Try.prog 47 #[.int .i64 p, .int .i64 m] w fun e w' => e = .returned (.int .i64 (bits .and .i64 p m)) ∧ w = w' := by
  go_enter Try.func47, Try.ntmps47
  go_wp2
  go_ret
  exact ⟨rfl, rfl⟩

theorem passes_any (p m : Int) (w : World) : Calls Try.prog 40 #[.int .i64 p, .int .i64 m] w fun e w' => e = .returned (.bool (decide (p < m))) ∧ w = w' := by
  go_enter Try.func40, Try.ntmps40
  go_wp2
  go_ret
  exact ⟨rfl, rfl⟩

theorem preempts_any (p r m : Int) (w : World) : Calls Try.prog 41 #[.int .i64 p, .int .i64 r, .int .i64 m] w fun e w' => e = .returned (.bool (decide (bits .and .i64 p m < r))) ∧ w = w' := by
  go_enter Try.func41, Try.ntmps41
  go_wp2_with (go_at_call 47; ((with_reducible refine (level_any p m _).mono ?_); rintro e w1 ⟨rfl, rfl⟩))
  go_ret
  exact ⟨rfl, rfl⟩

theorem before_any (p a q b : Int) (w : World) : Calls Try.prog 45 #[.int .i64 p, .int .i64 a, .int .i64 q, .int .i64 b] w fun e w' => e = .returned (.bool (beforeB p a q b)) ∧ w = w' := by
  go_enter Try.func45, Try.ntmps45
  go_wp2
  all_goals
    go_ret
    refine ⟨ret_bool ?_, rfl⟩
    unfold beforeB
    simp [*]

theorem refBefore_any (p a q b : Int) (w : World) : Calls Try.prog 25 #[.int .i64 p, .int .i64 a, .int .i64 q, .int .i64 b] w fun e w' => e = .returned (.bool (beforeB p a q b)) ∧ w = w' := by
  by_cases h : p = q
  · have hb : beforeB p a q b = decide (a < b) := by simp [beforeB, h]
    have hq : (p != q) = false := by simp [h]
    rw [hb]
    clear hb h
    go_enter Try.func25, Try.ntmps25
    go_wp2
    go_ret
    exact ⟨rfl, rfl⟩
  · have hb : beforeB p a q b = decide (p < q) := by simp [beforeB, h]
    have hq : (p != q) = true := by simp [h]
    rw [hb]
    clear hb h
    go_enter Try.func25, Try.ntmps25
    go_wp2
    go_ret
    exact ⟨rfl, rfl⟩

theorem bit_any (p : Int) (k : Nat) (w : World) (hk : k ≤ 63) : Calls Try.prog 61 #[.int .i64 p, .int .i64 k] w fun e w' => e = .returned (.bool (bt p k)) ∧ w = w' := by
  go_enter Try.func61, Try.ntmps61
  go_wp2
  go_ret
  refine ⟨ret_bool ?_, rfl⟩
  have e : bits .and .i64 (p / 2 ^ k) 1 = p / 2 ^ k % 2 := by
    rw [show (1 : Int) = ((1 : Nat) : Int) from rfl, and_low _ 1 (by decide), show (1 : Nat) = 2 ^ 1 - 1 from rfl, Nat.and_two_pow_sub_one_eq_mod]
    unfold low8; omega
  rw [e]
  unfold bt
  by_cases h : p / 2 ^ k % 2 = 1 <;> simp [h]

theorem and7 (p : Int) : bits .and .i64 p 7 = p % 8 := by
  rw [show (7 : Int) = ((7 : Nat) : Int) from rfl, and_low p 7 (by decide), show (7 : Nat) = 2 ^ 3 - 1 from rfl, Nat.and_two_pow_sub_one_eq_mod]
  unfold low8; omega

theorem maskV_eq {g p : Int} {f : Nat} (h : fromV g p = f) : maskV g p = ((maskN f : Nat) : Int) := by rw [maskV, h]

set_option maxHeartbeats 1000000 in
theorem mask_any (g p : Int) (w : World) : Calls Try.prog 27 #[.int .i64 g, .int .i64 p] w fun e w' => e = .returned (.int .i64 (maskV g p)) ∧ w = w' := by
  have h7 := and7 p
  have hp : p % 8 = 0 ∨ p % 8 = 1 ∨ p % 8 = 2 ∨ p % 8 = 3 ∨ p % 8 = 4 ∨ p % 8 = 5 ∨ p % 8 = 6 ∨ p % 8 = 7 := by omega
  by_cases hg : g = 0
  · subst hg
    rcases hp with h | h | h | h | h | h | h | h
    all_goals
      have hm := maskV_eq (show fromV 0 p = _ by simp only [fromV, h]; rfl)
      rw [h] at h7
      rw [hm]
      clear h hm
      go_enter Try.func27, Try.ntmps27
      go_wp2
      go_ret
      exact ⟨ret_int (by decide), rfl⟩
  · have hq : (g == 0) = false := by simp [hg]
    rcases hp with h | h | h | h | h | h | h | h
    all_goals
      have hm := maskV_eq (show fromV g p = _ by simp only [fromV, h, hg]; rfl)
      rw [h] at h7
      rw [hm]
      clear h hm hg
      go_enter Try.func27, Try.ntmps27
      go_wp2
      go_ret
      exact ⟨ret_int (by decide), rfl⟩

end Go.Proofs.Ytnnlimjbmfpalaa
