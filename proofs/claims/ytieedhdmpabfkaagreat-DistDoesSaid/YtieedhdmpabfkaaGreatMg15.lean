import Derived.Test.YtieedhdmpabfkaaGreatMg14
import Derived.Laws.AppendOwn
set_option linter.unusedSimpArgs false
namespace Go.Proofs.YtieedhdmpabfkaaGreat
open Go.ChangeShapes Go.WideShapes Go.ChangeAt Go.RowKit Go.Shelf
set_option linter.unusedVariables false
attribute [local go_sem] Oper.semAt_some
theorem info_i : (Tryz.prog.info? 3).map (fun i => (i.zero, i.size, i.bytes)) = some (some (.int .i64 0), 1, 8) := by kernel_rfl
def ints (xs : List Int) : List Value := xs.map (Value.int .i64)
theorem ints_append (a b : List Int) : ints (a ++ b) = ints a ++ ints b := by simp [ints]
def SomeInts (w : World) (xs : List Int) (e : Ending) (W' : World) : Prop := ∃ a cap, e = .returned (.slice a xs.length cap) ∧ IntsAt W' (.slice a xs.length cap) xs ∧ Below w.heap.size w W'
theorem someInts_of {w W' : World} {xs : List Int} {o : Value} {base : Nat} (h : W'.ownsRow base 3 1 o xs.length (ints xs)) (hb : Below w.heap.size w W') : SomeInts w xs (.returned o) W' := by
 obtain ⟨a, cap, rfl, hcap, hc⟩ := intsAt_row h
 exact ⟨a, cap, rfl, ⟨a, cap, rfl, hcap, hc⟩, hb⟩
end Go.Proofs.YtieedhdmpabfkaaGreat
namespace Go.Proofs.YtieedhdmpabfkaaGreat
open Go.ChangeShapes Go.WideShapes Go.ChangeAt Go.RowKit Go.Shelf
set_option linter.unusedVariables false
theorem part_step (v m j : Nat) : v / 2 ^ m % 2 ^ (j + 1) = v / 2 ^ (m + 1) % 2 ^ j * 2 + v / 2 ^ m % 2 := by
 rw [Nat.pow_succ 2 j, Nat.mul_comm (2 ^ j) 2, Nat.mod_mul, Nat.div_div_eq_div_mul, Nat.add_comm, Nat.mul_comm 2]
 rfl
theorem u64_bit (v k : Nat) (hv : v < 18446744073709551616) : (bits .and .u64 ((v : Int) / 2 ^ k) 1 == 1) = decide (v / 2 ^ k % 2 = 1) := by
 have e : (v : Int) / 2 ^ k = ((v / 2 ^ k : Nat) : Int) := by rw [Int.natCast_ediv, Int.natCast_pow]; rfl
 rw [e, show (1 : Int) = ((1 : Nat) : Int) from rfl, u64_and_nat _ _ (Nat.lt_of_le_of_lt (Nat.div_le_self _ _) hv) (by decide), nat_mask1]
 by_cases h : v / 2 ^ k % 2 = 1
 ·rw [h]; rfl
 ·rw [show v / 2 ^ k % 2 = 0 by omega]; rfl
set_option maxHeartbeats 1000000 in
theorem part_any (v a b : Nat) (hv : v < 18446744073709551616) (ha : a ≤ b) (hb : b < 64) (hd : b < a + 16) (w : World) :
  Calls Tryz.prog 95 #[.int .u64 v, .int .i64 a, .int .i64 b] w fun e w' => e = .returned (.int .i64 (v / 2 ^ a % 2 ^ (b + 1 - a) : Nat)) ∧ w = w' := by
 have HB := hi (fun k => u64_bit v k hv)
 have HV := hi hv
 clear hv
 go_enter Tryz.func95, Tryz.ntmps95
 go_wp2
 go_loop [7, 8] (fun n k => ∃ j : Nat, j ≤ b + 1 - a ∧ k = .int .i64 ((b : Int) - j) ∧ n = .int .i64 (v / 2 ^ (b + 1 - j) % 2 ^ j : Nat)) (fun n k => (intOf k - a + 1).toNat)
 case atStart => exact ⟨0, Nat.zero_le _, by simp, by simp⟩
 case round =>
  obtain ⟨j, hj, rfl, rfl⟩ := hrel
  by_cases hlt : j < b + 1 - a
  ·obtain ⟨m, hm⟩ : ∃ m : Nat, b - j = m := ⟨_, rfl⟩
   have hbj : b = m + j := by omega
   have e1 : (b : Int) - j = m := by omega
   have hst := part_step v m j
   rw [e1, show b + 1 - j = m + 1 by omega]
   have hN : v / 2 ^ (m + 1) % 2 ^ j < 2 ^ 15 := Nat.lt_of_lt_of_le (Nat.mod_lt _ (Nat.two_pow_pos _)) (Nat.pow_le_pow_right (by decide) (by omega))
   obtain ⟨N, eN⟩ : ∃ N, v / 2 ^ (m + 1) % 2 ^ j = N := ⟨_, rfl⟩
   rw [eN] at hN hst ⊢
   have hbit := HB.out m
   have HS := hi hst
   have hm64 : m < 64 := by omega
   have ham : (a : Int) ≤ m := by omega
   have HM := hi (And.intro hbj (And.intro hlt hj))
   clear hst eN e1 hm hj hlt hbj
   by_cases h : v / 2 ^ m % 2 = 1
   ·have ht : (bits .and .u64 ((v : Int) / 2 ^ m) 1 == 1) = true := by rw [hbit]; simpa using h
    have HH := hi h
    clear hbit h
    go_wp2
    go_round
    case rel => exact ⟨j + 1, by have := HM.out; omega, by have := HM.out; congr 1; omega, by rw [show b + 1 - (j + 1) = m by have := HM.out; omega, HS.out, HH.out]; rfl⟩
    case measure => have := HM.out; simp only [intOf]; omega
   ·have ht : (bits .and .u64 ((v : Int) / 2 ^ m) 1 == 1) = false := by rw [hbit]; simpa using h
    have HH := hi (show v / 2 ^ m % 2 = 0 by omega)
    clear hbit h
    go_wp2
    go_round
    case rel => exact ⟨j + 1, by have := HM.out; omega, by have := HM.out; congr 1; omega, by rw [show b + 1 - (j + 1) = m by have := HM.out; omega, HS.out, HH.out]; rfl⟩
    case measure => have := HM.out; simp only [intOf]; omega
  ·obtain rfl : j = b + 1 - a := by omega
   have e1 : (b : Int) - ((b + 1 - a : Nat) : Int) = (a : Int) - 1 := by omega
   rw [e1, show b + 1 - (b + 1 - a) = a by omega]
   clear e1
   go_wp2
   go_ret
   exact ⟨rfl, rfl⟩
set_option maxHeartbeats 1000000 in
theorem refOdd_any (v : Nat) (hv : v < 18446744073709551616) (w : World) : Calls Tryz.prog 97 #[.int .u64 v] w fun e w' => e = .returned (.bool (oddV v)) ∧ w = w' := by
 have C1 : Hi (∀ W, Calls Tryz.prog 95 #[.int .u64 v, .int .i64 16, .int .i64 23] W fun e w' => e = .returned (.int .i64 (v / 2 ^ 16 % 2 ^ 8 : Nat)) ∧ W = w') := hi (fun W => part_any v 16 23 hv (by decide) (by decide) (by decide) W)
 have C2 : Hi (∀ W, Calls Tryz.prog 95 #[.int .u64 v, .int .i64 32, .int .i64 39] W fun e w' => e = .returned (.int .i64 (v / 2 ^ 32 % 2 ^ 8 : Nat)) ∧ W = w') := hi (fun W => part_any v 32 39 hv (by decide) (by decide) (by decide) W)
 have C3 : Hi (∀ W, Calls Tryz.prog 95 #[.int .u64 v, .int .i64 44, .int .i64 47] W fun e w' => e = .returned (.int .i64 (v / 2 ^ 44 % 2 ^ 4 : Nat)) ∧ W = w') := hi (fun W => part_any v 44 47 hv (by decide) (by decide) (by decide) W)
 have C4 : Hi (∀ W, Calls Tryz.prog 95 #[.int .u64 v, .int .i64 48, .int .i64 55] W fun e w' => e = .returned (.int .i64 (v / 2 ^ 48 % 2 ^ 8 : Nat)) ∧ W = w') := hi (fun W => part_any v 48 55 hv (by decide) (by decide) (by decide) W)
 unfold oddV
 obtain ⟨p1, e1⟩ : ∃ p, v / 2 ^ 16 % 2 ^ 8 = p := ⟨_, rfl⟩
 obtain ⟨p2, e2⟩ : ∃ p, v / 2 ^ 32 % 2 ^ 8 = p := ⟨_, rfl⟩
 obtain ⟨p3, e3⟩ : ∃ p, v / 2 ^ 44 % 2 ^ 4 = p := ⟨_, rfl⟩
 obtain ⟨p4, e4⟩ : ∃ p, v / 2 ^ 48 % 2 ^ 8 = p := ⟨_, rfl⟩
 rw [e1] at C1 ⊢
 rw [e2] at C2 ⊢
 rw [e3] at C3 ⊢
 rw [e4] at C4 ⊢
 clear e1 e2 e3 e4 hv
 rcases Nat.eq_zero_or_pos p1 with rfl | h1
 ·rcases Nat.eq_zero_or_pos p2 with rfl | h2
  ·rcases Nat.eq_zero_or_pos p3 with rfl | h3
   ·have t4 : ((p4 : Int) != 0) = decide (p4 ≠ 0) := by by_cases h : p4 = 0 <;> simp [h]
    have T4 := hi t4
    clear t4
    go_enter Tryz.func97, Tryz.ntmps97
    go_wp2_with (first
     | (go_at_call 95; ((with_reducible refine (C1.out _).mono ?_); rintro e' w1 ⟨rfl, rfl⟩))
     | (go_at_call 95; ((with_reducible refine (C2.out _).mono ?_); rintro e' w1 ⟨rfl, rfl⟩))
     | (go_at_call 95; ((with_reducible refine (C3.out _).mono ?_); rintro e' w1 ⟨rfl, rfl⟩))
     | (go_at_call 95; ((with_reducible refine (C4.out _).mono ?_); rintro e' w1 ⟨rfl, rfl⟩)))
    go_ret
    exact ⟨by rw [T4.out]; simp, rfl⟩
   ·have t3 : ((p3 : Int) != 0) = true := by simp; omega
    have H3 := hi (show p3 ≠ 0 by omega)
    clear h3
    go_enter Tryz.func97, Tryz.ntmps97
    go_wp2_with (first
     | (go_at_call 95; ((with_reducible refine (C1.out _).mono ?_); rintro e' w1 ⟨rfl, rfl⟩))
     | (go_at_call 95; ((with_reducible refine (C2.out _).mono ?_); rintro e' w1 ⟨rfl, rfl⟩))
     | (go_at_call 95; ((with_reducible refine (C3.out _).mono ?_); rintro e' w1 ⟨rfl, rfl⟩)))
    go_ret
    exact ⟨by simp [H3.out], rfl⟩
  ·have t2 : ((p2 : Int) != 0) = true := by simp; omega
   have H2 := hi (show p2 ≠ 0 by omega)
   clear h2
   go_enter Tryz.func97, Tryz.ntmps97
   go_wp2_with (first
    | (go_at_call 95; ((with_reducible refine (C1.out _).mono ?_); rintro e' w1 ⟨rfl, rfl⟩))
    | (go_at_call 95; ((with_reducible refine (C2.out _).mono ?_); rintro e' w1 ⟨rfl, rfl⟩)))
   go_ret
   exact ⟨by simp [H2.out], rfl⟩
 ·have t1 : ((p1 : Int) != 0) = true := by simp; omega
  have H1 := hi (show p1 ≠ 0 by omega)
  clear h1
  go_enter Tryz.func97, Tryz.ntmps97
  go_wp2_with (go_at_call 95; ((with_reducible refine (C1.out _).mono ?_); rintro e' w1 ⟨rfl, rfl⟩))
  go_ret
  exact ⟨by simp [H1.out], rfl⟩
end Go.Proofs.YtieedhdmpabfkaaGreat
