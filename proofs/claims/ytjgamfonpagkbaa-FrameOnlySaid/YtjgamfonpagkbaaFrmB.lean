/-
  Package regs and the document's: how many bits, Field, With.
-/
import Derived.Test.YtjgamfonpagkbaaFrmA
import Derived.Test.YtjgamfonpagkbaaBnkC
namespace Go.Proofs.Ytjgamfonpagkbaa
open Go.ChangeShapes Go.WideShapes Go.ChangeAt Go.RowKit
set_option linter.unusedVariables false

theorem fieldBits_any (r : Int) (w : World) : Calls Try.prog 66 #[.int .i64 r] w fun e w' => e = .returned (.int .i64 (wideN r : Nat)) ∧ w = w' := by
  go_enter Try.func66, Try.ntmps66
  go_wp2
  all_goals
    go_ret
    refine ⟨ret_int ?_, rfl⟩
    simp_all [wideN]
theorem rwide_any (r : Int) (w : World) : Calls Try.prog 54 #[.int .i64 r] w fun e w' => e = .returned (.int .i64 (wideN r : Nat)) ∧ w = w' := by
  go_enter Try.func54, Try.ntmps54
  go_wp2
  all_goals
    go_ret
    refine ⟨ret_int ?_, rfl⟩
    simp_all [wideN]

/-- A place: a register, its first interrupt, how many. -/
structure Pl where
  r : Int
  f : Int
  c : Int
abbrev Pl.v (p : Pl) : Value := .agg #[.int .i64 p.r, .int .i64 p.f, .int .i64 p.c]
abbrev Pl.cs (p : Pl) : Array Value := #[.int .i64 p.r, .int .i64 p.f, .int .i64 p.c]

theorem wrap_two {n : Nat} (hn : n ≤ 63) : IntKind.u64.wrap (IntKind.u64.wrap ((2 : Int) ^ n) - 1) = ((2 ^ n - 1 : Nat) : Int) := by
  have h1 : (2 : Nat) ^ n ≤ 2 ^ 63 := Nat.pow_le_pow_right (by decide) hn
  have h0 : 0 < (2 : Nat) ^ n := Nat.two_pow_pos n
  have e : (2 : Int) ^ n = ((2 ^ n : Nat) : Int) := by rw [Int.natCast_pow]; rfl
  rw [e]
  revert h1 h0
  generalize (2 : Nat) ^ n = q
  intro h1 h0
  rw [IntKind.wrap_u64, IntKind.wrap_u64]
  omega
theorem pow_min_mod (m : Nat) (q : Nat) : q * 2 ^ min m 64 % 2 ^ 64 = q * 2 ^ m % 2 ^ 64 := by
  by_cases h : m ≤ 64
  · rw [Nat.min_eq_left h]
  · rw [Nat.min_eq_right (by omega), show m = (m - 64) + 64 by omega, Nat.pow_add, ← Nat.mul_assoc, Nat.mul_mod_left, Nat.mul_mod_left]
theorem pow_min_div {m x : Nat} (hx : x < 18446744073709551616) : x / 2 ^ min m 64 = x / 2 ^ m := by
  by_cases h : m ≤ 64
  · rw [Nat.min_eq_left h]
  · rw [Nat.min_eq_right (by omega), Nat.div_eq_of_lt hx, Nat.div_eq_of_lt (Nat.lt_of_lt_of_le hx (show 2 ^ 64 ≤ 2 ^ m from Nat.pow_le_pow_right (by decide) (by omega)))]
theorem pow_int (m : Nat) : (2 : Int) ^ m = ((2 ^ m : Nat) : Int) := by rw [Int.natCast_pow]; rfl
theorem wrap_shl (q m : Nat) : IntKind.u64.wrap ((q : Int) * 2 ^ min m 64) = ((q * 2 ^ m % 18446744073709551616 : Nat) : Int) := by
  have e : (q : Int) * 2 ^ min m 64 = ((q * 2 ^ min m 64 : Nat) : Int) := by rw [pow_int, Int.natCast_mul]
  rw [e, IntKind.wrap_u64, show (18446744073709551616 : Nat) = 2 ^ 64 from rfl, ← pow_min_mod, Int.natCast_emod]
  rfl
theorem wrap_mask (n m : Nat) : IntKind.u64.wrap (((2 ^ n - 1 : Nat) : Int) * 2 ^ min m 64) = (maskN n m : Nat) := wrap_shl _ _
theorem shr_nat {x : Nat} (m : Nat) (hx : x < 18446744073709551616) : (x : Int) / 2 ^ min m 64 = ((x / 2 ^ m : Nat) : Int) := by
  rw [pow_int, ← Int.natCast_ediv, pow_min_div hx]
theorem mul_le63 {k n : Nat} (hk : k < 64) (hn : n ≤ 63) : k * n ≤ 63 * 63 := Nat.mul_le_mul (by omega) hn

set_option maxHeartbeats 1000000 in
theorem rfield_any (p : Pl) (k : Nat) (w : World) (hk : k < 64) (hc : (k : Int) < p.c) :
    Calls Try.prog 51 #[p.v, .int .i64 k] w fun e w' => e = .returned (.tuple #[.int .i64 (k * wideN p.r : Nat), .int .u64 (maskN (wideN p.r) (k * wideN p.r) : Nat)]) ∧ Below w.heap.size w w' := by
  have H := hi (fun W => fieldBits_any p.r W)
  obtain ⟨h1, h2⟩ := wide_pos p.r
  obtain ⟨n, hn⟩ : ∃ n, wideN p.r = n := ⟨_, rfl⟩
  rw [hn] at H h1 h2 ⊢
  have hm := mul_le63 hk h2
  have hw1 := wrap_two h2
  have hw2 := wrap_mask n (k * n)
  have hw0 : IntKind.i64.wrap ((k : Int) * (n : Int)) = ((k * n : Nat) : Int) := by rw [← Int.natCast_mul, IntKind.wrap_i64]; omega
  obtain ⟨m, hm'⟩ : ∃ m, k * n = m := ⟨_, rfl⟩
  rw [hm'] at hm hw0 hw2 ⊢
  obtain ⟨q, hq⟩ : ∃ q, 2 ^ n - 1 = q := ⟨_, rfl⟩
  rw [hq] at hw1 hw2
  obtain ⟨M, hM⟩ : ∃ M, maskN n m = M := ⟨_, rfl⟩
  rw [hM] at hw2 ⊢
  clear hq hM hm' hn
  obtain ⟨r, f, c⟩ := p
  dsimp only at hc H
  dsimp only [Pl.v]
  go_enter Try.func51, Try.ntmps51
  go_wp2_with (go_at_call 66; ((with_reducible refine (H.out _).mono ?_); rintro e w1 ⟨rfl, rfl⟩))
  go_region
  go_wp2
  go_ret2
  exact ⟨rfl, Below.drewN (m := 1) (bal w _)⟩

theorem shr_mask (v n k : Nat) (hv : v < 18446744073709551616) : bits .and .u64 (v : Int) (maskN n (k * n) : Nat) / 2 ^ min (k * n) 64 = (fieldN n v k : Nat) := by
  rw [u64_and_nat _ _ hv (maskN_lt _ _), ← field_eq n v k hv, shr_nat _ (Nat.lt_of_le_of_lt Nat.and_le_left hv)]
set_option maxHeartbeats 1000000 in
theorem field_any (v : Nat) (p : Pl) (k : Nat) (w : World) (hv : v < 18446744073709551616) (hk : k < 64) (hc : (k : Int) < p.c) :
    Calls Try.prog 38 #[.int .u64 v, p.v, .int .i64 k] w fun e w' => e = .returned (.int .u64 (fieldN (wideN p.r) v k : Nat)) ∧ Below w.heap.size w w' := by
  have H := hi (fun W => rfield_any p k W hk hc)
  have hs := shr_mask v (wideN p.r) k hv
  obtain ⟨h1, h2⟩ := wide_pos p.r
  have hm := mul_le63 hk h2
  obtain ⟨m, hm'⟩ : ∃ m, k * wideN p.r = m := ⟨_, rfl⟩
  obtain ⟨x, hx⟩ : ∃ x, fieldN (wideN p.r) v k = x := ⟨_, rfl⟩
  obtain ⟨M, hM⟩ : ∃ M, maskN (wideN p.r) m = M := ⟨_, rfl⟩
  rw [hm', hM] at H
  rw [hm', hM, hx] at hs
  rw [hm'] at hm
  rw [hx]
  clear hx hM hm' h1 h2
  obtain ⟨r, f, c⟩ := p
  dsimp only [Pl.v] at H ⊢
  go_enter Try.func38, Try.ntmps38
  go_wp2_with (go_at_call 51; ((with_reducible refine (H.out _).mono ?_); rintro e w1 ⟨rfl, hb⟩; have HB := hi ((bal w _).trans (hb.mono (bal w _).size)); clear hb))
  go_ret
  exact ⟨by rw [← hs]; rfl, HB.out⟩

theorem with_words (v n k x : Nat) (hv : v < 18446744073709551616) : bits .or .u64 (bits .andNot .u64 (v : Int) (maskN n (k * n) : Nat)) (bits .and .u64 (IntKind.u64.wrap ((x : Int) * 2 ^ min (k * n) 64)) (maskN n (k * n) : Nat)) = (withN n v k x : Nat) := by
  rw [wrap_shl, u64_andNot_nat _ _ hv (maskN_lt _ _), u64_and_nat _ _ (Nat.mod_lt _ (by decide)) (maskN_lt _ _), u64_or_nat _ _ (Nat.lt_of_le_of_lt Nat.and_le_left hv) (Nat.lt_of_le_of_lt Nat.and_le_left (Nat.mod_lt _ (by decide))), with_eq n v k x hv]
set_option maxHeartbeats 1000000 in
theorem with_any (v : Nat) (p : Pl) (k x : Nat) (w : World) (hv : v < 18446744073709551616) (hk : k < 64) (hc : (k : Int) < p.c) :
    Calls Try.prog 32 #[.int .u64 v, p.v, .int .i64 k, .int .u64 x] w fun e w' => e = .returned (.int .u64 (withN (wideN p.r) v k x : Nat)) ∧ Below w.heap.size w w' := by
  have H := hi (fun W => rfield_any p k W hk hc)
  have hs := with_words v (wideN p.r) k x hv
  obtain ⟨h1, h2⟩ := wide_pos p.r
  have hm := mul_le63 hk h2
  obtain ⟨m, hm'⟩ : ∃ m, k * wideN p.r = m := ⟨_, rfl⟩
  obtain ⟨y, hy⟩ : ∃ y, withN (wideN p.r) v k x = y := ⟨_, rfl⟩
  obtain ⟨M, hM⟩ : ∃ M, maskN (wideN p.r) m = M := ⟨_, rfl⟩
  rw [hm', hM] at H
  rw [hm', hM, hy] at hs
  rw [hm'] at hm
  rw [hy]
  clear hy hM hm' h1 h2
  obtain ⟨r, f, c⟩ := p
  dsimp only [Pl.v] at H ⊢
  go_enter Try.func32, Try.ntmps32
  go_wp2_with (go_at_call 51; ((with_reducible refine (H.out _).mono ?_); rintro e w1 ⟨rfl, hb⟩; have HB := hi ((bal w _).trans (hb.mono (bal w _).size)); clear hb))
  go_ret
  exact ⟨by rw [← hs]; rfl, HB.out⟩

end Go.Proofs.Ytjgamfonpagkbaa
