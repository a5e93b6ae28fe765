/-
  The document's Field and With, bit by bit.
-/
import Derived.Test.YtjgamfonpagkbaaFrmB
namespace Go.Proofs.Ytjgamfonpagkbaa
open Go.ChangeShapes Go.WideShapes Go.ChangeAt Go.RowKit
set_option linter.unusedVariables false

theorem add_bit {a j t : Nat} (e : t = a + 2 ^ j) (h : t < 18446744073709551616) (hj : j < 64) : IntKind.u64.wrap ((a : Int) + IntKind.u64.wrap ((2 : Int) ^ j)) = (t : Int) := by
  subst e
  have h1 : (2 : Nat) ^ j < 2 ^ 64 := Nat.pow_lt_pow_right (by decide) hj
  rw [pow_int]
  revert h h1
  generalize (2 : Nat) ^ j = q
  intro h h1
  rw [IntKind.wrap_u64, IntKind.wrap_u64]
  omega
theorem sub_bit {a j : Nat} (h : 2 ^ j ≤ a) (ha : a < 18446744073709551616) : IntKind.u64.wrap ((a : Int) - IntKind.u64.wrap ((2 : Int) ^ j)) = ((a - 2 ^ j : Nat) : Int) := by
  rw [pow_int]
  revert h
  generalize (2 : Nat) ^ j = q
  intro h
  rw [IntKind.wrap_u64, IntKind.wrap_u64]
  omega

set_option maxRecDepth 10000 in
set_option maxHeartbeats 4000000 in
theorem rfieldD_any (v : Nat) (p : Pl) (k : Nat) (w : World) (hv : v < 18446744073709551616) (hk : k < 64) (hc : (k : Int) < p.c) :
    Calls Try.prog 45 #[.int .u64 v, p.v, .int .i64 k] w fun e w' => e = .returned (.int .u64 (fieldN (wideN p.r) v k : Nat)) ∧ Below w.heap.size w w' := by
  have H := hi (fun W => rwide_any p.r W)
  obtain ⟨h1, h2⟩ := wide_pos p.r
  obtain ⟨n, hn⟩ : ∃ n, wideN p.r = n := ⟨_, rfl⟩
  rw [hn] at H h1 h2 ⊢
  have hm := mul_le63 hk h2
  rw [Nat.mul_comm] at hm
  have hw0 : IntKind.i64.wrap ((n : Int) * (k : Int)) = ((n * k : Nat) : Int) := by rw [← Int.natCast_mul, IntKind.wrap_i64]; omega
  unfold fieldN
  obtain ⟨m, hm'⟩ : ∃ m, n * k = m := ⟨_, rfl⟩
  rw [hm'] at hm hw0 ⊢
  clear hm' hn
  obtain ⟨r, f, c⟩ := p
  dsimp only at hc H
  dsimp only [Pl.v]
  go_enter Try.func45, Try.ntmps45
  go_wp2_with (go_at_call 54; ((with_reducible refine (H.out _).mono ?_); rintro e w1 ⟨rfl, rfl⟩))
  go_loop [8, 9] (fun o i => ∃ j : Nat, j ≤ n ∧ i = .int .i64 j ∧ o = .int .u64 (sumB (fun i => v.testBit (m + i)) j : Nat)) (fun _ i => n - (intOf i).toNat)
  case atStart => exact ⟨0, Nat.zero_le _, rfl, rfl⟩
  case round =>
    obtain ⟨j, hj, rfl, rfl⟩ := hrel
    by_cases hlt : j < n
    · have hs0 : v.testBit (m + j) = false → sumB (fun i => v.testBit (m + i)) (j + 1) = sumB (fun i => v.testBit (m + i)) j := sumB_succ_f (f := fun i => v.testBit (m + i))
      have hs1 : v.testBit (m + j) = true → sumB (fun i => v.testBit (m + i)) (j + 1) = sumB (fun i => v.testBit (m + i)) j + 2 ^ j := sumB_succ_t (f := fun i => v.testBit (m + i))
      have hl := sumB_lt (fun i => v.testBit (m + i)) (j + 1)
      obtain ⟨s0, hs⟩ : ∃ s, sumB (fun i => v.testBit (m + i)) j = s := ⟨_, rfl⟩
      rw [hs] at hs0 hs1 ⊢
      obtain ⟨a, ha⟩ : ∃ a, m + j = a := ⟨_, rfl⟩
      have hwa : IntKind.i64.wrap ((m : Int) + (j : Int)) = (a : Int) := by rw [IntKind.wrap_i64]; omega
      have hb := and_one v a hv
      rw [ha] at hs0 hs1
      by_cases ha64 : a < 64
      · have hl64 : (2 : Nat) ^ (j + 1) ≤ 2 ^ 64 := Nat.pow_le_pow_right (by decide) (by omega)
        by_cases hbit : v.testBit a = true
        · have hadd := add_bit (hs1 hbit) (by omega) (by omega)
          obtain ⟨t, ht⟩ : ∃ t, sumB (fun i => v.testBit (m + i)) (j + 1) = t := ⟨_, rfl⟩
          rw [ht] at hadd
          have HS := hi ht
          rw [if_pos hbit] at hb
          clear hs0 hs1 hl hs ha hbit hl64 ht
          go_wp2
          go_round
          case rel => exact ⟨j + 1, by omega, by go_num, by rw [HS.out]⟩
          case measure => simp only [intOf]; omega
        · have hbit' : v.testBit a = false := by simpa using hbit
          have HS := hi (hs0 hbit')
          rw [if_neg hbit] at hb
          clear hs0 hs1 hl hs ha hbit hl64 hbit'
          go_wp2
          go_round
          case rel => exact ⟨j + 1, by omega, by go_num, by rw [HS.out]⟩
          case measure => simp only [intOf]; omega
      · have HS := hi (hs0 (bit_big hv (by omega)))
        clear hs0 hs1 hl hs ha hb
        go_wp2
        go_round
        case rel => exact ⟨j + 1, by omega, by go_num, by rw [HS.out]⟩
        case measure => simp only [intOf]; omega
    · obtain rfl : j = n := by omega
      go_wp2
      go_ret
      exact ⟨rfl, bal w _⟩

theorem withTo_t {n v k x j : Nat} (hj : n * k + j < 64) (hv : v.testBit (n * k + j) = true) (hx : x.testBit j = false) : withTo n v k x (j + 1) = withTo n v k x j - 2 ^ (n * k + j) ∧ 2 ^ (n * k + j) ≤ withTo n v k x j := by
  have := withTo_step n v k x j hj
  rw [hv, hx, if_pos rfl, if_neg (by simp)] at this
  omega
theorem withTo_f {n v k x j : Nat} (hj : n * k + j < 64) (hv : v.testBit (n * k + j) = false) (hx : x.testBit j = true) : withTo n v k x (j + 1) = withTo n v k x j + 2 ^ (n * k + j) := by
  have := withTo_step n v k x j hj
  rw [hv, hx, if_pos rfl, if_neg (by simp)] at this
  omega
theorem withTo_s {n v k x j : Nat} (hj : n * k + j < 64) (h : v.testBit (n * k + j) = x.testBit j) : withTo n v k x (j + 1) = withTo n v k x j := by
  have := withTo_step n v k x j hj
  rw [h] at this
  omega

set_option maxRecDepth 10000 in
set_option maxHeartbeats 8000000 in
theorem rwith_any (v : Nat) (p : Pl) (k x : Nat) (w : World) (hv : v < 18446744073709551616) (hx : x < 18446744073709551616) (hk : k < 64) (hc : (k : Int) < p.c) :
    Calls Try.prog 35 #[.int .u64 v, p.v, .int .i64 k, .int .u64 x] w fun e w' => e = .returned (.int .u64 (withN (wideN p.r) v k x : Nat)) ∧ Below w.heap.size w w' := by
  have H := hi (fun W => rwide_any p.r W)
  obtain ⟨h1, h2⟩ := wide_pos p.r
  obtain ⟨n, hn⟩ : ∃ n, wideN p.r = n := ⟨_, rfl⟩
  rw [hn] at H h1 h2 ⊢
  have hm := mul_le63 hk h2
  rw [Nat.mul_comm] at hm
  have hw0 : IntKind.i64.wrap ((n : Int) * (k : Int)) = ((n * k : Nat) : Int) := by rw [← Int.natCast_mul, IntKind.wrap_i64]; omega
  have HT := hi (fun j hj hv hx => withTo_t (n := n) (v := v) (k := k) (x := x) (j := j) hj hv hx)
  have HF := hi (fun j hj hv hx => withTo_f (n := n) (v := v) (k := k) (x := x) (j := j) hj hv hx)
  have HS := hi (fun j hj h => withTo_s (n := n) (v := v) (k := k) (x := x) (j := j) hj h)
  have HO := hi (fun j hj => withTo_over n v k x j hj)
  have HA := hi (fun j hj => withTo_at n v k x j hj)
  have HL := hi (fun j => withTo_lt n v k x j)
  have H0 := hi (withTo_zero n k x hv)
  have HE := hi (withTo_all n v k x)
  obtain ⟨U, hU⟩ : ∃ U, withTo n v k x = U := ⟨_, rfl⟩
  simp only [hU] at HT HF HS HO HA HL H0 HE
  obtain ⟨z, hz⟩ : ∃ z, withN n v k x = z := ⟨_, rfl⟩
  rw [hz] at HE ⊢
  obtain ⟨m, hm'⟩ : ∃ m, n * k = m := ⟨_, rfl⟩
  rw [hm'] at hm hw0 HT HF HS HO HA
  clear hm' hn hz hU
  obtain ⟨r, f, c⟩ := p
  dsimp only at hc H
  dsimp only [Pl.v]
  go_enter Try.func35, Try.ntmps35
  go_wp2_with (go_at_call 54; ((with_reducible refine (H.out _).mono ?_); rintro e w1 ⟨rfl, rfl⟩))
  go_loop [10, 11] (fun o i => ∃ j : Nat, j ≤ n ∧ i = .int .i64 j ∧ o = .int .u64 (U j : Nat)) (fun _ i => n - (intOf i).toNat)
  case atStart => exact ⟨0, Nat.zero_le _, rfl, by rw [H0.out]⟩
  case round =>
    obtain ⟨j, hj, rfl, rfl⟩ := hrel
    by_cases hlt : j < n
    · obtain ⟨a, ha⟩ : ∃ a, m + j = a := ⟨_, rfl⟩
      have hwa : IntKind.i64.wrap ((m : Int) + (j : Int)) = (a : Int) := by rw [IntKind.wrap_i64]; omega
      by_cases ha64 : a < 64
      · have hb := and_one (U j) a (HL.out j)
        have hat := HA.out j (by omega)
        rw [ha] at hat
        rw [hat] at hb
        have hbx := and_one x j hx
        have hT := HT.out j (by omega)
        have hF := HF.out j (by omega)
        have hS := HS.out j (by omega)
        have hlj := HL.out j
        have hl1 := HL.out (j + 1)
        rw [ha] at hT hF hS
        obtain ⟨s0, hs⟩ : ∃ s, U j = s := ⟨_, rfl⟩
        rw [hs] at hb hT hF hS hlj ⊢
        clear hat
        cases hv1 : v.testBit a
        · rw [hv1] at hb
          cases hx1 : x.testBit j
          · have HH := hi (hS (by rw [hv1, hx1]))
            rw [hx1] at hbx
            clear hT hF hS hs ha hv1 hx1 hlj hl1
            simp only [Bool.false_eq_true, if_false, Int.cast_ofNat_Int] at hb hbx
            go_wp2
            go_round
            case rel => exact ⟨j + 1, by omega, by go_num, by rw [HH.out]⟩
            case measure => simp only [intOf]; omega
          · have hadd := add_bit (hF hv1 hx1) hl1 ha64
            obtain ⟨t, ht⟩ : ∃ t, U (j + 1) = t := ⟨_, rfl⟩
            rw [ht] at hadd
            have HH := hi ht
            rw [hx1] at hbx
            clear ht hT hF hS hs ha hv1 hx1 hlj hl1
            simp only [Bool.false_eq_true, if_false, if_true, Int.cast_ofNat_Int] at hb hbx
            go_wp2
            go_round
            case rel => exact ⟨j + 1, by omega, by go_num, by rw [HH.out]⟩
            case measure => simp only [intOf]; omega
        · rw [hv1] at hb
          cases hx1 : x.testBit j
          · have HH := hi (hT hv1 hx1).1
            have hsub := sub_bit (a := s0) (j := a) (hT hv1 hx1).2 hlj
            rw [hx1] at hbx
            clear hT hF hS hs ha hv1 hx1 hlj hl1
            simp only [Bool.false_eq_true, if_false, if_true, Int.cast_ofNat_Int] at hb hbx
            go_wp2
            go_round
            case rel => exact ⟨j + 1, by omega, by go_num, by rw [HH.out]⟩
            case measure => simp only [intOf]; omega
          · have HH := hi (hS (by rw [hv1, hx1]))
            rw [hx1] at hbx
            clear hT hF hS hs ha hv1 hx1 hlj hl1
            simp only [if_true, Int.cast_ofNat_Int] at hb hbx
            go_wp2
            go_round
            case rel => exact ⟨j + 1, by omega, by go_num, by rw [HH.out]⟩
            case measure => simp only [intOf]; omega
      · have HH := hi (HO.out j (by omega))
        clear ha
        go_wp2
        go_round
        case rel => exact ⟨j + 1, by omega, by go_num, by rw [HH.out]⟩
        case measure => simp only [intOf]; omega
    · obtain rfl : j = n := by omega
      go_wp2
      go_ret
      exact ⟨by rw [HE.out]; rfl, bal w _⟩

end Go.Proofs.Ytjgamfonpagkbaa
