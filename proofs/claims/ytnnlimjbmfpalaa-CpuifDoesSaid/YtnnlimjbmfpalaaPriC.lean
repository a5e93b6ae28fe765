/-
  The document's Real, Sub and Mask, bit by bit: the same numbers as the package's.
-/
import Derived.Test.YtnnlimjbmfpalaaPriB
namespace Go.Proofs.Ytnnlimjbmfpalaa
open Go.ChangeShapes Go.WideShapes Go.ChangeAt Go.RowKit
set_option linter.unusedVariables false

/-- The bits from a on below n. -/
def part (f : Nat → Bool) (a n : Nat) : Nat := sumB (fun i => decide (a ≤ i) && f i) n
theorem part_at (f : Nat → Bool) (a : Nat) : part f a a = 0 := by
  unfold part
  rw [sumB_congr (g := fun _ => false) a (fun i hi => by simp; omega)]
  exact sumB_eq (x := 0) (fun i _ => by simp) (Nat.pow_pos (by decide))
theorem part_succ (f : Nat → Bool) (a n : Nat) (h : a ≤ n) : part f a (n + 1) = part f a n + if f n then 2 ^ n else 0 := by
  unfold part
  rw [sumB]
  simp [h]
theorem part_lt (f : Nat → Bool) (a n : Nat) : part f a n < 2 ^ n := sumB_lt _ _

theorem real_part (p : Int) : realV p = ((part (bt p) 3 8 : Nat) : Int) := by
  unfold realV part
  rw [sumB_eq (x := low8 p &&& 248)]
  · intro i hi
    rw [Nat.testBit_and, bt_low8 p i hi]
    have : (248 : Nat).testBit i = decide (3 ≤ i) := by
      match i, hi with
      | 0, _ => rfl
      | 1, _ => rfl
      | 2, _ => rfl
      | 3, _ => rfl
      | 4, _ => rfl
      | 5, _ => rfl
      | 6, _ => rfl
      | 7, _ => rfl
      | i + 8, hi => omega
    rw [this, Bool.and_comm]
  · exact Nat.and_lt_two_pow (n := 8) _ (by decide)

theorem sub_part (p m : Int) : subV p m = ((part (fun i => bt p i && !bt m i) 0 8 : Nat) : Int) := by
  unfold subV part
  rw [sumB_eq (x := low8 p &&& (255 - low8 m))]
  · intro i hi
    have hm := low8_lt m
    rw [Nat.testBit_and, bt_low8 p i hi, show 255 - low8 m = 2 ^ 8 - (low8 m + 1) by omega, Nat.testBit_two_pow_sub_succ hm, bt_low8 m i hi]
    simp [hi]
  · exact Nat.and_lt_two_pow (n := 8) _ (by omega)

theorem part3 (p : Int) : ((part (bt p) 0 3 : Nat) : Int) = p % 8 := by
  have : part (bt p) 0 3 = low8 p % 2 ^ 3 := by
    unfold part
    refine sumB_eq (fun i hi => ?_) (Nat.mod_lt _ (by decide))
    rw [Nat.testBit_mod_two_pow, ← bt_low8 p i (by omega)]
    simp [hi]
  rw [this]; unfold low8; omega

theorem pow63 {k : Nat} (h : k ≤ 7) : (2 : Nat) ^ k ≤ 128 := Nat.pow_le_pow_right (n := 2) (by decide) h
theorem pow_i {k : Nat} (h : k ≤ 7) : (0 : Int) ≤ 2 ^ k ∧ (2 : Int) ^ k ≤ 128 := by
  have hk : k = 0 ∨ k = 1 ∨ k = 2 ∨ k = 3 ∨ k = 4 ∨ k = 5 ∨ k = 6 ∨ k = 7 := by omega
  rcases hk with rfl | rfl | rfl | rfl | rfl | rfl | rfl | rfl <;> decide
theorem part_int {f : Nat → Bool} {a n : Nat} (hs : part f a (n + 1) = part f a n + if f n then 2 ^ n else 0) (h : f n = true) : Value.int .i64 (((part f a n : Nat) : Int) + 2 ^ n) = .int .i64 ((part f a (n + 1) : Nat) : Int) := by
  rw [hs, h]; simp
theorem part_int0 {f : Nat → Bool} {a n : Nat} (hs : part f a (n + 1) = part f a n + if f n then 2 ^ n else 0) (h : f n = false) : Value.int .i64 ((part f a n : Nat) : Int) = .int .i64 ((part f a (n + 1) : Nat) : Int) := by
  rw [hs, h]; simp

set_option maxHeartbeats 1000000 in
theorem refReal_any (p : Int) (w : World) : Calls Try.prog 53 #[.int .i64 p] w fun e w' => e = .returned (.int .i64 (realV p)) ∧ w = w' := by
  have hr := Lib.hid (real_part p)
  go_enter Try.func53, Try.ntmps53
  go_wp2
  go_loop [3, 4] (fun n i => ∃ k : Nat, 3 ≤ k ∧ k ≤ 8 ∧ i = .int .i64 k ∧ n = .int .i64 ((part (bt p) 3 k : Nat) : Int)) (fun _ i => 8 - (intOf i).toNat)
  case atStart => exact ⟨3, by omega, by omega, rfl, by rw [part_at]; rfl⟩
  case round =>
    obtain ⟨k, h3, h8, rfl, rfl⟩ := hrel
    by_cases hlt : k ≤ 7
    · have hs := Lib.hid (part_succ (bt p) 3 k h3)
      have hl : part (bt p) 3 k < 256 := Nat.lt_of_lt_of_le (part_lt _ _ _) (Nat.le_trans (Nat.pow_le_pow_right (n := 2) (by decide) hlt) (by decide))
      obtain ⟨hp0, hp1⟩ := pow_i hlt
      cases hb : bt p k
      · have HB := Lib.hid hb
        clear hb
        go_wp2_with (go_at_call 61; ((with_reducible refine (bit_any p k _ (by omega)).mono ?_); rintro e w1 ⟨rfl, rfl⟩; rw [HB.out]))
        go_round
        case rel => exact ⟨k + 1, by omega, by omega, by go_num, part_int0 hs.out HB.out⟩
        case measure => simp [intOf]; omega
      · have HB := Lib.hid hb
        clear hb
        go_wp2_with (go_at_call 61; ((with_reducible refine (bit_any p k _ (by omega)).mono ?_); rintro e w1 ⟨rfl, rfl⟩; rw [HB.out]))
        go_round
        case rel => exact ⟨k + 1, by omega, by omega, by go_num, part_int hs.out HB.out⟩
        case measure => simp [intOf]; omega
    · have : k = 8 := by omega
      subst this
      go_wp2
      go_ret
      exact ⟨ret_int hr.out.symm, rfl⟩

/-- A mask's numbers: the powers from f on below k. -/
def maskUp (f k : Nat) : Nat := 2 ^ k - 2 ^ f
theorem maskUp_succ {f k : Nat} (h : f ≤ k) : maskUp f (k + 1) = maskUp f k + 2 ^ k := by
  have := Nat.pow_le_pow_right (n := 2) (by decide) h
  unfold maskUp; rw [Nat.pow_succ]; omega
theorem maskUp_lt {f k : Nat} (h : k ≤ 7) : maskUp f k < 256 := by
  exact Nat.lt_of_le_of_lt (Nat.sub_le _ _) (Nat.lt_of_le_of_lt (pow63 h) (by decide))
theorem mask_int {f k : Nat} (h : f ≤ k) : Value.int .i64 (((maskUp f k : Nat) : Int) + 2 ^ k) = .int .i64 ((maskUp f (k + 1) : Nat) : Int) := by
  rw [maskUp_succ h]; simp

set_option maxHeartbeats 2000000 in
theorem refMask_any (g p : Int) (w : World) : Calls Try.prog 55 #[.int .i64 g, .int .i64 p] w fun e w' => e = .returned (.int .i64 (maskV g p)) ∧ w = w' := by
  obtain ⟨b, hb8, hb⟩ : ∃ b : Nat, b < 8 ∧ (b : Int) = p % 8 := ⟨(p % 8).toNat, by omega, by omega⟩
  have hr := Lib.hid (part3 p)
  have hf : fromV g p = if g = 0 then b + 1 else max b 1 := by unfold fromV; rw [← hb]; rfl
  have hm := Lib.hid (maskV_eq hf)
  have HB := Lib.hid hb
  clear hb hf
  go_enter Try.func55, Try.ntmps55
  go_wp2
  go_loop [5, 6] (fun n i => ∃ k : Nat, k ≤ 3 ∧ i = .int .i64 k ∧ n = .int .i64 ((part (bt p) 0 k : Nat) : Int)) (fun _ i => 3 - (intOf i).toNat)
  case atStart => exact ⟨0, by omega, rfl, by rw [part_at]; rfl⟩
  case round =>
    obtain ⟨k, h8, rfl, rfl⟩ := hrel
    by_cases hlt : k ≤ 2
    · have hs := Lib.hid (part_succ (bt p) 0 k (Nat.zero_le _))
      have hl : part (bt p) 0 k < 256 := Nat.lt_of_lt_of_le (part_lt _ _ _) (Nat.le_trans (Nat.pow_le_pow_right (n := 2) (by decide) hlt) (by decide))
      obtain ⟨hp0, hp1⟩ := pow_i (show k ≤ 7 by omega)
      cases hb : bt p k
      · have HK := Lib.hid hb
        clear hb
        go_wp2_with (go_at_call 61; ((with_reducible refine (bit_any p k _ (by omega)).mono ?_); rintro e w1 ⟨rfl, rfl⟩; rw [HK.out]))
        go_round
        case rel => exact ⟨k + 1, by omega, by go_num, part_int0 hs.out HK.out⟩
        case measure => simp [intOf]; omega
      · have HK := Lib.hid hb
        clear hb
        go_wp2_with (go_at_call 61; ((with_reducible refine (bit_any p k _ (by omega)).mono ?_); rintro e w1 ⟨rfl, rfl⟩; rw [HK.out]))
        go_round
        case rel => exact ⟨k + 1, by omega, by go_num, part_int hs.out HK.out⟩
        case measure => simp [intOf]; omega
    · have : k = 3 := by omega
      subst this
      rw [hr.out, ← HB.out]
      clear hr HB
      by_cases hg : g = 0
      · subst hg
        have hm2 := Lib.hid (show maskV 0 p = ((maskN (b + 1) : Nat) : Int) from hm.out)
        clear hm
        go_wp2
        go_loop [8, 9] (fun n i => ∃ k : Nat, b + 1 ≤ k ∧ k ≤ 8 ∧ i = .int .i64 k ∧ n = .int .i64 ((maskUp (b + 1) k : Nat) : Int)) (fun _ i => 8 - (intOf i).toNat)
        case atStart => exact ⟨b + 1, by omega, by omega, by go_num, by simp [maskUp]⟩
        case round =>
          obtain ⟨k, h3, h8, rfl, rfl⟩ := hrel
          by_cases hlt : k ≤ 7
          · obtain ⟨hp0, hp1⟩ := pow_i hlt
            have hl := maskUp_lt (f := b + 1) hlt
            go_wp2
            go_round
            case rel => exact ⟨k + 1, by omega, by omega, by go_num, mask_int h3⟩
            case measure => simp [intOf]; omega
          · have : k = 8 := by omega
            subst this
            go_wp2
            go_ret
            exact ⟨ret_int hm2.out.symm, rfl⟩
      · have hq : (g == 0) = false := by simp [hg]
        by_cases h0 : b = 0
        · subst h0
          have hm2 := Lib.hid (show maskV g p = ((maskN 1 : Nat) : Int) by rw [hm.out, if_neg hg]; rfl)
          clear hm hg
          go_wp2
          go_loop [8, 9] (fun n i => ∃ k : Nat, 1 ≤ k ∧ k ≤ 8 ∧ i = .int .i64 k ∧ n = .int .i64 ((maskUp 1 k : Nat) : Int)) (fun _ i => 8 - (intOf i).toNat)
          case atStart => exact ⟨1, by omega, by omega, by go_num, by simp [maskUp]⟩
          case round =>
            obtain ⟨k, h3, h8, rfl, rfl⟩ := hrel
            by_cases hlt : k ≤ 7
            · obtain ⟨hp0, hp1⟩ := pow_i hlt
              have hl := maskUp_lt (f := 1) hlt
              go_wp2
              go_round
              case rel => exact ⟨k + 1, by omega, by omega, by go_num, mask_int h3⟩
              case measure => simp [intOf]; omega
            · have : k = 8 := by omega
              subst this
              go_wp2
              go_ret
              exact ⟨ret_int hm2.out.symm, rfl⟩
        · have hb1 : 1 ≤ b := by omega
          have hm2 := Lib.hid (show maskV g p = ((maskN b : Nat) : Int) by rw [hm.out, if_neg hg, Nat.max_eq_left hb1])
          have hq0 : ((b : Int) == 0) = false := by simp; omega
          clear hm hg h0
          go_wp2
          go_loop [8, 9] (fun n i => ∃ k : Nat, b ≤ k ∧ k ≤ 8 ∧ i = .int .i64 k ∧ n = .int .i64 ((maskUp b k : Nat) : Int)) (fun _ i => 8 - (intOf i).toNat)
          case atStart => exact ⟨b, by omega, by omega, rfl, by simp [maskUp]⟩
          case round =>
            obtain ⟨k, h3, h8, rfl, rfl⟩ := hrel
            by_cases hlt : k ≤ 7
            · obtain ⟨hp0, hp1⟩ := pow_i hlt
              have hl := maskUp_lt (f := b) hlt
              go_wp2
              go_round
              case rel => exact ⟨k + 1, by omega, by omega, by go_num, mask_int h3⟩
              case measure => simp [intOf]; omega
            · have : k = 8 := by omega
              subst this
              go_wp2
              go_ret
              exact ⟨ret_int hm2.out.symm, rfl⟩

end Go.Proofs.Ytnnlimjbmfpalaa
