/-
  math/bits.Len64 at every word, and the set's Most.
-/
import Derived.Test.YtmdlknddlmpddaaDoorSetD
import Derived.Test.YtmdlknddlmpddaaDoorHi
import Derived.Lib.BitFns
import Derived.Lib.ItoaNum
import Derived.Deep.Light
namespace Go.Proofs.YtmdlknddlmpddaaDoor
open Go.ChangeShapes Go.WideShapes Go.ChangeAt Go.RowKit
set_option linter.unusedVariables false

theorem tab_size : (Lib.len8tab.size : Int) = 256 := by rw [Lib.len8tab_size]; rfl
theorem tab_at (y : Int) (h : y.toNat < Lib.len8tab.size) (h0 : 0 ≤ y) (h1 : y ≤ 255) : ((Lib.len8tab[y.toNat]'h).toNat : Int) = (Lib.bitLen y.toNat : Int) := by
  rw [← Lib.len8_of y h0 h1, Lib.len8, getElem?_pos Lib.len8tab y.toNat h]
  rfl
theorem add_small (k a : Nat) (hk : k ≤ 56) (ha : a ≤ 8) : RowKit.wrap64 ((k : Int) + RowKit.wrap64 (a : Int)) = ((k + a : Nat) : Int) := by
  unfold RowKit.wrap64
  omega
theorem way (y : Int) (k : Nat) (n : Nat) (hk : k ≤ 56) (h : y.toNat < Lib.len8tab.size) (h0 : 0 ≤ y) (h1 : y ≤ 255) (hn : Lib.bitLen n = k + Lib.bitLen y.toNat) :
    RowKit.wrap64 ((k : Int) + RowKit.wrap64 ((Lib.len8tab[y.toNat]'h).toNat : Int)) = (Lib.bitLen n : Int) := by
  rw [tab_at y h h0 h1, add_small k _ hk (Lib.bitLen_le8' y h0 h1), hn]
theorem way0 (y : Int) (h : y.toNat < Lib.len8tab.size) (h0 : 0 ≤ y) (h1 : y ≤ 255) :
    RowKit.wrap64 (RowKit.wrap64 ((Lib.len8tab[y.toNat]'h).toNat : Int)) = (Lib.bitLen y.toNat : Int) := by
  have hb := Lib.bitLen_le8' y h0 h1
  rw [tab_at y h h0 h1]
  unfold RowKit.wrap64
  omega

set_option maxRecDepth 100000 in
set_option maxHeartbeats 4000000 in
theorem len64_int (x : Int) (w : World) (h0 : 0 ≤ x) (h1 : x ≤ 18446744073709551615) :
    Calls Tryd.prog 53 #[.int .u64 x] w fun e w' => e = .returned (.int .i64 (Lib.bitLen x.toNat : Int)) ∧ w = w' := by
  go_enter Tryd.func53, Tryd.ntmps53
  go_wp2
  all_goals first
    | (go_ret; refine ⟨congrArg Ending.returned (congrArg (Value.int IntKind.i64) ?_), rfl⟩; go_light)
    | (exfalso; go_light; have hs := tab_size; omega)
  all_goals first
    | exact way (x / 4294967296 / 65536 / 256) 56 x.toNat (by omega) _ (by omega) (by omega) (by rw [Lib.bitLen_shift56 x.toNat (by omega) (by omega), show (x / 4294967296 / 65536 / 256).toNat = x.toNat / 72057594037927936 by omega])
    | exact way (x / 4294967296 / 65536) 48 x.toNat (by omega) _ (by omega) (by omega) (by rw [Lib.bitLen_shift48 x.toNat (by omega) (by omega), show (x / 4294967296 / 65536).toNat = x.toNat / 281474976710656 by omega])
    | exact way (x / 4294967296 / 256) 40 x.toNat (by omega) _ (by omega) (by omega) (by rw [Lib.bitLen_shift40 x.toNat (by omega) (by omega), show (x / 4294967296 / 256).toNat = x.toNat / 1099511627776 by omega])
    | exact way (x / 4294967296) 32 x.toNat (by omega) _ (by omega) (by omega) (by rw [Lib.bitLen_shift32 x.toNat (by omega) (by omega), show (x / 4294967296).toNat = x.toNat / 4294967296 by omega])
    | exact way (x / 65536 / 256) 24 x.toNat (by omega) _ (by omega) (by omega) (by rw [Lib.bitLen_shift24 x.toNat (by omega) (by omega), show (x / 65536 / 256).toNat = x.toNat / 16777216 by omega])
    | exact way (x / 65536) 16 x.toNat (by omega) _ (by omega) (by omega) (by rw [Lib.bitLen_shift16 x.toNat (by omega) (by omega), show (x / 65536).toNat = x.toNat / 65536 by omega])
    | exact way (x / 256) 8 x.toNat (by omega) _ (by omega) (by omega) (by rw [Lib.bitLen_shift8 x.toNat (by omega) (by omega), show (x / 256).toNat = x.toNat / 256 by omega])
    | exact way0 x _ (by omega) (by omega)

theorem len64_is (x n : Nat) (w : World) (hx : x < 18446744073709551616) (e : Lib.bitLen x = n) :
    Calls Tryd.prog 53 #[.int .u64 (x : Int)] w fun e w' => e = .returned (.int .i64 (n : Int)) ∧ w = w' := by
  have h := len64_int (x : Int) w (by omega) (by omega)
  rw [Int.toNat_natCast, e] at h
  exact h

theorem top_bit {x t : Nat} (hx : x < 18446744073709551616) (h1 : x.testBit t = true) (h2 : ∀ i, t < i → i < 64 → x.testBit i = false) : Lib.bitLen x = t + 1 := by
  have ht : t < 64 := by
    rcases Nat.lt_or_ge t 64 with z | z
    · exact z
    · have : x.testBit t = false := Nat.testBit_lt_two_pow (Nat.lt_of_lt_of_le hx (Nat.pow_le_pow_right (n := 2) (i := 64) (by omega) z))
      rw [h1] at this; cases this
  have hge : 2 ^ t ≤ x := Nat.ge_two_pow_of_testBit h1
  have hlt : x < 2 ^ (t + 1) := Nat.lt_pow_two_of_testBit x (fun i hi => by
    by_cases c : i < 64
    · exact h2 i (by omega) c
    · exact Nat.testBit_lt_two_pow (Nat.lt_of_lt_of_le hx (Nat.pow_le_pow_right (n := 2) (i := 64) (by omega) (by omega))))
  have hx0 : x ≠ 0 := fun e => by rw [e] at h1; simp at h1
  obtain ⟨b1, b2, b3⟩ := Lib.bitLenAux_bounds 64 x hx hx0
  have e : Lib.bitLenAux 64 x = Lib.bitLen x := rfl
  rw [e] at b1 b2 b3
  have c1 : t < Lib.bitLen x := (Nat.pow_lt_pow_iff_right (by omega : 1 < 2)).1 (Nat.lt_of_le_of_lt hge b3)
  have c2 : Lib.bitLen x - 1 < t + 1 := (Nat.pow_lt_pow_iff_right (by omega : 1 < 2)).1 (Nat.lt_of_le_of_lt b2 hlt)
  omega

/-- r is the greatest member. -/
def IsTop (S : Words) (r : Nat) : Prop := r < 16384 ∧ memS S r = true ∧ ∀ j, r < j → j < 16384 → memS S j = false
theorem word_zero_of {S : Words} (hS : ∀ i, S i < 18446744073709551616) {q : Nat} (h : ∀ j, j / 64 = q → memS S j = false) : S q = 0 := by
  apply Nat.eq_of_testBit_eq
  intro i
  rw [Nat.zero_testBit]
  by_cases c : i < 64
  · have := h (64 * q + i) (by omega)
    unfold memS at this
    rwa [show (64 * q + i) / 64 = q by omega, show (64 * q + i) % 64 = i by omega] at this
  · exact Nat.testBit_lt_two_pow (Nat.lt_of_lt_of_le (hS q) (Nat.pow_le_pow_right (n := 2) (i := 64) (by omega) (by omega)))

set_option maxRecDepth 100000 in
set_option maxHeartbeats 1000000 in
theorem most_none (b : Nat) (S : Words) (w : World) (hR : RowAt 58 w b S) (h0 : ∀ i, i < 256 → S i = 0) :
    Calls Tryd.prog 39 #[.pointer (some ⟨b, 0, none⟩)] w fun e w' => e = .returned (.tuple #[.int .i64 0, .bool false]) ∧ w = w' := by
  have HR := hi hR
  have H0 := hi h0
  clear hR h0
  go_enter Tryd.func39, Tryd.ntmps39
  go_wp2
  go_loop [4] (fun i => ∃ k : Nat, k ≤ 256 ∧ i = .int .i64 ((k : Int) - 1)) (fun i => (intOf i + 1).toNat)
  case atStart => exact ⟨256, Nat.le_refl _, rfl⟩
  case round =>
    obtain ⟨k, hk, rfl⟩ := hrel
    rcases Nat.eq_zero_or_pos k with h | h
    · subst h
      rw [show ((0 : Nat) : Int) - 1 = -1 from rfl]
      go_wp2
      go_ret2
      exact ⟨rfl, rfl⟩
    · obtain ⟨q, rfl⟩ : ∃ q, k = q + 1 := ⟨k - 1, by omega⟩
      rw [show ((q + 1 : Nat) : Int) - 1 = (q : Int) by omega]
      have hc := HR.out.cell q (by omega)
      have hc0 := HR.out.cell 0 (by omega)
      rw [H0.out q (by omega)] at hc
      have hqi : (q : Int) < 256 := by omega
      have HK := hi hk
      clear hk h
      go_wp2
      go_round
      case rel => exact ⟨q, by have := HK.out; omega, rfl⟩
      case measure => simp only [intOf]; omega

set_option maxRecDepth 100000 in
set_option maxHeartbeats 1000000 in
theorem most_some (b : Nat) (S : Words) (r : Nat) (w : World) (hR : RowAt 58 w b S) (hr : IsTop S r) :
    Calls Tryd.prog 39 #[.pointer (some ⟨b, 0, none⟩)] w fun e w' => e = .returned (.tuple #[.int .i64 (r : Int), .bool true]) ∧ w = w' := by
  obtain ⟨hr1, hr2, hr3⟩ := hr
  obtain ⟨x, ex⟩ : ∃ x, S (r / 64) = x := ⟨_, rfl⟩
  have hx := hR.2 (r / 64)
  have hbl : Lib.bitLen x = r % 64 + 1 := top_bit (by rw [← ex]; exact hx) (by rw [← ex]; exact hr2) (fun i h1 h2 => by
    have := hr3 (64 * (r / 64) + i) (by omega) (by omega)
    unfold memS at this
    rwa [show (64 * (r / 64) + i) / 64 = r / 64 by omega, show (64 * (r / 64) + i) % 64 = i by omega, ex] at this)
  have hx0 : x ≠ 0 := fun e => by
    have h := hr2
    unfold memS at h
    rw [ex, e] at h
    simp at h
  have hz : ∀ q, r / 64 < q → q < 256 → S q = 0 := fun q h1 h2 => word_zero_of hR.2 (fun j hj => hr3 j (by omega) (by omega))
  rw [ex] at hx
  have HR := hi hR
  have HZ := hi hz
  have HBL := hi hbl
  have HX := hi hx
  have EX := hi ex
  have hxn : ((x : Int) != 0) = true := by simp; omega
  clear hR hr2 hr3 hz hbl hx ex hx0
  go_enter Tryd.func39, Tryd.ntmps39
  go_wp2
  go_loop [4] (fun i => ∃ k : Nat, k ≤ 255 ∧ r / 64 ≤ k ∧ i = .int .i64 (k : Int)) (fun i => (intOf i).toNat)
  case atStart => exact ⟨255, Nat.le_refl _, by omega, rfl⟩
  case round =>
    obtain ⟨k, hk, hk2, rfl⟩ := hrel
    have hc := HR.out.cell k (by omega)
    have hc0 := HR.out.cell 0 (by omega)
    have hqi : (k : Int) < 256 := by omega
    have HK := hi hk
    have HK2 := hi hk2
    by_cases h : k = r / 64
    · subst h
      rw [EX.out] at hc
      have hr64 : ((r / 64 : Nat) : Int) ≤ 255 := by omega
      have hm : (((r % 64 + 1 : Nat)) : Int) ≤ 64 := by omega
      obtain ⟨n, en⟩ : ∃ n, r % 64 + 1 = n := ⟨_, rfl⟩
      obtain ⟨q, eq⟩ : ∃ q, r / 64 = q := ⟨_, rfl⟩
      have HN := hi en
      have HQ := hi eq
      rw [en] at hm
      rw [eq] at hc hqi hr64 ⊢
      clear en eq hk hk2
      go_wp2_with (go_at_call 53; ((with_reducible refine (len64_is x n _ HX.out (by rw [HBL.out, HN.out])).mono ?_); rintro e w' ⟨rfl, rfl⟩))
      go_ret2
      refine ⟨?_, rfl⟩
      have h1 := HN.out
      have h2 := HQ.out
      have : (q : Int) * 64 + (n : Int) - 1 = (r : Int) := by omega
      simp [this]
    · rw [HZ.out k (by omega) (by omega)] at hc
      have hk3 : r / 64 < k := by omega
      have HK3 := hi hk3
      have h1k : 1 ≤ (k : Int) := by omega
      clear hk hk2 h hk3
      go_wp2
      go_round
      case rel => exact ⟨k - 1, by have := HK.out; omega, by have := HK3.out; omega, by simp only [Value.int.injEq, true_and]; omega⟩
      case measure => simp only [intOf]; omega

end Go.Proofs.YtmdlknddlmpddaaDoor
