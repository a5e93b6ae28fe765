/-
  math/bits.TrailingZeros64 (its table laid) and the row's seek, next, gap: the next number on whose bit is set (not set), or 16384.
-/
import Derived.Test.YtmdlknddlmpddaaDoorSetB
import Derived.Lib.TrailingZeros
import Derived.Laws.Bits64b
import Derived.Shelf.Spec.TrailingZeros
namespace Go.Proofs.YtmdlknddlmpddaaDoor
open Go.ChangeShapes Go.WideShapes Go.ChangeAt Go.RowKit
set_option linter.unusedVariables false

/-- The library's table lies in its variable. -/
def TabW (W : World) : Prop := ∀ j, j < Lib.deBruijn64tab.length → W.cell? ⟨0, j, none⟩ = some (.int .u8 (Lib.deBruijn64tab.getD j 0))

set_option maxHeartbeats 1000000 in
theorem tz_core (x k idx : Nat) (w : World) (hx0 : ((x : Int) == 0) = false)
    (key : IntKind.u64.wrap (bits BinOp.and IntKind.u64 (x : Int) (IntKind.u64.wrap (-(x : Int))) * 285870213051353865) / 288230376151711744 = (idx : Int))
    (hi : (idx : Int) < 64) (hcell : w.cell? ⟨0, idx, none⟩ = some (.int .u8 k)) (hk : (k : Int) < 64) :
    Calls Tryd.prog 55 #[.int .u64 (x : Int)] w fun e w' => e = .returned (.int .i64 (k : Int)) ∧ w = w' := by
  go_enter Tryd.func55, Tryd.ntmps55
  go_wp2_with (simp only [key])
  go_ret
  exact ⟨rfl, rfl⟩

theorem tz_any (x : Nat) (w : World) (hT : TabW w) (hx : x < 18446744073709551616) (hx0 : x ≠ 0) :
    Calls Tryd.prog 55 #[.int .u64 (x : Int)] w fun e w' => e = .returned (.int .i64 (Lib.ctz 64 x : Int)) ∧ w = w' := by
  obtain ⟨hlow, hk⟩ := Lib.lowest_bit 64 x hx0 hx
  obtain ⟨hi, htab⟩ := Lib.deBruijn64_at _ hk
  have hcell := hT _ hi
  rw [htab] at hcell
  have hi' : Lib.deBruijn64tab.length = 64 := by decide
  exact tz_core x _ _ w (by simp; omega) (tz64_key x _ hx hx0 hlow) (by omega) hcell (by omega)

theorem ctz_bits (x : Nat) (hx : x < 18446744073709551616) (hx0 : x ≠ 0) : Lib.ctz 64 x < 64 ∧ x.testBit (Lib.ctz 64 x) = true ∧ ∀ j, j < Lib.ctz 64 x → x.testBit j = false := by
  obtain ⟨m, hm, hk⟩ := Lib.ctzFrom_spec 64 x (by omega) hx
  have e : Lib.ctz 64 x = Lib.ctzFrom 64 x := by simp [Lib.ctz, hx0]
  rw [e]
  clear e
  obtain ⟨c, hc⟩ : ∃ c, Lib.ctzFrom 64 x = c := ⟨_, rfl⟩
  rw [hc] at hm hk ⊢
  clear hc
  subst hm
  refine ⟨hk, ?_, fun j hj => ?_⟩
  · rw [Nat.testBit_two_pow_mul]
    simp
  · rw [Nat.testBit_two_pow_mul]
    simp; omega

/-- k is the next number from m on of which p holds, or 16384. -/
def IsNx (p : Nat → Bool) (m k : Nat) : Prop := m ≤ k ∧ k ≤ 16384 ∧ (∀ j, m ≤ j → j < k → p j = false) ∧ (k < 16384 → p k = true)
theorem IsNx.unique {p : Nat → Bool} {m k l : Nat} (h : IsNx p m k) (g : IsNx p m l) : k = l := by
  obtain ⟨h1, h2, h3, h4⟩ := h
  obtain ⟨g1, g2, g3, g4⟩ := g
  rcases Nat.lt_trichotomy k l with x | x | x
  · have a := g3 k h1 x
    have b := h4 (by omega)
    rw [a] at b; cases b
  · exact x
  · have a := h3 l g1 x
    have b := g4 (by omega)
    rw [a] at b; cases b
theorem nx_ex (p : Nat → Bool) : ∀ (n m : Nat), m + n = 16384 → ∃ k, IsNx p m k
  | 0, m, h => ⟨16384, by omega, Nat.le_refl _, fun j h1 h2 => by omega, fun h => by omega⟩
  | n + 1, m, h => by
    cases hp : p m
    · obtain ⟨k, k1, k2, k3, k4⟩ := nx_ex p n (m + 1) (by omega)
      refine ⟨k, by omega, k2, fun j h1 h2 => ?_, k4⟩
      by_cases e : j = m
      · rw [e]; exact hp
      · exact k3 j (by omega) h2
    · exact ⟨m, Nat.le_refl _, by omega, fun j h1 h2 => by omega, fun _ => hp⟩

open Classical in
noncomputable def nx (p : Nat → Bool) (m : Nat) : Nat := if h : ∃ k, IsNx p m k then Classical.choose h else 16384
theorem nx_spec (p : Nat → Bool) {m : Nat} (hm : m ≤ 16384) : IsNx p m (nx p m) := by
  have h := nx_ex p (16384 - m) m (by omega)
  unfold nx
  rw [dif_pos h]
  exact Classical.choose_spec h
theorem IsNx.eq {p : Nat → Bool} {m k : Nat} (h : IsNx p m k) : k = nx p m := h.unique (nx_spec p (Nat.le_trans h.1 h.2.1))

/-- What a word shifted tells: the bits of the numbers from m on, to the word's end. -/
theorem word_bit {x m j : Nat} (h1 : m ≤ j) (h2 : j / 64 = m / 64) : (x / 2 ^ (m % 64)).testBit (j - m) = x.testBit (j % 64) := by
  rw [← Nat.shiftRight_eq_div_pow, Nat.testBit_shiftRight]
  congr 1
  omega
theorem word_zero {x : Nat} (h : x = 0) (j : Nat) : x.testBit j = false := by rw [h]; simp

/-- The row, combined with a mask. -/
def memX (S : Words) (mask : Nat) (m : Nat) : Bool := (S (m / 64) ^^^ mask).testBit (m % 64)

theorem seek_hit {S : Words} {mask m : Nat} (hS : S (m / 64) ^^^ mask < 18446744073709551616) (hm : m < 16384) (h0 : (S (m / 64) ^^^ mask) / 2 ^ (m % 64) ≠ 0) :
    IsNx (memX S mask) m (m + Lib.ctz 64 ((S (m / 64) ^^^ mask) / 2 ^ (m % 64))) := by
  have hlt : (S (m / 64) ^^^ mask) / 2 ^ (m % 64) < 18446744073709551616 := Nat.lt_of_le_of_lt (Nat.div_le_self _ _) hS
  obtain ⟨c1, c2, c3⟩ := ctz_bits _ hlt h0
  obtain ⟨c, hc⟩ : ∃ c, Lib.ctz 64 ((S (m / 64) ^^^ mask) / 2 ^ (m % 64)) = c := ⟨_, rfl⟩
  rw [hc] at c1 c2 c3 ⊢
  have hin : c + m % 64 < 64 := by
    rcases Nat.lt_or_ge (c + m % 64) 64 with h | h
    · exact h
    · rw [← Nat.shiftRight_eq_div_pow, Nat.testBit_shiftRight] at c2
      have : (S (m / 64) ^^^ mask).testBit (m % 64 + c) = false := Nat.testBit_lt_two_pow (Nat.lt_of_lt_of_le hS (Nat.pow_le_pow_right (n := 2) (i := 64) (by omega) (by omega)))
      rw [this] at c2; cases c2
  refine ⟨by omega, by omega, fun j h1 h2 => ?_, fun _ => ?_⟩
  · have e : j / 64 = m / 64 := by omega
    have := c3 (j - m) (by omega)
    rw [word_bit h1 e] at this
    unfold memX; rw [e]; exact this
  · have e : (m + c) / 64 = m / 64 := by omega
    have h := word_bit (x := S (m / 64) ^^^ mask) (show m ≤ m + c by omega) e
    rw [show m + c - m = c by omega, c2] at h
    unfold memX; rw [e]; exact h.symm

theorem seek_miss {S : Words} {mask m : Nat} (h0 : (S (m / 64) ^^^ mask) / 2 ^ (m % 64) = 0) (j : Nat) (h1 : m ≤ j) (h2 : j < m + (64 - m % 64)) : memX S mask j = false := by
  have e : j / 64 = m / 64 := by omega
  have h := word_bit (x := S (m / 64) ^^^ mask) h1 e
  rw [h0] at h
  unfold memX; rw [e, ← h]; simp

theorem xor_lt {x y : Nat} (hx : x < 18446744073709551616) (hy : y < 18446744073709551616) : x ^^^ y < 18446744073709551616 := Nat.xor_lt_two_pow (n := 64) hx hy

set_option maxHeartbeats 1000000 in
theorem seek_far (p : Option Addr) (mask m : Int) (w : World) (hm : 16384 ≤ m) :
    Calls Tryd.prog 54 #[.pointer p, .int .i64 m, .int .u64 mask] w fun e w' => e = .returned (.int .i64 16384) ∧ w = w' := by
  go_enter Tryd.func54, Tryd.ntmps54
  go_wp2
  go_loop [1] (fun i => i = .int .i64 m) (fun _ => 0)
  case atStart => rfl
  case round =>
    obtain rfl := hrel
    go_wp2
    go_ret
    exact ⟨rfl, rfl⟩

set_option maxRecDepth 100000 in
set_option maxHeartbeats 1000000 in
theorem seek_near (T : TypeId) (b : Nat) (S : Words) (mask m r : Nat) (w : World) (hR : RowAt T w b S) (hT : TabW w) (hmask : mask < 18446744073709551616) (hm : m ≤ 16384) (hr : IsNx (memX S mask) m r) :
    Calls Tryd.prog 54 #[.pointer (some ⟨b, 0, none⟩), .int .i64 (m : Int), .int .u64 (mask : Int)] w fun e w' => e = .returned (.int .i64 (r : Int)) ∧ w = w' := by
  have HR := Lib.hid hR
  have HT := Lib.hid hT
  have HM := Lib.hid hmask
  have HX := Lib.hid hr
  clear hR hT hmask hr
  go_enter Tryd.func54, Tryd.ntmps54
  go_wp2
  go_loop [1] (fun i => ∃ k : Nat, m ≤ k ∧ k ≤ 16384 ∧ i = .int .i64 k ∧ Hid (∀ j, m ≤ j → j < k → memX S mask j = false)) (fun i => 16384 - (intOf i).toNat)
  case atStart => exact ⟨m, Nat.le_refl _, hm, rfl, Lib.hid (fun j h1 h2 => by omega)⟩
  case round =>
    obtain ⟨k, hk1, hk2, rfl, HNO⟩ := hrel
    by_cases hlt : k < 16384
    · have hc := HR.out.cell (k / 64) (by omega)
      have hx := xor_lt (HR.out.2 (k / 64)) HM.out
      obtain ⟨x, ex⟩ : ∃ x, S (k / 64) = x := ⟨_, rfl⟩
      obtain ⟨y, ey⟩ : ∃ y, x ^^^ mask = y := ⟨_, rfl⟩
      obtain ⟨z, ez⟩ : ∃ z, y / 2 ^ (k % 64) = z := ⟨_, rfl⟩
      have hxl := HR.out.2 (k / 64)
      have hbx : bits .xor .u64 (x : Int) (mask : Int) = (y : Int) := by
        rw [bits_xor_u64_nat _ _ (by rw [← ex]; exact hxl) HM.out, ey]
      have hbz : (y : Int) / 2 ^ (k % 64) = (z : Int) := by rw [← ez]; simp
      rw [ex] at hc hx
      rw [ey] at hx
      have hzl : z < 18446744073709551616 := by rw [← ez]; exact Nat.lt_of_le_of_lt (Nat.div_le_self _ _) hx
      have hki : (k : Int) < 16384 := by omega
      have hk0 : (0 : Int) ≤ (k : Int) := by omega
      have HK := Lib.hid (And.intro hk1 (And.intro hk2 hlt))
      have EXYZ : Hid ((S (k / 64) ^^^ mask) / 2 ^ (k % 64) = z ∧ S (k / 64) ^^^ mask < 18446744073709551616) := by rw [ex, ey]; exact ⟨ez, hx⟩
      have HZL := Lib.hid hzl
      by_cases hz : z = 0
      · subst hz
        clear hx ex ey ez hxl hzl hk1 hk2 hlt
        go_wp2
        go_round
        case rel =>
          obtain ⟨h1, h2, h3⟩ := HK.out
          exact ⟨k + (64 - k % 64), by omega, by omega, by simp only [Value.int.injEq, true_and]; omega, Lib.hid (fun j g1 g2 => by
            by_cases x : j < k
            · exact HNO.out j g1 x
            · exact seek_miss EXYZ.out.1 j (by omega) g2)⟩
        case measure =>
          obtain ⟨h1, h2, h3⟩ := HK.out
          simp only [intOf]; omega
      · have hzi : ((z : Int) != 0) = true := by simp; omega
        have HZ := Lib.hid hz
        obtain ⟨c, ec⟩ : ∃ c, Lib.ctz 64 z = c := ⟨_, rfl⟩
        have hcl : (c : Int) < 64 := by have := (ctz_bits z hzl hz).1; omega
        have EC := Lib.hid ec
        clear hx ex ey ez hxl hzl hk1 hk2 hlt hz ec
        go_wp2_with (go_at_call 55; refine (tz_any z _ HT.out HZL.out HZ.out).mono ?_; rw [EC.out]; rintro e w' ⟨rfl, rfl⟩)
        obtain ⟨h1, h2, h3⟩ := HK.out
        have hh := seek_hit (S := S) (mask := mask) (m := k) EXYZ.out.2 h3 (by rw [EXYZ.out.1]; exact HZ.out)
        rw [EXYZ.out.1, EC.out] at hh
        obtain ⟨q1, q2, q3, q4⟩ := hh
        have er : r = k + c := IsNx.unique HX.out ⟨by omega, q2, fun j g1 g2 => by
          by_cases x : j < k
          · exact HNO.out j g1 x
          · exact q3 j (by omega) g2, q4⟩
        go_ret
        exact ⟨by rw [er]; rfl, rfl⟩
    · have ek : k = 16384 := by omega
      subst ek
      have er := IsNx.unique HX.out ⟨hm, Nat.le_refl _, HNO.out, fun h => by omega⟩
      subst er
      go_wp2
      go_ret
      exact ⟨rfl, rfl⟩

theorem memX_0 (S : Words) : memX S 0 = memS S := by funext m; simp [memX, memS]
theorem memX_1 (S : Words) (m : Nat) (hS : ∀ i, S i < 18446744073709551616) : memX S 18446744073709551615 m = !memS S m := by
  unfold memX memS
  rw [Nat.testBit_xor, show (18446744073709551615 : Nat) = 2 ^ 64 - 1 from rfl, Nat.testBit_two_pow_sub_one]
  have : m % 64 < 64 := by omega
  simp [this]

set_option maxHeartbeats 400000 in
theorem next_far (p : Option Addr) (m : Int) (w : World) (hm : 16384 ≤ m) :
    Calls Tryd.prog 50 #[.pointer p, .int .i64 m] w fun e w' => e = .returned (.int .i64 16384) ∧ w = w' := by
  go_enter Tryd.func50, Tryd.ntmps50
  go_wp2_with (go_at_call 54; refine (seek_far _ _ _ _ hm).mono ?_; rintro e w' ⟨rfl, rfl⟩)
  go_ret
  exact ⟨rfl, rfl⟩
set_option maxHeartbeats 400000 in
theorem next_near (T : TypeId) (b : Nat) (S : Words) (m r : Nat) (w : World) (hR : RowAt T w b S) (hT : TabW w) (hm : m ≤ 16384) (hr : IsNx (memS S) m r) :
    Calls Tryd.prog 50 #[.pointer (some ⟨b, 0, none⟩), .int .i64 (m : Int)] w fun e w' => e = .returned (.int .i64 (r : Int)) ∧ w = w' := by
  have h := seek_near T b S 0 m r w hR hT (by omega) hm (by rw [memX_0]; exact hr)
  have HH := Lib.hid h
  clear h hR hT hr
  go_enter Tryd.func50, Tryd.ntmps50
  go_wp2_with (go_at_call 54; refine HH.out.mono ?_; rintro e w' ⟨rfl, rfl⟩)
  go_ret
  exact ⟨rfl, rfl⟩
set_option maxHeartbeats 400000 in
theorem gap_near (T : TypeId) (b : Nat) (S : Words) (m r : Nat) (w : World) (hR : RowAt T w b S) (hT : TabW w) (hm : m ≤ 16384) (hr : IsNx (fun j => !memS S j) m r) :
    Calls Tryd.prog 52 #[.pointer (some ⟨b, 0, none⟩), .int .i64 (m : Int)] w fun e w' => e = .returned (.int .i64 (r : Int)) ∧ w = w' := by
  have h := seek_near T b S 18446744073709551615 m r w hR hT (by omega) hm (by rw [show memX S 18446744073709551615 = (fun j => !memS S j) from funext fun j => memX_1 S j hR.2]; exact hr)
  have HH := Lib.hid h
  clear h hR hT hr
  go_enter Tryd.func52, Tryd.ntmps52
  go_wp2_with (go_at_call 54; refine HH.out.mono ?_; rintro e w' ⟨rfl, rfl⟩)
  go_ret
  exact ⟨rfl, rfl⟩

end Go.Proofs.YtmdlknddlmpddaaDoor
