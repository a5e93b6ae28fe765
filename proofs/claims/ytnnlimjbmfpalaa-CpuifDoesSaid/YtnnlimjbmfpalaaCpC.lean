/-
  Package cpuif: Read, Write.
-/
import Derived.Test.YtnnlimjbmfpalaaCpB
namespace Go.Proofs.Ytnnlimjbmfpalaa
open Go.ChangeShapes Go.WideShapes Go.ChangeAt Go.RowKit Go.Shelf
set_option linter.unusedVariables false
attribute [local go_sem] Oper.semAt_some

def flagN (b : Bool) (n : Nat) : Nat := if b then n else 0
def max1 (q : Int) : Int := if q < 1 then 1 else q
def writeC (x : Fc) (r : Int) (v : Nat) : Fc × Bool :=
  if r = 6 then ({ x with m := realV ((v % 256 : Nat) : Int) }, true) else if r = 7 then ({ x with p0 := ((v % 8 : Nat) : Int) }, true) else if r = 8 then ({ x with p1 := max1 ((v % 8 : Nat) : Int) }, true)
  else if r = 9 then ({ x with sp := decide (v / 2 % 2 = 1) }, true) else if r = 10 then ({ x with o0 := decide (v % 2 = 1) }, true) else if r = 11 then ({ x with o1 := decide (v % 2 = 1) }, true) else (x, false)
def readC (x : Fc) (r : Int) : Int × Bool :=
  if r = 6 then (IntKind.u64.wrap x.m, true) else if r = 7 then (IntKind.u64.wrap x.p0, true) else if r = 8 then (IntKind.u64.wrap (max1 x.p1), true)
  else if r = 9 then ((flagN x.sp 2 : Nat), true) else if r = 10 then ((flagN x.o0 1 : Nat), true) else if r = 11 then ((flagN x.o1 1 : Nat), true) else if r = 12 then (IntKind.u64.wrap (runV x.r).1, true) else (0, false)
theorem flag_any (b : Bool) (n : Nat) (w : World) : Calls Try.prog 35 #[.bool b, .int .u64 n] w fun e w' => e = .returned (.int .u64 (flagN b n : Nat)) ∧ w = w' := by
  unfold flagN
  cases b
  all_goals
    go_enter Try.func35, Try.ntmps35
    go_wp2
    go_ret
    exact ⟨rfl, rfl⟩
theorem u64_mask (v : Nat) (hv : v < 18446744073709551616) (k : Nat) (hk : k ≤ 8) : bits .and .u64 (v : Int) ((2 ^ k - 1 : Nat) : Int) = ((v % 2 ^ k : Nat) : Int) := by
  have h2 : 2 ^ k ≤ 256 := Nat.pow_le_pow_right (n := 2) (by decide) hk
  rw [u64_and_nat _ _ hv (by omega), Nat.and_two_pow_sub_one_eq_mod]
theorem u64_one (v : Nat) (hv : v < 18446744073709551616) : (bits .and .u64 (v : Int) 1 != 0) = decide (v % 2 = 1) := by
  have h := u64_mask v hv 1 (by decide)
  rw [show ((2 ^ 1 - 1 : Nat) : Int) = 1 from rfl] at h
  rw [h]
  rcases Nat.mod_two_eq_zero_or_one v with e | e <;> simp [e]
theorem and_two (v : Nat) : v &&& 2 = v / 2 % 2 * 2 := by
  apply Nat.eq_of_testBit_eq
  intro i
  rw [Nat.testBit_and, show (2 : Nat) = 2 ^ 1 from rfl, Nat.testBit_two_pow, Nat.testBit_mul_two_pow]
  by_cases h : i = 1
  · subst h
    simp [Nat.testBit, Nat.shiftRight_succ]
  · have h1 : decide (1 = i) = false := by simp; omega
    rw [h1, Bool.and_false]
    by_cases h2 : 1 ≤ i
    · have h3 : (v / 2 % 2).testBit (i - 1) = false := Nat.testBit_lt_two_pow (Nat.lt_of_lt_of_le (Nat.mod_lt _ (by decide)) (show 2 ^ 1 ≤ 2 ^ (i - 1) from Nat.pow_le_pow_right (by decide) (by omega)))
      simp [h3]
    · simp [h2]
theorem u64_two (v : Nat) (hv : v < 18446744073709551616) : (bits .and .u64 (v : Int) 2 != 0) = decide (v / 2 % 2 = 1) := by
  rw [show (2 : Int) = ((2 : Nat) : Int) from rfl, u64_and_nat _ _ hv (by decide), and_two]
  rcases Nat.mod_two_eq_zero_or_one (v / 2) with e | e <;> simp [e]
theorem regs_cases (r : Int) : r = 6 ∨ r = 7 ∨ r = 8 ∨ r = 9 ∨ r = 10 ∨ r = 11 ∨ r = 12 ∨ (r ≠ 6 ∧ r ≠ 7 ∧ r ≠ 8 ∧ r ≠ 9 ∧ r ≠ 10 ∧ r ≠ 11 ∧ r ≠ 12) := by omega
theorem CB.after {W : World} {b o : Nat} {x y : Fc} {v : Value} (h : CB W b 29 x.cs) (e : x.cs.setIfInBounds o v = y.cs) : FcAf W b y (W.setCell ⟨b, o, none⟩ v) := by
  refine ⟨?_, Kept.set (bs := (· = b)) (Kept.refl _ _) _ _ rfl⟩
  have := h.set o v
  rw [e] at this
  exact this
set_option maxHeartbeats 4000000 in
theorem write_any (b : Nat) (x : Fc) (rg : Int) (v : Nat) (hv : v < 18446744073709551616) (w : World) (h : CB w b 29 x.cs) :
    Calls Try.prog 30 #[.pointer (some ⟨b, 0, none⟩), .int .i64 rg, .int .u64 v] w fun e w' => e = .returned (.bool (writeC x rg v).2) ∧ FcAf w b (writeC x rg v).1 w' := by
  have HR := hi (fun p W => real_any p W)
  have hA := fun (o : Nat) (u : Value) (y : Fc) (e : x.cs.setIfInBounds o u = y.cs) => CB.after h e
  have HA := hi hA
  have H0 := hi (show FcAf w b x w from ⟨h, Kept.refl _ _⟩)
  obtain ⟨m, p0, p1, o0, o1, sp, r⟩ := x
  unfold writeC
  have f0 := h.cell 0
  have f1 := h.cell 1
  have f2 := h.cell 2
  have f3 := h.cell 3
  have f4 := h.cell 4
  have f5 := h.cell 5
  have ff := h.frozen
  have m8 := u64_mask v hv 8 (by decide)
  have m3 := u64_mask v hv 3 (by decide)
  rw [show ((2 ^ 8 - 1 : Nat) : Int) = 255 from rfl, show (2 : Nat) ^ 8 = 256 from rfl] at m8
  rw [show ((2 ^ 3 - 1 : Nat) : Int) = 7 from rfl, show (2 : Nat) ^ 3 = 8 from rfl] at m3
  have m1 := u64_one v hv
  have m2 := u64_two v hv
  clear hA h
  rcases regs_cases rg with rfl | rfl | rfl | rfl | rfl | rfl | rfl | hn
  · rw [if_pos rfl]
    obtain ⟨q, hq⟩ : ∃ q, v % 256 = q := ⟨_, rfl⟩
    have hq2 : q < 256 := by omega
    rw [hq] at m8 ⊢
    have hw : IntKind.i64.wrap (q : Int) = q := by rw [IntKind.wrap_i64]; omega
    clear m1 m2 m3
    go_enter Try.func30, Try.ntmps30
    go_wp2_with (go_at_call 50; ((with_reducible refine (HR.out _ _).mono ?_); rintro e w1 ⟨rfl, rfl⟩))
    go_ret
    exact ⟨rfl, HA.out 0 _ _ rfl⟩
  · rw [if_neg (by decide), if_pos rfl]
    obtain ⟨q, hq⟩ : ∃ q, v % 8 = q := ⟨_, rfl⟩
    have hq2 : q < 8 := by omega
    rw [hq] at m3 ⊢
    have hw : IntKind.i64.wrap (q : Int) = q := by rw [IntKind.wrap_i64]; omega
    clear m1 m2 m8
    go_enter Try.func30, Try.ntmps30
    go_wp2
    go_ret
    exact ⟨rfl, HA.out 1 _ _ rfl⟩
  · rw [if_neg (by decide), if_neg (by decide), if_pos rfl]
    obtain ⟨q, hq⟩ : ∃ q, v % 8 = q := ⟨_, rfl⟩
    have hq2 : q < 8 := by omega
    rw [hq] at m3 ⊢
    clear m1 m2 m8
    rcases (show q = 0 ∨ q = 1 ∨ 2 ≤ q by omega) with rfl | rfl | h2
    · go_enter Try.func30, Try.ntmps30
      go_wp2
      go_ret
      exact ⟨rfl, HA.out 2 _ _ rfl⟩
    · go_enter Try.func30, Try.ntmps30
      go_wp2
      go_ret
      exact ⟨rfl, HA.out 2 _ _ rfl⟩
    · have hw : IntKind.i64.wrap (q : Int) = q := by rw [IntKind.wrap_i64]; omega
      have d1 : (1 : Int) < q := by omega
      have d2 : ¬ (q : Int) < 1 := by omega
      have hx : max1 (q : Int) = q := by unfold max1; rw [if_neg d2]
      rw [hx]
      go_enter Try.func30, Try.ntmps30
      go_wp2
      go_ret
      exact ⟨rfl, HA.out 2 _ _ rfl⟩
  · rw [if_neg (by decide), if_neg (by decide), if_neg (by decide), if_pos rfl]
    obtain ⟨q, hq⟩ : ∃ q, decide (v / 2 % 2 = 1) = q := ⟨_, rfl⟩
    rw [hq] at m2 ⊢
    clear m1 m3 m8
    go_enter Try.func30, Try.ntmps30
    go_wp2
    go_ret
    exact ⟨rfl, HA.out 5 _ _ rfl⟩
  · rw [if_neg (by decide), if_neg (by decide), if_neg (by decide), if_neg (by decide), if_pos rfl]
    obtain ⟨q, hq⟩ : ∃ q, decide (v % 2 = 1) = q := ⟨_, rfl⟩
    rw [hq] at m1 ⊢
    clear m2 m3 m8
    go_enter Try.func30, Try.ntmps30
    go_wp2
    go_ret
    exact ⟨rfl, HA.out 3 _ _ rfl⟩
  · rw [if_neg (by decide), if_neg (by decide), if_neg (by decide), if_neg (by decide), if_neg (by decide), if_pos rfl]
    obtain ⟨q, hq⟩ : ∃ q, decide (v % 2 = 1) = q := ⟨_, rfl⟩
    rw [hq] at m1 ⊢
    clear m2 m3 m8
    go_enter Try.func30, Try.ntmps30
    go_wp2
    go_ret
    exact ⟨rfl, HA.out 4 _ _ rfl⟩
  · rw [if_neg (by decide), if_neg (by decide), if_neg (by decide), if_neg (by decide), if_neg (by decide), if_neg (by decide)]
    go_enter Try.func30, Try.ntmps30
    go_wp2
    go_ret
    exact ⟨rfl, H0.out⟩
  · obtain ⟨n6, n7, n8, n9, n10, n11, n12⟩ := hn
    rw [if_neg n6, if_neg n7, if_neg n8, if_neg n9, if_neg n10, if_neg n11]
    have e6 : (rg == 6) = false := by simpa using n6
    have e7 : (rg == 7) = false := by simpa using n7
    have e8 : (rg == 8) = false := by simpa using n8
    have e9 : (rg == 9) = false := by simpa using n9
    have e10 : (rg == 10) = false := by simpa using n10
    have e11 : (rg == 11) = false := by simpa using n11
    go_enter Try.func30, Try.ntmps30
    go_wp2
    go_ret
    exact ⟨rfl, H0.out⟩
set_option maxHeartbeats 4000000 in
theorem read_any (x : Fc) (rg : Int) (w : World) :
    Calls Try.prog 12 #[x.v, .int .i64 rg] w fun e w' => e = .returned (.tuple #[.int .u64 (readC x rg).1, .bool (readC x rg).2]) ∧ Below w.heap.size w w' := by
  have HR := hi (fun W => ifrun_any x W)
  have HG := hi (fun b n W => flag_any b n W)
  obtain ⟨m, p0, p1, o0, o1, sp, r⟩ := x
  unfold readC
  dsimp only at HR ⊢
  have HB0 := hi (bal w (.cells #[.int .i64 m, .int .i64 p0, .int .i64 p1, .bool o0, .bool o1, .bool sp, .int .u32 (wd r 0), .int .u32 (wd r 1)] 29))
  have h := CB.new w 29 #[.int .i64 m, .int .i64 p0, .int .i64 p1, .bool o0, .bool o1, .bool sp, .int .u32 (wd r 0), .int .u32 (wd r 1)]
  have HF := hi h
  have f0 := h.cell 0
  have f1 := h.cell 1
  have f2 := h.cell 2
  have f3 := h.cell 3
  have f4 := h.cell 4
  have f5 := h.cell 5
  have f6 := h.cell 6
  have f7 := h.cell 7
  clear h
  rcases regs_cases rg with rfl | rfl | rfl | rfl | rfl | rfl | rfl | hn
  · rw [if_pos rfl]
    go_enter Try.func12, Try.ntmps12
    go_wp2
    go_ret2
    exact ⟨rfl, HB0.out⟩
  · rw [if_neg (by decide), if_pos rfl]
    go_enter Try.func12, Try.ntmps12
    go_wp2
    go_ret2
    exact ⟨rfl, HB0.out⟩
  · rw [if_neg (by decide), if_neg (by decide), if_pos rfl]
    rcases (show p1 < 1 ∨ p1 = 1 ∨ 1 < p1 by omega) with h1 | rfl | h1
    · have hx : max1 p1 = 1 := by unfold max1; rw [if_pos h1]
      have d1 : ¬ 1 < p1 := by omega
      rw [hx]
      go_enter Try.func12, Try.ntmps12
      go_wp2
      go_ret2
      exact ⟨rfl, HB0.out⟩
    ·
      go_enter Try.func12, Try.ntmps12
      go_wp2
      go_ret2
      exact ⟨rfl, HB0.out⟩
    · have d1 : ¬ p1 < 1 := by omega
      have hx : max1 p1 = p1 := by unfold max1; rw [if_neg d1]
      rw [hx]
      go_enter Try.func12, Try.ntmps12
      go_wp2
      go_ret2
      exact ⟨rfl, HB0.out⟩
  · rw [if_neg (by decide), if_neg (by decide), if_neg (by decide), if_pos rfl]
    have HG := hi (fun W => show Calls Try.prog 35 #[.bool sp, .int .u64 2] W fun e w' => e = .returned (.int .u64 (flagN sp 2 : Nat)) ∧ W = w' from HG.out sp 2 W)
    go_enter Try.func12, Try.ntmps12
    go_wp2_with (go_at_call 35; ((with_reducible refine (HG.out _).mono ?_); rintro e w1 ⟨rfl, rfl⟩))
    go_ret2
    exact ⟨rfl, HB0.out⟩
  · rw [if_neg (by decide), if_neg (by decide), if_neg (by decide), if_neg (by decide), if_pos rfl]
    have HG := hi (fun W => show Calls Try.prog 35 #[.bool o0, .int .u64 1] W fun e w' => e = .returned (.int .u64 (flagN o0 1 : Nat)) ∧ W = w' from HG.out o0 1 W)
    go_enter Try.func12, Try.ntmps12
    go_wp2_with (go_at_call 35; ((with_reducible refine (HG.out _).mono ?_); rintro e w1 ⟨rfl, rfl⟩))
    go_ret2
    exact ⟨rfl, HB0.out⟩
  · rw [if_neg (by decide), if_neg (by decide), if_neg (by decide), if_neg (by decide), if_neg (by decide), if_pos rfl]
    have HG := hi (fun W => show Calls Try.prog 35 #[.bool o1, .int .u64 1] W fun e w' => e = .returned (.int .u64 (flagN o1 1 : Nat)) ∧ W = w' from HG.out o1 1 W)
    go_enter Try.func12, Try.ntmps12
    go_wp2_with (go_at_call 35; ((with_reducible refine (HG.out _).mono ?_); rintro e w1 ⟨rfl, rfl⟩))
    go_ret2
    exact ⟨rfl, HB0.out⟩
  · rw [if_neg (by decide), if_neg (by decide), if_neg (by decide), if_neg (by decide), if_neg (by decide), if_neg (by decide), if_pos rfl]
    go_enter Try.func12, Try.ntmps12
    go_wp2_with (go_at_call 28; ((with_reducible refine (HR.out _).mono ?_); rintro e w1 ⟨rfl, hb⟩; have HB1 := hi (HB0.out.trans (hb.mono HB0.out.size)); clear hb))
    go_ret2
    exact ⟨rfl, HB1.out⟩
  · obtain ⟨n6, n7, n8, n9, n10, n11, n12⟩ := hn
    rw [if_neg n6, if_neg n7, if_neg n8, if_neg n9, if_neg n10, if_neg n11, if_neg n12]
    have e6 : (rg == 6) = false := by simpa using n6
    have e7 : (rg == 7) = false := by simpa using n7
    have e8 : (rg == 8) = false := by simpa using n8
    have e9 : (rg == 9) = false := by simpa using n9
    have e10 : (rg == 10) = false := by simpa using n10
    have e11 : (rg == 11) = false := by simpa using n11
    have e12 : (rg == 12) = false := by simpa using n12
    go_enter Try.func12, Try.ntmps12
    go_wp2
    go_ret2
    exact ⟨rfl, HB0.out⟩

end Go.Proofs.Ytnnlimjbmfpalaa
