/-
  Package bus: wrong, after, multiple, byBase; the document's Right; May, the program's and the document's.
-/
import Derived.Test.YtcdfkdlddmkhmaaGnd
namespace Go.Proofs.Ytcdfkdlddmkhmaa
open Go.ChangeShapes Go.WideShapes Go.ChangeAt Go.RowKit
set_option linter.unusedVariables false

set_option maxHeartbeats 1000000 in
theorem wrong_any (x : Sp) (w : World) (hx : x.Fair) :
    Calls Try.prog 23 #[x.v] w fun e w' => e = .returned (.bool (!okB x)) ∧ w' = w.alloc (.cells #[.int .i64 x.b, .int .i64 x.s, .int .i64 x.k, .int .i64 x.i] 33) := by
  obtain ⟨b, s, k, i⟩ := x
  obtain ⟨b0, b1, s0, s1, k0, k1, i0, i1⟩ := hx
  dsimp only at b0 b1 s0 s1 k0 k1 i0 i1
  show Calls Try.prog 23 #[.agg #[.int .i64 b, .int .i64 s, .int .i64 k, .int .i64 i]] w _
  go_enter Try.func23, Try.ntmps23
  go_wp2
  all_goals go_ret
  all_goals (refine ⟨?_, rfl⟩)
  all_goals (refine congrArg (fun b => Ending.returned (.bool b)) ?_; rw [Bool.eq_iff_iff]; simp [okB]; omega)

set_option maxHeartbeats 1000000 in
theorem right_any (x : Sp) (w : World) (hx : x.Fair) :
    Calls Try.prog 28 #[x.v] w fun e w' => e = .returned (.bool (okB x)) ∧ w' = w.alloc (.cells #[.int .i64 x.b, .int .i64 x.s, .int .i64 x.k, .int .i64 x.i] 33) := by
  obtain ⟨b, s, k, i⟩ := x
  obtain ⟨b0, b1, s0, s1, k0, k1, i0, i1⟩ := hx
  dsimp only at b0 b1 s0 s1 k0 k1 i0 i1
  show Calls Try.prog 28 #[.agg #[.int .i64 b, .int .i64 s, .int .i64 k, .int .i64 i]] w _
  go_enter Try.func28, Try.ntmps28
  go_wp2
  all_goals go_ret
  all_goals (refine ⟨?_, rfl⟩)
  all_goals (refine congrArg (fun b => Ending.returned (.bool b)) ?_; rw [Bool.eq_iff_iff]; simp [okB]; omega)

theorem after_any (x : Sp) (w : World) (hx : x.Ok) :
    Calls Try.prog 27 #[x.v] w fun e w' => e = .returned (.int .i64 (x.b + x.s)) ∧ w' = w.alloc (.cells #[.int .i64 x.b, .int .i64 x.s, .int .i64 x.k, .int .i64 x.i] 33) := by
  obtain ⟨b, s, k, i⟩ := x
  obtain ⟨s1, b0, e1, k1, k4, i0⟩ := hx
  dsimp only at s1 b0 e1 k1 k4 i0
  show Calls Try.prog 27 #[.agg #[.int .i64 b, .int .i64 s, .int .i64 k, .int .i64 i]] w _
  go_enter Try.func27, Try.ntmps27
  go_wp2
  go_ret
  exact ⟨rfl, rfl⟩

/-- The least multiple of s that is a at least. -/
def mulUp (a s : Int) : Int := (a + s - 1) / s * s
theorem mulUp_spec {a s : Int} (ha : 0 ≤ a) (hs : 1 ≤ s) : ∃ q : Int, mulUp a s = q * s ∧ a ≤ mulUp a s ∧ mulUp a s < a + s := by
  refine ⟨(a + s - 1) / s, rfl, ?_, ?_⟩
  all_goals
    unfold mulUp
    have h1 := Int.emod_add_mul_ediv (a + s - 1) s
    have h2 := Int.emod_nonneg (a + s - 1) (show s ≠ 0 by omega)
    have h3 := Int.emod_lt_of_pos (a + s - 1) (show 0 < s by omega)
    rw [Int.mul_comm] at h1
    omega
theorem mulUp_mod {a s : Int} (ha : 0 ≤ a) (hs : 1 ≤ s) : mulUp a s = if a % s = 0 then a else a + s - a % s := by
  obtain ⟨q, e, h1, h2⟩ := mulUp_spec ha hs
  have m1 := Int.emod_add_mul_ediv a s
  have m2 := Int.emod_nonneg a (show s ≠ 0 by omega)
  have m3 := Int.emod_lt_of_pos a (show 0 < s by omega)
  have key : (q - a / s) * s = mulUp a s - (a - a % s) := by rw [Int.sub_mul, ← e]; rw [Int.mul_comm] at m1; omega
  have lo : 0 ≤ (q - a / s) * s := by omega
  split
  · rename_i h0
    have hlt : (q - a / s) * s < 1 * s := by omega
    have := Int.lt_of_mul_lt_mul_right hlt (by omega)
    have hge : 0 ≤ q - a / s := by
      rcases Int.lt_or_le (q - a / s) 0 with x | x
      · have := Int.mul_lt_mul_of_pos_right x (show 0 < s by omega); omega
      · exact x
    have : q - a / s = 0 := by omega
    rw [this] at key
    omega
  · rename_i h0
    have hlt : (q - a / s) * s < 2 * s := by omega
    have hx := Int.lt_of_mul_lt_mul_right hlt (by omega)
    have hge : 0 < q - a / s := by
      rcases Int.lt_or_le 0 (q - a / s) with x | x
      · exact x
      · have := Int.mul_le_mul_of_nonneg_right x (show 0 ≤ s by omega); omega
    have : q - a / s = 1 := by omega
    rw [this] at key
    omega

set_option maxHeartbeats 1000000 in
theorem multiple_any (a s : Int) (w : World) (ha : 0 ≤ a) (ha1 : a ≤ 1099511627776) (hs : 1 ≤ s) (hs1 : s ≤ 1099511627776) :
    Calls Try.prog 33 #[.int .i64 a, .int .i64 s] w fun e w' => e = .returned (.int .i64 (mulUp a s)) ∧ w = w' := by
  obtain ⟨q, e, h1, h2⟩ := mulUp_spec ha hs
  have hw : IntKind.i64.wrap ((a + s - 1) / s * s) = (a + s - 1) / s * s := by
    rw [IntKind.wrap_i64]; unfold mulUp at h1 h2; omega
  go_enter Try.func33, Try.ntmps33
  go_wp2
  go_ret
  exact ⟨rfl, rfl⟩

/-- cmp.Compare. -/
def cmpI (x y : Int) : Int := if x < y then -1 else if y < x then 1 else 0
theorem isNaN_any (x : Int) (w : World) : Calls Try.prog 43 #[.int .i64 x] w fun e w' => e = .returned (.bool false) ∧ w = w' := by
  go_enter Try.func43, Try.ntmps43
  go_wp2
  go_ret
  exact ⟨by simp, rfl⟩
set_option maxHeartbeats 1000000 in
theorem compare_any (x y : Int) (w : World) : Calls Try.prog 39 #[.int .i64 x, .int .i64 y] w fun e w' => e = .returned (.int .i64 (cmpI x y)) ∧ w = w' := by
  go_enter Try.func39, Try.ntmps39
  go_wp2_with (go_at_call 43; ((with_reducible refine (isNaN_any _ _).mono ?_); rintro e w1 ⟨rfl, rfl⟩))
  all_goals (go_ret; refine ⟨?_, rfl⟩; unfold cmpI; (repeat' split) <;> first | rfl | (exfalso; omega))
set_option maxHeartbeats 1000000 in
theorem byBase_any (x y : Sp) (w : World) :
    Calls Try.prog 26 #[x.v, y.v] w fun e w' => e = .returned (.int .i64 (cmpI x.b y.b)) ∧ w' = (w.alloc (.cells #[.int .i64 x.b, .int .i64 x.s, .int .i64 x.k, .int .i64 x.i] 33)).alloc (.cells #[.int .i64 y.b, .int .i64 y.s, .int .i64 y.k, .int .i64 y.i] 33) := by
  have hcon := fun W => compare_any x.b y.b W
  generalize cmpI x.b y.b = r at hcon ⊢
  show Calls Try.prog 26 #[.agg #[.int .i64 x.b, .int .i64 x.s, .int .i64 x.k, .int .i64 x.i], .agg #[.int .i64 y.b, .int .i64 y.s, .int .i64 y.k, .int .i64 y.i]] w _
  go_enter Try.func26, Try.ntmps26
  go_wp2_with (go_at_call 39; ((with_reducible refine (hcon _).mono ?_); rintro e w1 ⟨rfl, rfl⟩))
  go_ret
  exact ⟨rfl, rfl⟩

/-- What May answers. -/
def mayE (size off width : Int) : Int :=
  if width ≠ 1 ∧ width ≠ 4 ∧ width ≠ 8 then 40 else if off.tmod width ≠ 0 then 41 else if off < 0 ∨ wrap64 (size - width) < off then 42 else 0
theorem mayE40 {size off width : Int} (h1 : width ≠ 1) (h4 : width ≠ 4) (h8 : width ≠ 8) : mayE size off width = 40 := by simp [mayE, h1, h4, h8]
theorem mayE41 {size off width : Int} (h : width = 1 ∨ width = 4 ∨ width = 8) (g : (off.tmod width != 0) = true) : mayE size off width = 41 := by
  have g' : off.tmod width ≠ 0 := by simpa using g
  rcases h with rfl | rfl | rfl <;> simp [mayE, g'] <;> simp at g'
theorem mayE42 {size off width : Int} (h : width = 1 ∨ width = 4 ∨ width = 8) (g : (off.tmod width != 0) = false) (k : off < 0 ∨ wrap64 (size - width) < off) : mayE size off width = 42 := by
  have g' : off.tmod width = 0 := by simpa using g
  rcases h with rfl | rfl | rfl <;> (simp only [mayE, g', k]; simp)
theorem mayE0 {size off width : Int} (h : width = 1 ∨ width = 4 ∨ width = 8) (g : (off.tmod width != 0) = false) (k : 0 ≤ off ∧ off ≤ wrap64 (size - width)) : mayE size off width = 0 := by
  have g' : off.tmod width = 0 := by simpa using g
  have k' : ¬ (off < 0 ∨ wrap64 (size - width) < off) := by omega
  rcases h with rfl | rfl | rfl <;> (simp only [mayE, g', k']; simp)
theorem tmod1 (off : Int) : (off.tmod 1 != 0) = false := by simp

set_option maxHeartbeats 1000000 in
theorem may_1 (size off : Int) (w : World) :
    Calls Try.prog 29 #[.int .i64 size, .int .i64 off, .int .i64 1] w fun e w' => e = .returned (.int .i64 (mayE size off 1)) ∧ w = w' := by
  go_enter Try.func29, Try.ntmps29
  go_wp2
  all_goals go_ret
  all_goals (refine ⟨?_, rfl⟩)
  all_goals (first
    | (rw [mayE41 (by decide) (by first | assumption | exact tmod1 _)]; rfl)
    | (rw [mayE42 (by decide) (by first | assumption | exact tmod1 _) (by first | assumption | (left; assumption))]; rfl)
    | (rw [mayE0 (by decide) (by first | assumption | exact tmod1 _) (by assumption)]; rfl))
set_option maxHeartbeats 1000000 in
theorem may_4 (size off : Int) (w : World) :
    Calls Try.prog 29 #[.int .i64 size, .int .i64 off, .int .i64 4] w fun e w' => e = .returned (.int .i64 (mayE size off 4)) ∧ w = w' := by
  go_enter Try.func29, Try.ntmps29
  go_wp2
  all_goals go_ret
  all_goals (refine ⟨?_, rfl⟩)
  all_goals (first
    | (rw [mayE41 (by decide) (by first | assumption | exact tmod1 _)]; rfl)
    | (rw [mayE42 (by decide) (by first | assumption | exact tmod1 _) (by first | assumption | (left; assumption))]; rfl)
    | (rw [mayE0 (by decide) (by first | assumption | exact tmod1 _) (by assumption)]; rfl))
set_option maxHeartbeats 1000000 in
theorem may_8 (size off : Int) (w : World) :
    Calls Try.prog 29 #[.int .i64 size, .int .i64 off, .int .i64 8] w fun e w' => e = .returned (.int .i64 (mayE size off 8)) ∧ w = w' := by
  go_enter Try.func29, Try.ntmps29
  go_wp2
  all_goals go_ret
  all_goals (refine ⟨?_, rfl⟩)
  all_goals (first
    | (rw [mayE41 (by decide) (by first | assumption | exact tmod1 _)]; rfl)
    | (rw [mayE42 (by decide) (by first | assumption | exact tmod1 _) (by first | assumption | (left; assumption))]; rfl)
    | (rw [mayE0 (by decide) (by first | assumption | exact tmod1 _) (by assumption)]; rfl))
set_option maxHeartbeats 1000000 in
theorem may_any (size off width : Int) (w : World) :
    Calls Try.prog 29 #[.int .i64 size, .int .i64 off, .int .i64 width] w fun e w' => e = .returned (.int .i64 (mayE size off width)) ∧ w = w' := by
  by_cases h1 : width = 1
  · subst h1; exact may_1 size off w
  by_cases h4 : width = 4
  · subst h4; exact may_4 size off w
  by_cases h8 : width = 8
  · subst h8; exact may_8 size off w
  rw [mayE40 h1 h4 h8]
  have g1 : (width != 1) = true := by simpa using h1
  have g4 : (width != 4) = true := by simpa using h4
  have g8 : (width != 8) = true := by simpa using h8
  clear h1 h4 h8
  go_enter Try.func29, Try.ntmps29
  go_wp2
  go_ret
  exact ⟨rfl, rfl⟩

set_option maxHeartbeats 1000000 in
theorem rmay_1 (size off : Int) (w : World) :
    Calls Try.prog 31 #[.int .i64 size, .int .i64 off, .int .i64 1] w fun e w' => e = .returned (.int .i64 (mayE size off 1)) ∧ w = w' := by
  go_enter Try.func31, Try.ntmps31
  go_wp2
  all_goals go_ret
  all_goals (refine ⟨?_, rfl⟩)
  all_goals (first
    | (rw [mayE41 (by decide) (by first | assumption | exact tmod1 _)]; rfl)
    | (rw [mayE42 (by decide) (by first | assumption | exact tmod1 _) (by first | assumption | (left; assumption))]; rfl)
    | (rw [mayE0 (by decide) (by first | assumption | exact tmod1 _) (by assumption)]; rfl))
set_option maxHeartbeats 1000000 in
theorem rmay_4 (size off : Int) (w : World) :
    Calls Try.prog 31 #[.int .i64 size, .int .i64 off, .int .i64 4] w fun e w' => e = .returned (.int .i64 (mayE size off 4)) ∧ w = w' := by
  go_enter Try.func31, Try.ntmps31
  go_wp2
  all_goals go_ret
  all_goals (refine ⟨?_, rfl⟩)
  all_goals (first
    | (rw [mayE41 (by decide) (by first | assumption | exact tmod1 _)]; rfl)
    | (rw [mayE42 (by decide) (by first | assumption | exact tmod1 _) (by first | assumption | (left; assumption))]; rfl)
    | (rw [mayE0 (by decide) (by first | assumption | exact tmod1 _) (by assumption)]; rfl))
set_option maxHeartbeats 1000000 in
theorem rmay_8 (size off : Int) (w : World) :
    Calls Try.prog 31 #[.int .i64 size, .int .i64 off, .int .i64 8] w fun e w' => e = .returned (.int .i64 (mayE size off 8)) ∧ w = w' := by
  go_enter Try.func31, Try.ntmps31
  go_wp2
  all_goals go_ret
  all_goals (refine ⟨?_, rfl⟩)
  all_goals (first
    | (rw [mayE41 (by decide) (by first | assumption | exact tmod1 _)]; rfl)
    | (rw [mayE42 (by decide) (by first | assumption | exact tmod1 _) (by first | assumption | (left; assumption))]; rfl)
    | (rw [mayE0 (by decide) (by first | assumption | exact tmod1 _) (by assumption)]; rfl))
set_option maxHeartbeats 1000000 in
theorem rmay_any (size off width : Int) (w : World) :
    Calls Try.prog 31 #[.int .i64 size, .int .i64 off, .int .i64 width] w fun e w' => e = .returned (.int .i64 (mayE size off width)) ∧ w = w' := by
  by_cases h1 : width = 1
  · subst h1; exact rmay_1 size off w
  by_cases h4 : width = 4
  · subst h4; exact rmay_4 size off w
  by_cases h8 : width = 8
  · subst h8; exact rmay_8 size off w
  rw [mayE40 h1 h4 h8]
  have g1 : (width != 1) = true := by simpa using h1
  have g4 : (width != 4) = true := by simpa using h4
  have g8 : (width != 8) = true := by simpa using h8
  clear h1 h4 h8
  go_enter Try.func31, Try.ntmps31
  go_wp2
  go_ret
  exact ⟨rfl, rfl⟩


end Go.Proofs.Ytcdfkdlddmkhmaa
