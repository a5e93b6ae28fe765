/-
  The document's examples, as the statements of prio run them (awake): it answers true, and nothing that lay has turned.
-/
import Derived.Test.YthlekdiflnapnaaPriG
namespace Go.Proofs.Ythlekdiflnapnaa
open Go.ChangeShapes Go.WideShapes Go.ChangeAt Go.RowKit Go.Shelf
set_option linter.unusedVariables false

theorem aw_real (w : World) : Calls Try.prog 11 #[.int .i64 255] w fun e w' => e = .returned (.int .i64 248) ∧ w = w' := real_any 255 w
theorem aw_m1 (w : World) : Calls Try.prog 13 #[.int .i64 0, .int .i64 3] w fun e w' => e = .returned (.int .i64 240) ∧ w = w' := mask_any 0 3 w
theorem aw_m2 (w : World) : Calls Try.prog 13 #[.int .i64 1, .int .i64 3] w fun e w' => e = .returned (.int .i64 248) ∧ w = w' := mask_any 1 3 w
theorem aw_m3 (w : World) : Calls Try.prog 13 #[.int .i64 0, .int .i64 7] w fun e w' => e = .returned (.int .i64 0) ∧ w = w' := mask_any 0 7 w
theorem aw_m4 (w : World) : Calls Try.prog 13 #[.int .i64 1, .int .i64 0] w fun e w' => e = .returned (.int .i64 254) ∧ w = w' := mask_any 1 0 w
theorem aw_pre (w : World) : Calls Try.prog 19 #[.int .i64 172, .int .i64 168, .int .i64 240] w fun e w' => e = .returned (.bool true) ∧ w = w' := by
  have h : decide (bits .and .i64 172 240 < 168) = true := by decide
  exact h ▸ preempts_any 172 168 240 w
theorem aw_bef (w : World) : Calls Try.prog 26 #[.int .i64 8, .int .i64 5, .int .i64 8, .int .i64 6] w fun e w' => e = .returned (.bool true) ∧ w = w' := by
  have h : beforeB 8 5 8 6 = true := by decide
  exact h ▸ before_any 8 5 8 6 w
theorem aw_points (w : World) : Calls Try.prog 23 #[.int .i64 0, .int .i64 7] w fun e w' => e = .returned (.int .i64 1) ∧ Below w.heap.size w w' := by
  have h : pointsV 0 7 = 1 := by decide +kernel
  exact h ▸ points_any 0 7 w

set_option maxRecDepth 100000 in
set_option maxHeartbeats 1000000 in
theorem awake_any (w : World) : Calls Try.prog 10 #[] w fun e w' => e = .returned (.bool true) ∧ Below w.heap.size w w' := by
  go_enter Try.func10, Try.ntmps10
  go_wp2_with (first
    | (go_at_call 11; ((with_reducible refine (aw_real _).mono ?_); rintro e w1 ⟨rfl, rfl⟩))
    | (go_at_call 13; ((with_reducible refine (aw_m1 _).mono ?_); rintro e w1 ⟨rfl, rfl⟩))
    | (go_at_call 13; ((with_reducible refine (aw_m2 _).mono ?_); rintro e w1 ⟨rfl, rfl⟩))
    | (go_at_call 13; ((with_reducible refine (aw_m3 _).mono ?_); rintro e w1 ⟨rfl, rfl⟩))
    | (go_at_call 13; ((with_reducible refine (aw_m4 _).mono ?_); rintro e w1 ⟨rfl, rfl⟩))
    | (go_at_call 19; ((with_reducible refine (aw_pre _).mono ?_); rintro e w1 ⟨rfl, rfl⟩))
    | (go_at_call 26; ((with_reducible refine (aw_bef _).mono ?_); rintro e w1 ⟨rfl, rfl⟩))
    | (go_at_call 23; ((with_reducible refine (aw_points _).mono ?_); rintro e w1 ⟨rfl, hb⟩)))
  go_ret
  exact ⟨rfl, hb⟩

theorem realV_bd (p : Int) : 0 ≤ realV p ∧ realV p ≤ 248 := by
  unfold realV
  have : low8 p &&& 248 ≤ 248 := Nat.and_le_right
  omega
theorem real_cases : ∀ x < 256, (x &&& 248) % 8 = 0 ∧ (x &&& 248) ≤ x ∧ x - (x &&& 248) < 8 ∧ ((x &&& 248) &&& 248) = (x &&& 248) := by decide +kernel
theorem realV_real (p : Int) : realV (realV p) = realV p := by
  have h := real_cases _ (low8_lt p)
  have hb := realV_bd p
  have : low8 (realV p) = low8 p &&& 248 := by
    have := low8_small (realV p) hb.1 (by omega)
    unfold realV at this ⊢; omega
  show ((low8 (realV p) &&& 248 : Nat) : Int) = _
  rw [this, h.2.2.2]; rfl
theorem realV_mod (p : Int) : realV p % 8 = 0 := by
  have h := real_cases _ (low8_lt p)
  unfold realV; omega
theorem realV_near (p : Int) (h0 : 0 ≤ p) (h1 : p ≤ 255) : realV p ≤ p ∧ p - realV p < 8 := by
  have h := real_cases _ (low8_lt p)
  have := low8_small p h0 (by omega)
  unfold realV; omega

set_option maxHeartbeats 1000000 in
theorem lawReal_any (p : Int) (w : World) (hp0 : -9223372036854775808 ≤ p) (hp1 : p ≤ 9223372036854775807) : Calls Try.prog 9 #[.int .i64 p] w fun e w' => e = .returned (.bool true) ∧ Below w.heap.size w w' := by
  obtain ⟨r, hr⟩ : ∃ r, realV p = r := ⟨_, rfl⟩
  have hb := realV_bd p
  have hn := realV_near p
  have hrr := realV_real p
  have hm := realV_mod p
  rw [hr] at hb hn hrr hm
  have c1 : ∀ W : World, Calls Try.prog 11 #[.int .i64 p] W fun e w' => e = .returned (.int .i64 r) ∧ W = w' := fun W => hr ▸ real_any p W
  have c2 : ∀ W : World, Calls Try.prog 11 #[.int .i64 r] W fun e w' => e = .returned (.int .i64 r) ∧ W = w' := fun W => by have := real_any r W; rw [hrr] at this; exact this
  have C1 := hi c1
  have C2 := hi c2
  obtain ⟨hb0, hb1⟩ := hb
  have hmd : (r % 8 == 0) = true := by simp [hm]
  by_cases hin : p < 0 ∨ 255 < p
  · have HIN := hi hin
    rcases hin with h | h
    · clear hn hrr hm c1 c2 hr HIN
      go_enter Try.func9, Try.ntmps9
      go_wp2_with (first
        | (go_at_call 11; ((with_reducible refine (C1.out _).mono ?_); rintro e w1 ⟨rfl, rfl⟩))
        | (go_at_call 11; ((with_reducible refine (C2.out _).mono ?_); rintro e w1 ⟨rfl, rfl⟩))
        | (go_at_call 10; ((with_reducible refine (awake_any _).mono ?_); rintro e w1 ⟨rfl, hb⟩)))
      go_ret
      exact ⟨rfl, hb⟩
    · clear hn hrr hm c1 c2 hr HIN
      go_enter Try.func9, Try.ntmps9
      go_wp2_with (first
        | (go_at_call 11; ((with_reducible refine (C1.out _).mono ?_); rintro e w1 ⟨rfl, rfl⟩))
        | (go_at_call 11; ((with_reducible refine (C2.out _).mono ?_); rintro e w1 ⟨rfl, rfl⟩))
        | (go_at_call 10; ((with_reducible refine (awake_any _).mono ?_); rintro e w1 ⟨rfl, hb⟩)))
      go_ret
      exact ⟨rfl, hb⟩
  · obtain ⟨h1, h2⟩ := hn (by omega) (by omega)
    have h3 : 0 ≤ p ∧ p ≤ 255 := by omega
    obtain ⟨h3, h4⟩ := h3
    clear hn hrr hm c1 c2 hr hin
    go_enter Try.func9, Try.ntmps9
    go_wp2_with (first
      | (go_at_call 11; ((with_reducible refine (C1.out _).mono ?_); rintro e w1 ⟨rfl, rfl⟩))
      | (go_at_call 11; ((with_reducible refine (C2.out _).mono ?_); rintro e w1 ⟨rfl, rfl⟩))
      | (go_at_call 10; ((with_reducible refine (awake_any _).mono ?_); rintro e w1 ⟨rfl, hb⟩)))
    go_ret
    exact ⟨rfl, hb⟩

end Go.Proofs.Ythlekdiflnapnaa
