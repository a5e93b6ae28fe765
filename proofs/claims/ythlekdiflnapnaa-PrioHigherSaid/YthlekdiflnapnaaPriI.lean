/-
  Package prio, the laws PrioReckons, PrioParts, PrioOrder, PrioHigher: each answers true at every input.
-/
import Derived.Test.YthlekdiflnapnaaPriH
namespace Go.Proofs.Ythlekdiflnapnaa
open Go.ChangeShapes Go.WideShapes Go.ChangeAt Go.RowKit Go.Shelf
set_option linter.unusedVariables false

set_option maxRecDepth 100000 in
set_option maxHeartbeats 2000000 in
theorem lawReckons_any (p q g t m : Int) (w : World) : Calls Try.prog 3 #[.int .i64 p, .int .i64 q, .int .i64 g, .int .i64 t, .int .i64 m] w fun e w' => e = .returned (.bool true) ∧ Below w.heap.size w w' := by
  obtain ⟨r, hr⟩ : ∃ r, realV p = r := ⟨_, rfl⟩
  obtain ⟨M, hM⟩ : ∃ M, maskV g t = M := ⟨_, rfl⟩
  obtain ⟨s, hs⟩ : ∃ s, subV p m = s := ⟨_, rfl⟩
  have c1 := hi fun W => hr ▸ real_any p W
  have c2 := hi fun W => hr ▸ refReal_any p W
  have c3 := hi fun W => hM ▸ mask_any g t W
  have c4 := hi fun W => hM ▸ refMask_any g t W
  have c5 := hi fun W => hs ▸ sub_any p m W
  have c6 := hi fun W => hs ▸ refSub_any p m W
  clear hr hM hs
  by_cases h : p < q
  all_goals
    by_cases h2 : bits .and .i64 p m < q
    all_goals
      go_enter Try.func3, Try.ntmps3
      go_wp2_with (first
        | (go_at_call 10; ((with_reducible refine (awake_any _).mono ?_); rintro e w1 ⟨rfl, hb⟩))
        | (go_at_call 11; ((with_reducible refine (c1.out _).mono ?_); rintro e w1 ⟨rfl, rfl⟩))
        | (go_at_call 12; ((with_reducible refine (c2.out _).mono ?_); rintro e w1 ⟨rfl, rfl⟩))
        | (go_at_call 13; ((with_reducible refine (c3.out _).mono ?_); rintro e w1 ⟨rfl, rfl⟩))
        | (go_at_call 14; ((with_reducible refine (c4.out _).mono ?_); rintro e w1 ⟨rfl, rfl⟩))
        | (go_at_call 16; ((with_reducible refine (c5.out _).mono ?_); rintro e w1 ⟨rfl, rfl⟩))
        | (go_at_call 17; ((with_reducible refine (c6.out _).mono ?_); rintro e w1 ⟨rfl, rfl⟩))
        | (go_at_call 15; ((with_reducible refine (level_any p m _).mono ?_); rintro e w1 ⟨rfl, rfl⟩))
        | (go_at_call 18; ((with_reducible refine (passes_any p q _).mono ?_); rintro e w1 ⟨rfl, rfl⟩))
        | (go_at_call 19; ((with_reducible refine (preempts_any p q m _).mono ?_); rintro e w1 ⟨rfl, rfl⟩)))
      go_ret
      exact ⟨rfl, hb⟩

theorem fromV_bd (g p : Int) : 1 ≤ fromV g p ∧ fromV g p ≤ 8 := by
  unfold fromV
  split
  · omega
  · omega
theorem mask_parts : ∀ x < 256, ∀ f < 9, (x &&& maskN f) + (x &&& (255 - maskN f)) = x ∧ ((x &&& maskN f) &&& (x &&& (255 - maskN f))) = 0 ∧ ((x &&& maskN f) &&& maskN f) = (x &&& maskN f) ∧ ((x &&& (255 - maskN f)) &&& (255 - maskN f)) = (x &&& (255 - maskN f)) ∧ (x &&& maskN f) = x / 2 ^ f * 2 ^ f := by decide +kernel
theorem mask_wide : ∀ f < 9, ∀ f' < 9, f ≤ f' → (maskN f' &&& maskN f) = maskN f' := by decide +kernel
theorem maskN_lt : ∀ f < 9, 1 ≤ f → maskN f < 256 := by decide +kernel
theorem maskV_nat (g p : Int) : ∃ f : Nat, f < 9 ∧ 1 ≤ f ∧ maskV g p = ((maskN f : Nat) : Int) ∧ f = fromV g p := ⟨fromV g p, by have := fromV_bd g p; omega, by have := fromV_bd g p; omega, rfl, rfl⟩

theorem level_nat (x f : Nat) (hx : x < 256) (hf : f < 9) (h1 : 1 ≤ f) : bits .and .i64 (x : Int) ((maskN f : Nat) : Int) = ((x &&& maskN f : Nat) : Int) := by
  rw [and_low _ _ (maskN_lt f hf h1), low8_nat x hx]
theorem sub_nat (x f : Nat) (hx : x < 256) (hf : f < 9) (h1 : 1 ≤ f) : subV (x : Int) ((maskN f : Nat) : Int) = ((x &&& (255 - maskN f) : Nat) : Int) := by
  unfold subV
  rw [low8_nat x hx, low8_nat _ (maskN_lt f hf h1)]

set_option maxRecDepth 100000 in
set_option maxHeartbeats 2000000 in
theorem lawParts_any (x : Nat) (hx : x < 256) (g t : Int) (w : World) : Calls Try.prog 5 #[.int .u8 (x : Int), .int .i64 g, .int .i64 t] w fun e w' => e = .returned (.bool true) ∧ Below w.heap.size w w' := by
  obtain ⟨f, hf, hf1, hM, _⟩ := maskV_nat g t
  obtain ⟨k1, k2, k3, k4, _⟩ := mask_parts x hx f hf
  have hal : (x &&& maskN f) < 256 := Nat.lt_of_le_of_lt Nat.and_le_left hx
  have hbl : (x &&& (255 - maskN f)) < 256 := Nat.lt_of_le_of_lt Nat.and_le_left hx
  have hl := level_nat x f hx hf hf1
  have hs := sub_nat x f hx hf hf1
  have hl2 := level_nat _ f hal hf hf1
  have hs2 := sub_nat _ f hbl hf hf1
  have hab : bits .and .i64 (((x &&& maskN f : Nat)) : Int) ((x &&& (255 - maskN f) : Nat) : Int) = 0 := by
    rw [and_low _ _ hbl, low8_nat _ hal, k2]; rfl
  rw [k3] at hl2
  rw [k4] at hs2
  obtain ⟨a, ha⟩ : ∃ a, (x &&& maskN f) = a := ⟨_, rfl⟩
  obtain ⟨b, hb⟩ : ∃ b, (x &&& (255 - maskN f)) = b := ⟨_, rfl⟩
  obtain ⟨M, hMM⟩ : ∃ M : Int, ((maskN f : Nat) : Int) = M := ⟨_, rfl⟩
  rw [hMM] at hM
  rw [ha] at hl hal hl2 k1 hab
  rw [hb] at hs hbl hs2 k1 hab
  rw [hMM] at hl hs hl2 hs2
  have c1 := hi fun W => hM ▸ mask_any g t W
  have c2 := hi fun W => hl ▸ level_any (x : Int) M W
  have c3 := hi fun W => hs ▸ sub_any (x : Int) M W
  have c4 := hi (show ∀ W, Calls Try.prog 15 #[.int .i64 (a : Int), .int .i64 M] W fun e w' => e = .returned (.int .i64 (a : Int)) ∧ W = w' from fun W => by have := level_any (a : Int) M W; rw [hl2] at this; exact this)
  have c5 := hi (show ∀ W, Calls Try.prog 16 #[.int .i64 (b : Int), .int .i64 M] W fun e w' => e = .returned (.int .i64 (b : Int)) ∧ W = w' from fun W => by have := sub_any (b : Int) M W; rw [hs2] at this; exact this)
  have h1 : ((a : Int) + (b : Int) == (x : Int)) = true := by simp; omega
  have h2 : (bits .and .i64 (a : Int) (b : Int) == 0) = true := by simp [hab]
  clear hM hMM k2 k3 k4 ha hb hl hs hl2 hs2 hab k1 hf hf1
  go_enter Try.func5, Try.ntmps5
  go_wp2_with (first
    | (go_at_call 10; ((with_reducible refine (awake_any _).mono ?_); rintro e w1 ⟨rfl, hb⟩))
    | (go_at_call 13; ((with_reducible refine (c1.out _).mono ?_); rintro e w1 ⟨rfl, rfl⟩))
    | (go_at_call 15; ((with_reducible refine (c2.out _).mono ?_); rintro e w1 ⟨rfl, rfl⟩))
    | (go_at_call 16; ((with_reducible refine (c3.out _).mono ?_); rintro e w1 ⟨rfl, rfl⟩))
    | (go_at_call 15; ((with_reducible refine (c4.out _).mono ?_); rintro e w1 ⟨rfl, rfl⟩))
    | (go_at_call 16; ((with_reducible refine (c5.out _).mono ?_); rintro e w1 ⟨rfl, rfl⟩)))
  go_ret
  exact ⟨rfl, hb⟩

end Go.Proofs.Ythlekdiflnapnaa
