/-
  Package prio, the laws PrioHigher, PrioLevels: each answers true at every input.
-/
import Derived.Test.YthlekdiflnapnaaPriI
namespace Go.Proofs.Ythlekdiflnapnaa
open Go.ChangeShapes Go.WideShapes Go.ChangeAt Go.RowKit Go.Shelf
set_option linter.unusedVariables false

theorem level_mono (a b f : Nat) (h : a ≤ b) (hb : b < 256) (hf : f < 9) : (a &&& maskN f) ≤ (b &&& maskN f) := by
  rw [(mask_parts a (by omega) f hf).2.2.2.2, (mask_parts b hb f hf).2.2.2.2]
  exact Nat.mul_le_mul_right _ (Nat.div_le_div_right h)
theorem level_wide (a f f' : Nat) (hf : f < 9) (hf' : f' < 9) (h : f ≤ f') : (a &&& maskN f') ≤ (a &&& maskN f) := by
  rw [← mask_wide f hf f' hf' h, Nat.and_comm (maskN f') (maskN f), ← Nat.and_assoc]
  exact Nat.and_le_left
theorem fromV_wide (g t : Int) : fromV g t ≤ fromV g (min 7 (t % 8 + 1)) := by
  have h : min 7 (t % 8 + 1) % 8 = min 7 (t % 8 + 1) := by omega
  unfold fromV
  rw [h]
  split <;> omega

/-- What PrioHigher reckons with: two priorities, one not above the other, and a mask and a wider one. -/
structure Hig (a b : Nat) (g t : Int) (M V : Int) (la lb wa : Int) : Prop where
  e_m : maskV g t = M
  e_v : maskV g (min 7 (t % 8 + 1)) = V
  e_la : bits .and .i64 (a : Int) M = la
  e_lb : bits .and .i64 (b : Int) M = lb
  e_wa : bits .and .i64 (a : Int) V = wa
  e_le : la ≤ lb
  e_wle : wa ≤ la
  e_vm : bits .and .i64 V M = V
theorem hig (a b : Nat) (h : a ≤ b) (hb : b < 256) (g t : Int) : ∃ M V la lb wa, Hig a b g t M V la lb wa := by
  obtain ⟨f, hf, hf1, hM, ef⟩ := maskV_nat g t
  obtain ⟨f', hf', hf1', hV, ef'⟩ := maskV_nat g (min 7 (t % 8 + 1))
  have hle : f ≤ f' := by rw [ef, ef']; exact fromV_wide g t
  refine ⟨_, _, _, _, _, hM, hV, level_nat a f (by omega) hf hf1, level_nat b f hb hf hf1, level_nat a f' (by omega) hf' hf1', ?_, ?_, ?_⟩
  · exact Int.ofNat_le.2 (level_mono a b f h hb hf)
  · exact Int.ofNat_le.2 (level_wide a f f' hf hf' hle)
  · rw [level_nat _ f (maskN_lt f' hf' hf1') hf hf1, mask_wide f hf f' hf' hle]

set_option maxRecDepth 100000 in
set_option maxHeartbeats 4000000 in
theorem higher_ord (p q : Nat) (a b : Nat) (hpq : (p < q ∧ a = p ∧ b = q) ∨ (q < p ∧ a = q ∧ b = p) ∨ (p = q ∧ a = q ∧ b = q)) (hp : p < 256) (hq : q < 256) (r g t k : Int) (w : World) :
    Calls Try.prog 7 #[.int .u8 (p : Int), .int .u8 (q : Int), .int .i64 r, .int .i64 g, .int .i64 t, .int .i64 k] w fun e w' => e = .returned (.bool true) ∧ Below w.heap.size w w' := by
  obtain ⟨M, V, la, lb, wa, H⟩ := hig a b (by omega) (by omega) g t
  have c1 := hi fun W => H.e_m ▸ mask_any g t W
  have c2 := hi fun W => H.e_v ▸ mask_any g (min 7 (t % 8 + 1)) W
  have c3 : Hi (∀ W, Calls Try.prog 19 #[.int .i64 (b : Int), .int .i64 r, .int .i64 M] W fun e w' => e = .returned (.bool (decide (lb < r))) ∧ W = w') := hi fun W => H.e_lb ▸ preempts_any (b : Int) r M W
  have c4 : Hi (∀ W, Calls Try.prog 19 #[.int .i64 (a : Int), .int .i64 r, .int .i64 M] W fun e w' => e = .returned (.bool (decide (la < r))) ∧ W = w') := hi fun W => H.e_la ▸ preempts_any (a : Int) r M W
  have c5 := hi fun W => passes_any (b : Int) k W
  have c6 := hi fun W => passes_any (a : Int) k W
  have c7 := hi fun W => H.e_wa ▸ level_any (a : Int) V W
  have c8 := hi fun W => H.e_la ▸ level_any (a : Int) M W
  have hle := H.e_le
  have hwle := H.e_wle
  have hvm : (bits .and .i64 V M == V) = true := by simp [H.e_vm]
  have h7 := and7 t
  obtain ⟨z, hz⟩ : ∃ z, t % 8 = z := ⟨_, rfl⟩
  have hz0 : 0 ≤ z ∧ z ≤ 7 := by omega
  rw [hz] at h7 c2
  obtain ⟨hz1, hz2⟩ := hz0
  clear H hz
  have T7 : z = 7 ∨ z = 6 ∨ z < 6 := by omega
  have TB : (lb < r ∧ la < r) ∨ r ≤ lb := by omega
  have TK : ((b : Int) < k ∧ (a : Int) < k) ∨ k ≤ (b : Int) := by omega
  obtain ⟨y, hy⟩ : ∃ y, min 7 (z + 1) = y := ⟨_, rfl⟩
  rw [hy] at c2
  rcases hpq with ⟨h1, rfl, rfl⟩ | ⟨h1, rfl, rfl⟩ | ⟨rfl, rfl, rfl⟩
  all_goals
    rcases T7 with e7 | e7 | e7
    all_goals
      first
        | (subst e7; obtain rfl : y = 7 := by omega)
        | (obtain rfl : y = z + 1 := (by omega); have n7 : (z == 7) = false := by (have : z ≠ 7 := by omega); simpa using this)
      clear hy
      rcases TB with ⟨eb, eb'⟩ | eb
      all_goals
        rcases TK with ⟨ek, ek'⟩ | ek
        all_goals
          go_enter Try.func7, Try.ntmps7
          go_wp2_with (first
            | (go_at_call 10; ((with_reducible refine (awake_any _).mono ?_); rintro e w1 ⟨rfl, hb⟩))
            | (go_at_call 13; ((with_reducible refine (c1.out _).mono ?_); rintro e w1 ⟨rfl, rfl⟩))
            | (go_at_call 13; ((with_reducible refine (c2.out _).mono ?_); rintro e w1 ⟨rfl, rfl⟩))
            | (go_at_call 19; ((with_reducible refine (c3.out _).mono ?_); rintro e w1 ⟨rfl, rfl⟩))
            | (go_at_call 19; ((with_reducible refine (c4.out _).mono ?_); rintro e w1 ⟨rfl, rfl⟩))
            | (go_at_call 18; ((with_reducible refine (c5.out _).mono ?_); rintro e w1 ⟨rfl, rfl⟩))
            | (go_at_call 18; ((with_reducible refine (c6.out _).mono ?_); rintro e w1 ⟨rfl, rfl⟩))
            | (go_at_call 15; ((with_reducible refine (c7.out _).mono ?_); rintro e w1 ⟨rfl, rfl⟩))
            | (go_at_call 15; ((with_reducible refine (c8.out _).mono ?_); rintro e w1 ⟨rfl, rfl⟩)))
          go_ret
          exact ⟨rfl, hb⟩

theorem lawHigher_any (p q : Nat) (hp : p < 256) (hq : q < 256) (r g t k : Int) (w : World) :
    Calls Try.prog 7 #[.int .u8 (p : Int), .int .u8 (q : Int), .int .i64 r, .int .i64 g, .int .i64 t, .int .i64 k] w fun e w' => e = .returned (.bool true) ∧ Below w.heap.size w w' := by
  by_cases h : p < q
  · exact higher_ord p q p q (.inl ⟨h, rfl, rfl⟩) hp hq r g t k w
  · by_cases h2 : q < p
    · exact higher_ord p q q p (.inr (.inl ⟨h2, rfl, rfl⟩)) hp hq r g t k w
    · exact higher_ord p q q q (.inr (.inr ⟨by omega, rfl, rfl⟩)) hp hq r g t k w

end Go.Proofs.Ythlekdiflnapnaa
