/-
  Package queue: New, Put, Head, Pass, SetWrite at every call.
-/
import Derived.Test.YtfnokpajendlmaaQuA
namespace Go.Proofs.Ytfnokpajendlmaa
open Go.ChangeShapes Go.WideShapes Go.ChangeAt Go.RowKit
set_option linter.unusedVariables false
set_option linter.unusedSimpArgs false

theorem newRight (a s : Int) (ha : ¬ a < 0) (hs : s ≤ 9223372036854775807) (W : World) : Calls Try.prog 32 #[.agg #[.int .i64 s, .int .i64 32]] W fun e w' => e = .returned (.int .i64 (if newOk a s = true then 0 else 1)) ∧ Below W.heap.size W w' := by
  cases hr : rightB s 32
  · have : newOk a s = false := by simp [newOk, hr]
    rw [this]
    exact right_no s 32 W hr hs
  · have : newOk a s = true := by simp [newOk, hr]; omega
    rw [this]
    exact right_ok s 32 W hr hs
set_option maxRecDepth 100000 in
set_option maxHeartbeats 4000000 in
theorem newQ_any (a s : Int) (hs : s ≤ 9223372036854775807) (w : World) : Calls Try.prog 10 #[.agg #[.int .i64 a, .int .i64 s]] w fun e w' => e = .returned (.tuple #[(newQ a s).v, .int .i64 (if newOk a s = true then 0 else 1)]) ∧ Below w.heap.size w w' := by
  have HRG := hi (fun W => ring_q ⟨a, s, 0, 0⟩ W)
  have HRT := hi (fun (ha : ¬ a < 0) W => newRight a s ha hs W)
  have b3 := bal_three w (.cells #[.int .i64 a, .int .i64 s] 23) (.cells #[.int .i64 0, .int .i64 0, .int .i64 0, .int .i64 0] 25) (.cells #[.int .i64 a, .int .i64 s, .int .i64 0, .int .i64 0] 25)
  have HC := hi (And.intro (cb_second (w := w) (o := .cells #[.int .i64 a, .int .i64 s] 23) (cs := #[.int .i64 0, .int .i64 0, .int .i64 0, .int .i64 0]) (t := 25) |>.alloc (.cells #[.int .i64 a, .int .i64 s, .int .i64 0, .int .i64 0] 25)) (And.intro (cb_third (w := w) (o := .cells #[.int .i64 a, .int .i64 s] 23) (o' := .cells #[.int .i64 0, .int .i64 0, .int .i64 0, .int .i64 0] 25) (cs := #[.int .i64 a, .int .i64 s, .int .i64 0, .int .i64 0]) (t := 25)) b3))
  clear b3
  dsimp only at HRG
  by_cases ha : a < 0
  · have e : newOk a s = false := by simp [newOk]; omega
    rw [newQ, e]
    simp only [Bool.false_eq_true, if_false]
    obtain ⟨q0, q1, q2, q3⟩ := CB.four HC.out.1
    have qf := HC.out.1.frozen
    go_enter Try.func10, Try.ntmps10
    go_wp2
    exact bodyPost_ret (results_q rfl _ _ (w.heap.size + 1) _ _ _ _ _ rfl rfl HC.out.1) rfl ⟨rfl, HC.out.2.2⟩
  · have HRT2 := hi (HRT.out ha)
    obtain ⟨c0, c1, c2, c3⟩ := CB.four HC.out.2.1
    cases e : newOk a s
    · rw [newQ]
      rw [e] at HRT2 ⊢
      have HRT3 := hi (show ∀ W, Calls Try.prog 32 #[.agg #[.int .i64 s, .int .i64 32]] W fun e w' => e = .returned (.int .i64 1) ∧ Below W.heap.size W w' from HRT2.out)
      simp only [Bool.false_eq_true, if_false]
      clear HRT HRT2 e
      go_enter Try.func10, Try.ntmps10
      go_wp2_with (first
        | (go_at_call 31; ((with_reducible refine (HRG.out _).mono ?_); rintro e w1 ⟨rfl, hb1⟩; have H1 := hi (And.intro (HC.out.1.below hb1) (HC.out.2.2.trans (hb1.mono (by simp; omega)))); clear hb1))
        | (go_at_call 32; ((with_reducible refine (HRT3.out _).mono ?_); rintro e w2 ⟨rfl, hb2⟩; have H2 := hi (And.intro (H1.out.1.below hb2) (H1.out.2.trans (hb2.mono H1.out.2.size))); obtain ⟨q0, q1, q2, q3⟩ := CB.four H2.out.1; have qf := H2.out.1.frozen; have qz := H2.out.1.lt; clear hb2)))
      exact bodyPost_ret (results_q rfl _ _ (w.heap.size + 1) _ _ _ _ _ rfl rfl (H2.out.1.set4 _ _ _ _)) rfl ⟨rfl, below_set4 H2.out.2 (by omega) _ _ _ _⟩
    · rw [newQ]
      rw [e] at HRT2 ⊢
      have HRT3 := hi (show ∀ W, Calls Try.prog 32 #[.agg #[.int .i64 s, .int .i64 32]] W fun e w' => e = .returned (.int .i64 0) ∧ Below W.heap.size W w' from HRT2.out)
      simp only [if_true]
      clear HRT HRT2 e
      go_enter Try.func10, Try.ntmps10
      go_wp2_with (first
        | (go_at_call 31; ((with_reducible refine (HRG.out _).mono ?_); rintro e w1 ⟨rfl, hb1⟩; have H1 := hi (And.intro (HC.out.1.below hb1) (And.intro (HC.out.2.1.below hb1) (HC.out.2.2.trans (hb1.mono (by simp; omega))))); clear hb1))
        | (go_at_call 32; ((with_reducible refine (HRT3.out _).mono ?_); rintro e w2 ⟨rfl, hb2⟩; have H2 := hi (And.intro (H1.out.1.below hb2) (And.intro (H1.out.2.1.below hb2) (H1.out.2.2.trans (hb2.mono H1.out.2.2.size)))); clear c0 c1 c2 c3; obtain ⟨c0, c1, c2, c3⟩ := CB.four H2.out.2.1; obtain ⟨q0, q1, q2, q3⟩ := CB.four H2.out.1; have qf := H2.out.1.frozen; have qz := H2.out.1.lt; clear hb2)))
      exact bodyPost_ret (results_q rfl _ _ (w.heap.size + 1) _ _ _ _ _ rfl rfl (H2.out.1.set4 _ _ _ _)) rfl ⟨rfl, below_set4 H2.out.2.2 (by omega) _ _ _ _⟩

end Go.Proofs.Ytfnokpajendlmaa
