/-
  QueueNews.
-/
import Derived.Test.YtheajnfbphkigaaQuJ
namespace Go.Proofs.Ytheajnfbphkigaa
open Go.ChangeShapes Go.WideShapes Go.ChangeAt Go.RowKit
set_option linter.unusedVariables false
set_option linter.unusedSimpArgs false
attribute [local go_sem high] eql_qu neq_qu guard_qu

theorem newOk_iff (a s : Int) : newOk a s = true ↔ 0 ≤ a ∧ 32 ≤ s ∧ s % 32 = 0 ∧ s / 32 ≤ 1024 := by
  simp [newOk, rightB]; omega
set_option maxRecDepth 100000 in
set_option maxHeartbeats 4000000 in
theorem news_law (a s : Int) (ha : -9223372036854775808 ≤ a ∧ a ≤ 9223372036854775807) (hs : -9223372036854775808 ≤ s ∧ s ≤ 9223372036854775807) (w : World) : Calls Try.prog 4 #[.agg #[.int .i64 a, .int .i64 s]] w fun e w' => e = .returned (.bool true) ∧ Below w.heap.size w w' := by
  have HA := hi (fun W => awake_any W)
  have HW := hi (And.intro (CB.new w 23 #[.int .i64 a, .int .i64 s]) (bal w (.cells #[.int .i64 a, .int .i64 s] 23)))
  have g1 := ha.1; have g2 := ha.2; have g3 := hs.1; have g4 := hs.2
  have zz : eqQu ⟨0, 0, 0, 0⟩ ⟨0, 0, 0, 0⟩ = true := by decide
  have zw : eqQu ⟨a, s, 0, 0⟩ ⟨a, s, 0, 0⟩ = true := by rw [eqQu_iff]; simp
  have hk := newOk_iff a s
  have HN := hi (fun W => newQ_any a s hs.2 W)
  rw [newQ] at HN
  cases e : newOk a s
  · rw [e] at HN hk
    have HN2 := hi (show ∀ W, Calls Try.prog 14 #[.agg #[.int .i64 a, .int .i64 s]] W fun e w' => e = .returned (.tuple #[.agg #[.int .i64 0, .int .i64 0, .int .i64 0, .int .i64 0], .int .i64 1]) ∧ Below W.heap.size W w' from HN.out)
    clear HN e
    go_enter Try.func4, Try.ntmps4
    go_wp2_with (first
      | (go_at_call 9; ((with_reducible refine (HA.out _).mono ?_); rintro e w1 ⟨rfl, hb1⟩; have H1 := hi (And.intro (HW.out.1.below hb1) (HW.out.2.trans (hb1.mono HW.out.2.size))); clear hb1; obtain ⟨c0, c1⟩ := CB.two H1.out.1))
      | (go_at_call 14; ((with_reducible refine (HN2.out _).mono ?_); rintro e w2 ⟨rfl, hb2⟩; have H2 := hi (And.intro ((H1.out.1.below hb2).alloc (.cells #[.int .i64 0, .int .i64 0, .int .i64 0, .int .i64 0] 25)) (And.intro (CB.new w2 25 #[.int .i64 0, .int .i64 0, .int .i64 0, .int .i64 0]) ((H1.out.2.trans (hb2.mono H1.out.2.size)).trans ((bal w2 (.cells #[.int .i64 0, .int .i64 0, .int .i64 0, .int .i64 0] 25)).mono (Nat.le_trans H1.out.2.size hb2.size))))); clear hb2 c0 c1; obtain ⟨c0, c1⟩ := CB.two H2.out.1; obtain ⟨q0, q1, q2, q3⟩ := CB.four H2.out.2.1; have qf := H2.out.2.1.frozen; have qz := H2.out.2.1.lt)))
    all_goals first | (go_ret; exact ⟨rfl, H2.out.2.2⟩) | (exfalso; simp at *; omega)
  · rw [e] at HN hk
    have HN2 := hi (show ∀ W, Calls Try.prog 14 #[.agg #[.int .i64 a, .int .i64 s]] W fun e w' => e = .returned (.tuple #[.agg #[.int .i64 a, .int .i64 s, .int .i64 0, .int .i64 0], .int .i64 0]) ∧ Below W.heap.size W w' from HN.out)
    obtain ⟨k1, k2, k3, k4⟩ := hk.1 rfl
    have hm : mayB s 32 0 = true := mayB_mk (by simp [rightB]; omega) (by omega) (by omega) rfl
    have hok : okQ ⟨a, s, 0, 0⟩ = true := by simp only [okQ, hm]; rfl
    have hl0 : lefN ⟨a, s, 0, 0⟩ = 0 := by rw [lefN, if_pos hok]; exact leftR_self
    have hr0 : rooN ⟨a, s, 0, 0⟩ = s / 32 - 1 := by rw [rooN, if_pos hok]; show s / 32 - 1 - leftR s 32 0 0 = _; rw [leftR_self]; omega
    have HL := hi (fun W => left_q ⟨a, s, 0, 0⟩ hs.2 W)
    have HR := hi (fun W => room_q ⟨a, s, 0, 0⟩ hs.2 W)
    rw [hl0] at HL
    rw [hr0] at HR
    clear HN e hm hok hl0 hr0 hk
    go_enter Try.func4, Try.ntmps4
    go_wp2_with (first
      | (go_at_call 9; ((with_reducible refine (HA.out _).mono ?_); rintro e w1 ⟨rfl, hb1⟩; have H1 := hi (And.intro (HW.out.1.below hb1) (HW.out.2.trans (hb1.mono HW.out.2.size))); clear hb1; obtain ⟨c0, c1⟩ := CB.two H1.out.1))
      | (go_at_call 14; ((with_reducible refine (HN2.out _).mono ?_); rintro e w2 ⟨rfl, hb2⟩; have H2 := hi (And.intro ((H1.out.1.below hb2).alloc (.cells #[.int .i64 a, .int .i64 s, .int .i64 0, .int .i64 0] 25)) (And.intro (CB.new w2 25 #[.int .i64 a, .int .i64 s, .int .i64 0, .int .i64 0]) (((H1.out.2.trans (hb2.mono H1.out.2.size)).trans ((bal w2 (.cells #[.int .i64 a, .int .i64 s, .int .i64 0, .int .i64 0] 25)).mono (Nat.le_trans H1.out.2.size hb2.size)))))); clear hb2 c0 c1; obtain ⟨c0, c1⟩ := CB.two H2.out.1; obtain ⟨q0, q1, q2, q3⟩ := CB.four H2.out.2.1; have qf := (CB.new w2 25 #[.int .i64 0, .int .i64 0, .int .i64 0, .int .i64 0]).frozen; have qz := H2.out.2.1.lt))
      | (go_at_call 15; ((with_reducible refine (HL.out _).mono ?_); rintro e w3 ⟨rfl, hb3⟩; have H3 := hi (And.intro (H2.out.2.1.below hb3) (H2.out.2.2.trans (hb3.mono H2.out.2.2.size))); clear hb3 c0 c1 q0 q1 q2 q3; obtain ⟨q0, q1, q2, q3⟩ := CB.four H3.out.1))
      | (go_at_call 16; ((with_reducible refine (HR.out _).mono ?_); rintro e w4 ⟨rfl, hb4⟩; have H4 := hi (H3.out.2.trans (hb4.mono H3.out.2.size)); clear hb4)))
    all_goals first | (go_ret; exact ⟨rfl, H4.out⟩) | (exfalso; simp at *; omega)

end Go.Proofs.Ytheajnfbphkigaa
