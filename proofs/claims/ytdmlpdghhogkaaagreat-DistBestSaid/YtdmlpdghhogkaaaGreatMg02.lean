import Derived.Test.YtdmlpdghhogkaaaGreatMg01
namespace Go.Proofs.YtdmlpdghhogkaaaGreat
open Go.ChangeShapes Go.WideShapes Go.ChangeAt Go.RowKit
set_option linter.unusedVariables false
theorem bal_three (w : World) (o o' o'' : Obj) : Below w.heap.size w (((w.alloc o).alloc o').alloc o'') := (bal_two w o o').alloc (by simp; omega) o''
theorem cb_mid {w : World} {o o'' : Obj} {cs : Array Value} {t : TypeId} : CB (((w.alloc o).alloc (.cells cs t)).alloc o'') (w.heap.size + 1) t cs := cb_second.alloc _
theorem box_call3 {w w1 : World} {cs ds es : Array Value} {t u v : TypeId} (hb : Below (((w.alloc (.cells cs t)).alloc (.cells ds u)).alloc (.cells es v)).heap.size (((w.alloc (.cells cs t)).alloc (.cells ds u)).alloc (.cells es v)) w1) :
    CB w1 (w.heap.size + 1) u ds ∧ CB w1 (w.heap.size + 1 + 1) v es ∧ Below w.heap.size w w1 := by
  have h3 := CB.new ((w.alloc (.cells cs t)).alloc (.cells ds u)) v es
  rw [show ((w.alloc (.cells cs t)).alloc (.cells ds u)).heap.size = w.heap.size + 1 + 1 by simp] at h3
  exact ⟨cb_mid.below hb, h3.below hb, (bal_three w _ _ _).trans (hb.mono (by simp; omega))⟩
set_option maxHeartbeats 2000000 in
theorem rstep_five (x : St) (w : World) : Calls Tryz.prog 103 #[x.v, .int .i64 5] w fun e w' => e = .returned (x.step 5).v ∧ Below w.heap.size w w' := by
  have HP := hi (rready_any x)
  obtain ⟨p, hp⟩ : ∃ p, x.ready = p := ⟨_, rfl⟩
  have hr : x.step 5 = if p then ⟨x.e, x.l, false, true⟩ else x := by rw [← hp]; rfl
  rw [hr]
  rw [hp] at HP
  obtain ⟨e, l, q, a⟩ := x
  clear hr hp
  dsimp only [St.v] at HP ⊢
  cases p
  all_goals
    go_enter Tryz.func103, Tryz.ntmps103
    go_wp2_with (go_at_call 99; ((with_reducible refine (HP.out _).mono ?_); rintro e' w1 ⟨rfl, hb1⟩; obtain ⟨hB, hB2, hK⟩ := box_call3 hb1; obtain ⟨c0, c1, c2, c3⟩ := CB.cells (x := ⟨e, l, q, a⟩) hB2; obtain ⟨d0, d1, d2, d3⟩ := CB.cells (x := St.zero) hB; have f := hB.frozen; have g := hB2.frozen; have HB := hi hB; have HB2 := hi hB2; have HK := hi hK; clear hb1 hB hB2 hK))
  · exact bodyPost_ret (results_irq rfl _ _ (w.heap.size + 1) ⟨_, _, _, _⟩ rfl (CB.set4 (z := St.zero) HB.out ⟨e, l, q, a⟩)) rfl ⟨rfl, below_set4 HK.out (by omega) ⟨e, l, q, a⟩⟩
  · exact bodyPost_ret (results_irq rfl _ _ (w.heap.size + 1) ⟨_, _, _, _⟩ rfl (CB.set4 (z := St.zero) ((HB.out.other _ _ _ (by omega)).other _ _ _ (by omega)) ⟨e, l, false, true⟩)) rfl ⟨rfl, below_set4 (below_set (below_set HK.out (by omega) _) (by omega) _) (by omega) ⟨e, l, false, true⟩⟩
set_option maxHeartbeats 2000000 in
theorem rstep_any (x : St) (k : Int) (w : World) : Calls Tryz.prog 103 #[x.v, .int .i64 k] w fun e w' => e = .returned (x.step k).v ∧ Below w.heap.size w w' := by
  rcases act_cases k with rfl | rfl | rfl | rfl | rfl | rfl | rfl | rfl | rfl | hk
  case inr.inr.inr.inr.inl => exact rstep_five x w
  case inl =>
    obtain ⟨e, l, q, a⟩ := x
    cases e <;> cases l
    all_goals
      go_enter Tryz.func103, Tryz.ntmps103
      go_wp2
      refine bodyPost_ret (results_irq rfl _ _ (w.heap.size + 1) ⟨_, _, _, _⟩ rfl cb_mid) rfl ⟨ret_st (by cases q <;> rfl), bal_three _ _ _ _⟩
  case inr.inr.inr.inr.inr.inr.inr.inr.inr =>
    rw [step_odd hk]
    obtain ⟨h1, h2, h3, h4, h5, h6, h7, h8, h9⟩ := hk
    obtain ⟨e, l, q, a⟩ := x
    have q1 : (k == 1) = false := by simpa using h1
    have q2 : (k == 2) = false := by simpa using h2
    have q3 : (k == 3) = false := by simpa using h3
    have q4 : (k == 4) = false := by simpa using h4
    have q5 : (k == 5) = false := by simpa using h5
    have q6 : (k == 6) = false := by simpa using h6
    have q7 : (k == 7) = false := by simpa using h7
    have q8 : (k == 8) = false := by simpa using h8
    have q9 : (k == 9) = false := by simpa using h9
    clear h1 h2 h3 h4 h5 h6 h7 h8 h9
    go_enter Tryz.func103, Tryz.ntmps103
    go_wp2
    refine bodyPost_ret (results_irq rfl _ _ (w.heap.size + 1) ⟨_, _, _, _⟩ rfl cb_mid) rfl ⟨rfl, bal_three _ _ _ _⟩
  all_goals
    obtain ⟨e, l, q, a⟩ := x
    go_enter Tryz.func103, Tryz.ntmps103
    go_wp2
    refine bodyPost_ret (results_irq rfl _ _ (w.heap.size + 1) ⟨_, _, _, _⟩ rfl cb_mid) rfl ⟨rfl, bal_three _ _ _ _⟩
end Go.Proofs.YtdmlpdghhogkaaaGreat
