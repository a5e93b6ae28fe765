/-
  Package irq: Step at every state and act.
-/
import Derived.Test.YtjgamfonpagkbaaIrqA
namespace Go.Proofs.Ytjgamfonpagkbaa
open Go.ChangeShapes Go.WideShapes Go.ChangeAt Go.RowKit
set_option linter.unusedVariables false

theorem results_irq {fn : Func} {c : Tmp} (h : fn.results = #[.cell c 50]) (tmps : Array Value) (w : World) (b : Nat) (x : St) (hp : tmps.getD c undef = .pointer (some ⟨b, 0, none⟩)) (hb : CB w b 50 x.cs) :
    (results fn tmps).run Try.prog w = .ok x.v w := by
  have hp' : tmps[c]?.getD undef = .pointer (some ⟨b, 0, none⟩) := by simpa using hp
  obtain ⟨c0, c1, c2, c3⟩ := hb.cells
  simp [results, h, go_sem, hp', c0, c1, c2, c3]

theorem cb_second {w : World} {o : Obj} {cs : Array Value} {t : TypeId} : CB ((w.alloc o).alloc (.cells cs t)) (w.heap.size + 1) t cs := by
  have := CB.new (w.alloc o) t cs
  rwa [World.size_alloc] at this
theorem bal_two (w : World) (o o' : Obj) : Below w.heap.size w ((w.alloc o).alloc o') := (bal w o).alloc (by simp) o'
theorem ret_st {x y : St} (h : x = y) : Ending.returned x.v = .returned y.v := by rw [h]

/-- A call behind two boxes. -/
theorem box_call2 {w w1 : World} {cs ds : Array Value} {t u : TypeId} (hb : Below ((w.alloc (.cells cs t)).alloc (.cells ds u)).heap.size ((w.alloc (.cells cs t)).alloc (.cells ds u)) w1) :
    CB w1 w.heap.size t cs ∧ CB w1 (w.heap.size + 1) u ds ∧ Below w.heap.size w w1 :=
  ⟨((CB.new w t cs).alloc _).below hb, cb_second.below hb, (bal_two w _ _).trans (hb.mono (by simp; omega))⟩
theorem below_set {n : Nat} {w W : World} (h : Below n w W) {b o : Nat} (hb : n ≤ b) (v : Value) : Below n w (W.setCell ⟨b, o, none⟩ v) := h.setCell (p := ⟨b, o, none⟩) hb v
theorem CB.set4 {W : World} {B : Nat} {t : TypeId} {z : St} (h : CB W B t z.cs) (x : St) : CB ((((W.setCell ⟨B, 0, none⟩ (.bool x.e)).setCell ⟨B, 1, none⟩ (.bool x.l)).setCell ⟨B, 2, none⟩ (.bool x.h)).setCell ⟨B, 3, none⟩ (.bool x.a)) B t x.cs :=
  (((h.set 0 _).set 1 _).set 2 _).set 3 _
theorem below_set4 {n : Nat} {w W : World} (h : Below n w W) {b : Nat} (hb : n ≤ b) (x : St) : Below n w ((((W.setCell ⟨b, 0, none⟩ (.bool x.e)).setCell ⟨b, 1, none⟩ (.bool x.l)).setCell ⟨b, 2, none⟩ (.bool x.h)).setCell ⟨b, 3, none⟩ (.bool x.a)) :=
  below_set (below_set (below_set (below_set h hb _) hb _) hb _) hb _

set_option maxHeartbeats 2000000 in
theorem step_five (x : St) (w : World) : Calls Try.prog 46 #[x.v, .int .i64 5] w fun e w' => e = .returned (x.step 5).v ∧ Below w.heap.size w w' := by
  have HP := hi (ready_any x)
  obtain ⟨p, hp⟩ : ∃ p, x.ready = p := ⟨_, rfl⟩
  have hr : x.step 5 = if p then ⟨x.e, x.l, false, true⟩ else x := by rw [← hp]; rfl
  rw [hr]
  rw [hp] at HP
  obtain ⟨e, l, q, a⟩ := x
  clear hr hp
  dsimp only [St.v] at HP ⊢
  cases p
  all_goals
    go_enter Try.func46, Try.ntmps46
    go_wp2_with (go_at_call 63; ((with_reducible refine (HP.out _).mono ?_); rintro e' w1 ⟨rfl, hb1⟩; obtain ⟨hB, hB2, hK⟩ := box_call2 hb1; obtain ⟨c0, c1, c2, c3⟩ := CB.cells (x := ⟨e, l, q, a⟩) hB; obtain ⟨d0, d1, d2, d3⟩ := CB.cells (x := St.zero) hB2; have f := hB.frozen; have g := hB2.frozen; have HB := hi hB; have HB2 := hi hB2; have HK := hi hK; clear hb1 hB hB2 hK))
  · exact bodyPost_ret (results_irq rfl _ _ (w.heap.size + 1) ⟨_, _, _, _⟩ rfl (CB.set4 (z := St.zero) HB2.out ⟨e, l, q, a⟩)) rfl ⟨rfl, below_set4 HK.out (by omega) ⟨e, l, q, a⟩⟩
  · exact bodyPost_ret (results_irq rfl _ _ (w.heap.size + 1) ⟨_, _, _, _⟩ rfl (CB.set4 (z := St.zero) ((HB2.out.other _ _ _ (by omega)).other _ _ _ (by omega)) ⟨e, l, false, true⟩)) rfl ⟨rfl, below_set4 (below_set (below_set HK.out (by omega) _) (by omega) _) (by omega) ⟨e, l, false, true⟩⟩

set_option maxHeartbeats 2000000 in
theorem step_any (x : St) (k : Int) (w : World) : Calls Try.prog 46 #[x.v, .int .i64 k] w fun e w' => e = .returned (x.step k).v ∧ Below w.heap.size w w' := by
  rcases act_cases k with rfl | rfl | rfl | rfl | rfl | rfl | rfl | rfl | rfl | hk
  case inr.inr.inr.inr.inl => exact step_five x w
  case inl =>
    obtain ⟨e, l, q, a⟩ := x
    cases e <;> cases q
    all_goals
      go_enter Try.func46, Try.ntmps46
      go_wp2
      refine bodyPost_ret (results_irq rfl _ _ (w.heap.size + 1) ⟨_, _, _, _⟩ rfl cb_second) rfl ⟨ret_st (by cases l <;> rfl), bal_two _ _ _⟩
  case inr.inr.inr.inr.inr.inr.inr.inr.inr =>
    rw [step_odd hk]
    obtain ⟨h1, h2, h3, h4, h5, h6, h7, h8, h9⟩ := hk
    obtain ⟨e, l, q, a⟩ := x
    have q1 : (k == 1) = false := by simpa using h1
    have q2 : (k == 2) = false := by simpa using h2
    have q3 : (k == 3) = false := by simpa using h3
    have q4 : (k == 4) = false := by simpa using h4
    have q5 : (k == 5) = false := by simpa using h5
    have q6 : (k == 6) = false := by simpa using h6
    have q7 : (k == 7) = false := by simpa using h7
    have q8 : (k == 8) = false := by simpa using h8
    have q9 : (k == 9) = false := by simpa using h9
    clear h1 h2 h3 h4 h5 h6 h7 h8 h9
    go_enter Try.func46, Try.ntmps46
    go_wp2
    refine bodyPost_ret (results_irq rfl _ _ (w.heap.size + 1) ⟨_, _, _, _⟩ rfl cb_second) rfl ⟨rfl, bal_two _ _ _⟩
  all_goals
    obtain ⟨e, l, q, a⟩ := x
    go_enter Try.func46, Try.ntmps46
    go_wp2
    refine bodyPost_ret (results_irq rfl _ _ (w.heap.size + 1) ⟨_, _, _, _⟩ rfl cb_second) rfl ⟨rfl, bal_two _ _ _⟩

end Go.Proofs.Ytjgamfonpagkbaa
