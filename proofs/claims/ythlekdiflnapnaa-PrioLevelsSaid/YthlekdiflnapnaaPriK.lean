/-
  Package prio, the law PrioOrder: it answers true at every input.
-/
import Derived.Test.YthlekdiflnapnaaPriH
namespace Go.Proofs.Ythlekdiflnapnaa
open Go.ChangeShapes Go.WideShapes Go.ChangeAt Go.RowKit Go.Shelf
set_option linter.unusedVariables false

theorem order_cells (w : World) (p0 p1 p2 a0 a1 a2 : Int) (W : World) (h : (w.alloc (.cells #[.int .i64 p0, .int .i64 p1, .int .i64 p2] 34)).alloc (.cells #[.int .i64 a0, .int .i64 a1, .int .i64 a2] 34) = W) :
    W.cell? ⟨w.heap.size, 0, none⟩ = some (.int .i64 p0) ∧ W.cell? ⟨w.heap.size, 1, none⟩ = some (.int .i64 p1) ∧ W.cell? ⟨w.heap.size, 2, none⟩ = some (.int .i64 p2) ∧
    W.cell? ⟨w.heap.size + 1, 0, none⟩ = some (.int .i64 a0) ∧ W.cell? ⟨w.heap.size + 1, 1, none⟩ = some (.int .i64 a1) ∧ W.cell? ⟨w.heap.size + 1, 2, none⟩ = some (.int .i64 a2) := by
  subst h
  simp

/-- How three interrupts may stand. -/
def OrdH (p0 p1 a0 a1 : Int) (x y on2 on3 : Bool) : Prop :=
  (x = true ∧ y = false ∧ (p0 == p1) = false ∧ (on2 = false ∨ (on2 = true ∧ on3 = true))) ∨ (x = true ∧ y = false ∧ (p0 == p1) = true ∧ (a0 == a1) = false ∧ (on2 = false ∨ (on2 = true ∧ on3 = true))) ∨
  (x = false ∧ y = true ∧ (p0 == p1) = false) ∨ (x = false ∧ y = true ∧ (p0 == p1) = true ∧ (a0 == a1) = false) ∨ (x = false ∧ y = false ∧ (p0 == p1) = true ∧ (a0 == a1) = true)

set_option maxRecDepth 100000 in
set_option maxHeartbeats 4000000 in
theorem order_walk (p0 p1 p2 a0 a1 a2 : Int) (x y on2 on3 : Bool) (w : World) (h : OrdH p0 p1 a0 a1 x y on2 on3)
    (c1 : Hi (∀ W, Calls Try.prog 26 #[.int .i64 p0, .int .i64 a0, .int .i64 p1, .int .i64 a1] W fun e w' => e = .returned (.bool x) ∧ W = w'))
    (c2 : Hi (∀ W, Calls Try.prog 26 #[.int .i64 p1, .int .i64 a1, .int .i64 p0, .int .i64 a0] W fun e w' => e = .returned (.bool y) ∧ W = w'))
    (c3 : Hi (∀ W, Calls Try.prog 26 #[.int .i64 p1, .int .i64 a1, .int .i64 p2, .int .i64 a2] W fun e w' => e = .returned (.bool on2) ∧ W = w'))
    (c4 : Hi (∀ W, Calls Try.prog 26 #[.int .i64 p0, .int .i64 a0, .int .i64 p2, .int .i64 a2] W fun e w' => e = .returned (.bool on3) ∧ W = w')) :
    Calls Try.prog 6 #[.agg #[.int .i64 p0, .int .i64 p1, .int .i64 p2], .agg #[.int .i64 a0, .int .i64 a1, .int .i64 a2]] w fun e w' => e = .returned (.bool true) ∧ Below w.heap.size w w' := by
  rcases h with ⟨rfl, rfl, e, (rfl | ⟨rfl, rfl⟩)⟩ | ⟨rfl, rfl, e, f, (rfl | ⟨rfl, rfl⟩)⟩ | ⟨rfl, rfl, e⟩ | ⟨rfl, rfl, e, f⟩ | ⟨rfl, rfl, e, f⟩
  all_goals
    go_enter Try.func6, Try.ntmps6
    go_wp2
    obtain ⟨W, hW⟩ : ∃ W, (w.alloc (.cells #[.int .i64 p0, .int .i64 p1, .int .i64 p2] 34)).alloc (.cells #[.int .i64 a0, .int .i64 a1, .int .i64 a2] 34) = W := ⟨_, rfl⟩
    have hb := hi (show Below w.heap.size w W by rw [← hW]; exact ((Below.refl _ w).alloc (Nat.le_refl _) _).alloc (by simp) _)
    obtain ⟨d0, d1, d2, d3, d4, d5⟩ := order_cells w p0 p1 p2 a0 a1 a2 W hW
    rw [hW]
    clear hW
    go_quiet ((go_at_call 26; first | (with_reducible exact quiet_left (c1.out _)) | (with_reducible exact quiet_left (c2.out _))))
    go_wp2_with (first
      | (go_at_call 26; ((with_reducible refine (c3.out _).mono ?_); rintro e w1 ⟨rfl, rfl⟩))
      | (go_at_call 26; ((with_reducible refine (c4.out _).mono ?_); rintro e w1 ⟨rfl, rfl⟩))
      | (go_at_call 10; ((with_reducible refine (awake_any _).mono ?_); rintro e w1 ⟨rfl, hb1⟩)))
    go_ret
    exact ⟨rfl, (Below.drewN hb.out).trans (hb1.mono hb.out.size)⟩

theorem before_true {p a q b : Int} : beforeB p a q b = true ↔ p < q ∨ (p = q ∧ a < b) := by simp [beforeB]
theorem before_false {p a q b : Int} : beforeB p a q b = false ↔ ¬ (p < q ∨ (p = q ∧ a < b)) := by rw [← before_true]; simp

theorem order_cases (p0 p1 p2 a0 a1 a2 : Int) : ∃ x y on2 on3 : Bool, (beforeB p0 a0 p1 a1 = x ∧ beforeB p1 a1 p0 a0 = y ∧ beforeB p1 a1 p2 a2 = on2 ∧ beforeB p0 a0 p2 a2 = on3) ∧ OrdH p0 p1 a0 a1 x y on2 on3 := by
  refine ⟨_, _, _, _, ⟨rfl, rfl, rfl, rfl⟩, ?_⟩
  unfold OrdH
  simp only [beq_iff_eq, beq_eq_false_iff_ne, before_true, before_false]
  omega

theorem lawOrder_any (p0 p1 p2 a0 a1 a2 : Int) (w : World) :
    Calls Try.prog 6 #[.agg #[.int .i64 p0, .int .i64 p1, .int .i64 p2], .agg #[.int .i64 a0, .int .i64 a1, .int .i64 a2]] w fun e w' => e = .returned (.bool true) ∧ Below w.heap.size w w' := by
  obtain ⟨x, y, on2, on3, ⟨h1, h2, h3, h4⟩, h⟩ := order_cases p0 p1 p2 a0 a1 a2
  exact order_walk p0 p1 p2 a0 a1 a2 x y on2 on3 w h (hi fun W => h1 ▸ before_any _ _ _ _ W) (hi fun W => h2 ▸ before_any _ _ _ _ W) (hi fun W => h3 ▸ before_any _ _ _ _ W) (hi fun W => h4 ▸ before_any _ _ _ _ W)

end Go.Proofs.Ythlekdiflnapnaa
