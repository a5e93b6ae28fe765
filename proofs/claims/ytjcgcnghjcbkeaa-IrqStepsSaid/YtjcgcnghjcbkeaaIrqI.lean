/-
  Two states compared; the law IrqOdd at every input.
-/
import Derived.Test.YtjcgcnghjcbkeaaIrqH
import Derived.Laws.StructEq
namespace Go.Proofs.Ytjcgcnghjcbkeaa
open Go.ChangeShapes Go.WideShapes Go.ChangeAt Go.RowKit
set_option linter.unusedVariables false

/-- Two states, field by field. -/
def eq4 (a b c d a' b' c' d' : Bool) : Bool := a == a' && b == b' && c == c' && d == d'
theorem eq4_iff (x y : St) : eq4 x.e x.l x.h x.a y.e y.l y.h y.a = true ↔ x = y := by
  obtain ⟨a, b, c, d⟩ := x
  obtain ⟨a', b', c', d'⟩ := y
  simp [eq4, and_assoc]
theorem eq4_self (a b c d : Bool) : eq4 a b c d a b c d = true := by simp [eq4]
theorem equal4 (a b c d a' b' c' d' : Bool) (w : World) : (Op.equalIn 10000 23 (.agg #[.bool a, .bool b, .bool c, .bool d]) (.agg #[.bool a', .bool b', .bool c', .bool d'])).run Try.prog w = .ok (eq4 a b c d a' b' c' d') w := by
  have u3 := Try.underlying4
  have a3 := Try.isAgg4
  have z3 := Try.sizeOf4
  have hS : Try.prog.underlying 23 = some (.struct (Try.prog.fieldsOf 23)) := by kernel_rfl
  have hp : Try.prog.stoodInHeld 23 = false := by kernel_rfl
  rw [show (10000 : Nat) = 9999 + 1 from rfl, run_equalIn_agg w 9999 _ _ _ hS hp]
  simp only [Program.fieldsOf, Try.underlying23]
  go_simp
  unfold eq4
  cases a <;> cases a' <;> cases b <;> cases b' <;> cases c <;> cases c' <;> cases d <;> cases d' <;> rfl
theorem neq4 (a b c d a' b' c' d' : Bool) (w : World) : (binOp .neq 23 (.agg #[.bool a, .bool b, .bool c, .bool d]) (.agg #[.bool a', .bool b', .bool c', .bool d'])).run Try.prog w = .ok (.bool (!eq4 a b c d a' b' c' d')) w := by
  rw [run_neq_struct, equal4]; rfl
theorem eql4 (a b c d a' b' c' d' : Bool) (w : World) : (binOp .eql 23 (.agg #[.bool a, .bool b, .bool c, .bool d]) (.agg #[.bool a', .bool b', .bool c', .bool d'])).run Try.prog w = .ok (.bool (eq4 a b c d a' b' c' d')) w := by
  rw [run_eql_struct, equal4]; rfl
theorem guard4 (op : BinOp) (x y : Operand) (xs ys : Array Value) (w : World) : (eqGuard op 23 x y (.agg xs) (.agg ys)).run Try.prog w = .ok () w := run_eqGuard_agg w op _ _ _ _ _ (by kernel_rfl)
attribute [local go_sem high] neq4 eql4 guard4

theorem step_idem (x : St) (k : Int) : (x.step k).step k = x.step k := by
  obtain ⟨e, l, q, a⟩ := x
  rcases act_cases k with rfl | rfl | rfl | rfl | rfl | rfl | rfl | rfl | rfl | hk
  case inr.inr.inr.inr.inr.inr.inr.inr.inr => rw [step_odd hk, step_odd hk]
  all_goals (cases e <;> cases l <;> cases q <;> cases a <;> decide)

set_option maxHeartbeats 4000000 in
theorem lawOdd_any (x : St) (k : Int) (w : World) : Calls Try.prog 8 #[x.v, .int .i64 k] w fun e w' => e = .returned (.bool true) ∧ Below w.heap.size w w' := by
  have C1 := hi (fun W => step_any x k W)
  have C2 := hi (fun W => step_any (x.step k) k W)
  rw [step_idem] at C2
  have CR := hi (fun W => ready_any (x.step k) W)
  obtain ⟨t, ht⟩ : ∃ t, x.step k = t := ⟨_, rfl⟩
  rw [ht] at C1 C2 CR
  have HO := hi (show k < 1 ∨ 9 < k → t = x from fun h => by rw [← ht]; exact step_odd (by omega))
  clear ht
  have hk : k < 1 ∨ 9 < k ∨ (1 ≤ k ∧ k ≤ 9) := by omega
  obtain ⟨e, l, q, a⟩ := x
  obtain ⟨te, tl, tq, ta⟩ := t
  dsimp only [St.v] at *
  rcases hk with hk | hk | ⟨hk, hk2⟩
  · obtain ⟨rfl, rfl, rfl, rfl⟩ : te = e ∧ tl = l ∧ tq = q ∧ ta = a := by simpa using HO.out (.inl hk)
    have E1 := eq4_self te tl tq ta
    clear HO
    go_enter Try.func8, Try.ntmps8
    go_wp2_with (first
      | (go_at_call 12; ((with_reducible refine (C2.out _).mono ?_); rintro e' w2 ⟨rfl, hb⟩; have HS2 := hi (old_box HS1.out hb); obtain ⟨hT, hB⟩ := after_box HB1.out hb; have HT2 := hi hT; have HB2 := hi hB; clear hb hT hB))
      | (go_at_call 12; ((with_reducible refine (C1.out _).mono ?_); rintro e' w1 ⟨rfl, hb⟩; obtain ⟨hS, hB⟩ := box_call hb; have HS1 := hi hS; have HB1 := hi hB; clear hb hS hB))
      | (go_at_call 9; ((with_reducible refine (awake_any _).mono ?_); rintro e' w3 ⟨rfl, hb⟩; have HS3 := hi (old_box HS2.out hb); have HT3 := hi (old_box HT2.out hb); obtain ⟨hU, hB⟩ := after_box HB2.out hb; have HB3 := hi hB; obtain ⟨s0, s1, s2, s3⟩ := CB.cells (x := ⟨te, tl, tq, ta⟩) HS3.out; obtain ⟨t0, t1, t2, t3⟩ := CB.cells (x := ⟨te, tl, tq, ta⟩) HT3.out; obtain ⟨u0, u1, u2, u3⟩ := CB.cells (x := ⟨te, tl, tq, ta⟩) hU; clear hb hU hB)))
    go_ret
    exact ⟨rfl, HB3.out⟩
  · have hk0 : ¬ k < 1 := by omega
    obtain ⟨rfl, rfl, rfl, rfl⟩ : te = e ∧ tl = l ∧ tq = q ∧ ta = a := by simpa using HO.out (.inr hk)
    have E1 := eq4_self te tl tq ta
    clear HO
    go_enter Try.func8, Try.ntmps8
    go_wp2_with (first
      | (go_at_call 12; ((with_reducible refine (C2.out _).mono ?_); rintro e' w2 ⟨rfl, hb⟩; have HS2 := hi (old_box HS1.out hb); obtain ⟨hT, hB⟩ := after_box HB1.out hb; have HT2 := hi hT; have HB2 := hi hB; clear hb hT hB))
      | (go_at_call 12; ((with_reducible refine (C1.out _).mono ?_); rintro e' w1 ⟨rfl, hb⟩; obtain ⟨hS, hB⟩ := box_call hb; have HS1 := hi hS; have HB1 := hi hB; clear hb hS hB))
      | (go_at_call 9; ((with_reducible refine (awake_any _).mono ?_); rintro e' w3 ⟨rfl, hb⟩; have HS3 := hi (old_box HS2.out hb); have HT3 := hi (old_box HT2.out hb); obtain ⟨hU, hB⟩ := after_box HB2.out hb; have HB3 := hi hB; obtain ⟨s0, s1, s2, s3⟩ := CB.cells (x := ⟨te, tl, tq, ta⟩) HS3.out; obtain ⟨t0, t1, t2, t3⟩ := CB.cells (x := ⟨te, tl, tq, ta⟩) HT3.out; obtain ⟨u0, u1, u2, u3⟩ := CB.cells (x := ⟨te, tl, tq, ta⟩) hU; clear hb hU hB)))
    go_ret
    exact ⟨rfl, HB3.out⟩
  · skip
    have E1 := eq4_self te tl tq ta
    clear HO
    go_enter Try.func8, Try.ntmps8
    go_wp2_with (first
      | (go_at_call 12; ((with_reducible refine (C2.out _).mono ?_); rintro e' w2 ⟨rfl, hb⟩; have HS2 := hi (old_box HS1.out hb); obtain ⟨hT, hB⟩ := after_box HB1.out hb; have HT2 := hi hT; have HB2 := hi hB; clear hb hT hB))
      | (go_at_call 12; ((with_reducible refine (C1.out _).mono ?_); rintro e' w1 ⟨rfl, hb⟩; obtain ⟨hS, hB⟩ := box_call hb; have HS1 := hi hS; have HB1 := hi hB; clear hb hS hB))
      | (go_at_call 9; ((with_reducible refine (awake_any _).mono ?_); rintro e' w3 ⟨rfl, hb⟩; have HS3 := hi (old_box HS2.out hb); have HT3 := hi (old_box HT2.out hb); obtain ⟨hU, hB⟩ := after_box HB2.out hb; have HB3 := hi hB; obtain ⟨s0, s1, s2, s3⟩ := CB.cells (x := ⟨e, l, q, a⟩) HS3.out; obtain ⟨t0, t1, t2, t3⟩ := CB.cells (x := ⟨te, tl, tq, ta⟩) HT3.out; obtain ⟨u0, u1, u2, u3⟩ := CB.cells (x := ⟨te, tl, tq, ta⟩) hU; clear hb hU hB)))
    go_ret
    exact ⟨rfl, HB3.out⟩

end Go.Proofs.Ytjcgcnghjcbkeaa
