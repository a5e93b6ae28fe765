/-
  Queues compared; the law of new queues.
-/
import Derived.Test.YtheajnfbphkigaaQuI
namespace Go.Proofs.Ytheajnfbphkigaa
open Go.ChangeShapes Go.WideShapes Go.ChangeAt Go.RowKit
set_option linter.unusedVariables false
set_option linter.unusedSimpArgs false

def eqWn (a s a' s' : Int) : Bool := a == a' && s == s'
theorem equal_wn (d : Nat) (a s a' s' : Int) (w : World) : (Op.equalIn (d + 2) 23 (.agg #[.int .i64 a, .int .i64 s]) (.agg #[.int .i64 a', .int .i64 s'])).run Try.prog w = .ok (eqWn a s a' s') w := by
  have u4 := Try.underlying3
  have a4 := Try.isAgg3
  have z4 := Try.sizeOf3
  have hS : Try.prog.underlying 23 = some (.struct (Try.prog.fieldsOf 23)) := by kernel_rfl
  have hp : Try.prog.stoodInHeld 23 = false := by kernel_rfl
  rw [show d + 2 = (d + 1) + 1 from rfl, run_equalIn_agg w (d + 1) _ _ _ hS hp]
  simp only [Program.fieldsOf, Try.underlying23]
  go_simp
  unfold eqWn
  by_cases h1 : a = a' <;> by_cases h2 : s = s' <;> simp [h1, h2]
def eqQu (x y : Qu) : Bool := eqWn x.at_ x.size y.at_ y.size && (x.read == y.read && x.write == y.write)
theorem eqQu_iff (x y : Qu) : eqQu x y = decide (x = y) := by
  obtain ⟨a, b, c, e⟩ := x
  obtain ⟨a', b', c', e'⟩ := y
  rw [Bool.eq_iff_iff]
  simp [eqQu, eqWn, and_assoc]
theorem equal_qu (d : Nat) (a b c e a' b' c' e' : Int) (w : World) : (Op.equalIn (d + 3) 25 (.agg #[.int .i64 a, .int .i64 b, .int .i64 c, .int .i64 e]) (.agg #[.int .i64 a', .int .i64 b', .int .i64 c', .int .i64 e'])).run Try.prog w = .ok (eqQu ⟨a, b, c, e⟩ ⟨a', b', c', e'⟩) w := by
  have hI := fun W => equal_wn d a b a' b' W
  have u4 := Try.underlying3
  have a4 := Try.isAgg3
  have z4 := Try.sizeOf3
  have a5 := Try.isAgg23
  have z5 := Try.sizeOf23
  have hS : Try.prog.underlying 25 = some (.struct (Try.prog.fieldsOf 25)) := by kernel_rfl
  have hp : Try.prog.stoodInHeld 25 = false := by kernel_rfl
  rw [show d + 3 = (d + 2) + 1 from rfl, run_equalIn_agg w (d + 2) _ _ _ hS hp]
  simp only [Program.fieldsOf, Try.underlying25]
  go_simp
  have e0 : eqQu ⟨a, b, c, e⟩ ⟨a', b', c', e'⟩ = (eqWn a b a' b' && (c == c' && e == e')) := rfl
  rw [e0]
  cases eqWn a b a' b' <;> by_cases h1 : c = c' <;> by_cases h2 : e = e' <;> simp [h1, h2]
theorem eql_qu (a b c e a' b' c' e' : Int) (w : World) : (binOp .eql 25 (.agg #[.int .i64 a, .int .i64 b, .int .i64 c, .int .i64 e]) (.agg #[.int .i64 a', .int .i64 b', .int .i64 c', .int .i64 e'])).run Try.prog w = .ok (.bool (eqQu ⟨a, b, c, e⟩ ⟨a', b', c', e'⟩)) w := by
  rw [run_eql_struct, equal_qu 9997]; rfl
theorem neq_qu (a b c e a' b' c' e' : Int) (w : World) : (binOp .neq 25 (.agg #[.int .i64 a, .int .i64 b, .int .i64 c, .int .i64 e]) (.agg #[.int .i64 a', .int .i64 b', .int .i64 c', .int .i64 e'])).run Try.prog w = .ok (.bool (!eqQu ⟨a, b, c, e⟩ ⟨a', b', c', e'⟩)) w := by
  rw [run_neq_struct, equal_qu 9997]; rfl
theorem guard_qu (op : BinOp) (x y : Operand) (xs ys : Array Value) (w : World) : (eqGuard op 25 x y (.agg xs) (.agg ys)).run Try.prog w = .ok () w := run_eqGuard_agg w op _ _ _ _ _ (by kernel_rfl)

end Go.Proofs.Ytheajnfbphkigaa
