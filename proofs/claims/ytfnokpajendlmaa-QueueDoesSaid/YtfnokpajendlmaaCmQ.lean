/-
  Commands compared, words compared.
-/
import Derived.Test.YtfnokpajendlmaaMjD
import Derived.Laws.StructEq
import Derived.ChangeKeysEq
namespace Go.Proofs.Ytfnokpajendlmaa
open Go.ChangeShapes Go.WideShapes Go.ChangeAt Go.RowKit
set_option linter.unusedVariables false
set_option linter.unusedSimpArgs false

def eqCm (a b : Cm) : Bool := a.op == b.op && (a.dev == b.dev && (a.ev == b.ev && (a.num == b.num && (a.coll == b.coll && (a.tgt == b.tgt && (a.bit == b.bit && (a.addr == b.addr && a.valid == b.valid)))))))
theorem eqCm_iff (a b : Cm) : eqCm a b = decide (a = b) := by
  obtain ⟨a1, a2, a3, a4, a5, a6, a7, a8, a9⟩ := a
  obtain ⟨b1, b2, b3, b4, b5, b6, b7, b8, b9⟩ := b
  rw [Bool.eq_iff_iff]
  simp [eqCm]
set_option maxRecDepth 100000 in
set_option maxHeartbeats 4000000 in
theorem equal_cm (a1 a2 a3 a4 a5 a6 a7 a8 b1 b2 b3 b4 b5 b6 b7 b8 : Int) (a9 b9 : Bool) (w : World) :
    (Op.equalIn 10000 36 (.agg #[.int .i64 a1, .int .i64 a2, .int .i64 a3, .int .i64 a4, .int .i64 a5, .int .i64 a6, .int .i64 a7, .int .i64 a8, .bool a9]) (.agg #[.int .i64 b1, .int .i64 b2, .int .i64 b3, .int .i64 b4, .int .i64 b5, .int .i64 b6, .int .i64 b7, .int .i64 b8, .bool b9])).run Try.prog w = .ok (eqCm ⟨a1, a2, a3, a4, a5, a6, a7, a8, a9⟩ ⟨b1, b2, b3, b4, b5, b6, b7, b8, b9⟩) w := by
  have u3 := Try.underlying4
  have y3 := Try.isAgg4
  have z3 := Try.sizeOf4
  have u4 := Try.underlying3
  have y4 := Try.isAgg3
  have z4 := Try.sizeOf3
  have u5 := Try.underlying34
  have y5 := Try.isAgg34
  have z5 := Try.sizeOf34
  have hS : Try.prog.underlying 36 = some (.struct (Try.prog.fieldsOf 36)) := by kernel_rfl
  have hp : Try.prog.stoodInHeld 36 = false := by kernel_rfl
  rw [show (10000 : Nat) = 9999 + 1 from rfl, run_equalIn_agg w 9999 _ _ _ hS hp]
  simp only [Program.fieldsOf, Try.underlying36]
  have e0 : eqCm ⟨a1, a2, a3, a4, a5, a6, a7, a8, a9⟩ ⟨b1, b2, b3, b4, b5, b6, b7, b8, b9⟩ = (a1 == b1 && (a2 == b2 && (a3 == b3 && (a4 == b4 && (a5 == b5 && (a6 == b6 && (a7 == b7 && (a8 == b8 && a9 == b9)))))))) := rfl
  rw [e0]
  clear e0
  cases h1 : (a1 == b1)
  · go_simp
  · cases h2 : (a2 == b2)
    · go_simp
    · cases h3 : (a3 == b3)
      · go_simp
      · cases h4 : (a4 == b4)
        · go_simp
        · cases h5 : (a5 == b5)
          · go_simp
          · cases h6 : (a6 == b6)
            · go_simp
            · cases h7 : (a7 == b7)
              · go_simp
              · cases h8 : (a8 == b8)
                · go_simp
                · cases a9 <;> cases b9 <;> go_simp
theorem eql_cm (a1 a2 a3 a4 a5 a6 a7 a8 b1 b2 b3 b4 b5 b6 b7 b8 : Int) (a9 b9 : Bool) (w : World) :
    (binOp .eql 36 (.agg #[.int .i64 a1, .int .i64 a2, .int .i64 a3, .int .i64 a4, .int .i64 a5, .int .i64 a6, .int .i64 a7, .int .i64 a8, .bool a9]) (.agg #[.int .i64 b1, .int .i64 b2, .int .i64 b3, .int .i64 b4, .int .i64 b5, .int .i64 b6, .int .i64 b7, .int .i64 b8, .bool b9])).run Try.prog w = .ok (.bool (eqCm ⟨a1, a2, a3, a4, a5, a6, a7, a8, a9⟩ ⟨b1, b2, b3, b4, b5, b6, b7, b8, b9⟩)) w := by
  rw [run_eql_struct, equal_cm]; rfl
theorem neq_cm (a1 a2 a3 a4 a5 a6 a7 a8 b1 b2 b3 b4 b5 b6 b7 b8 : Int) (a9 b9 : Bool) (w : World) :
    (binOp .neq 36 (.agg #[.int .i64 a1, .int .i64 a2, .int .i64 a3, .int .i64 a4, .int .i64 a5, .int .i64 a6, .int .i64 a7, .int .i64 a8, .bool a9]) (.agg #[.int .i64 b1, .int .i64 b2, .int .i64 b3, .int .i64 b4, .int .i64 b5, .int .i64 b6, .int .i64 b7, .int .i64 b8, .bool b9])).run Try.prog w = .ok (.bool (!(eqCm ⟨a1, a2, a3, a4, a5, a6, a7, a8, a9⟩ ⟨b1, b2, b3, b4, b5, b6, b7, b8, b9⟩))) w := by
  rw [run_neq_struct, equal_cm]; rfl
theorem guard_cm (op : BinOp) (x y : Operand) (xs ys : Array Value) (w : World) : (eqGuard op 36 x y (.agg xs) (.agg ys)).run Try.prog w = .ok () w := run_eqGuard_agg w op _ _ _ _ _ (by kernel_rfl)

def eqW (a b c d a' b' c' d' : Int) : Bool := a == a' && (b == b' && (c == c' && d == d'))
theorem eqW_iff (x y : Ws) : eqW (x 0) (x 1) (x 2) (x 3) (y 0) (y 1) (y 2) (y 3) = sameW x y := by
  rw [Bool.eq_iff_iff]
  simp [eqW, sameW]
  omega
theorem size_u64 : (Try.prog.info? 37).map (·.size) = some 1 := by kernel_rfl
set_option maxHeartbeats 2000000 in
theorem equal_w (n : Nat) (a b c d a' b' c' d' : Int) (w : World) : (Op.equalIn (n + 1 + 1) 94 (.agg #[.int .u64 a, .int .u64 b, .int .u64 c, .int .u64 d]) (.agg #[.int .u64 a', .int .u64 b', .int .u64 c', .int .u64 d'])).run Try.prog w = .ok (eqW a b c d a' b' c' d') w := by
  have u3 := Try.underlying37
  have a3 := Try.isAgg37
  obtain ⟨i, hi⟩ : ∃ i, Try.prog.info? 37 = some i := by
    cases h : Try.prog.info? 37 with
    | none => have := size_u64; simp [h] at this
    | some i => exact ⟨i, rfl⟩
  have hc : Try.prog.cellsOf 37 = 1 := by kernel_rfl
  rw [run_equalIn_array w (n + 1) _ _ Try.underlying94 hi, hc]
  simp only [Op.eqItems, List.range_succ, List.range_zero, List.nil_append, List.cons_append]
  unfold eqW
  cases h1 : (a == a')
  · go_simp
  · cases h2 : (b == b')
    · go_simp
    · cases h3 : (c == c')
      · go_simp
      · cases h4 : (d == d') <;> go_simp
theorem eql_w (a b c d a' b' c' d' : Int) (w : World) : (binOp .eql 94 (.agg #[.int .u64 a, .int .u64 b, .int .u64 c, .int .u64 d]) (.agg #[.int .u64 a', .int .u64 b', .int .u64 c', .int .u64 d'])).run Try.prog w = .ok (.bool (eqW a b c d a' b' c' d')) w := by
  rw [run_eql_struct, show (10000 : Nat) = 9998 + 1 + 1 from rfl, equal_w]; rfl
theorem neq_w (a b c d a' b' c' d' : Int) (w : World) : (binOp .neq 94 (.agg #[.int .u64 a, .int .u64 b, .int .u64 c, .int .u64 d]) (.agg #[.int .u64 a', .int .u64 b', .int .u64 c', .int .u64 d'])).run Try.prog w = .ok (.bool (!(eqW a b c d a' b' c' d'))) w := by
  rw [run_neq_struct, show (10000 : Nat) = 9998 + 1 + 1 from rfl, equal_w]; rfl
theorem guard_w (op : BinOp) (x y : Operand) (xs ys : Array Value) (w : World) : (eqGuard op 94 x y (.agg xs) (.agg ys)).run Try.prog w = .ok () w := run_eqGuard_agg w op _ _ _ _ _ (by kernel_rfl)

end Go.Proofs.Ytfnokpajendlmaa
