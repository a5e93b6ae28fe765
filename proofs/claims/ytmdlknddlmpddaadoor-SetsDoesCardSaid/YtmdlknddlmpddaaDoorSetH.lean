/-
  sets.Same at every two sets: whether they have the same words.
-/
import Derived.Test.YtmdlknddlmpddaaDoorSetG
import Derived.ChangeKeysEq
import Derived.Deep.RegionHeld3
namespace Go.Proofs.YtmdlknddlmpddaaDoor
open Go.ChangeShapes Go.WideShapes Go.ChangeAt Go.RowKit Go.Shelf
set_option linter.unusedVariables false

theorem rowList_at (S : Words) (i : Nat) (h : i < 256) : (rowList S)[i]? = some (.int .u64 (S i)) := by simp [rowList, h]

def sameOn (S S' : Words) (is : List Nat) : Bool := is.all fun i => S i == S' i
def sameW (S S' : Words) : Bool := sameOn S S' (List.range 256)

theorem eq_u64 (d : Nat) (a b : Int) (w : World) : (Op.equalIn (d + 1) 54 (.int .u64 a) (.int .u64 b)).run Tryd.prog w = .ok (a == b) w := by
  simp [Op.equalIn, run_underlying under_u64, go_sem]

theorem eq_items (S S' : Words) (w : World) : ∀ is : List Nat, (∀ i ∈ is, i < 256) →
    (Op.eqItems 9999 54 1 (rowList S).toArray (rowList S').toArray is).run Tryd.prog w = .ok (sameOn S S' is) w
  | [], _ => by simp [Op.eqItems, sameOn, go_sem]
  | i :: r, h => by
    have ih := eq_items S S' w r (fun j hj => h j (by simp [hj]))
    have h1 := rowList_at S i (h i (by simp))
    have h2 := rowList_at S' i (h i (by simp))
    have hp : ∀ (X : Words), (rowList X)[i]? = some (.int .u64 (X i)) → (part 54 (rowList X).toArray (i * 1)).run Tryd.prog w = .ok (.int .u64 (X i)) w := fun X hX => by
      simp [part, go_sem, hX]
    simp only [Op.eqItems, Sem.run_bind, hp S h1, hp S' h2, Result.andThen_ok]
    have he : ∀ a b : Int, (Op.equalIn 9999 54 (.int .u64 a) (.int .u64 b)).run Tryd.prog w = .ok (a == b) w := fun a b => by
      exact eq_u64 9998 a b w
    rw [he, Result.andThen_ok]
    by_cases e : S i = S' i
    · have e2 : ((S i : Int) == (S' i : Int)) = true := by simp [e]
      rw [e2]
      simp only [Bool.not_true, Bool.false_eq_true, if_false, ih]
      simp [sameOn, e]
    · have e2 : ((S i : Int) == (S' i : Int)) = false := by simp; omega
      rw [e2]
      simp [sameOn, e, go_sem]

theorem info_u64' : ∃ i, Tryd.prog.info? 54 = some i := by
  cases hq : Tryd.prog.info? 54 with
  | none => have := info_u64; simp [hq] at this
  | some i => exact ⟨i, rfl⟩
theorem cells_u64 : Tryd.prog.cellsOf 54 = 1 := by kernel_rfl

theorem run_eq_row (S S' : Words) (w : World) : (Op.equalIn 10000 56 (.agg (rowList S).toArray) (.agg (rowList S').toArray)).run Tryd.prog w = .ok (sameW S S') w := by
  obtain ⟨i, hi⟩ := info_u64'
  rw [show (10000 : Nat) = 9999 + 1 from rfl, run_equalIn_array (w := w) 9999 _ _ under_row hi, cells_u64]
  exact eq_items S S' w (List.range 256) (fun i h => by simpa using h)

theorem wpQuiet_load {ops : Array Oper} {rest : List Oper} {op : Oper} {a : Act} {w : World} {Q : Act → Prop} (hw : Region.wanted op (yielded ops a.tmps) = true) (x : Operand) (ho : op.op = .load 56 x)
    (b : Nat) (hx : a.eval x = .pointer (some ⟨b, 0, none⟩)) (cs : List Value) (hl : w.rangeAt b 0 cs) (hn : (Tryd.prog.info? 56).map (·.size) = some cs.length)
    (h : wpQuiet Tryd.prog ops (fun w' => ∃ n, w' = w.drewN n) Q rest (a.put op.dst (.agg cs.toArray))) : wpQuiet Tryd.prog ops (fun w' => ∃ n, w' = w.drewN n) Q (op :: rest) a :=
  wpQuiet_step fun K hK => by
    rw [if_pos hw]
    refine ⟨.agg cs.toArray, fun w' hw' => ?_, hK _ h⟩
    obtain ⟨n, rfl⟩ := hw'
    have hr : (w.drewN n).rangeAt b 0 cs := hl
    unfold Oper.quietAt execOp
    simp only [ho, hx, Instr.loadAt, Instr.sureAddr, Sem.run_bind, Sem.run_pure, Result.andThen_ok, run_loadVar_mid (w.drewN n) b 0 56 cs _ hr under_row rfl hn]
    exact ⟨rfl, rfl⟩

theorem guard_row : Tryd.prog.eqGuardType Tryd.prog.depth 56 = false := by kernel_rfl
theorem run_guard (x y : Operand) (cs ds : Array Value) (w : World) : (eqGuard .eql 56 x y (.agg cs) (.agg ds)).run Tryd.prog w = .ok () w := by
  simp [eqGuard, guard_row, go_sem]
theorem run_eqlOp (S S' : Words) (w : World) : (binOp .eql 56 (.agg (rowList S).toArray) (.agg (rowList S').toArray)).run Tryd.prog w = .ok (.bool (sameW S S')) w := by
  have he := run_eq_row S S' w
  simp only [binOp, Op.equal, Op.maxDepth, Sem.run_bind, he, Result.andThen_ok, Sem.run_pure]
theorem wpQuiet_eql {ops : Array Oper} {rest : List Oper} {op : Oper} {a : Act} {w : World} {Q : Act → Prop} (hw : Region.wanted op (yielded ops a.tmps) = true) (x y : Operand) (ho : op.op = .binOp .eql 56 x y 56)
    (S S' : Words) (hx : a.eval x = .agg (rowList S).toArray) (hy : a.eval y = .agg (rowList S').toArray)
    (h : wpQuiet Tryd.prog ops (fun w' => ∃ n, w' = w.drewN n) Q rest (a.put op.dst (.bool (sameW S S')))) : wpQuiet Tryd.prog ops (fun w' => ∃ n, w' = w.drewN n) Q (op :: rest) a :=
  wpQuiet_step fun K hK => by
    rw [if_pos hw]
    refine ⟨.bool (sameW S S'), fun w' _ => ?_, hK _ h⟩
    have he := run_eq_row S S' w'
    unfold Oper.quietAt execOp
    simp only [ho, hx, hy, Sem.run_bind, Sem.run_pure, Result.andThen_ok, run_guard, run_eqlOp]
    exact ⟨rfl, rfl⟩

set_option maxRecDepth 100000 in
set_option maxHeartbeats 1000000 in
theorem same_sets (b c : Nat) (S S' : Words) (w : World) (hR : RowAt 58 w b S) (hR' : RowAt 58 w c S') :
    Calls Tryd.prog 31 #[.pointer (some ⟨b, 0, none⟩), .pointer (some ⟨c, 0, none⟩)] w fun e w' => e = .returned (.bool (sameW S S')) ∧ ∃ m, w' = w.drewN m := by
  have hc := hR.cell 0 (by omega)
  have hc' := hR'.cell 0 (by omega)
  have HL := Lib.hid hR.range
  have HL' := Lib.hid hR'.range
  have HN := Lib.hid (rowList_len S)
  have HN' := Lib.hid (rowList_len S')
  clear hR hR'
  go_enter Tryd.func31, Tryd.ntmps31
  go_wp2_with fail
  refine wp_region_quiet_lit (by kernel_rfl) (by kernel_rfl) ?_
  repeat (first
    | (refine wpQuiet_load rfl (.tmp 7) rfl b rfl (rowList S) HL.out (by rw [HN.out]; exact size_row) ?_)
    | (refine wpQuiet_load rfl (.tmp 11) rfl c rfl (rowList S') HL'.out (by rw [HN'.out]; exact size_row) ?_)
    | (refine wpQuiet_eql rfl (.tmp 8) (.tmp 12) rfl S S' rfl rfl ?_)
    | quiet_step (fail))
  refine wpQuiet_nil ?_
  intro _ hw'
  obtain ⟨nq, rfl⟩ := hw'
  go_wp2
  go_ret
  exact ⟨rfl, _, rfl⟩

end Go.Proofs.YtmdlknddlmpddaaDoor
