/-
  Candidates compared; the example's plain course.
-/
import Derived.Test.YtobhdjepfhbgaaaDoorLrC
import Derived.Laws.StructEq
import Derived.ChangeKeysEq
namespace Go.Proofs.YtobhdjepfhbgaaaDoor
open Go.ChangeShapes Go.WideShapes Go.ChangeAt Go.RowKit Go.Shelf
set_option linter.unusedVariables false
set_option linter.unusedSimpArgs false

def eqCd (a b : Cd) : Bool := a.id == b.id && (a.p == b.p && (a.g == b.g && a.is == b.is))
theorem eqCd_iff (a b : Cd) : eqCd a b = decide (a = b) := by
  obtain ⟨a1, a2, a3, a4⟩ := a
  obtain ⟨b1, b2, b3, b4⟩ := b
  rw [Bool.eq_iff_iff]
  simp [eqCd]
set_option maxRecDepth 100000 in
set_option maxHeartbeats 4000000 in
theorem equal_cd (a1 a2 a3 b1 b2 b3 : Int) (a4 b4 : Bool) (w : World) :
    (Op.equalIn 10000 63 (.agg #[.int .i64 a1, .int .i64 a2, .int .i64 a3, .bool a4]) (.agg #[.int .i64 b1, .int .i64 b2, .int .i64 b3, .bool b4])).run Tryd.prog w = .ok (eqCd ⟨a1, a2, a3, a4⟩ ⟨b1, b2, b3, b4⟩) w := by
  have u3 := Tryd.underlying4
  have y3 := Tryd.isAgg4
  have z3 := Tryd.sizeOf4
  have u4 := Tryd.underlying3
  have y4 := Tryd.isAgg3
  have z4 := Tryd.sizeOf3
  have hS : Tryd.prog.underlying 63 = some (.struct (Tryd.prog.fieldsOf 63)) := by kernel_rfl
  have hp : Tryd.prog.stoodInHeld 63 = false := by kernel_rfl
  rw [show (10000 : Nat) = 9999 + 1 from rfl, run_equalIn_agg w 9999 _ _ _ hS hp]
  simp only [Program.fieldsOf, Tryd.underlying63]
  have e0 : eqCd ⟨a1, a2, a3, a4⟩ ⟨b1, b2, b3, b4⟩ = (a1 == b1 && (a2 == b2 && (a3 == b3 && a4 == b4))) := rfl
  rw [e0]
  clear e0
  cases h1 : (a1 == b1)
  · go_simp
  · cases h2 : (a2 == b2)
    · go_simp
    · cases h3 : (a3 == b3)
      · go_simp
      · cases a4 <;> cases b4 <;> go_simp
theorem eql_cd (a1 a2 a3 b1 b2 b3 : Int) (a4 b4 : Bool) (w : World) :
    (binOp .eql 63 (.agg #[.int .i64 a1, .int .i64 a2, .int .i64 a3, .bool a4]) (.agg #[.int .i64 b1, .int .i64 b2, .int .i64 b3, .bool b4])).run Tryd.prog w = .ok (.bool (eqCd ⟨a1, a2, a3, a4⟩ ⟨b1, b2, b3, b4⟩)) w := by
  rw [run_eql_struct, equal_cd]; rfl
theorem neq_cd (a1 a2 a3 b1 b2 b3 : Int) (a4 b4 : Bool) (w : World) :
    (binOp .neq 63 (.agg #[.int .i64 a1, .int .i64 a2, .int .i64 a3, .bool a4]) (.agg #[.int .i64 b1, .int .i64 b2, .int .i64 b3, .bool b4])).run Tryd.prog w = .ok (.bool (!(eqCd ⟨a1, a2, a3, a4⟩ ⟨b1, b2, b3, b4⟩))) w := by
  rw [run_neq_struct, equal_cd]; rfl
theorem guard_cd (op : BinOp) (x y : Operand) (xs ys : Array Value) (w : World) : (eqGuard op 63 x y (.agg xs) (.agg ys)).run Tryd.prog w = .ok () w := run_eqGuard_agg w op _ _ _ _ _ (by kernel_rfl)

theorem setV_len (bs : List Nat) (x : St) (id : Int) (is : Bool) : (setV bs x id is).1.length = bs.length := by
  unfold setV; split
  · exact setS_len _ _ _ _
  · rfl
theorem setV_mem {bs : List Nat} (h : ∀ b ∈ bs, b < 256) (x : St) (id : Int) (is : Bool) : ∀ b ∈ (setV bs x id is).1, b < 256 := by
  unfold setV; split
  · exact setS_mem h _ _ _
  · exact h
theorem setV_ok {L : Nat} {bs : List Nat} {x : St} (h : x.Ok L) (id : Int) (is : Bool) : (setV bs x id is).2.Ok L := by
  unfold setV; split
  · rename_i ho
    obtain ⟨k, hk, rfl⟩ := ownB_out ho
    rw [kOf_at]
    exact setS_ok h hk is
  · exact h
theorem setV_alike (bs : List Nat) (x : St) (id : Int) (is : Bool) : St.Alike x (setV bs x id is).2 := by
  unfold setV; split
  · exact setS_alike _ _ _ _
  · exact St.Alike.refl x

/-- The example. -/
def ab1 : List Nat := (List.replicate 32 0).set (0 + 3) 161
def ab2 : List Nat := ab1.set (0 + 16) 8
def ax0 : St := newX 16 0 16 16 2
def aEn : List Nat × St := enS ab2 ax0
def aS1 : List Nat × St := setV aEn.1 aEn.2 8195 false
def aS2 : List Nat × St := setV aS1.1 aS1.2 8200 true
def aDi : List Nat × St := disS aS2.1 aS2.2
theorem ax0_ok : ax0.Ok 32 := newX_ok (by decide) (by decide) (by decide) (by decide) (by decide) (by decide) (by decide)
theorem ab2_mem : ∀ b ∈ ab2, b < 256 := by decide +kernel
theorem aEn_ok : aEn.2.Ok 32 := enS_ok ab2_mem ax0_ok
theorem aEn_len : aEn.1.length = 32 := (enS_len _ _).trans rfl
theorem aS1_ok : aS1.2.Ok 32 := setV_ok aEn_ok _ _
theorem aS1_len : aS1.1.length = 32 := (setV_len _ _ _ _).trans aEn_len
theorem aS2_ok : aS2.2.Ok 32 := setV_ok aS1_ok _ _
theorem aS2_len : aS2.1.length = 32 := (setV_len _ _ _ _).trans aS1_len
theorem aS2_on : aS2.2.on = true := by decide +kernel
theorem aDi_len : aDi.1.length = 32 := (disS_len _ _).trans aS2_len
theorem ex_best : bestV aEn.2 = ⟨8195, 160, 1, true⟩ := by decide +kernel
theorem ex_none : bestV aS1.2 = ⟨0, 0, 0, false⟩ := by decide +kernel
theorem ex_has : hasV aEn.1 aEn.2 8195 = true := by decide +kernel
theorem ex_err : errL aEn.2 8195 = 0 := by decide +kernel
theorem ex_r1 : rdE aEn.1 0 32 16 1 = 0 := by decide +kernel
theorem ex_a1 : accE aEn.1.length 0 32 16 1 = 0 := by rw [aEn_len]; decide +kernel
theorem ex_r2 : rdE aDi.1 0 32 17 1 = 1 := by decide +kernel
theorem ex_a2 : accE aDi.1.length 0 32 17 1 = 0 := by rw [aDi_len]; decide +kernel

end Go.Proofs.YtobhdjepfhbgaaaDoor
