/-
  The document's Name at every op.
-/
import Derived.Test.YtkgkfgfnhjhabaaDoorCmW
import Derived.Test.YtkgkfgfnhjhabaaDoorCmC
namespace Go.Proofs.YtkgkfgfnhjhabaaDoor
open Go.ChangeShapes Go.WideShapes Go.ChangeAt Go.RowKit
set_option linter.unusedVariables false
set_option linter.unusedSimpArgs false

def nmOps : Array Value := #[.int .i64 1, .int .i64 3, .int .i64 4, .int .i64 5, .int .i64 8, .int .i64 9, .int .i64 10, .int .i64 11, .int .i64 12, .int .i64 13, .int .i64 14, .int .i64 15]
def nmTxs : Array Value := #[.string ⟨#[109, 111, 118, 105]⟩, .string ⟨#[105, 110, 116]⟩, .string ⟨#[99, 108, 101, 97, 114]⟩, .string ⟨#[115, 121, 110, 99]⟩, .string ⟨#[109, 97, 112, 100]⟩, .string ⟨#[109, 97, 112, 99]⟩,
  .string ⟨#[109, 97, 112, 116, 105]⟩, .string ⟨#[109, 97, 112, 105]⟩, .string ⟨#[105, 110, 118]⟩, .string ⟨#[105, 110, 118, 97, 108, 108]⟩, .string ⟨#[109, 111, 118, 97, 108, 108]⟩, .string ⟨#[100, 105, 115, 99, 97, 114, 100]⟩]
theorem nmOps_at {k : Nat} (h : k < 12) : nmOps[k]? = some (.int .i64 (kO k)) := by
  rcases twelve h with rfl | rfl | rfl | rfl | rfl | rfl | rfl | rfl | rfl | rfl | rfl | rfl <;> rfl
theorem nmTxs_at {k : Nat} (h : k < 12) : nmTxs[k]? = some (.string (nmB (kO k))) := by
  rcases twelve h with rfl | rfl | rfl | rfl | rfl | rfl | rfl | rfl | rfl | rfl | rfl | rfl <;> rfl
/-- What Name keeps. -/
structure NmI (w W : World) : Prop where
  o : CB W w.heap.size 22 nmOps
  t : CB W (w.heap.size + 1) 9 nmTxs
  below : Below w.heap.size w W

set_option maxRecDepth 100000 in
set_option maxHeartbeats 2000000 in
theorem name_any (op : Int) (w : World) : Calls Tryd.prog 52 #[.int .i64 op] w fun e w' => e = .returned (.string (nmB op)) ∧ Below w.heap.size w w' := by
  have H0 : NmI w ((w.alloc (.cells nmOps 22)).alloc (.cells nmTxs 9)) := ⟨(CB.new w _ _).alloc _, cb_second, bal_two w _ _⟩
  have HH := hi H0
  obtain ⟨R, hR⟩ : ∃ R, nmB op = R := ⟨_, rfl⟩
  have HR := hi hR
  rw [hR]
  clear H0 hR
  go_enter Tryd.func52, Tryd.ntmps52
  go_wp2
  go_loopw [5] (fun i wr => ∃ k : Nat, k ≤ 12 ∧ i = .int .i64 k ∧ Hi ((∀ j, j < k → kO j ≠ op) ∧ NmI w wr)) (fun i _ => 12 - (intOf i).toNat)
  case atStart => exact ⟨0, by omega, rfl, hi ⟨fun j h => absurd h (by omega), HH.out⟩⟩
  case round =>
    obtain ⟨k, hk, rfl, HP⟩ := hrel
    by_cases hlt : k < 12
    · have c0 := (HP.out.2.o.cell k).trans (nmOps_at hlt)
      have c1 := (HP.out.2.t.cell k).trans (nmTxs_at hlt)
      have x1 : (k : Int) < 12 := by omega
      by_cases he : kO k = op
      · rw [he, HR.out] at c1
        rw [he] at c0
        go_wp2
        go_ret
        exact ⟨rfl, HP.out.2.below⟩
      · have he2 : (kO k == op) = false := by simpa using he
        obtain ⟨o, ho⟩ : ∃ o, kO k = o := ⟨_, rfl⟩
        have HO := hi ho
        rw [ho] at c0 he2
        clear c1 he ho
        go_wp2
        go_roundw
        case rel => exact ⟨k + 1, by omega, by go_num, hi ⟨fun j hj => by
          by_cases e : j = k
          · subst e; rw [HO.out]; simpa using he2
          · exact HP.out.1 j (by omega), HP.out.2⟩⟩
        case measure => simp [intOf]; omega
    · have hkn : known op = false := kO_none (fun j hj => HP.out.1 j (by omega))
      have hr : R = ⟨#[]⟩ := by rw [← HR.out]; unfold nmB; rw [nameL_no hkn]
      have x1 : ¬ (k : Int) < 12 := by omega
      subst hr
      clear hkn
      go_wp2
      go_ret
      exact ⟨rfl, HP.out.2.below⟩

end Go.Proofs.YtkgkfgfnhjhabaaDoor
