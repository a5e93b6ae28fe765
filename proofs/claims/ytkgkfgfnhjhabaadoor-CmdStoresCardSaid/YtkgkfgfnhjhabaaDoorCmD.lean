/-
  Package cmd: byOp at every call.
-/
import Derived.Test.YtkgkfgfnhjhabaaDoorCmC
namespace Go.Proofs.YtkgkfgfnhjhabaaDoor
open Go.ChangeShapes Go.WideShapes Go.ChangeAt Go.RowKit
set_option linter.unusedVariables false
set_option linter.unusedSimpArgs false

abbrev zKd : Array Value := #[.int .i64 0, .string ⟨#[]⟩, .int .i64 0]
/-- What byOp keeps through its loop. -/
structure ByI (w : World) (W : World) : Prop where
  box : CB W w.heap.size 71 zKd
  below : Below w.heap.size w W
theorem ByI.alloc {w W : World} (h : ByI w W) (o : Obj) : ByI w (W.alloc o) := ⟨h.box.alloc o, h.below.alloc h.below.size o⟩
theorem ByI.later {w W W' : World} (h : ByI w W) (k : Below W.heap.size W W') : ByI w W' := ⟨h.box.below k, h.below.trans (k.mono h.below.size)⟩
/-- Three stores. -/
abbrev set3 (W : World) (b : Nat) (v0 v1 v2 : Value) : World := ((W.setCell ⟨b, 0, none⟩ v0).setCell ⟨b, 1, none⟩ v1).setCell ⟨b, 2, none⟩ v2
theorem CB.set3 {W : World} {b : Nat} {t : TypeId} {a0 a1 a2 : Value} (h : CB W b t #[a0, a1, a2]) (v0 v1 v2 : Value) : CB (set3 W b v0 v1 v2) b t #[v0, v1, v2] := ((h.set 0 v0).set 1 v1).set 2 v2
theorem below_set3 {n : Nat} {w W : World} (h : Below n w W) {b : Nat} (hb : n ≤ b) (v0 v1 v2 : Value) : Below n w (set3 W b v0 v1 v2) := below_set (below_set (below_set h hb _) hb _) hb _

set_option maxRecDepth 100000 in
set_option maxHeartbeats 4000000 in
theorem byOp_any (op : Int) (w : World) : Calls Tryd.prog 34 #[.int .i64 op] w fun e w' => e = .returned (.tuple #[Kd.v (kop op) (nmB op) (hasN op), .bool (known op)]) ∧ Below w.heap.size w w' := by
  have HK := hi (fun W => kinds_any W)
  have H0 : ByI w (w.alloc (.cells zKd 71)) := ⟨CB.new w _ _, bal w _⟩
  obtain ⟨cs, hcs⟩ : ∃ cs, kdCells = cs := ⟨_, rfl⟩
  have HIX := hi (fun (k : Nat) (hk : k < 12) W => show (Instr.index 123 (.agg cs) (.int .i64 (k : Int))).run Tryd.prog W = .ok (Kd.v (kO k) (nmB (kO k)) (hasN (kO k))) W by
    rw [← hcs, run_index_cells under_kds size_kd Tryd.isAgg71 kdCells k hk W, kdCells_at k hk])
  rw [hcs] at HK
  have HH := hi H0
  clear H0 hcs
  go_enter Tryd.func34, Tryd.ntmps34
  go_wp2_with (go_at_call 62; ((with_reducible refine (HK.out _).mono ?_); rintro e w1 ⟨rfl, hb1⟩; have HI := hi (HH.out.later hb1); clear hb1))
  go_loopw [7] (fun i wr => ∃ k : Nat, k ≤ 12 ∧ i = .int .i64 k ∧ Hi ((∀ j, j < k → kO j ≠ op) ∧ ByI w wr)) (fun i _ => 12 - (intOf i).toNat)
  case atStart => exact ⟨0, by omega, rfl, hi ⟨fun j h => absurd h (by omega), HI.out⟩⟩
  case round =>
    obtain ⟨k, hk, rfl, HP⟩ := hrel
    by_cases hlt : k < 12
    · have hix := HIX.out k hlt
      have hn := HP.out.1
      have hI := HP.out.2
      have hbw : w.heap.size < wr.heap.size := hI.box.lt
      have hI2 := hI.alloc (.cells (Kd.cs (kO k) (nmB (kO k)) (hasN (kO k))) 71)
      have HA := hi hI2
      have HB := hi hI
      have f1 := hI.box.frozen
      have q0 := hI.box.cell 0
      have q1 := hI.box.cell 1
      have q2 := hI.box.cell 2
      have x1 : (k : Int) < 12 := by omega
      have HN := hi hn
      by_cases he : kO k = op
      · have HR := hi (show Kd.v (kO k) (nmB (kO k)) (hasN (kO k)) = Kd.v (kop op) (nmB op) (hasN op) ∧ known op = true by
          have := kO_known k
          rw [he] at this ⊢
          exact ⟨by rw [kop_yes this], this⟩)
        obtain ⟨o, ho⟩ : ∃ o, kO k = o := ⟨_, rfl⟩
        obtain ⟨nm, hnm⟩ : ∃ nm, nmB (kO k) = nm := ⟨_, rfl⟩
        obtain ⟨hs, hhs⟩ : ∃ hs, hasN (kO k) = hs := ⟨_, rfl⟩
        rw [hnm, hhs, ho] at hix HR
        rw [ho] at he
        subst he
        clear ho hnm hhs hn hI hI2
        go_wp2
        refine bodyPost_ret (results_kd rfl _ _ w.heap.size _ _ _ _ rfl rfl ((HB.out.box.set3 _ _ _).alloc _)) rfl ⟨?_, (below_set3 HB.out.below (Nat.le_refl _) _ _ _).alloc (by simp; omega) _⟩
        show Ending.returned (.tuple #[Kd.v o nm hs, .bool true]) = _
        rw [HR.out.1, HR.out.2]
      · have HE := hi he
        obtain ⟨o, ho⟩ : ∃ o, kO k = o := ⟨_, rfl⟩
        obtain ⟨nm, hnm⟩ : ∃ nm, nmB (kO k) = nm := ⟨_, rfl⟩
        obtain ⟨hs, hhs⟩ : ∃ hs, hasN (kO k) = hs := ⟨_, rfl⟩
        rw [hnm, hhs, ho] at hix HA
        rw [ho] at he
        have he2 : (o == op) = false := by simpa using he
        clear ho hnm hhs hn hI hI2
        go_wp2
        go_roundw
        case rel => exact ⟨k + 1, by omega, by go_num, hi ⟨fun j hj => by
          by_cases e : j = k
          · subst e; exact HE.out
          · exact HN.out j (by omega), HA.out⟩⟩
        case measure => simp [intOf]; omega
    · have hkn : known op = false := kO_none (fun j hj => HP.out.1 j (by omega))
      have hI := HP.out.2
      have HI2 := hi hI
      have f1 := hI.box.frozen
      have q0 := hI.box.cell 0
      have q1 := hI.box.cell 1
      have q2 := hI.box.cell 2
      have HR := hi (show Kd.v (kop op) (nmB op) (hasN op) = Kd.v 0 ⟨#[]⟩ 0 by rw [kop_no hkn, hasN_no hkn]; unfold nmB; rw [nameL_no hkn])
      have HKN := hi hkn
      have x1 : ¬ (k : Int) < 12 := by omega
      clear hI hkn
      go_wp2
      refine bodyPost_ret (results_kd rfl _ _ w.heap.size _ _ _ _ rfl rfl (HI2.out.box.set3 _ _ _)) rfl ⟨?_, below_set3 HI2.out.below (Nat.le_refl _) _ _ _⟩
      rw [HR.out, HKN.out]
      rfl

end Go.Proofs.YtkgkfgfnhjhabaaDoor
