/-
  The document's interface: a row of 70 cells by value; bits, one, Shows.
-/
import Derived.Test.YtnnlimjbmfpalaaCpF
import Derived.Test.YtnnlimjbmfpalaaLadT
import Derived.Test.YtnnlimjbmfpalaaPriC
namespace Go.Proofs.Ytnnlimjbmfpalaa
open Go.ChangeShapes Go.WideShapes Go.ChangeAt Go.RowKit Go.Shelf
set_option linter.unusedVariables false
attribute [local go_sem] Oper.semAt_some

def rifL (x : Fc) : List Value := [.int .i64 x.m, .int .i64 x.p0, .int .i64 x.p1, .bool x.o0, .bool x.o1, .bool x.sp] ++ bsL x.r
def rifA (x : Fc) : Array Value := (rifL x).toArray
abbrev rfv (x : Fc) : Value := .agg (rifA x)
theorem rifL_len (x : Fc) : (rifL x).length = 70 := by simp [rifL, bsL_len]
theorem rifL_one (x : Fc) : ∀ v ∈ rifL x, v.oneCell' = true := by
  intro v hv
  simp only [rifL, List.mem_append] at hv
  rcases hv with hv | hv
  · simp only [List.mem_cons, List.not_mem_nil, or_false] at hv
    rcases hv with rfl | rfl | rfl | rfl | rfl | rfl <;> rfl
  · exact bsL_one x.r v hv
theorem rifA_one (x : Fc) : (rifA x).all (·.oneCell') = true := all_oneCell_toArray (rifL_one x)
theorem info_rif : (Try.prog.info? 36).map (·.size) = some 70 := by kernel_rfl
theorem size_rif (x : Fc) : (Try.prog.info? 36).map (·.size) = some (rifL x).length := by rw [rifL_len]; exact info_rif
theorem CB.rif {W : World} {b : Nat} {t : TypeId} {x : Fc} (h : CB W b t (rifA x)) : W.rangeAt b 0 (rifL x) := fun j v hv => by
  have := h.cell j
  rw [Nat.zero_add]
  rw [this]
  simpa [rifA] using hv
theorem CB.runs {W : World} {b : Nat} {t : TypeId} {x : Fc} (h : CB W b t (rifA x)) : W.rangeAt b 6 (bsL x.r) := fun j v hv => by
  have := h.cell (6 + j)
  rw [this]
  unfold rifA rifL
  rw [List.getElem?_toArray, List.getElem?_append_right (by simp)]
  simpa using hv
theorem one_any (b : Bool) (n : Nat) (w : World) : Calls Try.prog 36 #[.bool b, .int .u64 n] w fun e w' => e = .returned (.int .u64 (flagN b n : Nat)) ∧ w = w' := by
  unfold flagN
  cases b
  all_goals
    go_enter Try.func36, Try.ntmps36
    go_wp2
    go_ret
    exact ⟨rfl, rfl⟩
set_option maxHeartbeats 4000000 in
theorem rbits_if (x : Fc) (g : Int) (w : World) : Calls Try.prog 43 #[rfv x, .int .i64 g] w fun e w' => e = .returned (.int .i64 (levV x g)) ∧ Below w.heap.size w w' := by
  have ha := i64_and1 g
  have HB0 := hi (bal w (.cells (rifA x) 36))
  have f1 : (w.alloc (.cells (rifA x) 36)).cell? ⟨w.heap.size, 1, none⟩ = some (.int .i64 x.p0) := (CB.new w _ (rifA x)).cell 1
  have f2 : (w.alloc (.cells (rifA x) 36)).cell? ⟨w.heap.size, 2, none⟩ = some (.int .i64 x.p1) := (CB.new w _ (rifA x)).cell 2
  have wr1 : IntKind.i64.wrap 1 = 1 := by rw [IntKind.wrap_i64]; rfl
  rcases gO_two g with hG | hG
  · have hz : bits .and .i64 g 1 = 0 := by rw [ha, ← gO_int, hG]; rfl
    have HM := hi (fun W => show Calls Try.prog 55 #[.int .i64 0, .int .i64 x.p0] W fun e w' => e = .returned (.int .i64 (levV x g)) ∧ W = w' from (refMask_any 0 x.p0 W).mono (fun e w' z => ⟨by rw [z.1]; unfold levV Fc.pt; rw [hG]; rfl, z.2⟩))
    clear ha hG
    go_enter Try.func43, Try.ntmps43
    go_wp2_with (go_at_call 55; ((with_reducible refine (HM.out _).mono ?_); rintro e w1 ⟨rfl, rfl⟩))
    go_ret
    exact ⟨rfl, HB0.out⟩
  · have hz : bits .and .i64 g 1 = 1 := by rw [ha, ← gO_int, hG]; rfl
    have HM := hi (fun W => show Calls Try.prog 55 #[.int .i64 1, .int .i64 x.p1] W fun e w' => e = .returned (.int .i64 (levV x g)) ∧ W = w' from (refMask_any 1 x.p1 W).mono (fun e w' z => ⟨by rw [z.1]; unfold levV Fc.pt; rw [hG]; rfl, z.2⟩))
    clear ha hG
    go_enter Try.func43, Try.ntmps43
    go_wp2_with (go_at_call 55; ((with_reducible refine (HM.out _).mono ?_); rintro e w1 ⟨rfl, rfl⟩))
    go_ret
    exact ⟨rfl, HB0.out⟩

end Go.Proofs.Ytnnlimjbmfpalaa
