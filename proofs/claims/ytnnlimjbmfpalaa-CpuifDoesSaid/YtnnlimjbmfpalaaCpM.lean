/-
  The document's interface: a row stored whole, made, given back.
-/
import Derived.Test.YtnnlimjbmfpalaaCpL
namespace Go.Proofs.Ytnnlimjbmfpalaa
open Go.ChangeShapes Go.WideShapes Go.ChangeAt Go.RowKit Go.Shelf
set_option linter.unusedVariables false
attribute [local go_sem] Oper.semAt_some

theorem rifA_size (x : Fc) : (rifA x).size = 70 := by simp [rifA, rifL_len]
theorem size_rifA (x : Fc) : (Try.prog.info? 36).map (·.size) = some (rifA x).size := by rw [rifA_size]; exact info_rif
def Fc.zero : Fc := ⟨0, 0, 0, false, false, false, f0⟩
theorem CB.wholeR {W : World} {b : Nat} {t : TypeId} {cs : Array Value} (h : CB W b t cs) (hs : cs.size = 70) (x : Fc) : CB (W.setCells b 0 (rifL x)) b t (rifA x) := by
  have := CB.setCells (rifL x) 0 W cs h
  rw [setAll_all (by rw [hs, rifL_len])] at this
  exact this
theorem CB.thereR {W : World} {b : Nat} {t : TypeId} {cs : Array Value} (h : CB W b t cs) (hs : cs.size = 70) : W.there b 0 70 := fun j hj => by
  rw [Nat.zero_add, h.cell, Array.getElem?_eq_getElem (by omega)]
  exact ⟨rfl, h.frozen _⟩
theorem CB.thereRuns {W : World} {b : Nat} {t : TypeId} {cs : Array Value} (h : CB W b t cs) (hs : cs.size = 70) : W.there b 6 64 := fun j hj => by
  rw [h.cell, Array.getElem?_eq_getElem (by omega)]
  exact ⟨rfl, h.frozen _⟩
theorem CB.runsSet {W : World} {b : Nat} {t : TypeId} {x : Fc} (h : CB W b t (rifA x)) (r : Rg) : CB (W.setCells b 6 (bsL r)) b t (rifA { x with r := r }) := by
  have k := CB.setCells (bsL r) 6 W (rifA x) h
  have e : setAll (rifA x) 6 (bsL r) = rifA { x with r := r } := by
    apply Array.ext_getElem?
    intro j
    by_cases hj : j < 70
    · rw [setAll_get _ _ _ _ (by rw [rifA_size]; exact hj), bsL_len]
      unfold rifA rifL
      by_cases h6 : j < 6
      · rw [if_pos h6, List.getElem?_toArray, List.getElem?_toArray, List.getElem?_append_left (by simpa using h6), List.getElem?_append_left (by simpa using h6)]
      · rw [if_neg h6, if_pos (by omega), List.getElem?_toArray, List.getElem?_append_right (by simp; omega)]
        simp
    · rw [Array.getElem?_eq_none (by rw [setAll_size, rifA_size]; omega), Array.getElem?_eq_none (by rw [rifA_size]; omega)]
  rw [e] at k
  exact k
theorem run_alloc_rif (W : World) : (Instr.alloc 36 true (.tuple #[])).run Try.prog W = .ok (.pointer (some ⟨W.heap.size, 0, none⟩)) (W.alloc (.cells (rifA Fc.zero) 36)) := by
  kernel_rfl
theorem wpList_alloc_rif {ops : Array Oper} {rest : List Oper} {op : Oper} {a : Act} {w : World} {Q : Exit → Act → World → Prop} (hgd : op.guard = none) (ho : op.op = .alloc 36)
    (h : wpList Try.prog ops Q rest (a.put op.dst (.pointer (some ⟨w.heap.size, 0, none⟩))) (w.alloc (.cells (rifA Fc.zero) 36))) : wpList Try.prog ops Q (op :: rest) a w :=
  wpList_plain hgd fun _ hK => by
    unfold Oper.wp execOp
    simp only [ho, Sem.run_bind, Result.andThen_ok, run_alloc_rif]
    exact hK _ _ h
theorem results_rif {fn : Func} {c t : Tmp} (h : fn.results = #[.cell c 36, .tmp t]) (tmps : Array Value) (w : World) (b : Nat) (x : Fc) (v : Value) (hp : tmps.getD c undef = .pointer (some ⟨b, 0, none⟩)) (ht : tmps.getD t undef = v) (hb : CB w b 36 (rifA x)) :
    (results fn tmps).run Try.prog w = .ok (.tuple #[rfv x, v]) w := by
  have hp' : tmps[c]?.getD undef = .pointer (some ⟨b, 0, none⟩) := by simpa using hp
  have ht' : tmps[t]?.getD undef = v := by simpa using ht
  have hl := run_loadVar_mid (P := Try.prog) w b 0 36 (rifL x) _ hb.rif Try.underlying36 rfl (size_rif x)
  simp [results, h, asAddr, hp', ht', hl]
  rfl
theorem results_rif2 {fn : Func} {c t u : Tmp} (h : fn.results = #[.cell c 36, .tmp t, .tmp u]) (tmps : Array Value) (w : World) (b : Nat) (x : Fc) (v v2 : Value) (hp : tmps.getD c undef = .pointer (some ⟨b, 0, none⟩)) (ht : tmps.getD t undef = v) (hu : tmps.getD u undef = v2) (hb : CB w b 36 (rifA x)) :
    (results fn tmps).run Try.prog w = .ok (.tuple #[rfv x, v, v2]) w := by
  have hp' : tmps[c]?.getD undef = .pointer (some ⟨b, 0, none⟩) := by simpa using hp
  have ht' : tmps[t]?.getD undef = v := by simpa using ht
  have hu' : tmps[u]?.getD undef = v2 := by simpa using hu
  have hl := run_loadVar_mid (P := Try.prog) w b 0 36 (rifL x) _ hb.rif Try.underlying36 rfl (size_rif x)
  simp [results, h, asAddr, hp', ht', hu', hl]
  rfl

end Go.Proofs.Ytnnlimjbmfpalaa
