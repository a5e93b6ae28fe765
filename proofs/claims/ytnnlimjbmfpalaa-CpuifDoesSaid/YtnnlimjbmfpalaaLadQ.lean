/-
  The document's ladder in memory: a row of 64 bools, read and stored whole.
-/
import Derived.Test.YtnnlimjbmfpalaaLadI
import Derived.Deep.MidRow
namespace Go.Proofs.Ytnnlimjbmfpalaa
open Go.ChangeShapes Go.WideShapes Go.ChangeAt Go.RowKit
set_option linter.unusedVariables false

def bsL (f : Rg) : List Value := (List.range 64).map fun i => .bool (f i)
def bsA (f : Rg) : Array Value := (bsL f).toArray
theorem bsL_len (f : Rg) : (bsL f).length = 64 := by simp [bsL]
theorem bsA_size (f : Rg) : (bsA f).size = 64 := by simp [bsA, bsL]
theorem bsL_get (f : Rg) {j : Nat} (h : j < 64) : (bsL f)[j]? = some (.bool (f j)) := by simp [bsL, h]
theorem bsA_get (f : Rg) {j : Nat} (h : j < 64) : (bsA f)[j]? = some (.bool (f j)) := by simp [bsA, bsL, h]
theorem bsL_one (f : Rg) : ∀ v ∈ bsL f, v.oneCell' = true := by
  intro v hv
  unfold bsL at hv
  rw [List.mem_map] at hv
  obtain ⟨i, _, rfl⟩ := hv
  rfl
theorem bsA_one (f : Rg) : (bsA f).all (·.oneCell') = true := all_oneCell_toArray (bsL_one f)
theorem bsA_congr {f g : Rg} (h : ∀ i, i < 64 → f i = g i) : bsA f = bsA g := by
  unfold bsA bsL
  congr 1
  apply List.map_congr_left
  intro i hi
  rw [h i (List.mem_range.1 hi)]
theorem bsA_set (f : Rg) {i : Nat} (hi : i < 64) (v : Bool) : (bsA f).setIfInBounds i (.bool v) = bsA (put f i v) := by
  apply Array.ext_getElem?
  intro j
  rw [Array.getElem?_setIfInBounds]
  by_cases h : i = j
  · subst h
    rw [if_pos rfl, if_pos (by rw [bsA_size]; exact hi), bsA_get _ hi, put_same]
  · rw [if_neg h]
    by_cases hj : j < 64
    · rw [bsA_get _ hj, bsA_get _ hj, put_other f v (by omega)]
    · have h1 : (bsA f).size ≤ j := by rw [bsA_size]; omega
      have h2 : (bsA (put f i v)).size ≤ j := by rw [bsA_size]; omega
      rw [Array.getElem?_eq_none h1, Array.getElem?_eq_none h2]

/-- Stores from o on, one after the other. -/
def setAll (cs : Array Value) : Nat → List Value → Array Value
  | _, [] => cs
  | o, v :: r => setAll (cs.setIfInBounds o v) (o + 1) r
theorem setAll_size : ∀ (vs : List Value) (cs : Array Value) (o : Nat), (setAll cs o vs).size = cs.size
  | [], _, _ => rfl
  | v :: r, cs, o => by rw [setAll, setAll_size r]; simp
theorem setAll_get : ∀ (vs : List Value) (cs : Array Value) (o j : Nat), j < cs.size → (setAll cs o vs)[j]? = if j < o then cs[j]? else if j < o + vs.length then vs[j - o]? else cs[j]?
  | [], cs, o, j, h => by
    simp only [setAll, List.length_nil, Nat.add_zero]
    split
    · rfl
    · rfl
  | v :: r, cs, o, j, h => by
    rw [setAll, setAll_get r _ (o + 1) j (by simpa using h)]
    by_cases h1 : j < o
    · rw [if_pos (show j < o + 1 by omega), Array.getElem?_setIfInBounds, if_neg (show ¬ o = j by omega), if_pos h1]
    · by_cases h2 : j = o
      · subst h2
        rw [if_pos (show j < j + 1 by omega), Array.getElem?_setIfInBounds, if_pos rfl, if_pos h, if_neg (Nat.lt_irrefl _), if_pos (by simp), Nat.sub_self]
        rfl
      · rw [if_neg (show ¬ j < o + 1 by omega), if_neg h1]
        simp only [List.length_cons]
        by_cases h3 : j < o + (r.length + 1)
        · rw [if_pos (show j < o + 1 + r.length by omega), if_pos h3, show j - o = (j - (o + 1)) + 1 by omega, List.getElem?_cons_succ]
        · rw [if_neg (show ¬ j < o + 1 + r.length by omega), if_neg h3, Array.getElem?_setIfInBounds, if_neg (show ¬ o = j by omega)]
theorem setAll_all {cs : Array Value} {vs : List Value} (h : cs.size = vs.length) : setAll cs 0 vs = vs.toArray := by
  apply Array.ext_getElem?
  intro j
  by_cases hj : j < cs.size
  · rw [setAll_get vs cs 0 j hj, if_neg (by omega), if_pos (by omega)]
    simp
  · rw [Array.getElem?_eq_none (by rw [setAll_size]; omega), Array.getElem?_eq_none (by simp; omega)]
theorem CB.setCells {b : Nat} {t : TypeId} : ∀ (vs : List Value) (o : Nat) (W : World) (cs : Array Value), CB W b t cs → CB (W.setCells b o vs) b t (setAll cs o vs)
  | [], _, _, _, h => h
  | v :: r, o, W, cs, h => by rw [World.setCells, setAll]; exact CB.setCells r (o + 1) _ _ (h.set o v)
theorem CB.whole {W : World} {b : Nat} {t : TypeId} {cs : Array Value} (h : CB W b t cs) (hs : cs.size = 64) (f : Rg) : CB (W.setCells b 0 (bsL f)) b t (bsA f) := by
  have := h.setCells (bsL f) 0
  rwa [setAll_all (by rw [hs, bsL_len])] at this
theorem CB.otherCells {B b : Nat} {t : TypeId} {cs : Array Value} (hne : B ≠ b) : ∀ (vs : List Value) (o : Nat) (W : World), CB W B t cs → CB (W.setCells b o vs) B t cs
  | [], _, _, h => h
  | v :: r, o, W, h => by rw [World.setCells]; exact CB.otherCells hne r (o + 1) _ (h.other b o v hne)
theorem below_cells {n : Nat} {w : World} {b : Nat} (hb : n ≤ b) : ∀ (vs : List Value) (o : Nat) (W : World), Below n w W → Below n w (W.setCells b o vs)
  | [], _, _, h => h
  | v :: r, o, W, h => by rw [World.setCells]; exact below_cells hb r (o + 1) _ (below_set h hb v)
theorem size_cells (b : Nat) : ∀ (vs : List Value) (o : Nat) (W : World), (W.setCells b o vs).heap.size = W.heap.size
  | [], _, _ => rfl
  | v :: r, o, W => by rw [World.setCells, size_cells b r]; simp
theorem CB.rangeB {W : World} {b : Nat} {t : TypeId} {f : Rg} (h : CB W b t (bsA f)) : W.rangeAt b 0 (bsL f) := fun j v hv => by
  rw [Nat.zero_add, h.cell]
  simpa [bsA] using hv
theorem CB.thereB {W : World} {b : Nat} {t : TypeId} {cs : Array Value} (h : CB W b t cs) (hs : cs.size = 64) : W.there b 0 64 := fun j hj => by
  rw [Nat.zero_add, h.cell, Array.getElem?_eq_getElem (by omega)]
  exact ⟨rfl, h.frozen _⟩
theorem CB.bit {W : World} {b : Nat} {t : TypeId} {f : Rg} (h : CB W b t (bsA f)) {j : Nat} (hj : j < 64) : W.cell? ⟨b, j, none⟩ = some (.bool (f j)) := (h.cell j).trans (bsA_get f hj)

theorem info_ref : (Try.prog.info? 34).map (·.size) = some 64 := by kernel_rfl
theorem size_ref (f : Rg) : (Try.prog.info? 34).map (·.size) = some (bsL f).length := by rw [bsL_len]; exact info_ref
theorem size_refA (f : Rg) : (Try.prog.info? 34).map (·.size) = some (bsA f).size := by rw [bsA_size]; exact info_ref
abbrev rv (f : Rg) : Value := .agg (bsA f)

/-- The zero row. -/
theorem zero_row : (Try.prog.info? 34).bind (·.zero) = some (rv f0) := by kernel_rfl

theorem results_ref {fn : Func} {c : Tmp} (h : fn.results = #[.cell c 34]) (tmps : Array Value) (w : World) (b : Nat) (f : Rg) (hp : tmps.getD c undef = .pointer (some ⟨b, 0, none⟩)) (hb : CB w b 34 (bsA f)) :
    (results fn tmps).run Try.prog w = .ok (rv f) w := by
  have hp' : tmps[c]?.getD undef = .pointer (some ⟨b, 0, none⟩) := by simpa using hp
  have hl := run_loadVar_mid (P := Try.prog) w b 0 34 (bsL f) _ hb.rangeB Try.underlying34 rfl (size_ref f)
  simp [results, h, asAddr, hp', hl]
  rfl
theorem results_refdrop {fn : Func} {c t : Tmp} (h : fn.results = #[.cell c 34, .tmp t]) (tmps : Array Value) (w : World) (b : Nat) (f : Rg) (v : Value) (hp : tmps.getD c undef = .pointer (some ⟨b, 0, none⟩)) (ht : tmps.getD t undef = v) (hb : CB w b 34 (bsA f)) :
    (results fn tmps).run Try.prog w = .ok (.tuple #[rv f, v]) w := by
  have hp' : tmps[c]?.getD undef = .pointer (some ⟨b, 0, none⟩) := by simpa using hp
  have ht' : tmps[t]?.getD undef = v := by simpa using ht
  have hl := run_loadVar_mid (P := Try.prog) w b 0 34 (bsL f) _ hb.rangeB Try.underlying34 rfl (size_ref f)
  simp [results, h, asAddr, hp', ht', hl]
  rfl

theorem run_alloc_ref (W : World) : (Instr.alloc 34 true (.tuple #[])).run Try.prog W = .ok (.pointer (some ⟨W.heap.size, 0, none⟩)) (W.alloc (.cells (bsA f0) 34)) := by
  kernel_rfl
theorem wpList_alloc_ref {ops : Array Oper} {rest : List Oper} {op : Oper} {a : Act} {w : World} {Q : Exit → Act → World → Prop} (hgd : op.guard = none) (ho : op.op = .alloc 34)
    (h : wpList Try.prog ops Q rest (a.put op.dst (.pointer (some ⟨w.heap.size, 0, none⟩))) (w.alloc (.cells (bsA f0) 34))) : wpList Try.prog ops Q (op :: rest) a w :=
  wpList_plain hgd fun _ hK => by
    unfold Oper.wp execOp
    simp only [ho, Sem.run_bind, Result.andThen_ok, run_alloc_ref]
    exact hK _ _ h

end Go.Proofs.Ytnnlimjbmfpalaa
