/-
  Package cmd: kinds, byOp.
-/
import Derived.Test.YtkgkfgfnhjhabaaDoorCmB
import Derived.Deep.MidRow
import Derived.Deep.RegionHeld3
namespace Go.Proofs.YtkgkfgfnhjhabaaDoor
open Go.ChangeShapes Go.WideShapes Go.ChangeAt Go.RowKit
set_option linter.unusedVariables false
set_option linter.unusedSimpArgs false

theorem results_kd {fn : Func} {c t : Tmp} (h : fn.results = #[.cell c 71, .tmp t]) (tmps : Array Value) (w : World) (b : Nat) (v0 v1 v2 v : Value) (hp : tmps.getD c undef = .pointer (some ⟨b, 0, none⟩)) (ht : tmps.getD t undef = v) (hb : CB w b 71 #[v0, v1, v2]) :
    (results fn tmps).run Tryd.prog w = .ok (.tuple #[.agg #[v0, v1, v2], v]) w := by
  have hp' : tmps[c]?.getD undef = .pointer (some ⟨b, 0, none⟩) := by simpa using hp
  have ht' : tmps[t]?.getD undef = v := by simpa using ht
  have c0 := hb.cell 0
  have c1 := hb.cell 1
  have c2 := hb.cell 2
  simp at c0 c1 c2
  simp [results, h, go_sem, hp', ht', c0, c1, c2]

/-- The rows of kinds. -/
def kO : Nat → Int | 0 => 1 | 1 => 3 | 2 => 4 | 3 => 5 | 4 => 8 | 5 => 9 | 6 => 10 | 7 => 11 | 8 => 12 | 9 => 13 | 10 => 14 | _ => 15
abbrev nmB (op : Int) : ByteArray := ⟨(nameL op).toArray⟩
def kdCells : Array Value := #[
  .int .i64 1, .string ⟨#[109, 111, 118, 105]⟩, .int .i64 19,
  .int .i64 3, .string ⟨#[105, 110, 116]⟩, .int .i64 3,
  .int .i64 4, .string ⟨#[99, 108, 101, 97, 114]⟩, .int .i64 3,
  .int .i64 5, .string ⟨#[115, 121, 110, 99]⟩, .int .i64 32,
  .int .i64 8, .string ⟨#[109, 97, 112, 100]⟩, .int .i64 449,
  .int .i64 9, .string ⟨#[109, 97, 112, 99]⟩, .int .i64 304,
  .int .i64 10, .string ⟨#[109, 97, 112, 116, 105]⟩, .int .i64 23,
  .int .i64 11, .string ⟨#[109, 97, 112, 105]⟩, .int .i64 19,
  .int .i64 12, .string ⟨#[105, 110, 118]⟩, .int .i64 3,
  .int .i64 13, .string ⟨#[105, 110, 118, 97, 108, 108]⟩, .int .i64 16,
  .int .i64 14, .string ⟨#[109, 111, 118, 97, 108, 108]⟩, .int .i64 40,
  .int .i64 15, .string ⟨#[100, 105, 115, 99, 97, 114, 100]⟩, .int .i64 3]
theorem twelve {k : Nat} (h : k < 12) : k = 0 ∨ k = 1 ∨ k = 2 ∨ k = 3 ∨ k = 4 ∨ k = 5 ∨ k = 6 ∨ k = 7 ∨ k = 8 ∨ k = 9 ∨ k = 10 ∨ k = 11 := by omega
theorem kdCells_at (k : Nat) (hk : k < 12) : Value.agg (kdCells.extract (k * 3) (k * 3 + 3)) = Kd.v (kO k) (nmB (kO k)) (hasN (kO k)) := by
  rcases twelve hk with rfl | rfl | rfl | rfl | rfl | rfl | rfl | rfl | rfl | rfl | rfl | rfl <;> rfl
theorem kO_known (k : Nat) : known (kO k) = true := by
  by_cases h : k < 12
  · rcases twelve h with rfl | rfl | rfl | rfl | rfl | rfl | rfl | rfl | rfl | rfl | rfl | rfl <;> decide
  · have : kO k = 15 := by
      unfold kO
      split <;> first | omega | rfl
    rw [this]; decide
theorem kO_none {op : Int} (h : ∀ j, j < 12 → kO j ≠ op) : known op = false := by
  cases hk : known op
  · rfl
  · exfalso
    rcases known_cases hk with rfl | rfl | rfl | rfl | rfl | rfl | rfl | rfl | rfl | rfl | rfl | rfl
    · exact h 0 (by decide) rfl
    · exact h 1 (by decide) rfl
    · exact h 2 (by decide) rfl
    · exact h 3 (by decide) rfl
    · exact h 4 (by decide) rfl
    · exact h 5 (by decide) rfl
    · exact h 6 (by decide) rfl
    · exact h 7 (by decide) rfl
    · exact h 8 (by decide) rfl
    · exact h 9 (by decide) rfl
    · exact h 10 (by decide) rfl
    · exact h 11 (by decide) rfl

theorem under_kds : Tryd.prog.underlying 123 = some (.array 12 71) := by kernel_rfl
theorem size_kd : (Tryd.prog.info? 71).map (·.size) = some 3 := by kernel_rfl
theorem size_kds : (Tryd.prog.info? 123).map (·.size) = some 36 := by kernel_rfl

/-- Stores from o on, one after the other. -/
def setAll (cs : Array Value) : Nat → List Value → Array Value
  | _, [] => cs
  | o, v :: r => setAll (cs.setIfInBounds o v) (o + 1) r
theorem setAll_size : ∀ (vs : List Value) (cs : Array Value) (o : Nat), (setAll cs o vs).size = cs.size
  | [], _, _ => rfl
  | v :: r, cs, o => by rw [setAll, setAll_size r]; simp
theorem setAll_get : ∀ (vs : List Value) (cs : Array Value) (o j : Nat), j < cs.size → (setAll cs o vs)[j]? = if j < o then cs[j]? else if j < o + vs.length then vs[j - o]? else cs[j]?
  | [], cs, o, j, h => by
    simp only [setAll, List.length_nil, Nat.add_zero]
    split
    · rfl
    · rfl
  | v :: r, cs, o, j, h => by
    rw [setAll, setAll_get r _ (o + 1) j (by simpa using h)]
    by_cases h1 : j < o
    · rw [if_pos (show j < o + 1 by omega), Array.getElem?_setIfInBounds, if_neg (show ¬ o = j by omega), if_pos h1]
    · by_cases h2 : j = o
      · subst h2
        rw [if_pos (show j < j + 1 by omega), Array.getElem?_setIfInBounds, if_pos rfl, if_pos h, if_neg (Nat.lt_irrefl _), if_pos (by simp), Nat.sub_self]
        rfl
      · rw [if_neg (show ¬ j < o + 1 by omega), if_neg h1]
        simp only [List.length_cons]
        by_cases h3 : j < o + (r.length + 1)
        · rw [if_pos (show j < o + 1 + r.length by omega), if_pos h3, show j - o = (j - (o + 1)) + 1 by omega, List.getElem?_cons_succ]
        · rw [if_neg (show ¬ j < o + 1 + r.length by omega), if_neg h3, Array.getElem?_setIfInBounds, if_neg (show ¬ o = j by omega)]
theorem setAll_all {cs : Array Value} {vs : List Value} (h : cs.size = vs.length) : setAll cs 0 vs = vs.toArray := by
  apply Array.ext_getElem?
  intro j
  by_cases hj : j < cs.size
  · rw [setAll_get vs cs 0 j hj, if_neg (by omega), if_pos (by omega)]
    simp
  · rw [Array.getElem?_eq_none (by rw [setAll_size]; omega), Array.getElem?_eq_none (by simp; omega)]
theorem CB.setCells {b : Nat} {t : TypeId} : ∀ (vs : List Value) (o : Nat) (W : World) (cs : Array Value), CB W b t cs → CB (W.setCells b o vs) b t (setAll cs o vs)
  | [], _, _, _, h => h
  | v :: r, o, W, cs, h => by rw [World.setCells, setAll]; exact CB.setCells r (o + 1) _ _ (h.set o v)
theorem CB.otherCells {B b : Nat} {t : TypeId} {cs : Array Value} (hne : B ≠ b) : ∀ (vs : List Value) (o : Nat) (W : World), CB W B t cs → CB (W.setCells b o vs) B t cs
  | [], _, _, h => h
  | v :: r, o, W, h => by rw [World.setCells]; exact CB.otherCells hne r (o + 1) _ (h.other b o v hne)
theorem below_cells {n : Nat} {w : World} {b : Nat} (hb : n ≤ b) : ∀ (vs : List Value) (o : Nat) (W : World), Below n w W → Below n w (W.setCells b o vs)
  | [], _, _, h => h
  | v :: r, o, W, h => by rw [World.setCells]; exact below_cells hb r (o + 1) _ (below_set h hb v)
theorem size_cells (b : Nat) : ∀ (vs : List Value) (o : Nat) (W : World), (W.setCells b o vs).heap.size = W.heap.size
  | [], _, _ => rfl
  | v :: r, o, W => by rw [World.setCells, size_cells b r]; simp
theorem CB.wholeOf {W : World} {b : Nat} {t : TypeId} {cs : Array Value} (h : CB W b t cs) (vs : List Value) (hs : cs.size = vs.length) : CB (W.setCells b 0 vs) b t vs.toArray := by
  have := h.setCells vs 0
  rwa [setAll_all hs] at this
theorem CB.rangeOf {W : World} {b : Nat} {t : TypeId} {cs : Array Value} (h : CB W b t cs) : W.rangeAt b 0 cs.toList := fun j v hv => by
  rw [Nat.zero_add, h.cell]
  simpa using hv
theorem CB.thereOf {W : World} {b : Nat} {t : TypeId} {cs : Array Value} (h : CB W b t cs) (n : Nat) (hs : cs.size = n) : W.there b 0 n := fun j hj => by
  rw [Nat.zero_add, h.cell, Array.getElem?_eq_getElem (by omega)]
  exact ⟨rfl, h.frozen _⟩
def kdZ : Array Value := #[.int .i64 0, .string ⟨#[]⟩, .int .i64 0, .int .i64 0, .string ⟨#[]⟩, .int .i64 0, .int .i64 0, .string ⟨#[]⟩, .int .i64 0, .int .i64 0, .string ⟨#[]⟩, .int .i64 0, .int .i64 0, .string ⟨#[]⟩, .int .i64 0, .int .i64 0, .string ⟨#[]⟩, .int .i64 0, .int .i64 0, .string ⟨#[]⟩, .int .i64 0, .int .i64 0, .string ⟨#[]⟩, .int .i64 0, .int .i64 0, .string ⟨#[]⟩, .int .i64 0, .int .i64 0, .string ⟨#[]⟩, .int .i64 0, .int .i64 0, .string ⟨#[]⟩, .int .i64 0, .int .i64 0, .string ⟨#[]⟩, .int .i64 0]
theorem run_alloc_kds (W : World) : (Instr.alloc 123 true (.tuple #[])).run Tryd.prog W = .ok (.pointer (some ⟨W.heap.size, 0, none⟩)) (W.alloc (.cells kdZ 123)) := by
  kernel_rfl
theorem wpList_alloc_kds {ops : Array Oper} {rest : List Oper} {op : Oper} {a : Act} {w : World} {Q : Exit → Act → World → Prop} (hgd : op.guard = none) (ho : op.op = .alloc 123)
    (h : wpList Tryd.prog ops Q rest (a.put op.dst (.pointer (some ⟨w.heap.size, 0, none⟩))) (w.alloc (.cells kdZ 123))) : wpList Tryd.prog ops Q (op :: rest) a w :=
  wpList_plain hgd fun _ hK => by
    unfold Oper.wp execOp
    simp only [ho, Sem.run_bind, Result.andThen_ok, run_alloc_kds]
    exact hK _ _ h
theorem kd_size : kdCells.size = 36 := rfl
theorem size_kdsA : (Tryd.prog.info? 123).map (·.size) = some kdCells.size := by rw [kd_size]; exact size_kds
theorem kd_one : kdCells.all (·.oneCell') = true := by decide +kernel
theorem results_kds {fn : Func} {c : Tmp} (h : fn.results = #[.cell c 123]) (tmps : Array Value) (w : World) (b : Nat) (hp : tmps.getD c undef = .pointer (some ⟨b, 0, none⟩)) (hb : CB w b 123 kdCells) :
    (results fn tmps).run Tryd.prog w = .ok (.agg kdCells) w := by
  have hp' : tmps[c]?.getD undef = .pointer (some ⟨b, 0, none⟩) := by simpa using hp
  have hl := run_loadVar_mid (P := Tryd.prog) w b 0 123 kdCells.toList _ hb.rangeOf Tryd.underlying123 rfl (by rw [Array.length_toList]; exact size_kdsA)
  simp [results, h, asAddr, hp', hl]

set_option maxRecDepth 100000 in
set_option maxHeartbeats 4000000 in
theorem kinds_any (w : World) : Calls Tryd.prog 62 #[] w fun e w' => e = .returned (.agg kdCells) ∧ Below w.heap.size w w' := by
  have HT := hi ((CB.new w 123 kdZ).thereOf 36 rfl)
  have HZ := hi size_kdsA
  have H1 := hi kd_one
  have HC := hi ((CB.new w 123 kdZ).wholeOf kdCells.toList rfl)
  have HB := hi (below_cells (Nat.le_refl _) kdCells.toList 0 _ (bal w (.cells kdZ 123)))
  obtain ⟨W2, hW2⟩ : ∃ W2, (w.alloc (.cells kdZ 123)).setCells w.heap.size 0 kdCells.toList = W2 := ⟨_, rfl⟩
  rw [hW2] at HC HB
  have HW := hi hW2
  clear hW2
  go_enter Tryd.func62, Tryd.ntmps62
  go_wp2_with (first
    | (refine wpList_alloc_kds rfl rfl ?_)
    | (refine wpList_store_mid rfl 123 (.tmp 0) (.tmp 13) rfl w.heap.size 0 kdCells rfl rfl HT.out HZ.out H1.out ?_; rw [HW.out]))
  exact bodyPost_ret (results_kds rfl _ _ w.heap.size rfl HC.out) rfl ⟨rfl, HB.out⟩

end Go.Proofs.YtkgkfgfnhjhabaaDoor
