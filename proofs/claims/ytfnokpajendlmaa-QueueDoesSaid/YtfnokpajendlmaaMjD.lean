/-
  Package cmd: the small functions at every call: place, most, join, numbersOf.
  Package cmd: kinds, byOp.
  Package cmd: byOp at every call.
-/
import Derived.Test.YtfnokpajendlmaaGnd
import Derived.Test.YtfnokpajendlmaaCmA
import Derived.Deep.MidRow
import Derived.Deep.RegionHeld3
namespace Go.Proofs.Ytfnokpajendlmaa
open Go.ChangeShapes Go.WideShapes Go.ChangeAt Go.RowKit
set_option linter.unusedVariables false
set_option linter.unusedSimpArgs false

theorem below_set {n : Nat} {w W : World} (h : Below n w W) {b o : Nat} (hb : n ≤ b) (v : Value) : Below n w (W.setCell ⟨b, o, none⟩ v) := h.setCell (p := ⟨b, o, none⟩) hb v
theorem cb_second {w : World} {o : Obj} {cs : Array Value} {t : TypeId} : CB ((w.alloc o).alloc (.cells cs t)) (w.heap.size + 1) t cs := by
  have := CB.new (w.alloc o) t cs
  rwa [World.size_alloc] at this
theorem bal_two (w : World) (o o' : Obj) : Below w.heap.size w ((w.alloc o).alloc o') := (bal w o).alloc (by simp) o'
theorem cb_third {w : World} {o o' : Obj} {cs : Array Value} {t : TypeId} : CB (((w.alloc o).alloc o').alloc (.cells cs t)) (w.heap.size + 1 + 1) t cs := by
  have := CB.new ((w.alloc o).alloc o') t cs
  rwa [World.size_alloc, World.size_alloc] at this
theorem bal_three (w : World) (o o' o'' : Obj) : Below w.heap.size w (((w.alloc o).alloc o').alloc o'') := (bal_two w o o').alloc (by simp; omega) o''
theorem results_pl {fn : Func} {c : Tmp} (h : fn.results = #[.cell c 129]) (tmps : Array Value) (w : World) (b : Nat) (v0 v1 v2 : Value) (hp : tmps.getD c undef = .pointer (some ⟨b, 0, none⟩)) (hb : CB w b 129 #[v0, v1, v2]) :
    (results fn tmps).run Try.prog w = .ok (.agg #[v0, v1, v2]) w := by
  have hp' : tmps[c]?.getD undef = .pointer (some ⟨b, 0, none⟩) := by simpa using hp
  have c0 := hb.cell 0
  have c1 := hb.cell 1
  have c2 := hb.cell 2
  simp at c0 c1 c2
  simp [results, h, go_sem, hp', c0, c1, c2]
theorem results_cm {fn : Func} {c : Tmp} (h : fn.results = #[.cell c 36]) (tmps : Array Value) (w : World) (b : Nat) (v0 v1 v2 v3 v4 v5 v6 v7 v8 : Value) (hp : tmps.getD c undef = .pointer (some ⟨b, 0, none⟩)) (hb : CB w b 36 #[v0, v1, v2, v3, v4, v5, v6, v7, v8]) :
    (results fn tmps).run Try.prog w = .ok (.agg #[v0, v1, v2, v3, v4, v5, v6, v7, v8]) w := by
  have hp' : tmps[c]?.getD undef = .pointer (some ⟨b, 0, none⟩) := by simpa using hp
  have c0 := hb.cell 0
  have c1 := hb.cell 1
  have c2 := hb.cell 2
  have c3 := hb.cell 3
  have c4 := hb.cell 4
  have c5 := hb.cell 5
  have c6 := hb.cell 6
  have c7 := hb.cell 7
  have c8 := hb.cell 8
  simp at c0 c1 c2 c3 c4 c5 c6 c7 c8
  simp [results, h, go_sem, hp', c0, c1, c2, c3, c4, c5, c6, c7, c8]
theorem results_ns {fn : Func} {c : Tmp} (h : fn.results = #[.cell c 123]) (tmps : Array Value) (w : World) (b : Nat) (v0 v1 v2 v3 v4 v5 v6 v7 v8 : Value) (hp : tmps.getD c undef = .pointer (some ⟨b, 0, none⟩)) (hb : CB w b 123 #[v0, v1, v2, v3, v4, v5, v6, v7, v8]) :
    (results fn tmps).run Try.prog w = .ok (.agg #[v0, v1, v2, v3, v4, v5, v6, v7, v8]) w := by
  have hp' : tmps[c]?.getD undef = .pointer (some ⟨b, 0, none⟩) := by simpa using hp
  have c0 := hb.cell 0
  have c1 := hb.cell 1
  have c2 := hb.cell 2
  have c3 := hb.cell 3
  have c4 := hb.cell 4
  have c5 := hb.cell 5
  have c6 := hb.cell 6
  have c7 := hb.cell 7
  have c8 := hb.cell 8
  simp at c0 c1 c2 c3 c4 c5 c6 c7 c8
  simp [results, h, go_sem, hp', c0, c1, c2, c3, c4, c5, c6, c7, c8]

/-- An index into an array's value: an element of one cell, or of several. -/
theorem run_index_cells {T te : TypeId} {n sz : Nat} (hu : Try.prog.underlying T = some (.array n te)) (hz : (Try.prog.info? te).map (·.size) = some sz) (ha : ∀ w, (isAgg te).run Try.prog w = .ok true w) (cs : Array Value) (k : Nat) (hk : k < n) (W : World) :
    (Instr.index T (.agg cs) (.int .i64 (k : Int))).run Try.prog W = .ok (.agg (cs.extract (k * sz) (k * sz + sz))) W := by
  have h1 : (0 : Int) ≤ (k : Int) ∧ (k : Int) < (n : Nat) := by omega
  cases hq : Try.prog.info? te with
  | none => simp [hq] at hz
  | some i =>
    have hs : i.size = sz := by simpa [hq] using hz
    simp [Instr.index, run_underlying hu, asIntOf, h1, go_sem, part, sizeOf, typeInfo, hq, hs, ha]
    omega
theorem run_index_one {T te : TypeId} {n : Nat} (hu : Try.prog.underlying T = some (.array n te)) (hz : (Try.prog.info? te).map (·.size) = some 1) (ha : ∀ w, (isAgg te).run Try.prog w = .ok false w) (cs : Array Value) (k : Nat) (v : Value) (hk : k < n) (hv : cs[k]? = some v) (W : World) :
    (Instr.index T (.agg cs) (.int .i64 (k : Int))).run Try.prog W = .ok v W := by
  have h1 : (0 : Int) ≤ (k : Int) ∧ (k : Int) < (n : Nat) := by omega
  cases hq : Try.prog.info? te with
  | none => simp [hq] at hz
  | some i =>
    have hs : i.size = 1 := by simpa [hq] using hz
    simp [Instr.index, run_underlying hu, asIntOf, h1, go_sem, part, sizeOf, typeInfo, hq, hs, ha, hv]
    omega
theorem under_pls : Try.prog.underlying 141 = some (.array 9 129) := by kernel_rfl
theorem size_pl : (Try.prog.info? 129).map (·.size) = some 3 := by kernel_rfl

abbrev Pl.v (f : Nat) : Value := .agg #[.int .i64 (pw f), .int .i64 (pf f), .int .i64 (pb f)]
def plCells : Array Value := #[.int .i64 0, .int .i64 32, .int .i64 32, .int .i64 1, .int .i64 0, .int .i64 32, .int .i64 1, .int .i64 32, .int .i64 32, .int .i64 3, .int .i64 16, .int .i64 16, .int .i64 2, .int .i64 0, .int .i64 16, .int .i64 2, .int .i64 16, .int .i64 16, .int .i64 1, .int .i64 0, .int .i64 5, .int .i64 2, .int .i64 8, .int .i64 40, .int .i64 2, .int .i64 63, .int .i64 1]
theorem plCells_at (f : Nat) (hf : f < 9) : Value.agg (plCells.extract (f * 3) (f * 3 + 3)) = Pl.v f := by
  have : f = 0 ∨ f = 1 ∨ f = 2 ∨ f = 3 ∨ f = 4 ∨ f = 5 ∨ f = 6 ∨ f = 7 ∨ f = 8 := by omega
  rcases this with rfl | rfl | rfl | rfl | rfl | rfl | rfl | rfl | rfl <;> rfl
set_option maxRecDepth 100000 in
set_option maxHeartbeats 2000000 in
theorem place_any (f : Nat) (hf : f < 9) (w : World) : Calls Try.prog 71 #[.int .i64 f] w fun e w' => e = .returned (Pl.v f) ∧ Below w.heap.size w w' := by
  have hix : ∀ W, (Instr.index 141 (.agg plCells) (.int .i64 (f : Int))).run Try.prog W = .ok (Pl.v f) W := fun W => by
    rw [run_index_cells under_pls size_pl Try.isAgg129 plCells f hf W, plCells_at f hf]
  unfold plCells at hix
  go_enter Try.func71, Try.ntmps71
  go_wp2
  exact bodyPost_ret (results_pl rfl _ _ w.heap.size _ _ _ rfl (CB.new w 129 _)) rfl ⟨rfl, bal w _⟩

theorem most_num (f : Nat) (hf : f < 9) : wrap64 (wrap64 (2 ^ min (pb f) 64) - 1) = (pr f : Int) - 1 := by
  have : f = 0 ∨ f = 1 ∨ f = 2 ∨ f = 3 ∨ f = 4 ∨ f = 5 ∨ f = 6 ∨ f = 7 ∨ f = 8 := by omega
  rcases this with rfl | rfl | rfl | rfl | rfl | rfl | rfl | rfl | rfl <;> decide +kernel
theorem most_any (f : Nat) (hf : f < 9) (w : World) : Calls Try.prog 72 #[Pl.v f] w fun e w' => e = .returned (.int .i64 ((pr f : Int) - 1)) ∧ Below w.heap.size w w' := by
  rw [← most_num f hf]
  go_enter Try.func72, Try.ntmps72
  go_wp2
  go_ret
  exact ⟨rfl, bal w _⟩

/-- A kind's value, and numbers' value. -/
abbrev Kd.cs (op : Int) (nm : ByteArray) (has : Int) : Array Value := #[.int .i64 op, .string nm, .int .i64 has]
abbrev Kd.v (op : Int) (nm : ByteArray) (has : Int) : Value := .agg #[.int .i64 op, .string nm, .int .i64 has]
abbrev Nv (n : Ns) : Value := .agg #[.int .i64 (n 0), .int .i64 (n 1), .int .i64 (n 2), .int .i64 (n 3), .int .i64 (n 4), .int .i64 (n 5), .int .i64 (n 6), .int .i64 (n 7), .int .i64 (n 8)]

set_option maxHeartbeats 1000000 in
theorem join_any (op : Int) (nm : ByteArray) (has : Int) (n : Ns) (w : World) : Calls Try.prog 73 #[Kd.v op nm has, Nv n] w fun e w' => e = .returned (joinC op n).v ∧ Below w.heap.size w w' := by
  go_enter Try.func73, Try.ntmps73
  go_wp2
  exact bodyPost_ret (results_cm rfl _ _ (w.heap.size + 1 + 1) _ _ _ _ _ _ _ _ _ rfl cb_third) rfl ⟨rfl, bal_three w _ _ _⟩

set_option maxHeartbeats 1000000 in
theorem numbersOf_any (c : Cm) (w : World) (hc : i64B c.addr) : Calls Try.prog 81 #[c.v] w fun e w' => e = .returned (Nv (numC c)) ∧ Below w.heap.size w w' := by
  obtain ⟨op, dev, ev, num, coll, tgt, bit, addr, valid⟩ := c
  have hw : IntKind.i64.wrap (addr.tdiv 256) = addr.tdiv 256 := by
    obtain ⟨h1, h2⟩ := hc
    dsimp only at h1 h2
    rw [IntKind.wrap_i64]
    have : -36028797018963968 ≤ addr.tdiv 256 ∧ addr.tdiv 256 ≤ 36028797018963968 := by
      rcases Int.le_total 0 addr with h | h
      · rw [Int.tdiv_eq_ediv_of_nonneg h]; omega
      · obtain ⟨a, rfl⟩ : ∃ a, addr = -a := ⟨-addr, by omega⟩
        rw [Int.neg_tdiv, Int.tdiv_eq_ediv_of_nonneg (by omega)]; omega
    omega
  cases valid
  · go_enter Try.func81, Try.ntmps81
    go_wp2
    exact bodyPost_ret (results_ns rfl _ _ (w.heap.size + 1) _ _ _ _ _ _ _ _ _ rfl (cb_second.alloc _)) rfl ⟨by simp [numC, hw], bal_three w _ _ _⟩
  · go_enter Try.func81, Try.ntmps81
    go_wp2
    exact bodyPost_ret (results_ns rfl _ _ (w.heap.size + 1) _ _ _ _ _ _ _ _ _ rfl (cb_second.alloc _)) rfl ⟨by simp [numC, hw], bal_three w _ _ _⟩

end Go.Proofs.Ytfnokpajendlmaa

namespace Go.Proofs.Ytfnokpajendlmaa
open Go.ChangeShapes Go.WideShapes Go.ChangeAt Go.RowKit
set_option linter.unusedVariables false
set_option linter.unusedSimpArgs false

theorem results_kd {fn : Func} {c t : Tmp} (h : fn.results = #[.cell c 119, .tmp t]) (tmps : Array Value) (w : World) (b : Nat) (v0 v1 v2 v : Value) (hp : tmps.getD c undef = .pointer (some ⟨b, 0, none⟩)) (ht : tmps.getD t undef = v) (hb : CB w b 119 #[v0, v1, v2]) :
    (results fn tmps).run Try.prog w = .ok (.tuple #[.agg #[v0, v1, v2], v]) w := by
  have hp' : tmps[c]?.getD undef = .pointer (some ⟨b, 0, none⟩) := by simpa using hp
  have ht' : tmps[t]?.getD undef = v := by simpa using ht
  have c0 := hb.cell 0
  have c1 := hb.cell 1
  have c2 := hb.cell 2
  simp at c0 c1 c2
  simp [results, h, go_sem, hp', ht', c0, c1, c2]

/-- The rows of kinds. -/
def kO : Nat → Int | 0 => 1 | 1 => 3 | 2 => 4 | 3 => 5 | 4 => 8 | 5 => 9 | 6 => 10 | 7 => 11 | 8 => 12 | 9 => 13 | 10 => 14 | _ => 15
abbrev nmB (op : Int) : ByteArray := ⟨(nameL op).toArray⟩
def kdCells : Array Value := #[
  .int .i64 1, .string ⟨#[109, 111, 118, 105]⟩, .int .i64 19,
  .int .i64 3, .string ⟨#[105, 110, 116]⟩, .int .i64 3,
  .int .i64 4, .string ⟨#[99, 108, 101, 97, 114]⟩, .int .i64 3,
  .int .i64 5, .string ⟨#[115, 121, 110, 99]⟩, .int .i64 32,
  .int .i64 8, .string ⟨#[109, 97, 112, 100]⟩, .int .i64 449,
  .int .i64 9, .string ⟨#[109, 97, 112, 99]⟩, .int .i64 304,
  .int .i64 10, .string ⟨#[109, 97, 112, 116, 105]⟩, .int .i64 23,
  .int .i64 11, .string ⟨#[109, 97, 112, 105]⟩, .int .i64 19,
  .int .i64 12, .string ⟨#[105, 110, 118]⟩, .int .i64 3,
  .int .i64 13, .string ⟨#[105, 110, 118, 97, 108, 108]⟩, .int .i64 16,
  .int .i64 14, .string ⟨#[109, 111, 118, 97, 108, 108]⟩, .int .i64 40,
  .int .i64 15, .string ⟨#[100, 105, 115, 99, 97, 114, 100]⟩, .int .i64 3]
theorem twelve {k : Nat} (h : k < 12) : k = 0 ∨ k = 1 ∨ k = 2 ∨ k = 3 ∨ k = 4 ∨ k = 5 ∨ k = 6 ∨ k = 7 ∨ k = 8 ∨ k = 9 ∨ k = 10 ∨ k = 11 := by omega
theorem kdCells_at (k : Nat) (hk : k < 12) : Value.agg (kdCells.extract (k * 3) (k * 3 + 3)) = Kd.v (kO k) (nmB (kO k)) (hasN (kO k)) := by
  rcases twelve hk with rfl | rfl | rfl | rfl | rfl | rfl | rfl | rfl | rfl | rfl | rfl | rfl <;> rfl
theorem kO_known (k : Nat) : known (kO k) = true := by
  by_cases h : k < 12
  · rcases twelve h with rfl | rfl | rfl | rfl | rfl | rfl | rfl | rfl | rfl | rfl | rfl | rfl <;> decide
  · have : kO k = 15 := by
      unfold kO
      split <;> first | omega | rfl
    rw [this]; decide
theorem kO_none {op : Int} (h : ∀ j, j < 12 → kO j ≠ op) : known op = false := by
  cases hk : known op
  · rfl
  · exfalso
    rcases known_cases hk with rfl | rfl | rfl | rfl | rfl | rfl | rfl | rfl | rfl | rfl | rfl | rfl
    · exact h 0 (by decide) rfl
    · exact h 1 (by decide) rfl
    · exact h 2 (by decide) rfl
    · exact h 3 (by decide) rfl
    · exact h 4 (by decide) rfl
    · exact h 5 (by decide) rfl
    · exact h 6 (by decide) rfl
    · exact h 7 (by decide) rfl
    · exact h 8 (by decide) rfl
    · exact h 9 (by decide) rfl
    · exact h 10 (by decide) rfl
    · exact h 11 (by decide) rfl

theorem under_kds : Try.prog.underlying 138 = some (.array 12 119) := by kernel_rfl
theorem size_kd : (Try.prog.info? 119).map (·.size) = some 3 := by kernel_rfl
theorem size_kds : (Try.prog.info? 138).map (·.size) = some 36 := by kernel_rfl

/-- Stores from o on, one after the other. -/
def setAll (cs : Array Value) : Nat → List Value → Array Value
  | _, [] => cs
  | o, v :: r => setAll (cs.setIfInBounds o v) (o + 1) r
theorem setAll_size : ∀ (vs : List Value) (cs : Array Value) (o : Nat), (setAll cs o vs).size = cs.size
  | [], _, _ => rfl
  | v :: r, cs, o => by rw [setAll, setAll_size r]; simp
theorem setAll_get : ∀ (vs : List Value) (cs : Array Value) (o j : Nat), j < cs.size → (setAll cs o vs)[j]? = if j < o then cs[j]? else if j < o + vs.length then vs[j - o]? else cs[j]?
  | [], cs, o, j, h => by
    simp only [setAll, List.length_nil, Nat.add_zero]
    split
    · rfl
    · rfl
  | v :: r, cs, o, j, h => by
    rw [setAll, setAll_get r _ (o + 1) j (by simpa using h)]
    by_cases h1 : j < o
    · rw [if_pos (show j < o + 1 by omega), Array.getElem?_setIfInBounds, if_neg (show ¬ o = j by omega), if_pos h1]
    · by_cases h2 : j = o
      · subst h2
        rw [if_pos (show j < j + 1 by omega), Array.getElem?_setIfInBounds, if_pos rfl, if_pos h, if_neg (Nat.lt_irrefl _), if_pos (by simp), Nat.sub_self]
        rfl
      · rw [if_neg (show ¬ j < o + 1 by omega), if_neg h1]
        simp only [List.length_cons]
        by_cases h3 : j < o + (r.length + 1)
        · rw [if_pos (show j < o + 1 + r.length by omega), if_pos h3, show j - o = (j - (o + 1)) + 1 by omega, List.getElem?_cons_succ]
        · rw [if_neg (show ¬ j < o + 1 + r.length by omega), if_neg h3, Array.getElem?_setIfInBounds, if_neg (show ¬ o = j by omega)]
theorem setAll_all {cs : Array Value} {vs : List Value} (h : cs.size = vs.length) : setAll cs 0 vs = vs.toArray := by
  apply Array.ext_getElem?
  intro j
  by_cases hj : j < cs.size
  · rw [setAll_get vs cs 0 j hj, if_neg (by omega), if_pos (by omega)]
    simp
  · rw [Array.getElem?_eq_none (by rw [setAll_size]; omega), Array.getElem?_eq_none (by simp; omega)]
theorem CB.setCells {b : Nat} {t : TypeId} : ∀ (vs : List Value) (o : Nat) (W : World) (cs : Array Value), CB W b t cs → CB (W.setCells b o vs) b t (setAll cs o vs)
  | [], _, _, _, h => h
  | v :: r, o, W, cs, h => by rw [World.setCells, setAll]; exact CB.setCells r (o + 1) _ _ (h.set o v)
theorem CB.otherCells {B b : Nat} {t : TypeId} {cs : Array Value} (hne : B ≠ b) : ∀ (vs : List Value) (o : Nat) (W : World), CB W B t cs → CB (W.setCells b o vs) B t cs
  | [], _, _, h => h
  | v :: r, o, W, h => by rw [World.setCells]; exact CB.otherCells hne r (o + 1) _ (h.other b o v hne)
theorem below_cells {n : Nat} {w : World} {b : Nat} (hb : n ≤ b) : ∀ (vs : List Value) (o : Nat) (W : World), Below n w W → Below n w (W.setCells b o vs)
  | [], _, _, h => h
  | v :: r, o, W, h => by rw [World.setCells]; exact below_cells hb r (o + 1) _ (below_set h hb v)
theorem size_cells (b : Nat) : ∀ (vs : List Value) (o : Nat) (W : World), (W.setCells b o vs).heap.size = W.heap.size
  | [], _, _ => rfl
  | v :: r, o, W => by rw [World.setCells, size_cells b r]; simp
theorem CB.wholeOf {W : World} {b : Nat} {t : TypeId} {cs : Array Value} (h : CB W b t cs) (vs : List Value) (hs : cs.size = vs.length) : CB (W.setCells b 0 vs) b t vs.toArray := by
  have := h.setCells vs 0
  rwa [setAll_all hs] at this
theorem CB.rangeOf {W : World} {b : Nat} {t : TypeId} {cs : Array Value} (h : CB W b t cs) : W.rangeAt b 0 cs.toList := fun j v hv => by
  rw [Nat.zero_add, h.cell]
  simpa using hv
theorem CB.thereOf {W : World} {b : Nat} {t : TypeId} {cs : Array Value} (h : CB W b t cs) (n : Nat) (hs : cs.size = n) : W.there b 0 n := fun j hj => by
  rw [Nat.zero_add, h.cell, Array.getElem?_eq_getElem (by omega)]
  exact ⟨rfl, h.frozen _⟩
def kdZ : Array Value := #[.int .i64 0, .string ⟨#[]⟩, .int .i64 0, .int .i64 0, .string ⟨#[]⟩, .int .i64 0, .int .i64 0, .string ⟨#[]⟩, .int .i64 0, .int .i64 0, .string ⟨#[]⟩, .int .i64 0, .int .i64 0, .string ⟨#[]⟩, .int .i64 0, .int .i64 0, .string ⟨#[]⟩, .int .i64 0, .int .i64 0, .string ⟨#[]⟩, .int .i64 0, .int .i64 0, .string ⟨#[]⟩, .int .i64 0, .int .i64 0, .string ⟨#[]⟩, .int .i64 0, .int .i64 0, .string ⟨#[]⟩, .int .i64 0, .int .i64 0, .string ⟨#[]⟩, .int .i64 0, .int .i64 0, .string ⟨#[]⟩, .int .i64 0]
theorem run_alloc_kds (W : World) : (Instr.alloc 138 true (.tuple #[])).run Try.prog W = .ok (.pointer (some ⟨W.heap.size, 0, none⟩)) (W.alloc (.cells kdZ 138)) := by
  kernel_rfl
theorem wpList_alloc_kds {ops : Array Oper} {rest : List Oper} {op : Oper} {a : Act} {w : World} {Q : Exit → Act → World → Prop} (hgd : op.guard = none) (ho : op.op = .alloc 138)
    (h : wpList Try.prog ops Q rest (a.put op.dst (.pointer (some ⟨w.heap.size, 0, none⟩))) (w.alloc (.cells kdZ 138))) : wpList Try.prog ops Q (op :: rest) a w :=
  wpList_plain hgd fun _ hK => by
    unfold Oper.wp execOp
    simp only [ho, Sem.run_bind, Result.andThen_ok, run_alloc_kds]
    exact hK _ _ h
theorem kd_size : kdCells.size = 36 := rfl
theorem size_kdsA : (Try.prog.info? 138).map (·.size) = some kdCells.size := by rw [kd_size]; exact size_kds
theorem kd_one : kdCells.all (·.oneCell') = true := by decide +kernel
theorem results_kds {fn : Func} {c : Tmp} (h : fn.results = #[.cell c 138]) (tmps : Array Value) (w : World) (b : Nat) (hp : tmps.getD c undef = .pointer (some ⟨b, 0, none⟩)) (hb : CB w b 138 kdCells) :
    (results fn tmps).run Try.prog w = .ok (.agg kdCells) w := by
  have hp' : tmps[c]?.getD undef = .pointer (some ⟨b, 0, none⟩) := by simpa using hp
  have hl := run_loadVar_mid (P := Try.prog) w b 0 138 kdCells.toList _ hb.rangeOf Try.underlying138 rfl (by rw [Array.length_toList]; exact size_kdsA)
  simp [results, h, asAddr, hp', hl]

set_option maxRecDepth 100000 in
set_option maxHeartbeats 4000000 in
theorem kinds_any (w : World) : Calls Try.prog 79 #[] w fun e w' => e = .returned (.agg kdCells) ∧ Below w.heap.size w w' := by
  have HT := hi ((CB.new w 138 kdZ).thereOf 36 rfl)
  have HZ := hi size_kdsA
  have H1 := hi kd_one
  have HC := hi ((CB.new w 138 kdZ).wholeOf kdCells.toList rfl)
  have HB := hi (below_cells (Nat.le_refl _) kdCells.toList 0 _ (bal w (.cells kdZ 138)))
  obtain ⟨W2, hW2⟩ : ∃ W2, (w.alloc (.cells kdZ 138)).setCells w.heap.size 0 kdCells.toList = W2 := ⟨_, rfl⟩
  rw [hW2] at HC HB
  have HW := hi hW2
  clear hW2
  go_enter Try.func79, Try.ntmps79
  go_wp2_with (first
    | (refine wpList_alloc_kds rfl rfl ?_)
    | (refine wpList_store_mid rfl 138 (.tmp 0) (.tmp 13) rfl w.heap.size 0 kdCells rfl rfl HT.out HZ.out H1.out ?_; rw [HW.out]))
  exact bodyPost_ret (results_kds rfl _ _ w.heap.size rfl HC.out) rfl ⟨rfl, HB.out⟩

end Go.Proofs.Ytfnokpajendlmaa

namespace Go.Proofs.Ytfnokpajendlmaa
open Go.ChangeShapes Go.WideShapes Go.ChangeAt Go.RowKit
set_option linter.unusedVariables false
set_option linter.unusedSimpArgs false

abbrev zKd : Array Value := #[.int .i64 0, .string ⟨#[]⟩, .int .i64 0]
/-- What byOp keeps through its loop. -/
structure ByI (w : World) (W : World) : Prop where
  box : CB W w.heap.size 119 zKd
  below : Below w.heap.size w W
theorem ByI.alloc {w W : World} (h : ByI w W) (o : Obj) : ByI w (W.alloc o) := ⟨h.box.alloc o, h.below.alloc h.below.size o⟩
theorem ByI.later {w W W' : World} (h : ByI w W) (k : Below W.heap.size W W') : ByI w W' := ⟨h.box.below k, h.below.trans (k.mono h.below.size)⟩
/-- Three stores. -/
abbrev set3 (W : World) (b : Nat) (v0 v1 v2 : Value) : World := ((W.setCell ⟨b, 0, none⟩ v0).setCell ⟨b, 1, none⟩ v1).setCell ⟨b, 2, none⟩ v2
theorem CB.set3 {W : World} {b : Nat} {t : TypeId} {a0 a1 a2 : Value} (h : CB W b t #[a0, a1, a2]) (v0 v1 v2 : Value) : CB (set3 W b v0 v1 v2) b t #[v0, v1, v2] := ((h.set 0 v0).set 1 v1).set 2 v2
theorem below_set3 {n : Nat} {w W : World} (h : Below n w W) {b : Nat} (hb : n ≤ b) (v0 v1 v2 : Value) : Below n w (set3 W b v0 v1 v2) := below_set (below_set (below_set h hb _) hb _) hb _

set_option maxRecDepth 100000 in
set_option maxHeartbeats 4000000 in
theorem byOp_any (op : Int) (w : World) : Calls Try.prog 69 #[.int .i64 op] w fun e w' => e = .returned (.tuple #[Kd.v (kop op) (nmB op) (hasN op), .bool (known op)]) ∧ Below w.heap.size w w' := by
  have HK := hi (fun W => kinds_any W)
  have H0 : ByI w (w.alloc (.cells zKd 119)) := ⟨CB.new w _ _, bal w _⟩
  obtain ⟨cs, hcs⟩ : ∃ cs, kdCells = cs := ⟨_, rfl⟩
  have HIX := hi (fun (k : Nat) (hk : k < 12) W => show (Instr.index 138 (.agg cs) (.int .i64 (k : Int))).run Try.prog W = .ok (Kd.v (kO k) (nmB (kO k)) (hasN (kO k))) W by
    rw [← hcs, run_index_cells under_kds size_kd Try.isAgg119 kdCells k hk W, kdCells_at k hk])
  rw [hcs] at HK
  have HH := hi H0
  clear H0 hcs
  go_enter Try.func69, Try.ntmps69
  go_wp2_with (go_at_call 79; ((with_reducible refine (HK.out _).mono ?_); rintro e w1 ⟨rfl, hb1⟩; have HI := hi (HH.out.later hb1); clear hb1))
  go_loopw [7] (fun i wr => ∃ k : Nat, k ≤ 12 ∧ i = .int .i64 k ∧ Hi ((∀ j, j < k → kO j ≠ op) ∧ ByI w wr)) (fun i _ => 12 - (intOf i).toNat)
  case atStart => exact ⟨0, by omega, rfl, hi ⟨fun j h => absurd h (by omega), HI.out⟩⟩
  case round =>
    obtain ⟨k, hk, rfl, HP⟩ := hrel
    by_cases hlt : k < 12
    · have hix := HIX.out k hlt
      have hn := HP.out.1
      have hI := HP.out.2
      have hbw : w.heap.size < wr.heap.size := hI.box.lt
      have hI2 := hI.alloc (.cells (Kd.cs (kO k) (nmB (kO k)) (hasN (kO k))) 119)
      have HA := hi hI2
      have HB := hi hI
      have f1 := hI.box.frozen
      have q0 := hI.box.cell 0
      have q1 := hI.box.cell 1
      have q2 := hI.box.cell 2
      have x1 : (k : Int) < 12 := by omega
      have HN := hi hn
      by_cases he : kO k = op
      · have HR := hi (show Kd.v (kO k) (nmB (kO k)) (hasN (kO k)) = Kd.v (kop op) (nmB op) (hasN op) ∧ known op = true by
          have := kO_known k
          rw [he] at this ⊢
          exact ⟨by rw [kop_yes this], this⟩)
        obtain ⟨o, ho⟩ : ∃ o, kO k = o := ⟨_, rfl⟩
        obtain ⟨nm, hnm⟩ : ∃ nm, nmB (kO k) = nm := ⟨_, rfl⟩
        obtain ⟨hs, hhs⟩ : ∃ hs, hasN (kO k) = hs := ⟨_, rfl⟩
        rw [hnm, hhs, ho] at hix HR
        rw [ho] at he
        subst he
        clear ho hnm hhs hn hI hI2
        go_wp2
        refine bodyPost_ret (results_kd rfl _ _ w.heap.size _ _ _ _ rfl rfl ((HB.out.box.set3 _ _ _).alloc _)) rfl ⟨?_, (below_set3 HB.out.below (Nat.le_refl _) _ _ _).alloc (by simp; omega) _⟩
        show Ending.returned (.tuple #[Kd.v o nm hs, .bool true]) = _
        rw [HR.out.1, HR.out.2]
      · have HE := hi he
        obtain ⟨o, ho⟩ : ∃ o, kO k = o := ⟨_, rfl⟩
        obtain ⟨nm, hnm⟩ : ∃ nm, nmB (kO k) = nm := ⟨_, rfl⟩
        obtain ⟨hs, hhs⟩ : ∃ hs, hasN (kO k) = hs := ⟨_, rfl⟩
        rw [hnm, hhs, ho] at hix HA
        rw [ho] at he
        have he2 : (o == op) = false := by simpa using he
        clear ho hnm hhs hn hI hI2
        go_wp2
        go_roundw
        case rel => exact ⟨k + 1, by omega, by go_num, hi ⟨fun j hj => by
          by_cases e : j = k
          · subst e; exact HE.out
          · exact HN.out j (by omega), HA.out⟩⟩
        case measure => simp [intOf]; omega
    · have hkn : known op = false := kO_none (fun j hj => HP.out.1 j (by omega))
      have hI := HP.out.2
      have HI2 := hi hI
      have f1 := hI.box.frozen
      have q0 := hI.box.cell 0
      have q1 := hI.box.cell 1
      have q2 := hI.box.cell 2
      have HR := hi (show Kd.v (kop op) (nmB op) (hasN op) = Kd.v 0 ⟨#[]⟩ 0 by rw [kop_no hkn, hasN_no hkn]; unfold nmB; rw [nameL_no hkn])
      have HKN := hi hkn
      have x1 : ¬ (k : Int) < 12 := by omega
      clear hI hkn
      go_wp2
      refine bodyPost_ret (results_kd rfl _ _ w.heap.size _ _ _ _ rfl rfl (HI2.out.box.set3 _ _ _)) rfl ⟨?_, below_set3 HI2.out.below (Nat.le_refl _) _ _ _⟩
      rw [HR.out, HKN.out]
      rfl

end Go.Proofs.Ytfnokpajendlmaa
