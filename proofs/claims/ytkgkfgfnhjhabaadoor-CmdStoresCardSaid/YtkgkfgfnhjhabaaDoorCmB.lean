/-
  Package cmd: the small functions at every call: place, most, join, numbersOf.
-/
import Derived.Test.YtkgkfgfnhjhabaaDoorGnd
import Derived.Test.YtkgkfgfnhjhabaaDoorCmA
namespace Go.Proofs.YtkgkfgfnhjhabaaDoor
open Go.ChangeShapes Go.WideShapes Go.ChangeAt Go.RowKit
set_option linter.unusedVariables false
set_option linter.unusedSimpArgs false

theorem below_set {n : Nat} {w W : World} (h : Below n w W) {b o : Nat} (hb : n ≤ b) (v : Value) : Below n w (W.setCell ⟨b, o, none⟩ v) := h.setCell (p := ⟨b, o, none⟩) hb v
theorem cb_second {w : World} {o : Obj} {cs : Array Value} {t : TypeId} : CB ((w.alloc o).alloc (.cells cs t)) (w.heap.size + 1) t cs := by
  have := CB.new (w.alloc o) t cs
  rwa [World.size_alloc] at this
theorem bal_two (w : World) (o o' : Obj) : Below w.heap.size w ((w.alloc o).alloc o') := (bal w o).alloc (by simp) o'
theorem cb_third {w : World} {o o' : Obj} {cs : Array Value} {t : TypeId} : CB (((w.alloc o).alloc o').alloc (.cells cs t)) (w.heap.size + 1 + 1) t cs := by
  have := CB.new ((w.alloc o).alloc o') t cs
  rwa [World.size_alloc, World.size_alloc] at this
theorem bal_three (w : World) (o o' o'' : Obj) : Below w.heap.size w (((w.alloc o).alloc o').alloc o'') := (bal_two w o o').alloc (by simp; omega) o''
theorem results_pl {fn : Func} {c : Tmp} (h : fn.results = #[.cell c 81]) (tmps : Array Value) (w : World) (b : Nat) (v0 v1 v2 : Value) (hp : tmps.getD c undef = .pointer (some ⟨b, 0, none⟩)) (hb : CB w b 81 #[v0, v1, v2]) :
    (results fn tmps).run Tryd.prog w = .ok (.agg #[v0, v1, v2]) w := by
  have hp' : tmps[c]?.getD undef = .pointer (some ⟨b, 0, none⟩) := by simpa using hp
  have c0 := hb.cell 0
  have c1 := hb.cell 1
  have c2 := hb.cell 2
  simp at c0 c1 c2
  simp [results, h, go_sem, hp', c0, c1, c2]
theorem results_cm {fn : Func} {c : Tmp} (h : fn.results = #[.cell c 24]) (tmps : Array Value) (w : World) (b : Nat) (v0 v1 v2 v3 v4 v5 v6 v7 v8 : Value) (hp : tmps.getD c undef = .pointer (some ⟨b, 0, none⟩)) (hb : CB w b 24 #[v0, v1, v2, v3, v4, v5, v6, v7, v8]) :
    (results fn tmps).run Tryd.prog w = .ok (.agg #[v0, v1, v2, v3, v4, v5, v6, v7, v8]) w := by
  have hp' : tmps[c]?.getD undef = .pointer (some ⟨b, 0, none⟩) := by simpa using hp
  have c0 := hb.cell 0
  have c1 := hb.cell 1
  have c2 := hb.cell 2
  have c3 := hb.cell 3
  have c4 := hb.cell 4
  have c5 := hb.cell 5
  have c6 := hb.cell 6
  have c7 := hb.cell 7
  have c8 := hb.cell 8
  simp at c0 c1 c2 c3 c4 c5 c6 c7 c8
  simp [results, h, go_sem, hp', c0, c1, c2, c3, c4, c5, c6, c7, c8]
theorem results_ns {fn : Func} {c : Tmp} (h : fn.results = #[.cell c 73]) (tmps : Array Value) (w : World) (b : Nat) (v0 v1 v2 v3 v4 v5 v6 v7 v8 : Value) (hp : tmps.getD c undef = .pointer (some ⟨b, 0, none⟩)) (hb : CB w b 73 #[v0, v1, v2, v3, v4, v5, v6, v7, v8]) :
    (results fn tmps).run Tryd.prog w = .ok (.agg #[v0, v1, v2, v3, v4, v5, v6, v7, v8]) w := by
  have hp' : tmps[c]?.getD undef = .pointer (some ⟨b, 0, none⟩) := by simpa using hp
  have c0 := hb.cell 0
  have c1 := hb.cell 1
  have c2 := hb.cell 2
  have c3 := hb.cell 3
  have c4 := hb.cell 4
  have c5 := hb.cell 5
  have c6 := hb.cell 6
  have c7 := hb.cell 7
  have c8 := hb.cell 8
  simp at c0 c1 c2 c3 c4 c5 c6 c7 c8
  simp [results, h, go_sem, hp', c0, c1, c2, c3, c4, c5, c6, c7, c8]

/-- An index into an array's value: an element of one cell, or of several. -/
theorem run_index_cells {T te : TypeId} {n sz : Nat} (hu : Tryd.prog.underlying T = some (.array n te)) (hz : (Tryd.prog.info? te).map (·.size) = some sz) (ha : ∀ w, (isAgg te).run Tryd.prog w = .ok true w) (cs : Array Value) (k : Nat) (hk : k < n) (W : World) :
    (Instr.index T (.agg cs) (.int .i64 (k : Int))).run Tryd.prog W = .ok (.agg (cs.extract (k * sz) (k * sz + sz))) W := by
  have h1 : (0 : Int) ≤ (k : Int) ∧ (k : Int) < (n : Nat) := by omega
  cases hq : Tryd.prog.info? te with
  | none => simp [hq] at hz
  | some i =>
    have hs : i.size = sz := by simpa [hq] using hz
    simp [Instr.index, run_underlying hu, asIntOf, h1, go_sem, part, sizeOf, typeInfo, hq, hs, ha]
    omega
theorem run_index_one {T te : TypeId} {n : Nat} (hu : Tryd.prog.underlying T = some (.array n te)) (hz : (Tryd.prog.info? te).map (·.size) = some 1) (ha : ∀ w, (isAgg te).run Tryd.prog w = .ok false w) (cs : Array Value) (k : Nat) (v : Value) (hk : k < n) (hv : cs[k]? = some v) (W : World) :
    (Instr.index T (.agg cs) (.int .i64 (k : Int))).run Tryd.prog W = .ok v W := by
  have h1 : (0 : Int) ≤ (k : Int) ∧ (k : Int) < (n : Nat) := by omega
  cases hq : Tryd.prog.info? te with
  | none => simp [hq] at hz
  | some i =>
    have hs : i.size = 1 := by simpa [hq] using hz
    simp [Instr.index, run_underlying hu, asIntOf, h1, go_sem, part, sizeOf, typeInfo, hq, hs, ha, hv]
    omega
theorem under_pls : Tryd.prog.underlying 121 = some (.array 9 81) := by kernel_rfl
theorem size_pl : (Tryd.prog.info? 81).map (·.size) = some 3 := by kernel_rfl

abbrev Pl.v (f : Nat) : Value := .agg #[.int .i64 (pw f), .int .i64 (pf f), .int .i64 (pb f)]
def plCells : Array Value := #[.int .i64 0, .int .i64 32, .int .i64 32, .int .i64 1, .int .i64 0, .int .i64 32, .int .i64 1, .int .i64 32, .int .i64 32, .int .i64 3, .int .i64 16, .int .i64 16, .int .i64 2, .int .i64 0, .int .i64 16, .int .i64 2, .int .i64 16, .int .i64 16, .int .i64 1, .int .i64 0, .int .i64 5, .int .i64 2, .int .i64 8, .int .i64 40, .int .i64 2, .int .i64 63, .int .i64 1]
theorem plCells_at (f : Nat) (hf : f < 9) : Value.agg (plCells.extract (f * 3) (f * 3 + 3)) = Pl.v f := by
  have : f = 0 ∨ f = 1 ∨ f = 2 ∨ f = 3 ∨ f = 4 ∨ f = 5 ∨ f = 6 ∨ f = 7 ∨ f = 8 := by omega
  rcases this with rfl | rfl | rfl | rfl | rfl | rfl | rfl | rfl | rfl <;> rfl
set_option maxRecDepth 100000 in
set_option maxHeartbeats 2000000 in
theorem place_any (f : Nat) (hf : f < 9) (w : World) : Calls Tryd.prog 32 #[.int .i64 f] w fun e w' => e = .returned (Pl.v f) ∧ Below w.heap.size w w' := by
  have hix : ∀ W, (Instr.index 121 (.agg plCells) (.int .i64 (f : Int))).run Tryd.prog W = .ok (Pl.v f) W := fun W => by
    rw [run_index_cells under_pls size_pl Tryd.isAgg81 plCells f hf W, plCells_at f hf]
  unfold plCells at hix
  go_enter Tryd.func32, Tryd.ntmps32
  go_wp2
  exact bodyPost_ret (results_pl rfl _ _ w.heap.size _ _ _ rfl (CB.new w 81 _)) rfl ⟨rfl, bal w _⟩

theorem most_num (f : Nat) (hf : f < 9) : wrap64 (wrap64 (2 ^ min (pb f) 64) - 1) = (pr f : Int) - 1 := by
  have : f = 0 ∨ f = 1 ∨ f = 2 ∨ f = 3 ∨ f = 4 ∨ f = 5 ∨ f = 6 ∨ f = 7 ∨ f = 8 := by omega
  rcases this with rfl | rfl | rfl | rfl | rfl | rfl | rfl | rfl | rfl <;> decide +kernel
theorem most_any (f : Nat) (hf : f < 9) (w : World) : Calls Tryd.prog 35 #[Pl.v f] w fun e w' => e = .returned (.int .i64 ((pr f : Int) - 1)) ∧ Below w.heap.size w w' := by
  rw [← most_num f hf]
  go_enter Tryd.func35, Tryd.ntmps35
  go_wp2
  go_ret
  exact ⟨rfl, bal w _⟩

/-- A kind's value, and numbers' value. -/
abbrev Kd.cs (op : Int) (nm : ByteArray) (has : Int) : Array Value := #[.int .i64 op, .string nm, .int .i64 has]
abbrev Kd.v (op : Int) (nm : ByteArray) (has : Int) : Value := .agg #[.int .i64 op, .string nm, .int .i64 has]
abbrev Nv (n : Ns) : Value := .agg #[.int .i64 (n 0), .int .i64 (n 1), .int .i64 (n 2), .int .i64 (n 3), .int .i64 (n 4), .int .i64 (n 5), .int .i64 (n 6), .int .i64 (n 7), .int .i64 (n 8)]

set_option maxHeartbeats 1000000 in
theorem join_any (op : Int) (nm : ByteArray) (has : Int) (n : Ns) (w : World) : Calls Tryd.prog 36 #[Kd.v op nm has, Nv n] w fun e w' => e = .returned (joinC op n).v ∧ Below w.heap.size w w' := by
  go_enter Tryd.func36, Tryd.ntmps36
  go_wp2
  exact bodyPost_ret (results_cm rfl _ _ (w.heap.size + 1 + 1) _ _ _ _ _ _ _ _ _ rfl cb_third) rfl ⟨rfl, bal_three w _ _ _⟩

set_option maxHeartbeats 1000000 in
theorem numbersOf_any (c : Cm) (w : World) (hc : i64B c.addr) : Calls Tryd.prog 59 #[c.v] w fun e w' => e = .returned (Nv (numC c)) ∧ Below w.heap.size w w' := by
  obtain ⟨op, dev, ev, num, coll, tgt, bit, addr, valid⟩ := c
  have hw : IntKind.i64.wrap (addr.tdiv 256) = addr.tdiv 256 := by
    obtain ⟨h1, h2⟩ := hc
    dsimp only at h1 h2
    rw [IntKind.wrap_i64]
    have : -36028797018963968 ≤ addr.tdiv 256 ∧ addr.tdiv 256 ≤ 36028797018963968 := by
      rcases Int.le_total 0 addr with h | h
      · rw [Int.tdiv_eq_ediv_of_nonneg h]; omega
      · obtain ⟨a, rfl⟩ : ∃ a, addr = -a := ⟨-addr, by omega⟩
        rw [Int.neg_tdiv, Int.tdiv_eq_ediv_of_nonneg (by omega)]; omega
    omega
  cases valid
  · go_enter Tryd.func59, Tryd.ntmps59
    go_wp2
    exact bodyPost_ret (results_ns rfl _ _ (w.heap.size + 1) _ _ _ _ _ _ _ _ _ rfl (cb_second.alloc _)) rfl ⟨by simp [numC, hw], bal_three w _ _ _⟩
  · go_enter Tryd.func59, Tryd.ntmps59
    go_wp2
    exact bodyPost_ret (results_ns rfl _ _ (w.heap.size + 1) _ _ _ _ _ _ _ _ _ rfl (cb_second.alloc _)) rfl ⟨by simp [numC, hw], bal_three w _ _ _⟩

end Go.Proofs.YtkgkfgfnhjhabaaDoor
