/-
  Part, the program's and the document's.
-/
import Derived.Test.YtkgkfgfnhjhabaaDoorMemJ
namespace Go.Proofs.YtkgkfgfnhjhabaaDoor
open Go.ChangeShapes Go.WideShapes Go.ChangeAt Go.RowKit
set_option linter.unusedVariables false
set_option linter.unusedSimpArgs false

theorem results_win {fn : Func} {c t : Tmp} (h : fn.results = #[.cell c 42, .tmp t]) (tmps : Array Value) (w : World) (b : Nat) (x y : Int) (hp : tmps.getD c undef = .pointer (some ⟨b, 0, none⟩))
    (h0 : w.cell? ⟨b, 0, none⟩ = some (.int .i64 x)) (h1 : w.cell? ⟨b, 1, none⟩ = some (.int .i64 y)) :
    (results fn tmps).run Tryd.prog w = .ok (.tuple #[.agg #[.int .i64 x, .int .i64 y], tmps.getD t undef]) w := by
  have hp' : tmps[c]?.getD undef = .pointer (some ⟨b, 0, none⟩) := by simpa using hp
  simp [results, h, go_sem, hp', h0, h1]

theorem two_frozen {w w1 : World} {x y z u : Value} {T U : TypeId} (h : Below ((w.alloc (.cells #[x, y] T)).alloc (.cells #[z, u] U)).heap.size ((w.alloc (.cells #[x, y] T)).alloc (.cells #[z, u] U)) w1) (o : Nat) : w1.frozen? ⟨w.heap.size + 1, o, none⟩ = false := by
  have h2 : ((w.alloc (.cells #[x, y] T)).alloc (.cells #[z, u] U)).heap[w.heap.size + 1]? = some (.cells #[z, u] U (0, 0)) := by
    have := heap_new (w.alloc (.cells #[x, y] T)) (.cells #[z, u] U)
    rwa [show (w.alloc (.cells #[x, y] T)).heap.size = w.heap.size + 1 by simp] at this
  have h3 := (h.block (w.heap.size + 1) (by simp)).trans h2
  simp [World.frozen?, h3]
theorem set2_cells {W : World} {b : Nat} {p q u v : Value} (h0 : W.cell? ⟨b, 0, none⟩ = some p) (h1 : W.cell? ⟨b, 1, none⟩ = some q) :
    ((W.setCell ⟨b, 0, none⟩ u).setCell ⟨b, 1, none⟩ v).cell? ⟨b, 0, none⟩ = some u ∧ ((W.setCell ⟨b, 0, none⟩ u).setCell ⟨b, 1, none⟩ v).cell? ⟨b, 1, none⟩ = some v := by
  have e0 : (W.setCell ⟨b, 0, none⟩ u).cell? ⟨b, 1, none⟩ = some q := by
    rw [World.cell?_setCell_other _ _ _ _ (by simp)]; exact h1
  constructor
  · rw [World.cell?_setCell_other _ _ _ _ (by simp)]
    exact World.cell?_setCell_same _ _ _ h0
  · exact World.cell?_setCell_same _ _ _ e0
theorem below_set2 {w W : World} {b : Nat} {u v : Value} (h : Below w.heap.size w W) (hb : w.heap.size ≤ b) : Below w.heap.size w ((W.setCell ⟨b, 0, none⟩ u).setCell ⟨b, 1, none⟩ v) :=
  ((Kept.of h).trans (((kept_setCell W b 0 u).trans (kept_setCell _ b 1 v)).mono (cs := (· = b)) (fun _ e => e))).toBelow (Nat.le_refl _) (fun k (e : k = b) => by omega)

def partOk (a s x n : Int) : Bool := fairB a s && decide (0 ≤ x ∧ 0 ≤ n ∧ x + n ≤ s)
def partV (a s x n : Int) : Value := if partOk a s x n = true then .tuple #[.agg #[.int .i64 (a + x), .int .i64 n], .int .i64 0] else .tuple #[.agg #[.int .i64 0, .int .i64 0], .int .i64 42]

set_option maxHeartbeats 2000000 in
theorem part_any (a s x n : Int) (w : World) (hn1 : n ≤ 9223372036854775807) (hx1 : x ≤ 9223372036854775807) :
    Calls Tryd.prog 65 #[win a s, .int .i64 x, .int .i64 n] w fun e w' => e = .returned (partV a s x n) ∧ Below w.heap.size w w' := by
  have HA := hi (bounded_any a s)
  unfold win
  cases h1 : fairB a s
  · rw [h1] at HA
    have e : partV a s x n = .tuple #[.agg #[.int .i64 0, .int .i64 0], .int .i64 42] := by simp [partV, partOk, h1]
    rw [e]
    clear e h1
    go_enter Tryd.func65, Tryd.ntmps65
    go_wp2_with (go_at_call 71; ((with_reducible refine (HA.out _).mono ?_); rintro e w1 ⟨rfl, hb1⟩; have HK := hi hb1; obtain ⟨ca, cb, cc, cd⟩ := two_boxes hb1; have fa := two_frozen hb1 0; have fb := two_frozen hb1 1; clear hb1))
    obtain ⟨x0, x1⟩ := set2_cells (u := .int .i64 0) (v := .int .i64 0) cc cd
    refine bodyPost_ret (results_win rfl _ _ (w.heap.size + 1) 0 0 rfl x0 x1) rfl ?_
    exact ⟨rfl, below_set2 (((bal w _).alloc (by simp) _).trans (HK.out.mono (by simp; omega))) (by omega)⟩
  rw [h1] at HA
  have f1 := hi (fairB_out h1)
  by_cases hx : x < 0
  · skip
    have e : partV a s x n = .tuple #[.agg #[.int .i64 0, .int .i64 0], .int .i64 42] := by
      have : partOk a s x n = false := by simp [partOk, h1]; omega
      simp [partV, this]
    rw [e]
    clear e h1
    go_enter Tryd.func65, Tryd.ntmps65
    go_wp2_with (go_at_call 71; ((with_reducible refine (HA.out _).mono ?_); rintro e w1 ⟨rfl, hb1⟩; have HK := hi hb1; obtain ⟨ca, cb, cc, cd⟩ := two_boxes hb1; have fa := two_frozen hb1 0; have fb := two_frozen hb1 1; clear hb1))
    obtain ⟨x0, x1⟩ := set2_cells (u := .int .i64 0) (v := .int .i64 0) cc cd
    refine bodyPost_ret (results_win rfl _ _ (w.heap.size + 1) 0 0 rfl x0 x1) rfl ?_
    exact ⟨rfl, below_set2 (((bal w _).alloc (by simp) _).trans (HK.out.mono (by simp; omega))) (by omega)⟩
  by_cases hn : n < 0
  · skip
    have e : partV a s x n = .tuple #[.agg #[.int .i64 0, .int .i64 0], .int .i64 42] := by
      have : partOk a s x n = false := by simp [partOk, h1]; omega
      simp [partV, this]
    rw [e]
    clear e h1
    go_enter Tryd.func65, Tryd.ntmps65
    go_wp2_with (go_at_call 71; ((with_reducible refine (HA.out _).mono ?_); rintro e w1 ⟨rfl, hb1⟩; have HK := hi hb1; obtain ⟨ca, cb, cc, cd⟩ := two_boxes hb1; have fa := two_frozen hb1 0; have fb := two_frozen hb1 1; clear hb1))
    obtain ⟨x0, x1⟩ := set2_cells (u := .int .i64 0) (v := .int .i64 0) cc cd
    refine bodyPost_ret (results_win rfl _ _ (w.heap.size + 1) 0 0 rfl x0 x1) rfl ?_
    exact ⟨rfl, below_set2 (((bal w _).alloc (by simp) _).trans (HK.out.mono (by simp; omega))) (by omega)⟩
  have f2 := f1.out
  have hw0 : IntKind.i64.wrap (s - n) = s - n := by rw [IntKind.wrap_i64]; omega
  by_cases hs : x ≤ s - n
  · have hw1 : IntKind.i64.wrap (a + x) = a + x := by rw [IntKind.wrap_i64]; omega
    have e : partV a s x n = .tuple #[.agg #[.int .i64 (a + x), .int .i64 n], .int .i64 0] := by
      have : partOk a s x n = true := by simp [partOk, h1]; omega
      simp [partV, this]
    rw [e]
    clear e h1 f2
    go_enter Tryd.func65, Tryd.ntmps65
    go_wp2_with (go_at_call 71; ((with_reducible refine (HA.out _).mono ?_); rintro e w1 ⟨rfl, hb1⟩; have HK := hi hb1; obtain ⟨ca, cb, cc, cd⟩ := two_boxes hb1; have fa := two_frozen hb1 0; have fb := two_frozen hb1 1; clear hb1))
    obtain ⟨x0, x1⟩ := set2_cells (u := .int .i64 (a + x)) (v := .int .i64 n) cc cd
    refine bodyPost_ret (results_win rfl _ _ (w.heap.size + 1) (a + x) n rfl x0 x1) rfl ?_
    exact ⟨rfl, below_set2 (((bal w _).alloc (by simp) _).trans (HK.out.mono (by simp; omega))) (by omega)⟩
  · skip
    have e : partV a s x n = .tuple #[.agg #[.int .i64 0, .int .i64 0], .int .i64 42] := by
      have : partOk a s x n = false := by simp [partOk, h1]; omega
      simp [partV, this]
    rw [e]
    clear e h1 f2
    go_enter Tryd.func65, Tryd.ntmps65
    go_wp2_with (go_at_call 71; ((with_reducible refine (HA.out _).mono ?_); rintro e w1 ⟨rfl, hb1⟩; have HK := hi hb1; obtain ⟨ca, cb, cc, cd⟩ := two_boxes hb1; have fa := two_frozen hb1 0; have fb := two_frozen hb1 1; clear hb1))
    obtain ⟨x0, x1⟩ := set2_cells (u := .int .i64 0) (v := .int .i64 0) cc cd
    refine bodyPost_ret (results_win rfl _ _ (w.heap.size + 1) 0 0 rfl x0 x1) rfl ?_
    exact ⟨rfl, below_set2 (((bal w _).alloc (by simp) _).trans (HK.out.mono (by simp; omega))) (by omega)⟩

end Go.Proofs.YtkgkfgfnhjhabaaDoor
