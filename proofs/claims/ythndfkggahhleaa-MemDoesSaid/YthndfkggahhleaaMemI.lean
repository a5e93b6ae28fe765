/-
  The document's examples: awake answers true wherever it is called, and what lay lies.
-/
import Derived.Test.YthndfkggahhleaaMemH
namespace Go.Proofs.Ythndfkggahhleaa
open Go.ChangeShapes Go.WideShapes Go.ChangeAt Go.RowKit
set_option linter.unusedVariables false

def bs0 : List Nat := List.replicate 16 0
def bs1 : List Nat := wrB bs0 4 8 0 4 258
theorem ex1 : accE bs0.length 4 8 0 4 = 0 := by kernel_rfl
theorem ex2 : accE bs1.length 4 8 0 8 = 0 ∧ rdE bs1 4 8 0 8 = 258 := ⟨by kernel_rfl, by kernel_rfl⟩
theorem ex3 : accE bs1.length 4 8 4 8 = 41 ∧ rdE bs1 4 8 4 8 = 0 := ⟨by kernel_rfl, by kernel_rfl⟩
theorem ex4 : accE bs1.length 10 8 0 8 = 42 ∧ rdE bs1 10 8 0 8 = 0 := ⟨by kernel_rfl, by kernel_rfl⟩

/-- What lies since w, and a memory that was made since. -/
structure Since (w : World) (p g cap : Nat) (bs : List Nat) (W : World) : Prop where
  mem : MemAt 60 W p g cap bs
  p : w.heap.size ≤ p
  g : w.heap.size ≤ g
  below : Below w.heap.size w W
theorem Since.sz {w : World} {p g cap : Nat} {bs : List Nat} {W : World} (h : Since w p g cap bs W) : w.heap.size ≤ W.heap.size := h.below.size
theorem Since.later {w : World} {p g cap : Nat} {bs : List Nat} {W W' : World} (h : Since w p g cap bs W) (k : Below W.heap.size W W') : Since w p g cap bs W' :=
  ⟨h.mem.below k, h.p, h.g, h.below.trans (k.mono h.sz)⟩
theorem Since.wrote {w : World} {p g cap : Nat} {bs cs : List Nat} {W W' : World} (h : Since w p g cap bs W) (k : Kept (· = g) W W') (m : MemAt 60 W' p g cap cs) : Since w p g cap cs W' :=
  ⟨m, h.p, h.g, h.below.trans (k.toBelow h.sz (fun _ e => by subst e; exact h.g))⟩

theorem aw2 (p g cap : Nat) (W : World) (hM : MemAt 60 W p g cap bs1) :
    Calls Try.prog 17 #[.pointer (some ⟨p, 0, none⟩), .agg #[.int .i64 4, .int .i64 8], .int .i64 0, .int .i64 8] W fun e w' => e = .returned (.tuple #[.int .u64 258, .int .i64 0]) ∧ Below W.heap.size W w' := by
  have h := read_any p g cap bs1 4 8 0 8 W hM (by omega) (by omega) (by omega) (by omega)
  rw [ex2.1, ex2.2] at h
  exact h
theorem aw3 (p g cap : Nat) (W : World) (hM : MemAt 60 W p g cap bs1) :
    Calls Try.prog 17 #[.pointer (some ⟨p, 0, none⟩), .agg #[.int .i64 4, .int .i64 8], .int .i64 4, .int .i64 8] W fun e w' => e = .returned (.tuple #[.int .u64 0, .int .i64 41]) ∧ Below W.heap.size W w' := by
  have h := read_any p g cap bs1 4 8 4 8 W hM (by omega) (by omega) (by omega) (by omega)
  rw [ex3.1, ex3.2] at h
  exact h
theorem aw4 (p g cap : Nat) (W : World) (hM : MemAt 60 W p g cap bs1) :
    Calls Try.prog 17 #[.pointer (some ⟨p, 0, none⟩), .agg #[.int .i64 10, .int .i64 8], .int .i64 0, .int .i64 8] W fun e w' => e = .returned (.tuple #[.int .u64 0, .int .i64 42]) ∧ Below W.heap.size W w' := by
  have h := read_any p g cap bs1 10 8 0 8 W hM (by omega) (by omega) (by omega) (by omega)
  rw [ex4.1, ex4.2] at h
  exact h
theorem aw1 (p g cap : Nat) (W : World) (hM : MemAt 60 W p g cap bs0) :
    Calls Try.prog 11 #[.pointer (some ⟨p, 0, none⟩), .agg #[.int .i64 4, .int .i64 8], .int .i64 0, .int .i64 4, .int .u64 258] W fun e w' => e = .returned (.int .i64 0) ∧ MemAt 60 w' p g cap bs1 ∧ Kept (· = g) W w' := by
  have h := write_any p g cap bs0 4 8 0 4 258 W hM (by omega) (by omega) (by omega) (by omega) (by omega)
  rw [ex1] at h
  exact h
theorem aw0 (w : World) : Calls Try.prog 27 #[.int .i64 16] w fun e w' => ∃ p g, e = .returned (.tuple #[.pointer (some ⟨p, 0, none⟩), .int .i64 0]) ∧ Since w p g 16 bs0 w' := by
  refine (new_yes 16 w (by omega)).mono ?_
  rintro e w' ⟨p, g, rfl, h1, h2, h3, h4⟩
  exact ⟨p, g, rfl, h1, h2, h3, h4⟩

theorem kept_new {w1 w2 : World} {g : Nat} {cs : Array Value} {T : TypeId} (hg : g < w1.heap.size) (k : Kept (· = g) (w1.alloc (.cells cs T)) w2) :
    w1.heap.size < w2.heap.size ∧ ∀ o, w2.cell? ⟨w1.heap.size, o, none⟩ = cs[o]? := by
  have h0 : (w1.alloc (.cells cs T)).heap.size = w1.heap.size + 1 := by simp
  refine ⟨by have := k.size; omega, fun o => ?_⟩
  have h1 := k.block w1.heap.size (by omega) (fun (e : w1.heap.size = g) => by omega)
  rw [heap_new] at h1
  simp [World.cell?, h1]

set_option maxHeartbeats 2000000 in
theorem awake_any (w : World) :
    Calls Try.prog 8 #[] w fun e w' => e = .returned (.bool true) ∧ Below w.heap.size w w' := by
  go_enter Try.func8, Try.ntmps8
  go_wp2_with (first
    | (go_at_call 27; ((with_reducible refine (aw0 _).mono ?_); rintro e w1 ⟨p, g, rfl, hs1⟩; replace hs1 := hi hs1))
    | (go_at_call 11; ((with_reducible refine (aw1 p g 16 _ (hs1.out.later (bal _ _)).mem).mono ?_); rintro e w2 ⟨rfl, hm2, hk2⟩; have hs2 := hi ((hs1.out.later (bal _ _)).wrote hk2 hm2); obtain ⟨hz2, hc2⟩ := kept_new hs1.out.mem.bytes.lt hk2; have hc20 : w2.cell? ⟨w1.heap.size, 0, none⟩ = some (.int .i64 4) := hc2 0; have hc21 : w2.cell? ⟨w1.heap.size, 1, none⟩ = some (.int .i64 8) := hc2 1; clear hm2 hk2 hc2))
    | (go_at_call 17; ((with_reducible refine (aw2 p g 16 _ hs2.out.mem).mono ?_); rintro e w3 ⟨rfl, hb3⟩; have hs3 := hi (hs2.out.later hb3); obtain ⟨hc3, _⟩ := bcell hb3; clear hb3))
    | (go_at_call 17; ((with_reducible refine (aw3 p g 16 _ hs3.out.mem).mono ?_); rintro e w4 ⟨rfl, hb4⟩; have hs4 := hi (hs3.out.later hb4); clear hb4))
    | (go_at_call 17; ((with_reducible refine (aw4 p g 16 _ hs4.out.mem).mono ?_); rintro e w5 ⟨rfl, hb5⟩; have hs5 := hi (hs4.out.later hb5); clear hb5)))
  go_ret
  exact ⟨rfl, hs5.out.below⟩

end Go.Proofs.Ythndfkggahhleaa
