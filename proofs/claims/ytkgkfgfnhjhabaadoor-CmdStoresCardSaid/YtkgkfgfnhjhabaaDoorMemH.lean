/-
  New and Copy, by the program.
-/
import Derived.Test.YtkgkfgfnhjhabaaDoorMemG
namespace Go.Proofs.YtkgkfgfnhjhabaaDoor
open Go.ChangeShapes Go.WideShapes Go.ChangeAt Go.RowKit
set_option linter.unusedVariables false
set_option linter.unusedSimpArgs false

theorem heap_new (w : World) (o : Obj) : (w.alloc o).heap[w.heap.size]? = some o := by show (w.heap.push o)[w.heap.size]? = some o; simp

def ptr (p : Nat) : Value := .pointer (some ⟨p, 0, none⟩)
theorem made_u8 (n : Nat) : (madeCells (Value.int .u8 0).cells (n * 1)).toList = u8s (List.replicate n 0) := by
  simp [madeCells, Value.cells, u8s]
  apply List.ext_getElem
  · simp
  · intro i h1 h2; simp [Nat.mod_one]
theorem bytes_made {W : World} {base : Nat} {b n : Nat} (h : W.ownsRow base 5 1 (.slice (some ⟨b, 0, none⟩) n n) n (madeCells (Value.int .u8 0).cells (n * 1)).toList) : BytesAt W b (List.replicate n 0) := by
  rw [made_u8] at h
  obtain ⟨g, hg⟩ := OwnB.of_row (W := W) (base := base) (v := .slice (some ⟨b, 0, none⟩) n n) (ys := List.replicate n 0) (by simpa using h) (fun x hx => by rw [List.eq_of_mem_replicate hx]; omega) (by simp)
  obtain ⟨cap, e, _, h1, _⟩ := hg
  simp only [Value.slice.injEq, Option.some.injEq, Addr.mk.injEq] at e
  rw [e.1.1]
  exact h1

set_option maxHeartbeats 1000000 in
theorem new_yes (n : Nat) (w : World) (hn : n ≤ 131072) :
    Calls Tryd.prog 39 #[.int .i64 n] w fun e w' => ∃ p g, e = .returned (tup (ptr p) 0) ∧ MemAt 126 w' p g n (List.replicate n 0) ∧ w.heap.size ≤ p ∧ w.heap.size ≤ g ∧ Below w.heap.size w w' := by
  obtain ⟨i0, hi', hz0, hz1, hz2⟩ := info_parts info_u8
  have HI := hi hi'
  have HZ := hi (And.intro hz0 (And.intro hz1 hz2))
  clear hi' hz0 hz1 hz2
  unfold tup ptr
  go_enter Tryd.func39, Tryd.ntmps39
  go_wp2_with (refine wpList_make_full _ rfl _ _ _ rfl w.heap.size 5 i0 (.int .u8 0) 1 Tryd.underlying48 HI.out HZ.out.1 HZ.out.2.1 .i64 .i64 _ _ n rfl rfl rfl rfl (by rw [HZ.out.2.2]; omega) (by unfold maxLen; omega) (Nat.le_refl _) ?_; intro w1 hown hg1)
  go_ret2
  have hb := bytes_made hown
  refine ⟨w1.heap.size, w.heap.size, rfl, ⟨?_, ?_, by simp, by unfold maxLen; omega, by simp; exact hn, by decide⟩, hg1.size, Nat.le_refl _, ?_⟩
  · rw [List.length_replicate]; exact heap_new _ _
  · exact hb.of_block (Below.heap_alloc _ _ _ hb.lt)
  · exact ⟨hg1.os, hg1.tape, hg1.output, Nat.le_trans hg1.size (by simp), fun k hk => (Below.heap_alloc _ _ _ (Nat.lt_of_lt_of_le hk hg1.size)).trans (hg1.block k hk (by simp))⟩

end Go.Proofs.YtkgkfgfnhjhabaaDoor
