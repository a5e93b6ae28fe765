/-
  Some boxes through calls that make memory. Awake: the document's examples.
-/
import Derived.Test.YtnnlimjbmfpalaaLadH
namespace Go.Proofs.Ytnnlimjbmfpalaa
open Go.ChangeShapes Go.WideShapes Go.ChangeAt Go.RowKit
set_option linter.unusedVariables false

/-- Some blocks of cells, above a world that lies below them as it lay. -/
structure AtG (w : World) (L : List (Nat × TypeId × Array Value)) (W : World) : Prop where
  box : ∀ p ∈ L, CB W p.1 p.2.1 p.2.2
  below : Below w.heap.size w W
theorem AtG.later {w W W' : World} {L : List (Nat × TypeId × Array Value)} (h : AtG w L W) (k : Below W.heap.size W W') : AtG w L W' := ⟨fun p hp => (h.box p hp).below k, h.below.trans (k.mono h.below.size)⟩
theorem Below.drew1 {n : Nat} {A B : World} (h : Below n A B) : Below n A B.drew := ⟨h.os, h.tape, h.output, h.size, h.block⟩
theorem AtG.drew {w W : World} {L : List (Nat × TypeId × Array Value)} (h : AtG w L W) : AtG w L W.drew := ⟨fun p hp => h.box p hp, Below.drew1 h.below⟩
theorem AtG.drewN {w W : World} {L : List (Nat × TypeId × Array Value)} (h : AtG w L W) (n : Nat) : AtG w L (W.drewN n) := ⟨fun p hp => h.box p hp, Below.drewN h.below⟩
theorem AtG.alloc {w W : World} {L : List (Nat × TypeId × Array Value)} (h : AtG w L W) (o : Obj) : AtG w L (W.alloc o) := h.later (bal W o)
theorem AtG.new {w W : World} {L : List (Nat × TypeId × Array Value)} (h : AtG w L W) (t : TypeId) (cs : Array Value) : AtG w ((W.heap.size, t, cs) :: L) (W.alloc (.cells cs t)) :=
  ⟨fun p hp => by
    rcases List.mem_cons.1 hp with rfl | hq
    · exact CB.new _ _ _
    · exact (h.alloc _).box p hq, (h.alloc (.cells cs t)).below⟩
theorem AtG.nil (w : World) : AtG w [] w := ⟨fun p hp => (by cases hp), Below.refl _ _⟩
theorem AtG.b0 {w W : World} {L : List (Nat × TypeId × Array Value)} {b : Nat} {t : TypeId} {cs : Array Value} (h : AtG w ((b, t, cs) :: L) W) : CB W b t cs := h.box (b, t, cs) (by simp)
theorem AtG.tl {w W : World} {L : List (Nat × TypeId × Array Value)} {p : Nat × TypeId × Array Value} (h : AtG w (p :: L) W) : AtG w L W := ⟨fun q hq => h.box q (List.mem_cons_of_mem _ hq), h.below⟩
/-- The first box's two cells stored anew. -/
theorem AtG.store2 {w W : World} {L : List (Nat × TypeId × Array Value)} {b : Nat} {t : TypeId} {p q : Value} (h : AtG w ((b, t, #[p, q]) :: L) W) (hb : w.heap.size ≤ b) (hd : ∀ r ∈ L, r.1 ≠ b) (x y : Value) :
    AtG w ((b, t, #[x, y]) :: L) ((W.setCell ⟨b, 0, none⟩ x).setCell ⟨b, 1, none⟩ y) :=
  ⟨fun r hr => by
    rcases List.mem_cons.1 hr with rfl | hq
    · exact h.b0.set2 x y
    · exact ((h.box r (List.mem_cons_of_mem _ hq)).other _ _ _ (hd r hq)).other _ _ _ (hd r hq), below_set2 h.below hb x y⟩
theorem CB.two {W : World} {b : Nat} {t : TypeId} {x y : Value} (h : CB W b t #[x, y]) : W.cell? ⟨b, 0, none⟩ = some x ∧ W.cell? ⟨b, 1, none⟩ = some y := ⟨h.cell 0, h.cell 1⟩

theorem intsAt_grew {W W' : World} {v : Value} {xs : List Int} (h : IntsAt W v xs) (hb : Below W.heap.size W W') : IntsAt W' v xs := by
  obtain ⟨a, cap, hv, hcap, hc⟩ := h
  refine ⟨a, cap, hv, hcap, fun hx => ?_⟩
  obtain ⟨b, off, ha, hcs⟩ := hc hx
  exact ⟨b, off, ha, fun j hj => cell_kept (hcs j hj) (Below.grew hb) (fun r e => by cases e)⟩
theorem intsAt_four (W : World) (t : TypeId) (a b c d : Int) : IntsAt (W.alloc (.cells #[.int .i64 a, .int .i64 b, .int .i64 c, .int .i64 d] t)) (.slice (some ⟨W.heap.size, 0, none⟩) 4 4) [a, b, c, d] := by
  refine ⟨_, 4, rfl, ⟨by simp, by unfold maxLen; omega⟩, fun _ => ⟨W.heap.size, 0, rfl, fun j hj => ?_⟩⟩
  rw [(CB.new W t _).cell]
  match j, hj with
  | 0, _ => rfl
  | 1, _ => rfl
  | 2, _ => rfl
  | 3, _ => rfl
/-- The slice that comes is some value that holds the numbers. -/
def SomeInts (w : World) (xs : List Int) (e : Ending) (W' : World) : Prop := ∃ a cap, e = .returned (.slice a xs.length cap) ∧ IntsAt W' (.slice a xs.length cap) xs ∧ Below w.heap.size w W'
theorem someInts_of {w W' : World} {xs : List Int} {o : Value} (h : OwnsInts w W' o xs) (hb : Below w.heap.size w W') : SomeInts w xs (.returned o) W' := by
  obtain ⟨a, cap, rfl, hcap, hc⟩ := intsAt_row h
  exact ⟨a, cap, rfl, ⟨a, cap, rfl, hcap, hc⟩, hb⟩
/-! ### The document's examples -/
def f0 : Rg := fun _ => false
theorem wd_f0 (g : Nat) : wd f0 g = 0 := sumB_eq (fun i _ => by simp [f0]) (by decide)
def x1 : Rg := put f0 41 true
def x2 : Rg := put x1 2 true
def x3 : Rg := put x2 2 false
def x4 : Rg := put x3 41 false

theorem rungs_x2 : rungs x2 = [2, 41] := by decide +kernel
theorem rungs_x3 : rungs x3 = [41] := by decide +kernel
theorem rungs_x4 : rungs x4 = [] := by decide +kernel
theorem rungs_13 : (rungs (ofW 1 3)).length = 3 := by decide +kernel

theorem aw1 (W : World) : Calls Try.prog 46 #[.agg #[.int .u32 0, .int .u32 0], .int .i64 1, .int .i64 160] W fun e w' => e = .returned (lv x1) ∧ Below W.heap.size W w' := by
  have h := push_any f0 1 160 W
  unfold lv lcs at h
  rw [wd_f0, wd_f0] at h
  exact h
theorem aw2 (W : World) : Calls Try.prog 46 #[lv x1, .int .i64 0, .int .i64 8] W fun e w' => e = .returned (lv x2) ∧ Below W.heap.size W w' := push_any x1 0 8 W
theorem aw3 (W : World) : Calls Try.prog 48 #[lv x2] W fun e w' => e = .returned (.tuple #[.int .i64 8, .int .i64 0]) ∧ Below W.heap.size W w' := by
  have h := running_any x2 W
  rw [runV_some (show top x2 = some 2 by rw [top, rungs_x2]; rfl)] at h
  exact h
theorem aw4 (W : World) : Calls Try.prog 49 #[lv x2] W fun e w' => e = .returned (.tuple #[lv x3, .bool true]) ∧ Below W.heap.size W w' := by
  have h := drop_any x2 W
  rw [dropR_some (show top x2 = some 2 by rw [top, rungs_x2]; rfl), dropB_some (show top x2 = some 2 by rw [top, rungs_x2]; rfl)] at h
  exact h
theorem aw5 (W : World) : Calls Try.prog 48 #[lv x3] W fun e w' => e = .returned (.tuple #[.int .i64 160, .int .i64 1]) ∧ Below W.heap.size W w' := by
  have h := running_any x3 W
  rw [runV_some (show top x3 = some 41 by rw [top, rungs_x3]; rfl)] at h
  exact h
theorem aw6 (W : World) : Calls Try.prog 49 #[lv x3] W fun e w' => e = .returned (.tuple #[lv x4, .bool true]) ∧ Below W.heap.size W w' := by
  have h := drop_any x3 W
  rw [dropR_some (show top x3 = some 41 by rw [top, rungs_x3]; rfl), dropB_some (show top x3 = some 41 by rw [top, rungs_x3]; rfl)] at h
  exact h
theorem aw7 (W : World) : Calls Try.prog 48 #[lv x4] W fun e w' => e = .returned (.tuple #[.int .i64 255, .int .i64 0]) ∧ Below W.heap.size W w' := by
  have h := running_any x4 W
  rw [runV_none (show top x4 = none by rw [top, rungs_x4]; rfl)] at h
  exact h
theorem aw9 (W : World) : Calls Try.prog 22 #[lv (ofW 1 3)] W fun e w' => e = .returned (.int .i64 3) ∧ Below W.heap.size W w' := by
  have h := len_any (ofW 1 3) W
  rw [rungs_13] at h
  exact h
end Go.Proofs.Ytnnlimjbmfpalaa
