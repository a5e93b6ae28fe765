/-
  Some boxes of states, through calls that make memory; Shown; a state compared with itself.
-/
import Derived.Test.YtjcgcnghjcbkeaaIrqL
import Derived.Test.YtjcgcnghjcbkeaaIrqF
namespace Go.Proofs.Ytjcgcnghjcbkeaa
open Go.ChangeShapes Go.WideShapes Go.ChangeAt Go.RowKit
set_option linter.unusedVariables false

theorem eql4_self (a b c d : Bool) (w : World) : (binOp .eql 23 (.agg #[.bool a, .bool b, .bool c, .bool d]) (.agg #[.bool a, .bool b, .bool c, .bool d])).run Try.prog w = .ok (.bool true) w := by rw [eql4, eq4_self]
theorem neq4_self (a b c d : Bool) (w : World) : (binOp .neq 23 (.agg #[.bool a, .bool b, .bool c, .bool d]) (.agg #[.bool a, .bool b, .bool c, .bool d])).run Try.prog w = .ok (.bool false) w := by rw [neq4, eq4_self]; rfl

/-- Boxes of states. -/
structure AtL (w : World) (L : List (Nat × St)) (W : World) : Prop where
  box : ∀ p ∈ L, CB W p.1 23 p.2.cs
  below : Below w.heap.size w W
theorem AtL.later {w W W' : World} {L : List (Nat × St)} (h : AtL w L W) (k : Below W.heap.size W W') : AtL w L W' := ⟨fun p hp => (h.box p hp).below k, h.below.trans (k.mono h.below.size)⟩
theorem AtL.drew {w W : World} {L : List (Nat × St)} (h : AtL w L W) : AtL w L W.drew := ⟨fun p hp => h.box p hp, Below.drew1 h.below⟩
theorem AtL.alloc {w W : World} {L : List (Nat × St)} (h : AtL w L W) (o : Obj) : AtL w L (W.alloc o) := h.later (bal W o)
/-- A new box of a state, ahead of a call or behind it. -/
theorem AtL.new {w W : World} {L : List (Nat × St)} (h : AtL w L W) (x : St) : AtL w ((W.heap.size, x) :: L) (W.alloc (.cells x.cs 23)) :=
  ⟨fun p hp => by
    rcases List.mem_cons.1 hp with rfl | hq
    · exact CB.new _ _ _
    · exact ((h.alloc _).box p hq), (h.alloc (.cells x.cs 23)).below⟩
theorem AtL.nil (w : World) : AtL w [] w := ⟨fun p hp => (by cases hp), Below.refl _ _⟩
theorem AtL.cells2 {w W : World} {b0 b1 : Nat} {x0 x1 : St} (h : AtL w [(b0, x0), (b1, x1)] W) : W.cell? ⟨b0, 0, none⟩ = some (.bool x0.e) ∧ W.cell? ⟨b0, 1, none⟩ = some (.bool x0.l) ∧ W.cell? ⟨b0, 2, none⟩ = some (.bool x0.h) ∧ W.cell? ⟨b0, 3, none⟩ = some (.bool x0.a) ∧ W.cell? ⟨b1, 0, none⟩ = some (.bool x1.e) ∧ W.cell? ⟨b1, 1, none⟩ = some (.bool x1.l) ∧ W.cell? ⟨b1, 2, none⟩ = some (.bool x1.h) ∧ W.cell? ⟨b1, 3, none⟩ = some (.bool x1.a) ∧ AtL w [(b0, x0), (b1, x1)] W := by
  obtain ⟨c00, c01, c02, c03⟩ := (h.box (b0, x0) (by simp)).cells (x := x0)
  obtain ⟨c10, c11, c12, c13⟩ := (h.box (b1, x1) (by simp)).cells (x := x1)
  exact ⟨c00, c01, c02, c03, c10, c11, c12, c13, h⟩
theorem AtL.cells3 {w W : World} {b0 b1 b2 : Nat} {x0 x1 x2 : St} (h : AtL w [(b0, x0), (b1, x1), (b2, x2)] W) : W.cell? ⟨b0, 0, none⟩ = some (.bool x0.e) ∧ W.cell? ⟨b0, 1, none⟩ = some (.bool x0.l) ∧ W.cell? ⟨b0, 2, none⟩ = some (.bool x0.h) ∧ W.cell? ⟨b0, 3, none⟩ = some (.bool x0.a) ∧ W.cell? ⟨b1, 0, none⟩ = some (.bool x1.e) ∧ W.cell? ⟨b1, 1, none⟩ = some (.bool x1.l) ∧ W.cell? ⟨b1, 2, none⟩ = some (.bool x1.h) ∧ W.cell? ⟨b1, 3, none⟩ = some (.bool x1.a) ∧ W.cell? ⟨b2, 0, none⟩ = some (.bool x2.e) ∧ W.cell? ⟨b2, 1, none⟩ = some (.bool x2.l) ∧ W.cell? ⟨b2, 2, none⟩ = some (.bool x2.h) ∧ W.cell? ⟨b2, 3, none⟩ = some (.bool x2.a) ∧ AtL w [(b0, x0), (b1, x1), (b2, x2)] W := by
  obtain ⟨c00, c01, c02, c03⟩ := (h.box (b0, x0) (by simp)).cells (x := x0)
  obtain ⟨c10, c11, c12, c13⟩ := (h.box (b1, x1) (by simp)).cells (x := x1)
  obtain ⟨c20, c21, c22, c23⟩ := (h.box (b2, x2) (by simp)).cells (x := x2)
  exact ⟨c00, c01, c02, c03, c10, c11, c12, c13, c20, c21, c22, c23, h⟩
theorem AtL.cells5 {w W : World} {b0 b1 b2 b3 b4 : Nat} {x0 x1 x2 x3 x4 : St} (h : AtL w [(b0, x0), (b1, x1), (b2, x2), (b3, x3), (b4, x4)] W) : W.cell? ⟨b0, 0, none⟩ = some (.bool x0.e) ∧ W.cell? ⟨b0, 1, none⟩ = some (.bool x0.l) ∧ W.cell? ⟨b0, 2, none⟩ = some (.bool x0.h) ∧ W.cell? ⟨b0, 3, none⟩ = some (.bool x0.a) ∧ W.cell? ⟨b1, 0, none⟩ = some (.bool x1.e) ∧ W.cell? ⟨b1, 1, none⟩ = some (.bool x1.l) ∧ W.cell? ⟨b1, 2, none⟩ = some (.bool x1.h) ∧ W.cell? ⟨b1, 3, none⟩ = some (.bool x1.a) ∧ W.cell? ⟨b2, 0, none⟩ = some (.bool x2.e) ∧ W.cell? ⟨b2, 1, none⟩ = some (.bool x2.l) ∧ W.cell? ⟨b2, 2, none⟩ = some (.bool x2.h) ∧ W.cell? ⟨b2, 3, none⟩ = some (.bool x2.a) ∧ W.cell? ⟨b3, 0, none⟩ = some (.bool x3.e) ∧ W.cell? ⟨b3, 1, none⟩ = some (.bool x3.l) ∧ W.cell? ⟨b3, 2, none⟩ = some (.bool x3.h) ∧ W.cell? ⟨b3, 3, none⟩ = some (.bool x3.a) ∧ W.cell? ⟨b4, 0, none⟩ = some (.bool x4.e) ∧ W.cell? ⟨b4, 1, none⟩ = some (.bool x4.l) ∧ W.cell? ⟨b4, 2, none⟩ = some (.bool x4.h) ∧ W.cell? ⟨b4, 3, none⟩ = some (.bool x4.a) ∧ AtL w [(b0, x0), (b1, x1), (b2, x2), (b3, x3), (b4, x4)] W := by
  obtain ⟨c00, c01, c02, c03⟩ := (h.box (b0, x0) (by simp)).cells (x := x0)
  obtain ⟨c10, c11, c12, c13⟩ := (h.box (b1, x1) (by simp)).cells (x := x1)
  obtain ⟨c20, c21, c22, c23⟩ := (h.box (b2, x2) (by simp)).cells (x := x2)
  obtain ⟨c30, c31, c32, c33⟩ := (h.box (b3, x3) (by simp)).cells (x := x3)
  obtain ⟨c40, c41, c42, c43⟩ := (h.box (b4, x4) (by simp)).cells (x := x4)
  exact ⟨c00, c01, c02, c03, c10, c11, c12, c13, c20, c21, c22, c23, c30, c31, c32, c33, c40, c41, c42, c43, h⟩

set_option maxRecDepth 100000 in
set_option maxHeartbeats 2000000 in
theorem shown_any (x y : St) (w : World) : Calls Try.prog 24 #[x.v, y.v] w fun e w' => e = .returned (.bool (x.phase == y.phase)) ∧ Below w.heap.size w w' := by
  have CX := hi (fun W => phase_any x W)
  have CY := hi (fun W => phase_any y W)
  obtain ⟨m, hm⟩ : ∃ m, x.phase = m := ⟨_, rfl⟩
  obtain ⟨n, hn⟩ : ∃ n, y.phase = n := ⟨_, rfl⟩
  rw [hm] at CX ⊢
  rw [hn] at CY ⊢
  clear hm hn
  have HA := ((AtL.nil w).new x).new y
  rw [World.size_alloc] at HA
  obtain ⟨e, l, q, a⟩ := x
  obtain ⟨e2, l2, q2, a2⟩ := y
  dsimp only [St.v, St.cs] at *
  go_enter Try.func24, Try.ntmps24
  go_wp2
  obtain ⟨W0, hW0⟩ : ∃ W0, (w.alloc (.cells #[.bool e, .bool l, .bool q, .bool a] 23)).alloc (.cells #[.bool e2, .bool l2, .bool q2, .bool a2] 23) = W0 := ⟨_, rfl⟩
  rw [hW0] at HA ⊢
  clear hW0
  have HD := HA.drew
  refine wp_region_noPanic ?_
  refine wp_region_held_drew (S := (fun w' => w'.cell? ⟨w.heap.size + 1, 0, none⟩ = some (.bool e2) ∧ w'.cell? ⟨w.heap.size + 1, 1, none⟩ = some (.bool l2) ∧ w'.cell? ⟨w.heap.size + 1, 2, none⟩ = some (.bool q2) ∧ w'.cell? ⟨w.heap.size + 1, 3, none⟩ = some (.bool a2) ∧ w'.cell? ⟨w.heap.size, 0, none⟩ = some (.bool e) ∧ w'.cell? ⟨w.heap.size, 1, none⟩ = some (.bool l) ∧ w'.cell? ⟨w.heap.size, 2, none⟩ = some (.bool q) ∧ w'.cell? ⟨w.heap.size, 3, none⟩ = some (.bool a) ∧ AtL w [(w.heap.size + 1, ⟨e2, l2, q2, a2⟩), (w.heap.size, ⟨e, l, q, a⟩)] w')) (by kernel_rfl) HD.cells2 (fun hHeld => ?_)
  (try simp only [Array.replicate_succ, Array.replicate_zero, List.push_toArray, List.nil_append, List.cons_append])
  refine wpAnyH_take (i := 0) (v := ?_) rfl (by kernel_rfl) (by kernel_rfl) (by kernel_rfl) (fun _ _ _ h => h) (Or.inl ⟨by rfl, ?_⟩) (by assumption) ?_
  rotate_left
  · intro w' hSw; (try dsimp only at hSw); obtain ⟨hs0, hs1, hs2, hs3, hs4, hs5, hs6, hs7, hs8⟩ := hSw; go_simp; (try with_reducible rfl)
  (try simp only [Act.put, List.getElem_toArray, List.getElem_cons_zero, List.setIfInBounds_toArray, List.set_cons_zero, List.set_cons_succ])
  refine wpAnyH_take (i := 2) (v := ?_) rfl (by kernel_rfl) (by kernel_rfl) (by kernel_rfl) (fun _ _ _ h => h) (Or.inl ⟨by rfl, ?_⟩) (by assumption) ?_
  rotate_left
  · intro w' hSw; (try dsimp only at hSw); obtain ⟨hs0, hs1, hs2, hs3, hs4, hs5, hs6, hs7, hs8⟩ := hSw; go_simp; (try with_reducible rfl)
  (try simp only [Act.put, List.getElem_toArray, List.getElem_cons_zero, List.getElem_cons_succ, List.setIfInBounds_toArray, List.set_cons_zero, List.set_cons_succ])
  refine wpAnyH_ready (rs := [1]) (by kernel_rfl) (by simp) ?_
  refine AllReadyH.cons rfl (fun KK hKK => ?_) AllReadyH.nil
  go_simp
  ((with_reducible refine (CX.out _).mono ?_); rintro e' w1 ⟨rfl, hb⟩; have h1 := HD.later hb; clear hb)
  (try go_simp)
  refine hKK.out _ _ h1.cells2 (fun hHeld => ?_)
  clear hKK KK
  (try simp only [Act.put, List.getElem_toArray, List.getElem_cons_zero, List.getElem_cons_succ, List.setIfInBounds_toArray, List.set_cons_zero, List.set_cons_succ])
  refine wpAnyH_ready (rs := [3]) (by kernel_rfl) (by simp) ?_
  refine AllReadyH.cons rfl (fun KK hKK => ?_) AllReadyH.nil
  go_simp
  ((with_reducible refine (CY.out _).mono ?_); rintro e' w2 ⟨rfl, hb⟩; have h2 := h1.later hb; clear hb)
  (try go_simp)
  refine hKK.out _ _ h2.cells2 (fun hHeld => ?_)
  clear hKK KK
  (try simp only [Act.put, List.getElem_toArray, List.getElem_cons_zero, List.getElem_cons_succ, List.setIfInBounds_toArray, List.set_cons_zero, List.set_cons_succ])
  refine wpAnyH_take (i := 4) (v := ?_) rfl (by kernel_rfl) (by kernel_rfl) (by kernel_rfl) (fun _ _ _ h => h) (Or.inl ⟨by rfl, ?_⟩) (by assumption) ?_
  rotate_left
  · intro w' hSw; (try dsimp only at hSw); obtain ⟨hs0, hs1, hs2, hs3, hs4, hs5, hs6, hs7, hs8⟩ := hSw; go_simp; (try with_reducible rfl)
  (try simp only [Act.put, List.getElem_toArray, List.getElem_cons_zero, List.getElem_cons_succ, List.setIfInBounds_toArray, List.set_cons_zero, List.set_cons_succ])
  refine wpAnyH_take (i := 5) (v := ?_) rfl (by kernel_rfl) (by kernel_rfl) (by kernel_rfl) (fun _ _ _ h => h) (Or.inl ⟨by rfl, ?_⟩) (by assumption) ?_
  rotate_left
  · intro w' hSw; (try dsimp only at hSw); obtain ⟨hs0, hs1, hs2, hs3, hs4, hs5, hs6, hs7, hs8⟩ := hSw; go_simp; (try with_reducible rfl)
  (try simp only [Act.put, List.getElem_toArray, List.getElem_cons_zero, List.getElem_cons_succ, List.setIfInBounds_toArray, List.set_cons_zero, List.set_cons_succ])
  refine wpAnyH_done (by kernel_rfl) ?_ _
  refine NoPanic.normal ?_
  clear hHeld
  go_wp2
  go_ret
  exact ⟨rfl, h2.below⟩

end Go.Proofs.Ytjcgcnghjcbkeaa
