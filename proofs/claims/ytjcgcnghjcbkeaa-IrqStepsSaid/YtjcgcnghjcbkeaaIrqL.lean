/-
  Three boxes of states, through calls that make memory. The law IrqTaken at every input.
-/
import Derived.Test.YtjcgcnghjcbkeaaIrqK
namespace Go.Proofs.Ytjcgcnghjcbkeaa
open Go.ChangeShapes Go.WideShapes Go.ChangeAt Go.RowKit
set_option linter.unusedVariables false
attribute [local go_sem high] neq4 eql4 guard4

structure At3 (w : World) (b c d : Nat) (x y z : St) (W : World) : Prop where
  p : CB W b 23 x.cs
  q : CB W c 23 y.cs
  r : CB W d 23 z.cs
  below : Below w.heap.size w W
theorem At3.later {w W W' : World} {b c d : Nat} {x y z : St} (h : At3 w b c d x y z W) (k : Below W.heap.size W W') : At3 w b c d x y z W' :=
  ⟨h.p.below k, h.q.below k, h.r.below k, h.below.trans (k.mono h.below.size)⟩
theorem At3.drew {w W : World} {b c d : Nat} {x y z : St} (h : At3 w b c d x y z W) : At3 w b c d x y z W.drew := ⟨h.p, h.q, h.r, Below.drew1 h.below⟩
theorem At3.cells {w W : World} {b c d : Nat} {x y z : St} (h : At3 w b c d x y z W) :
    W.cell? ⟨b, 0, none⟩ = some (.bool x.e) ∧ W.cell? ⟨b, 1, none⟩ = some (.bool x.l) ∧ W.cell? ⟨b, 2, none⟩ = some (.bool x.h) ∧ W.cell? ⟨b, 3, none⟩ = some (.bool x.a) ∧
    W.cell? ⟨c, 0, none⟩ = some (.bool y.e) ∧ W.cell? ⟨c, 1, none⟩ = some (.bool y.l) ∧ W.cell? ⟨c, 2, none⟩ = some (.bool y.h) ∧ W.cell? ⟨c, 3, none⟩ = some (.bool y.a) ∧
    W.cell? ⟨d, 0, none⟩ = some (.bool z.e) ∧ W.cell? ⟨d, 1, none⟩ = some (.bool z.l) ∧ W.cell? ⟨d, 2, none⟩ = some (.bool z.h) ∧ W.cell? ⟨d, 3, none⟩ = some (.bool z.a) ∧ At3 w b c d x y z W := by
  obtain ⟨p0, p1, p2, p3⟩ := h.p.cells
  obtain ⟨q0, q1, q2, q3⟩ := h.q.cells
  obtain ⟨r0, r1, r2, r3⟩ := h.r.cells
  exact ⟨p0, p1, p2, p3, q0, q1, q2, q3, r0, r1, r2, r3, h⟩

theorem keep3 {w W W' : World} {b c d : Nat} {x y z : St} (k : Below W.heap.size W W') (h : At3 w b c d x y z W) :
    W'.cell? ⟨b, 0, none⟩ = some (.bool x.e) ∧ W'.cell? ⟨b, 1, none⟩ = some (.bool x.l) ∧ W'.cell? ⟨b, 2, none⟩ = some (.bool x.h) ∧ W'.cell? ⟨b, 3, none⟩ = some (.bool x.a) ∧
    W'.cell? ⟨c, 0, none⟩ = some (.bool y.e) ∧ W'.cell? ⟨c, 1, none⟩ = some (.bool y.l) ∧ W'.cell? ⟨c, 2, none⟩ = some (.bool y.h) ∧ W'.cell? ⟨c, 3, none⟩ = some (.bool y.a) ∧
    W'.cell? ⟨d, 0, none⟩ = some (.bool z.e) ∧ W'.cell? ⟨d, 1, none⟩ = some (.bool z.l) ∧ W'.cell? ⟨d, 2, none⟩ = some (.bool z.h) ∧ W'.cell? ⟨d, 3, none⟩ = some (.bool z.a) ∧ At3 w b c d x y z W' := (h.later k).cells

theorem taken_step {x : St} (h : x.ready = true) : x.step 5 = ⟨x.e, x.l, false, true⟩ := by
  show (if x.ready then (⟨x.e, x.l, false, true⟩ : St) else x) = _
  rw [h]; rfl
theorem untaken_step {x : St} (h : x.ready = false) : x.step 5 = x := by
  show (if x.ready then (⟨x.e, x.l, false, true⟩ : St) else x) = _
  rw [h]; rfl

set_option maxRecDepth 100000 in
set_option maxHeartbeats 4000000 in
theorem lawTaken_any (x0 : St) (ks : List Int) (v : Value) (w : World) (h : IntsAt w v ks) (hl : ks.length ≤ 9223372036854775806) : Calls Try.prog 7 #[x0.v, v] w fun e w' => e = .returned (.bool true) ∧ Below w.heap.size w w' := by
  have HPL := hi (fun (W : World) (h : IntsAt W v ks) => play_any x0 ks v W h hl)
  obtain ⟨x, hx⟩ : ∃ x, x0.run ks = x := ⟨_, rfl⟩
  rw [hx] at HPL
  have HB0 := hi (h.below (bal w (.cells x0.cs 23)))
  obtain ⟨a0, cap, rfl⟩ := h.slice
  clear h hx
  cases hr : x.ready
  · have C1 := hi (fun W => step_any x 5 W)
    rw [untaken_step hr] at C1
    have C2 := hi (fun W => ready_any x W)
    rw [hr] at C2
    obtain ⟨e, l, q, a⟩ := x
    obtain ⟨e0, l0, q0, b0⟩ := x0
    have E1 := eq4_self e l q a
    clear hr
    dsimp only [St.v, St.cs] at *
    go_enter Try.func7, Try.ntmps7
    go_wp2_with (first
      | (go_at_call 9; ((with_reducible refine (awake_any _).mono ?_); rintro e' w3 ⟨rfl, hb⟩; obtain ⟨hS, hB⟩ := box_call hb; have HS := hi hS; have HB := hi hB; have HI := hi (HB0.out.below hb); obtain ⟨s0, s1, s2, s3⟩ := CB.cells (x := ⟨e0, l0, q0, b0⟩) hS; clear hb hS hB))
      | (go_at_call 25; ((with_reducible refine (HPL.out _ HI.out).mono ?_); rintro e' w4 ⟨rfl, hb⟩; have HS4 := hi ((At1.mk (x := ⟨e0, l0, q0, b0⟩) (HS.out.below hb) (HB.out.trans (hb.mono HB.out.size))).store ⟨e, l, q, a⟩); have hS := HS.out.below hb; obtain ⟨s0, s1, s2, s3⟩ := CB.cells (x := ⟨e0, l0, q0, b0⟩) hS; have f := hS.frozen; clear hb hS))
      | (go_at_call 12; ((with_reducible refine (C1.out _).mono ?_); rintro e' w5 ⟨rfl, hb⟩; have HS5 := hi (HS4.out.later hb); obtain ⟨y0, y1, y2, y3⟩ := CB.cells (x := ⟨e, l, q, a⟩) (HS5.out.box.alloc (.cells #[.bool e, .bool l, .bool q, .bool a] 23)); clear hb f))
      | (go_at_call 15; ((with_reducible refine (C2.out _).mono ?_); rintro e' w6 ⟨rfl, hb⟩; obtain ⟨hT, hB⟩ := after_box HS5.out.below hb; have hS := old_box HS5.out.box hb; have HB6 := hi hB; obtain ⟨t0, t1, t2, t3⟩ := CB.cells (x := ⟨e, l, q, a⟩) hT; obtain ⟨p0, p1, p2, p3⟩ := CB.cells (x := ⟨e, l, q, a⟩) hS; clear hb hT hB hS)))
    go_ret
    exact ⟨rfl, HB6.out⟩
  · have C1 := hi (fun W => step_any x 5 W)
    rw [taken_step hr] at C1
    have C2 := hi (fun W => ready_any x W)
    rw [hr] at C2
    obtain ⟨e, l, q, a⟩ := x
    obtain ⟨e0, l0, q0, b0⟩ := x0
    have C3 := hi (fun W => ready_any ⟨e, l, false, true⟩ W)
    rw [show St.ready ⟨e, l, false, true⟩ = false by simp [St.ready]] at C3
    have C4 := hi (fun W => ready_any ⟨e, l, false, false⟩ W)
    have C5 := hi (fun W => step_any ⟨e, l, false, true⟩ 6 W)
    rw [show St.step ⟨e, l, false, true⟩ 6 = ⟨e, l, false, false⟩ by rfl] at C5
    clear hr
    dsimp only [St.v, St.cs] at *
    go_enter Try.func7, Try.ntmps7
    go_wp2_with (first
      | (go_at_call 9; ((with_reducible refine (awake_any _).mono ?_); rintro e' w3 ⟨rfl, hb⟩; obtain ⟨hS, hB⟩ := box_call hb; have HS := hi hS; have HB := hi hB; have HI := hi (HB0.out.below hb); obtain ⟨s0, s1, s2, s3⟩ := CB.cells (x := ⟨e0, l0, q0, b0⟩) hS; clear hb hS hB))
      | (go_at_call 25; ((with_reducible refine (HPL.out _ HI.out).mono ?_); rintro e' w4 ⟨rfl, hb⟩; have HS4 := hi ((At1.mk (x := ⟨e0, l0, q0, b0⟩) (HS.out.below hb) (HB.out.trans (hb.mono HB.out.size))).store ⟨e, l, q, a⟩); have hS := HS.out.below hb; obtain ⟨s0, s1, s2, s3⟩ := CB.cells (x := ⟨e0, l0, q0, b0⟩) hS; have f := hS.frozen; clear hb hS))
      | (go_at_call 12; ((with_reducible refine (C1.out _).mono ?_); rintro e' w5 ⟨rfl, hb⟩; have HS5 := hi (HS4.out.later hb); obtain ⟨y0, y1, y2, y3⟩ := CB.cells (x := ⟨e, l, q, a⟩) (HS5.out.box.alloc (.cells #[.bool e, .bool l, .bool false, .bool true] 23)); clear hb f))
      | (go_at_call 15; ((with_reducible refine (C2.out _).mono ?_); rintro e' w6 ⟨rfl, hb⟩; obtain ⟨hT, hB⟩ := after_box HS5.out.below hb; have hS := old_box HS5.out.box hb; have HT6 := hi hT; have HS6 := hi hS; have HB6 := hi hB; obtain ⟨t0, t1, t2, t3⟩ := CB.cells (x := ⟨e, l, false, true⟩) hT; clear hb hT hB hS))
      | (go_at_call 12; ((with_reducible refine (C5.out _).mono ?_); rintro e' w7 ⟨rfl, hb⟩; have HT7 := hi (HT6.out.below hb); have HS7 := hi (HS6.out.below hb); have HB7 := hi (HB6.out.trans (hb.mono HB6.out.size)); clear hb)))
    have HA : At3 w w.heap.size w5.heap.size w7.heap.size ⟨e, l, q, a⟩ ⟨e, l, false, true⟩ ⟨e, l, false, false⟩ (w7.alloc (.cells #[.bool e, .bool l, .bool false, .bool false] 23)) :=
      ⟨HS7.out.alloc _, HT7.out.alloc _, CB.new _ _ _, HB7.out.alloc HB7.out.size _⟩
    clear HS HB HI HS4 HS5 HT6 HS6 HB6 HT7 HS7 HB7 C1 C2 C5 HPL HB0 s0 s1 s2 s3 y0 y1 y2 y3 t0 t1 t2 t3
    obtain ⟨W0, hW0⟩ : ∃ W0, w7.alloc (.cells #[.bool e, .bool l, .bool false, .bool false] 23) = W0 := ⟨_, rfl⟩
    rw [hW0] at HA ⊢
    clear hW0
    have HD := HA.drew
    obtain ⟨c0, c1, c2, c3, c4, c5, c6, c7, c8, c9, c10, c11, _⟩ := HA.cells
    dsimp only at c0 c1 c2 c3 c4 c5 c6 c7 c8 c9 c10 c11
    cases l
    · have hv : St.ready ⟨e, false, false, false⟩ = false := by cases e <;> rfl
      rw [hv] at C4
      clear hv
      go_wp2
      refine wp_region_noPanic ?_
      refine wp_region_held_drew (S := (fun w' => w'.cell? ⟨w.heap.size, 0, none⟩ = some (.bool e) ∧ w'.cell? ⟨w.heap.size, 1, none⟩ = some (.bool false) ∧ w'.cell? ⟨w.heap.size, 2, none⟩ = some (.bool q) ∧ w'.cell? ⟨w.heap.size, 3, none⟩ = some (.bool a) ∧ w'.cell? ⟨w5.heap.size, 0, none⟩ = some (.bool e) ∧ w'.cell? ⟨w5.heap.size, 1, none⟩ = some (.bool false) ∧ w'.cell? ⟨w5.heap.size, 2, none⟩ = some (.bool false) ∧ w'.cell? ⟨w5.heap.size, 3, none⟩ = some (.bool true) ∧ w'.cell? ⟨w7.heap.size, 0, none⟩ = some (.bool e) ∧ w'.cell? ⟨w7.heap.size, 1, none⟩ = some (.bool false) ∧ w'.cell? ⟨w7.heap.size, 2, none⟩ = some (.bool false) ∧ w'.cell? ⟨w7.heap.size, 3, none⟩ = some (.bool false) ∧ At3 w w.heap.size w5.heap.size w7.heap.size ⟨e, false, q, a⟩ ⟨e, false, false, true⟩ ⟨e, false, false, false⟩ w')) (by kernel_rfl) HD.cells (fun hHeld => ?_)
      (try simp only [Array.replicate_succ, Array.replicate_zero, List.push_toArray, List.nil_append, List.cons_append])
      refine wpAnyH_take (i := 0) (v := ?_) rfl (by kernel_rfl) (by kernel_rfl) (by kernel_rfl) (fun _ _ _ h => h) (Or.inl ⟨by rfl, ?_⟩) (by assumption) ?_
      rotate_left
      · intro w' hSw; (try dsimp only at hSw); obtain ⟨hs0, hs1, hs2, hs3, hs4, hs5, hs6, hs7, hs8, hs9, hs10, hs11, hs12⟩ := hSw; go_simp; (try with_reducible rfl)
      (try simp only [Act.put, List.getElem_toArray, List.getElem_cons_zero, List.setIfInBounds_toArray, List.set_cons_zero, List.set_cons_succ])
      refine wpAnyH_take (i := 1) (v := ?_) rfl (by kernel_rfl) (by kernel_rfl) (by kernel_rfl) (fun _ _ _ h => h) (Or.inl ⟨by rfl, ?_⟩) (by assumption) ?_
      rotate_left
      · intro w' hSw; (try dsimp only at hSw); obtain ⟨hs0, hs1, hs2, hs3, hs4, hs5, hs6, hs7, hs8, hs9, hs10, hs11, hs12⟩ := hSw; go_simp; (try with_reducible rfl)
      (try simp only [Act.put, List.getElem_toArray, List.getElem_cons_zero, List.getElem_cons_succ, List.setIfInBounds_toArray, List.set_cons_zero, List.set_cons_succ])
      refine wpAnyH_take (i := 2) (v := ?_) rfl (by kernel_rfl) (by kernel_rfl) (by kernel_rfl) (fun _ _ _ h => h) (Or.inl ⟨by rfl, ?_⟩) (by assumption) ?_
      rotate_left
      · intro w' hSw; (try dsimp only at hSw); obtain ⟨hs0, hs1, hs2, hs3, hs4, hs5, hs6, hs7, hs8, hs9, hs10, hs11, hs12⟩ := hSw; go_simp; (try with_reducible rfl)
      (try simp only [Act.put, List.getElem_toArray, List.getElem_cons_zero, List.getElem_cons_succ, List.setIfInBounds_toArray, List.set_cons_zero, List.set_cons_succ])
      refine wpAnyH_take (i := 3) (v := ?_) rfl (by kernel_rfl) (by kernel_rfl) (by kernel_rfl) (fun _ _ _ h => h) (Or.inl ⟨by rfl, ?_⟩) (by assumption) ?_
      rotate_left
      · intro w' hSw; (try dsimp only at hSw); obtain ⟨hs0, hs1, hs2, hs3, hs4, hs5, hs6, hs7, hs8, hs9, hs10, hs11, hs12⟩ := hSw; go_simp; (try with_reducible rfl)
      (try simp only [Act.put, List.getElem_toArray, List.getElem_cons_zero, List.getElem_cons_succ, List.setIfInBounds_toArray, List.set_cons_zero, List.set_cons_succ])
      refine wpAnyH_take (i := 4) (v := ?_) rfl (by kernel_rfl) (by kernel_rfl) (by kernel_rfl) (fun _ _ _ h => h) (Or.inl ⟨by rfl, ?_⟩) (by assumption) ?_
      rotate_left
      · intro w' hSw; (try dsimp only at hSw); obtain ⟨hs0, hs1, hs2, hs3, hs4, hs5, hs6, hs7, hs8, hs9, hs10, hs11, hs12⟩ := hSw; go_simp; (try with_reducible rfl)
      (try simp only [Act.put, List.getElem_toArray, List.getElem_cons_zero, List.getElem_cons_succ, List.setIfInBounds_toArray, List.set_cons_zero, List.set_cons_succ])
      refine wpAnyH_take (i := 5) (v := ?_) rfl (by kernel_rfl) (by kernel_rfl) (by kernel_rfl) (fun _ _ _ h => h) (Or.inl ⟨by rfl, ?_⟩) (by assumption) ?_
      rotate_left
      · intro w' hSw; (try dsimp only at hSw); obtain ⟨hs0, hs1, hs2, hs3, hs4, hs5, hs6, hs7, hs8, hs9, hs10, hs11, hs12⟩ := hSw; go_simp; (try with_reducible rfl)
      (try simp only [Act.put, List.getElem_toArray, List.getElem_cons_zero, List.getElem_cons_succ, List.setIfInBounds_toArray, List.set_cons_zero, List.set_cons_succ])
      refine wpAnyH_take (i := 6) (v := ?_) rfl (by kernel_rfl) (by kernel_rfl) (by kernel_rfl) (fun _ _ _ h => h) (Or.inl ⟨by rfl, ?_⟩) (by assumption) ?_
      rotate_left
      · intro w' hSw; (try dsimp only at hSw); obtain ⟨hs0, hs1, hs2, hs3, hs4, hs5, hs6, hs7, hs8, hs9, hs10, hs11, hs12⟩ := hSw; go_simp; (try with_reducible rfl)
      (try simp only [Act.put, List.getElem_toArray, List.getElem_cons_zero, List.getElem_cons_succ, List.setIfInBounds_toArray, List.set_cons_zero, List.set_cons_succ])
      refine wpAnyH_take (i := 7) (v := ?_) rfl (by kernel_rfl) (by kernel_rfl) (by kernel_rfl) (fun _ _ _ h => h) (Or.inl ⟨by rfl, ?_⟩) (by assumption) ?_
      rotate_left
      · intro w' hSw; (try dsimp only at hSw); obtain ⟨hs0, hs1, hs2, hs3, hs4, hs5, hs6, hs7, hs8, hs9, hs10, hs11, hs12⟩ := hSw; go_simp; (try with_reducible rfl)
      (try simp only [Act.put, List.getElem_toArray, List.getElem_cons_zero, List.getElem_cons_succ, List.setIfInBounds_toArray, List.set_cons_zero, List.set_cons_succ])
      refine wpAnyH_take (i := 8) (v := ?_) rfl (by kernel_rfl) (by kernel_rfl) (by kernel_rfl) (fun _ _ _ h => h) (Or.inl ⟨by rfl, ?_⟩) (by assumption) ?_
      rotate_left
      · intro w' hSw; (try dsimp only at hSw); obtain ⟨hs0, hs1, hs2, hs3, hs4, hs5, hs6, hs7, hs8, hs9, hs10, hs11, hs12⟩ := hSw; go_simp; (try with_reducible rfl)
      (try simp only [Act.put, List.getElem_toArray, List.getElem_cons_zero, List.getElem_cons_succ, List.setIfInBounds_toArray, List.set_cons_zero, List.set_cons_succ])
      refine wpAnyH_take (i := 9) (v := ?_) rfl (by kernel_rfl) (by kernel_rfl) (by kernel_rfl) (fun _ _ _ h => h) (Or.inl ⟨by rfl, ?_⟩) (by assumption) ?_
      rotate_left
      · intro w' hSw; (try dsimp only at hSw); obtain ⟨hs0, hs1, hs2, hs3, hs4, hs5, hs6, hs7, hs8, hs9, hs10, hs11, hs12⟩ := hSw; go_simp; (try with_reducible rfl)
      (try simp only [Act.put, List.getElem_toArray, List.getElem_cons_zero, List.getElem_cons_succ, List.setIfInBounds_toArray, List.set_cons_zero, List.set_cons_succ])
      refine wpAnyH_take (i := 10) (v := ?_) rfl (by kernel_rfl) (by kernel_rfl) (by kernel_rfl) (fun _ _ _ h => h) (Or.inl ⟨by rfl, ?_⟩) (by assumption) ?_
      rotate_left
      · intro w' hSw; (try dsimp only at hSw); obtain ⟨hs0, hs1, hs2, hs3, hs4, hs5, hs6, hs7, hs8, hs9, hs10, hs11, hs12⟩ := hSw; go_simp; (try with_reducible rfl)
      (try simp only [Act.put, List.getElem_toArray, List.getElem_cons_zero, List.getElem_cons_succ, List.setIfInBounds_toArray, List.set_cons_zero, List.set_cons_succ])
      refine wpAnyH_take (i := 11) (v := ?_) rfl (by kernel_rfl) (by kernel_rfl) (by kernel_rfl) (fun _ _ _ h => h) (Or.inl ⟨by rfl, ?_⟩) (by assumption) ?_
      rotate_left
      · intro w' hSw; (try dsimp only at hSw); obtain ⟨hs0, hs1, hs2, hs3, hs4, hs5, hs6, hs7, hs8, hs9, hs10, hs11, hs12⟩ := hSw; go_simp; (try with_reducible rfl)
      (try simp only [Act.put, List.getElem_toArray, List.getElem_cons_zero, List.getElem_cons_succ, List.setIfInBounds_toArray, List.set_cons_zero, List.set_cons_succ])
      refine wpAnyH_ready (rs := [12]) (by kernel_rfl) (by simp) ?_
      refine AllReadyH.cons rfl (fun KK hKK => ?_) AllReadyH.nil
      go_simp
      ((with_reducible refine (C3.out _).mono ?_); rintro e' w8 ⟨rfl, hb⟩; have h8 := HD.later hb; clear hb)
      (try go_simp)
      refine hKK.out _ _ h8.cells (fun hHeld => ?_)
      clear hKK KK
      (try simp only [Act.put, List.getElem_toArray, List.getElem_cons_zero, List.getElem_cons_succ, List.setIfInBounds_toArray, List.set_cons_zero, List.set_cons_succ])
      refine wpAnyH_take (i := 13) (v := ?_) rfl (by kernel_rfl) (by kernel_rfl) (by kernel_rfl) (fun _ _ _ h => h) (Or.inl ⟨by rfl, ?_⟩) (by assumption) ?_
      rotate_left
      · intro w' hSw; (try dsimp only at hSw); obtain ⟨hs0, hs1, hs2, hs3, hs4, hs5, hs6, hs7, hs8, hs9, hs10, hs11, hs12⟩ := hSw; go_simp; (try with_reducible rfl)
      (try simp only [Act.put, List.getElem_toArray, List.getElem_cons_zero, List.getElem_cons_succ, List.setIfInBounds_toArray, List.set_cons_zero, List.set_cons_succ])
      refine wpAnyH_take (i := 14) (v := ?_) rfl (by kernel_rfl) (by kernel_rfl) (by kernel_rfl) (fun _ _ _ h => h) (Or.inl ⟨by rfl, ?_⟩) (by assumption) ?_
      rotate_left
      · intro w' hSw; (try dsimp only at hSw); obtain ⟨hs0, hs1, hs2, hs3, hs4, hs5, hs6, hs7, hs8, hs9, hs10, hs11, hs12⟩ := hSw; go_simp; (try with_reducible rfl)
      (try simp only [Act.put, List.getElem_toArray, List.getElem_cons_zero, List.getElem_cons_succ, List.setIfInBounds_toArray, List.set_cons_zero, List.set_cons_succ])
      refine wpAnyH_take (i := 15) (v := ?_) rfl (by kernel_rfl) (by kernel_rfl) (by kernel_rfl) (fun _ _ _ h => h) (Or.inl ⟨by rfl, ?_⟩) (by assumption) ?_
      rotate_left
      · intro w' hSw; (try dsimp only at hSw); obtain ⟨hs0, hs1, hs2, hs3, hs4, hs5, hs6, hs7, hs8, hs9, hs10, hs11, hs12⟩ := hSw; go_simp; (try with_reducible rfl)
      (try simp only [Act.put, List.getElem_toArray, List.getElem_cons_zero, List.getElem_cons_succ, List.setIfInBounds_toArray, List.set_cons_zero, List.set_cons_succ])
      refine wpAnyH_take (i := 16) (v := ?_) rfl (by kernel_rfl) (by kernel_rfl) (by kernel_rfl) (fun _ _ _ h => h) (Or.inl ⟨by rfl, ?_⟩) (by assumption) ?_
      rotate_left
      · intro w' hSw; (try dsimp only at hSw); obtain ⟨hs0, hs1, hs2, hs3, hs4, hs5, hs6, hs7, hs8, hs9, hs10, hs11, hs12⟩ := hSw; go_simp; (try with_reducible rfl)
      (try simp only [Act.put, List.getElem_toArray, List.getElem_cons_zero, List.getElem_cons_succ, List.setIfInBounds_toArray, List.set_cons_zero, List.set_cons_succ])
      refine wpAnyH_take (i := 17) (v := ?_) rfl (by kernel_rfl) (by kernel_rfl) (by kernel_rfl) (fun _ _ _ h => h) (Or.inl ⟨by rfl, ?_⟩) (by assumption) ?_
      rotate_left
      · intro w' hSw; (try dsimp only at hSw); obtain ⟨hs0, hs1, hs2, hs3, hs4, hs5, hs6, hs7, hs8, hs9, hs10, hs11, hs12⟩ := hSw; go_simp; (try with_reducible rfl)
      (try simp only [Act.put, List.getElem_toArray, List.getElem_cons_zero, List.getElem_cons_succ, List.setIfInBounds_toArray, List.set_cons_zero, List.set_cons_succ])
      refine wpAnyH_take (i := 18) (v := ?_) rfl (by kernel_rfl) (by kernel_rfl) (by kernel_rfl) (fun _ _ _ h => h) (Or.inl ⟨by rfl, ?_⟩) (by assumption) ?_
      rotate_left
      · intro w' hSw; (try dsimp only at hSw); obtain ⟨hs0, hs1, hs2, hs3, hs4, hs5, hs6, hs7, hs8, hs9, hs10, hs11, hs12⟩ := hSw; go_simp; (try with_reducible rfl)
      (try simp only [Act.put, List.getElem_toArray, List.getElem_cons_zero, List.getElem_cons_succ, List.setIfInBounds_toArray, List.set_cons_zero, List.set_cons_succ])
      refine wpAnyH_take (i := 19) (v := ?_) rfl (by kernel_rfl) (by kernel_rfl) (by kernel_rfl) (fun _ _ _ h => h) (Or.inl ⟨by rfl, ?_⟩) (by assumption) ?_
      rotate_left
      · intro w' hSw; (try dsimp only at hSw); obtain ⟨hs0, hs1, hs2, hs3, hs4, hs5, hs6, hs7, hs8, hs9, hs10, hs11, hs12⟩ := hSw; go_simp; (try with_reducible rfl)
      (try simp only [Act.put, List.getElem_toArray, List.getElem_cons_zero, List.getElem_cons_succ, List.setIfInBounds_toArray, List.set_cons_zero, List.set_cons_succ])
      refine wpAnyH_take (i := 20) (v := ?_) rfl (by kernel_rfl) (by kernel_rfl) (by kernel_rfl) (fun _ _ _ h => h) (Or.inl ⟨by rfl, ?_⟩) (by assumption) ?_
      rotate_left
      · intro w' hSw; (try dsimp only at hSw); obtain ⟨hs0, hs1, hs2, hs3, hs4, hs5, hs6, hs7, hs8, hs9, hs10, hs11, hs12⟩ := hSw; go_simp; (try with_reducible rfl)
      (try simp only [Act.put, List.getElem_toArray, List.getElem_cons_zero, List.getElem_cons_succ, List.setIfInBounds_toArray, List.set_cons_zero, List.set_cons_succ])
      refine wpAnyH_take (i := 21) (v := ?_) rfl (by kernel_rfl) (by kernel_rfl) (by kernel_rfl) (fun _ _ _ h => h) (Or.inl ⟨by rfl, ?_⟩) (by assumption) ?_
      rotate_left
      · intro w' hSw; (try dsimp only at hSw); obtain ⟨hs0, hs1, hs2, hs3, hs4, hs5, hs6, hs7, hs8, hs9, hs10, hs11, hs12⟩ := hSw; go_simp; (try with_reducible rfl)
      (try simp only [Act.put, List.getElem_toArray, List.getElem_cons_zero, List.getElem_cons_succ, List.setIfInBounds_toArray, List.set_cons_zero, List.set_cons_succ])
      refine wpAnyH_take (i := 22) (v := ?_) rfl (by kernel_rfl) (by kernel_rfl) (by kernel_rfl) (fun _ _ _ h => h) (Or.inl ⟨by rfl, ?_⟩) (by assumption) ?_
      rotate_left
      · intro w' hSw; (try dsimp only at hSw); obtain ⟨hs0, hs1, hs2, hs3, hs4, hs5, hs6, hs7, hs8, hs9, hs10, hs11, hs12⟩ := hSw; go_simp; (try with_reducible rfl)
      (try simp only [Act.put, List.getElem_toArray, List.getElem_cons_zero, List.getElem_cons_succ, List.setIfInBounds_toArray, List.set_cons_zero, List.set_cons_succ])
      refine wpAnyH_take (i := 23) (v := ?_) rfl (by kernel_rfl) (by kernel_rfl) (by kernel_rfl) (fun _ _ _ h => h) (Or.inl ⟨by rfl, ?_⟩) (by assumption) ?_
      rotate_left
      · intro w' hSw; (try dsimp only at hSw); obtain ⟨hs0, hs1, hs2, hs3, hs4, hs5, hs6, hs7, hs8, hs9, hs10, hs11, hs12⟩ := hSw; go_simp; (try with_reducible rfl)
      (try simp only [Act.put, List.getElem_toArray, List.getElem_cons_zero, List.getElem_cons_succ, List.setIfInBounds_toArray, List.set_cons_zero, List.set_cons_succ])
      refine wpAnyH_take (i := 24) (v := ?_) rfl (by kernel_rfl) (by kernel_rfl) (by kernel_rfl) (fun _ _ _ h => h) (Or.inl ⟨by rfl, ?_⟩) (by assumption) ?_
      rotate_left
      · intro w' hSw; (try dsimp only at hSw); obtain ⟨hs0, hs1, hs2, hs3, hs4, hs5, hs6, hs7, hs8, hs9, hs10, hs11, hs12⟩ := hSw; go_simp; (try with_reducible rfl)
      (try simp only [Act.put, List.getElem_toArray, List.getElem_cons_zero, List.getElem_cons_succ, List.setIfInBounds_toArray, List.set_cons_zero, List.set_cons_succ])
      refine wpAnyH_take (i := 25) (v := ?_) rfl (by kernel_rfl) (by kernel_rfl) (by kernel_rfl) (fun _ _ _ h => h) (Or.inl ⟨by rfl, ?_⟩) (by assumption) ?_
      rotate_left
      · intro w' hSw; (try dsimp only at hSw); obtain ⟨hs0, hs1, hs2, hs3, hs4, hs5, hs6, hs7, hs8, hs9, hs10, hs11, hs12⟩ := hSw; go_simp; (try with_reducible rfl)
      (try simp only [Act.put, List.getElem_toArray, List.getElem_cons_zero, List.getElem_cons_succ, List.setIfInBounds_toArray, List.set_cons_zero, List.set_cons_succ])
      refine wpAnyH_take (i := 26) (v := ?_) rfl (by kernel_rfl) (by kernel_rfl) (by kernel_rfl) (fun _ _ _ h => h) (Or.inl ⟨by rfl, ?_⟩) (by assumption) ?_
      rotate_left
      · intro w' hSw; (try dsimp only at hSw); obtain ⟨hs0, hs1, hs2, hs3, hs4, hs5, hs6, hs7, hs8, hs9, hs10, hs11, hs12⟩ := hSw; go_simp; (try with_reducible rfl)
      (try simp only [Act.put, List.getElem_toArray, List.getElem_cons_zero, List.getElem_cons_succ, List.setIfInBounds_toArray, List.set_cons_zero, List.set_cons_succ])
      refine wpAnyH_take (i := 27) (v := ?_) rfl (by kernel_rfl) (by kernel_rfl) (by kernel_rfl) (fun _ _ _ h => h) (Or.inl ⟨by rfl, ?_⟩) (by assumption) ?_
      rotate_left
      · intro w' hSw; (try dsimp only at hSw); obtain ⟨hs0, hs1, hs2, hs3, hs4, hs5, hs6, hs7, hs8, hs9, hs10, hs11, hs12⟩ := hSw; go_simp; (try with_reducible rfl)
      (try simp only [Act.put, List.getElem_toArray, List.getElem_cons_zero, List.getElem_cons_succ, List.setIfInBounds_toArray, List.set_cons_zero, List.set_cons_succ])
      refine wpAnyH_take (i := 28) (v := ?_) rfl (by kernel_rfl) (by kernel_rfl) (by kernel_rfl) (fun _ _ _ h => h) (Or.inl ⟨by rfl, ?_⟩) (by assumption) ?_
      rotate_left
      · intro w' hSw; (try dsimp only at hSw); obtain ⟨hs0, hs1, hs2, hs3, hs4, hs5, hs6, hs7, hs8, hs9, hs10, hs11, hs12⟩ := hSw; go_simp; (try with_reducible rfl)
      (try simp only [Act.put, List.getElem_toArray, List.getElem_cons_zero, List.getElem_cons_succ, List.setIfInBounds_toArray, List.set_cons_zero, List.set_cons_succ])
      refine wpAnyH_take (i := 29) (v := ?_) rfl (by kernel_rfl) (by kernel_rfl) (by kernel_rfl) (fun _ _ _ h => h) (Or.inl ⟨by rfl, ?_⟩) (by assumption) ?_
      rotate_left
      · intro w' hSw; (try dsimp only at hSw); obtain ⟨hs0, hs1, hs2, hs3, hs4, hs5, hs6, hs7, hs8, hs9, hs10, hs11, hs12⟩ := hSw; go_simp; (try with_reducible rfl)
      (try simp only [Act.put, List.getElem_toArray, List.getElem_cons_zero, List.getElem_cons_succ, List.setIfInBounds_toArray, List.set_cons_zero, List.set_cons_succ])
      refine wpAnyH_take (i := 30) (v := ?_) rfl (by kernel_rfl) (by kernel_rfl) (by kernel_rfl) (fun _ _ _ h => h) (Or.inl ⟨by rfl, ?_⟩) (by assumption) ?_
      rotate_left
      · intro w' hSw; (try dsimp only at hSw); obtain ⟨hs0, hs1, hs2, hs3, hs4, hs5, hs6, hs7, hs8, hs9, hs10, hs11, hs12⟩ := hSw; go_simp; (try with_reducible rfl)
      (try simp only [Act.put, List.getElem_toArray, List.getElem_cons_zero, List.getElem_cons_succ, List.setIfInBounds_toArray, List.set_cons_zero, List.set_cons_succ])
      refine wpAnyH_take (i := 32) (v := ?_) rfl (by kernel_rfl) (by kernel_rfl) (by kernel_rfl) (fun _ _ _ h => h) (Or.inl ⟨by rfl, ?_⟩) (by assumption) ?_
      rotate_left
      · intro w' hSw; (try dsimp only at hSw); obtain ⟨hs0, hs1, hs2, hs3, hs4, hs5, hs6, hs7, hs8, hs9, hs10, hs11, hs12⟩ := hSw; go_simp; (try with_reducible rfl)
      (try simp only [Act.put, List.getElem_toArray, List.getElem_cons_zero, List.getElem_cons_succ, List.setIfInBounds_toArray, List.set_cons_zero, List.set_cons_succ])
      refine wpAnyH_take (i := 33) (v := ?_) rfl (by kernel_rfl) (by kernel_rfl) (by kernel_rfl) (fun _ _ _ h => h) (Or.inl ⟨by rfl, ?_⟩) (by assumption) ?_
      rotate_left
      · intro w' hSw; (try dsimp only at hSw); obtain ⟨hs0, hs1, hs2, hs3, hs4, hs5, hs6, hs7, hs8, hs9, hs10, hs11, hs12⟩ := hSw; go_simp; (try with_reducible rfl)
      (try simp only [Act.put, List.getElem_toArray, List.getElem_cons_zero, List.getElem_cons_succ, List.setIfInBounds_toArray, List.set_cons_zero, List.set_cons_succ])
      refine wpAnyH_ready (rs := [31]) (by kernel_rfl) (by simp) ?_
      refine AllReadyH.cons rfl (fun KK hKK => ?_) AllReadyH.nil
      go_simp
      ((with_reducible refine (C4.out _).mono ?_); rintro e' w9 ⟨rfl, hb⟩; have h9 := h8.later hb; clear hb)
      (try go_simp)
      refine hKK.out _ _ h9.cells (fun hHeld => ?_)
      clear hKK KK
      (try simp only [Act.put, List.getElem_toArray, List.getElem_cons_zero, List.getElem_cons_succ, List.setIfInBounds_toArray, List.set_cons_zero, List.set_cons_succ])
      refine wpAnyH_take (i := 34) (v := ?_) rfl (by kernel_rfl) (by kernel_rfl) (by kernel_rfl) (fun _ _ _ h => h) (Or.inl ⟨by rfl, ?_⟩) (by assumption) ?_
      rotate_left
      · intro w' hSw; (try dsimp only at hSw); obtain ⟨hs0, hs1, hs2, hs3, hs4, hs5, hs6, hs7, hs8, hs9, hs10, hs11, hs12⟩ := hSw; go_simp; (try with_reducible rfl)
      (try simp only [Act.put, List.getElem_toArray, List.getElem_cons_zero, List.getElem_cons_succ, List.setIfInBounds_toArray, List.set_cons_zero, List.set_cons_succ])
      refine wpAnyH_take (i := 35) (v := undef) rfl (by kernel_rfl) (by kernel_rfl) (by kernel_rfl) (fun _ _ _ h => h) (Or.inr ⟨by rfl, rfl⟩) (by assumption) ?_
      (try simp only [Act.put, List.getElem_toArray, List.getElem_cons_zero, List.getElem_cons_succ, List.setIfInBounds_toArray, List.set_cons_zero, List.set_cons_succ])
      refine wpAnyH_take (i := 36) (v := undef) rfl (by kernel_rfl) (by kernel_rfl) (by kernel_rfl) (fun _ _ _ h => h) (Or.inr ⟨by rfl, rfl⟩) (by assumption) ?_
      (try simp only [Act.put, List.getElem_toArray, List.getElem_cons_zero, List.getElem_cons_succ, List.setIfInBounds_toArray, List.set_cons_zero, List.set_cons_succ])
      refine wpAnyH_take (i := 37) (v := undef) rfl (by kernel_rfl) (by kernel_rfl) (by kernel_rfl) (fun _ _ _ h => h) (Or.inr ⟨by rfl, rfl⟩) (by assumption) ?_
      (try simp only [Act.put, List.getElem_toArray, List.getElem_cons_zero, List.getElem_cons_succ, List.setIfInBounds_toArray, List.set_cons_zero, List.set_cons_succ])
      refine wpAnyH_take (i := 38) (v := ?_) rfl (by kernel_rfl) (by kernel_rfl) (by kernel_rfl) (fun _ _ _ h => h) (Or.inl ⟨by rfl, ?_⟩) (by assumption) ?_
      rotate_left
      · intro w' hSw; (try dsimp only at hSw); obtain ⟨hs0, hs1, hs2, hs3, hs4, hs5, hs6, hs7, hs8, hs9, hs10, hs11, hs12⟩ := hSw; go_simp; (try with_reducible rfl)
      (try simp only [Act.put, List.getElem_toArray, List.getElem_cons_zero, List.getElem_cons_succ, List.setIfInBounds_toArray, List.set_cons_zero, List.set_cons_succ])
      refine wpAnyH_take (i := 39) (v := ?_) rfl (by kernel_rfl) (by kernel_rfl) (by kernel_rfl) (fun _ _ _ h => h) (Or.inl ⟨by rfl, ?_⟩) (by assumption) ?_
      rotate_left
      · intro w' hSw; (try dsimp only at hSw); obtain ⟨hs0, hs1, hs2, hs3, hs4, hs5, hs6, hs7, hs8, hs9, hs10, hs11, hs12⟩ := hSw; go_simp; (try with_reducible rfl)
      (try simp only [Act.put, List.getElem_toArray, List.getElem_cons_zero, List.getElem_cons_succ, List.setIfInBounds_toArray, List.set_cons_zero, List.set_cons_succ])
      refine wpAnyH_take (i := 40) (v := ?_) rfl (by kernel_rfl) (by kernel_rfl) (by kernel_rfl) (fun _ _ _ h => h) (Or.inl ⟨by rfl, ?_⟩) (by assumption) ?_
      rotate_left
      · intro w' hSw; (try dsimp only at hSw); obtain ⟨hs0, hs1, hs2, hs3, hs4, hs5, hs6, hs7, hs8, hs9, hs10, hs11, hs12⟩ := hSw; go_simp; (try with_reducible rfl)
      (try simp only [Act.put, List.getElem_toArray, List.getElem_cons_zero, List.getElem_cons_succ, List.setIfInBounds_toArray, List.set_cons_zero, List.set_cons_succ])
      refine wpAnyH_take (i := 41) (v := ?_) rfl (by kernel_rfl) (by kernel_rfl) (by kernel_rfl) (fun _ _ _ h => h) (Or.inl ⟨by rfl, ?_⟩) (by assumption) ?_
      rotate_left
      · intro w' hSw; (try dsimp only at hSw); obtain ⟨hs0, hs1, hs2, hs3, hs4, hs5, hs6, hs7, hs8, hs9, hs10, hs11, hs12⟩ := hSw; go_simp; (try with_reducible rfl)
      (try simp only [Act.put, List.getElem_toArray, List.getElem_cons_zero, List.getElem_cons_succ, List.setIfInBounds_toArray, List.set_cons_zero, List.set_cons_succ])
      refine wpAnyH_done (by kernel_rfl) ?_ _
      refine NoPanic.normal ?_
      clear hHeld
      go_wp2
      go_ret
      exact ⟨rfl, h9.below⟩
    · have hv : St.ready ⟨e, true, false, false⟩ = !e := by cases e <;> rfl
      rw [hv] at C4
      clear hv
      go_wp2
      go_region_held3 (fun w' => w'.cell? ⟨w.heap.size, 0, none⟩ = some (.bool e) ∧ w'.cell? ⟨w.heap.size, 1, none⟩ = some (.bool true) ∧ w'.cell? ⟨w.heap.size, 2, none⟩ = some (.bool q) ∧ w'.cell? ⟨w.heap.size, 3, none⟩ = some (.bool a) ∧ w'.cell? ⟨w5.heap.size, 0, none⟩ = some (.bool e) ∧ w'.cell? ⟨w5.heap.size, 1, none⟩ = some (.bool true) ∧ w'.cell? ⟨w5.heap.size, 2, none⟩ = some (.bool false) ∧ w'.cell? ⟨w5.heap.size, 3, none⟩ = some (.bool true) ∧ w'.cell? ⟨w7.heap.size, 0, none⟩ = some (.bool e) ∧ w'.cell? ⟨w7.heap.size, 1, none⟩ = some (.bool true) ∧ w'.cell? ⟨w7.heap.size, 2, none⟩ = some (.bool false) ∧ w'.cell? ⟨w7.heap.size, 3, none⟩ = some (.bool false) ∧ At3 w w.heap.size w5.heap.size w7.heap.size ⟨e, true, q, a⟩ ⟨e, true, false, true⟩ ⟨e, true, false, false⟩ w')
        (first
          | go_keep
          | ((try dsimp only); go_split_ands; exact ⟨by assumption, by assumption, by assumption, by assumption, by assumption, by assumption, by assumption, by assumption, by assumption, by assumption, by assumption, by assumption, by assumption⟩))
        (first
          | (go_at_call 15; (with_reducible refine (C3.out _).mono ?_); rintro e' w8 ⟨rfl, hb⟩; have hS := keep3 (w := w) (b := w.heap.size) (c := w5.heap.size) (d := w7.heap.size) (x := ⟨e, true, q, a⟩) (y := ⟨e, true, false, true⟩) (z := ⟨e, true, false, false⟩) hb (by go_split_ands; assumption); clear hb; (try dsimp only at hS); go_split_ands)
          | (go_at_call 15; (with_reducible refine (C4.out _).mono ?_); rintro e' w9 ⟨rfl, hb⟩; have hS := keep3 (w := w) (b := w.heap.size) (c := w5.heap.size) (d := w7.heap.size) (x := ⟨e, true, q, a⟩) (y := ⟨e, true, false, true⟩) (z := ⟨e, true, false, false⟩) hb (by go_split_ands; assumption); clear hb; (try dsimp only at hS); go_split_ands))
      have HQ : At3 w w.heap.size w5.heap.size w7.heap.size ⟨e, true, q, a⟩ ⟨e, true, false, true⟩ ⟨e, true, false, false⟩ w9 := by assumption
      go_wp2
      go_ret
      exact ⟨rfl, HQ.below⟩

end Go.Proofs.Ytjcgcnghjcbkeaa
