/-
  The law: a group that is off takes nothing, and shows nothing; a drop by a group lets nothing of the other one go (CpuifGroups).
-/
import Derived.Test.YtnfbljadhhcclaaCpF
import Derived.Test.YtnfbljadhhcclaaLadK
namespace Go.Proofs.Ytnfbljadhhcclaa
open Go.ChangeShapes Go.WideShapes Go.ChangeAt Go.RowKit Go.Shelf
set_option linter.unusedVariables false
attribute [local go_sem] Oper.semAt_some

/-! ### Plain -/
theorem off_may {x : Fc} {c : Cd} (h : x.on c.g = false) : mayV x c = false := by unfold mayV; rw [h]; simp
theorem off_take {x : Fc} {c : Cd} {g : Int} (h : x.on g = false) : takeV x c g = (x, 1023, false) := by
  unfold takeV
  by_cases hc : c.g = g
  · rw [off_may (by rw [hc]; exact h)]
    simp
  · simp [hc]
theorem off_shows {x : Fc} {c : Cd} {g : Int} (h : x.on g = false) : showsV x c g = 1023 := by unfold showsV; rw [h]; simp
/-- What is running, told by its place. -/
theorem run_cases (r : Rg) : (top r = none ∧ runV r = (255, 0) ∧ dropB r = false) ∨ (∃ i, i < 64 ∧ r i = true ∧ top r = some i ∧ runV r = (8 * ((i : Int) / 2), (i : Int) % 2) ∧ dropB r = true ∧ dropR r = put r i false ∧ (rungs r).length = (rungs (put r i false)).length + 1) := by
  cases h : top r with
  | none => exact .inl ⟨rfl, runV_none h, dropB_none h⟩
  | some i =>
    obtain ⟨h1, h2⟩ := top_lt h
    exact .inr ⟨i, h1, h2, rfl, runV_some h, dropB_some h, dropR_some h, by rw [rungs_drop h]; rfl⟩
set_option maxRecDepth 100000 in
set_option maxHeartbeats 16000000 in
theorem groups_law (x : Fc) (c : Cd) (g : Int) (w : World) :
    Calls Try.prog 7 #[x.v, c.v, .int .i64 g] w fun e w' => e = .returned (.bool true) ∧ Below w.heap.size w w' := by
  have hq1 := fun m p0 p1 o0 o1 sp a b W => eqlIf m p0 p1 o0 o1 sp a b W
  have hn1 := fun m p0 p1 o0 o1 sp a b W => neqIf m p0 p1 o0 o1 sp a b W
  have hg1 := fun op x y xs ys W => guardIf op x y xs ys W
  obtain ⟨ci, cp, cg, cis⟩ := c
  have HRU := hi (fun W => ifrun_any x W)
  have HDR := hi (fun b W (z : CB W b 29 x.cs) => drop_if b x g W z)
  have HDE := hi (fun W => depth_any x W)
  have ha := i64_and1 g
  rcases gO_two g with hG | hG
  · have hz : bits .and .i64 g 1 = 0 := by rw [ha, ← gO_int, hG]; rfl
    have hon : ({ x with o0 := false } : Fc).on g = false := by unfold Fc.on; rw [hG]; rfl
    have HT := hi (fun b W (z : CB W b 29 (({ x with o0 := false } : Fc)).cs) => take_any b ({ x with o0 := false } : Fc) ⟨ci, cp, g, cis⟩ g W z)
    have HS := hi (fun W => shows_any ({ x with o0 := false } : Fc) ⟨ci, cp, g, cis⟩ g W)
    have HM := hi (fun W => may_any ({ x with o0 := false } : Fc) ⟨ci, cp, g, cis⟩ W)
    rw [off_take hon] at HT
    rw [off_shows hon] at HS
    rw [off_may (c := ⟨ci, cp, g, cis⟩) hon] at HM
    obtain ⟨m, p0, p1, o0, o1, sp, r⟩ := x
    dsimp only at HT HS HM HRU HDR HDE
    have HB0 := hi (bal_two w (.cells #[.int .i64 m, .int .i64 p0, .int .i64 p1, .bool o0, .bool o1, .bool sp, .int .u32 (wd r 0), .int .u32 (wd r 1)] 29) (.cells #[.int .i64 ci, .int .i64 cp, .int .i64 cg, .bool cis] 39))
    have HF0 := hi ((CB.new w 29 #[.int .i64 m, .int .i64 p0, .int .i64 p1, .bool o0, .bool o1, .bool sp, .int .u32 (wd r 0), .int .u32 (wd r 1)]).alloc (.cells #[.int .i64 ci, .int .i64 cp, .int .i64 cg, .bool cis] 39))
    have HC0 := hi (cb_second (w := w) (o := .cells #[.int .i64 m, .int .i64 p0, .int .i64 p1, .bool o0, .bool o1, .bool sp, .int .u32 (wd r 0), .int .u32 (wd r 1)] 29) (cs := #[.int .i64 ci, .int .i64 cp, .int .i64 cg, .bool cis]) (t := 39))
    have wr1 : IntKind.i64.wrap 1 = 1 := by rw [IntKind.wrap_i64]; rfl
    have wr0 : IntKind.i64.wrap 0 = 0 := by rw [IntKind.wrap_i64]; rfl
    clear ha hon
    rcases run_cases r with ⟨_, hR, hD⟩ | ⟨i, hi64, hri, _, hR, hD, hDR, hlen⟩
    · rw [hR] at HRU
      have hdv : dropV ⟨m, p0, p1, o0, o1, sp, r⟩ g = (⟨m, p0, p1, o0, o1, sp, r⟩, false) := by unfold dropV; simp [hD]
      rw [hdv] at HDR
      dsimp only at HDR HRU
      clear hR hD hdv hG HDE
      go_enter Try.func7, Try.ntmps7
      go_wp2_with (first
        | (go_at_call 9; ((with_reducible refine (awake_if _).mono ?_); rintro e w1 ⟨rfl, hb⟩; have F1 := hi (HF0.out.below hb); have C1 := hi (HC0.out.below hb); have B1 := hi (HB0.out.trans (hb.mono HB0.out.size)); have f0 := F1.out.cell 0; have f1 := F1.out.cell 1; have f2 := F1.out.cell 2; have f3 := F1.out.cell 3; have f4 := F1.out.cell 4; have f5 := F1.out.cell 5; have f6 := F1.out.cell 6; have f7 := F1.out.cell 7; have c2 := C1.out.cell 2; have cf := C1.out.frozen; have hcg := C1.out.below (bal w1 (.cells #[.int .i64 m, .int .i64 p0, .int .i64 p1, .bool false, .bool o1, .bool sp, .int .u32 (wd r 0), .int .u32 (wd r 1)] 29)); have e2 := hcg.cell 2; have ef := hcg.frozen; have hl := C1.out.lt; have W1 := hi (show ∃ W, (w1.alloc (.cells #[.int .i64 m, .int .i64 p0, .int .i64 p1, .bool false, .bool o1, .bool sp, .int .u32 (wd r 0), .int .u32 (wd r 1)] 29)).setCell ⟨w.heap.size + 1, 2, none⟩ (.int .i64 g) = W ∧ CB W w.heap.size 29 #[.int .i64 m, .int .i64 p0, .int .i64 p1, .bool o0, .bool o1, .bool sp, .int .u32 (wd r 0), .int .u32 (wd r 1)] ∧ CB W (w.heap.size + 1) 39 #[.int .i64 ci, .int .i64 cp, .int .i64 g, .bool cis] ∧ CB W w1.heap.size 29 #[.int .i64 m, .int .i64 p0, .int .i64 p1, .bool false, .bool o1, .bool sp, .int .u32 (wd r 0), .int .u32 (wd r 1)] ∧ Below w.heap.size w W ∧ W.heap.size = w1.heap.size + 1 from ⟨_, rfl, (F1.out.below (bal w1 _)).other _ _ _ (by omega), by simpa using hcg.set 2 (.int .i64 g), (CB.new w1 29 #[.int .i64 m, .int .i64 p0, .int .i64 p1, .bool false, .bool o1, .bool sp, .int .u32 (wd r 0), .int .u32 (wd r 1)]).other _ _ _ (by omega), below_set (B1.out.trans ((bal w1 _).mono B1.out.size)) (show w.heap.size ≤ w.heap.size + 1 by omega) _, by simp⟩); have gg := ((CB.new w1 29 #[.int .i64 m, .int .i64 p0, .int .i64 p1, .bool false, .bool o1, .bool sp, .int .u32 (wd r 0), .int .u32 (wd r 1)]).other (w.heap.size + 1) 2 (.int .i64 g) (by omega)); have k0 := gg.cell 0; have k1 := gg.cell 1; have k2 := gg.cell 2; have k3 := gg.cell 3; have k4 := gg.cell 4; have k5 := gg.cell 5; have k6 := gg.cell 6; have k7 := gg.cell 7; have yc : CB ((w1.alloc (.cells #[.int .i64 m, .int .i64 p0, .int .i64 p1, .bool false, .bool o1, .bool sp, .int .u32 (wd r 0), .int .u32 (wd r 1)] 29)).setCell ⟨w.heap.size + 1, 2, none⟩ (.int .i64 g)) (w.heap.size + 1) 39 #[.int .i64 ci, .int .i64 cp, .int .i64 g, .bool cis] := (by simpa using hcg.set 2 (.int .i64 g)); have y0 := yc.cell 0; have y1 := yc.cell 1; have y2 := yc.cell 2; have y3 := yc.cell 3; have yf := yc.frozen; have yd := yc.below (bal _ (.cells #[.int .i64 m, .int .i64 p0, .int .i64 p1, .bool false, .bool o1, .bool sp, .int .u32 (wd r 0), .int .u32 (wd r 1)] 29)); have z0 := yd.cell 0; have z1 := yd.cell 1; have z2 := yd.cell 2; have z3 := yd.cell 3; have zf := yd.frozen; have LT := hi hl; clear hb hcg hl gg yc yd)))
      obtain ⟨W, hW, hF, hC, hG1, hB, hZ⟩ := W1.out
      rw [hW]
      have hw := bal W (.cells #[.int .i64 m, .int .i64 p0, .int .i64 p1, .bool false, .bool o1, .bool sp, .int .u32 (wd r 0), .int .u32 (wd r 1)] 29)
      have F2 := hi (hF.below hw)
      have C2 := hi (hC.below hw)
      have G2 := hi (hG1.below hw)
      have V2 := hi (show CB (W.alloc (.cells #[.int .i64 m, .int .i64 p0, .int .i64 p1, .bool false, .bool o1, .bool sp, .int .u32 (wd r 0), .int .u32 (wd r 1)] 29)) (w1.heap.size + 1) 29 #[.int .i64 m, .int .i64 p0, .int .i64 p1, .bool false, .bool o1, .bool sp, .int .u32 (wd r 0), .int .u32 (wd r 1)] from hZ ▸ CB.new W 29 #[.int .i64 m, .int .i64 p0, .int .i64 p1, .bool false, .bool o1, .bool sp, .int .u32 (wd r 0), .int .u32 (wd r 1)])
      have B2 := hi (hB.trans (hw.mono hB.size))
      have Z := hi hZ
      have d0 := C2.out.cell 0
      have d1 := C2.out.cell 1
      have d2 := C2.out.cell 2
      have d3 := C2.out.cell 3
      clear y0 y1 y2 y3 yf z0 z1 z2 z3 zf
      clear hW hF hC hG1 hB hZ hw W1 k0 k1 k2 k3 k4 k5 k6 k7 e2 ef f0 f1 f2 f3 f4 f5 f6 f7 c2 cf
      go_wp2_with (first
        | (go_at_call 26; ((with_reducible refine (HT.out _ _ G2.out).mono ?_); rintro e w3 ⟨rfl, hA⟩; have G3 := hi hA.bx; have F3 := hi (F2.out.keptB hA.kept (by have := LT.out; omega)); have C3 := hi (C2.out.keptB hA.kept (by have := LT.out; omega)); have V3 := hi (V2.out.keptB hA.kept (by omega)); have B3 := hi (B2.out.trans (hA.kept.toBelow B2.out.size (fun i z => by subst z; have := LT.out; omega))); have k0 := G3.out.cell 0; have k1 := G3.out.cell 1; have k2 := G3.out.cell 2; have k3 := G3.out.cell 3; have k4 := G3.out.cell 4; have k5 := G3.out.cell 5; have k6 := G3.out.cell 6; have k7 := G3.out.cell 7; have n0 := V3.out.cell 0; have n1 := V3.out.cell 1; have n2 := V3.out.cell 2; have n3 := V3.out.cell 3; have n4 := V3.out.cell 4; have n5 := V3.out.cell 5; have n6 := V3.out.cell 6; have n7 := V3.out.cell 7; have d0 := C3.out.cell 0; have d1 := C3.out.cell 1; have d2 := C3.out.cell 2; have d3 := C3.out.cell 3; clear hA))
        | (go_at_call 17; ((with_reducible refine (HS.out _).mono ?_); rintro e w4 ⟨rfl, hb⟩; have G4 := hi (G3.out.below hb); have F4 := hi (F3.out.below hb); have C4 := hi (C3.out.below hb); have B4 := hi (B3.out.trans (hb.mono B3.out.size)); have k0 := G4.out.cell 0; have k1 := G4.out.cell 1; have k2 := G4.out.cell 2; have k3 := G4.out.cell 3; have k4 := G4.out.cell 4; have k5 := G4.out.cell 5; have k6 := G4.out.cell 6; have k7 := G4.out.cell 7; have d0 := C4.out.cell 0; have d1 := C4.out.cell 1; have d2 := C4.out.cell 2; have d3 := C4.out.cell 3; clear hb))
        | (go_at_call 15; ((with_reducible refine (HM.out _).mono ?_); rintro e w5 ⟨rfl, hb⟩; have hc := bal w5 (.cells #[.int .i64 m, .int .i64 p0, .int .i64 p1, .bool o0, .bool o1, .bool sp, .int .u32 (wd r 0), .int .u32 (wd r 1)] 29); have F5 := hi (F4.out.below hb); have F6 := hi (F5.out.below hc); have H6 := hi (CB.new w5 29 #[.int .i64 m, .int .i64 p0, .int .i64 p1, .bool o0, .bool o1, .bool sp, .int .u32 (wd r 0), .int .u32 (wd r 1)]); have B6 := hi ((B4.out.trans (hb.mono B4.out.size)).trans (hc.mono (B4.out.trans (hb.mono B4.out.size)).size)); have L6 := hi (show w.heap.size < w5.heap.size from F5.out.lt); have f0 := F5.out.cell 0; have f1 := F5.out.cell 1; have f2 := F5.out.cell 2; have f3 := F5.out.cell 3; have f4 := F5.out.cell 4; have f5 := F5.out.cell 5; have f6 := F5.out.cell 6; have f7 := F5.out.cell 7; clear hb hc))
        | (go_at_call 29; ((with_reducible refine (HDR.out _ _ H6.out).mono ?_); rintro e w7 ⟨rfl, hA⟩; have H7 := hi (show CB w7 w5.heap.size 29 #[.int .i64 m, .int .i64 p0, .int .i64 p1, .bool o0, .bool o1, .bool sp, .int .u32 (wd r 0), .int .u32 (wd r 1)] from hA.bx); have F7 := hi (F6.out.keptB hA.kept (by have := L6.out; omega)); have B7 := hi (B6.out.trans (hA.kept.toBelow B6.out.size (fun i z => by subst z; have := L6.out; omega))); have f0 := F7.out.cell 0; have f1 := F7.out.cell 1; have f2 := F7.out.cell 2; have f3 := F7.out.cell 3; have f4 := F7.out.cell 4; have f5 := F7.out.cell 5; have f6 := F7.out.cell 6; have f7 := F7.out.cell 7; clear hA))
        | (go_at_call 28; ((with_reducible refine (HRU.out _).mono ?_); rintro e w8 ⟨rfl, hb⟩; have H8 := hi (H7.out.below hb); have F8 := hi (F7.out.below hb); have B8 := hi (B7.out.trans (hb.mono B7.out.size)); clear hb)))
      have B8d := hi (Below.drewN (m := 1) B8.out)
      refine wp_region_noPanic ?_
      refine wp_region_last_drew (S := (fun W' => CB W' w5.heap.size 29 #[.int .i64 m, .int .i64 p0, .int .i64 p1, .bool o0, .bool o1, .bool sp, .int .u32 (wd r 0), .int .u32 (wd r 1)] ∧ CB W' w.heap.size 29 #[.int .i64 m, .int .i64 p0, .int .i64 p1, .bool o0, .bool o1, .bool sp, .int .u32 (wd r 0), .int .u32 (wd r 1)])) [] (by kernel_rfl) ⟨H8.out.drew, F8.out.drew⟩ (fun hHeld => ?_)
      (try simp only [Array.replicate_succ, Array.replicate_zero, List.push_toArray, List.nil_append, List.cons_append])
      refine wpAnyF_take (i := 0) (v := ?_) (by kernel_rfl) (by kernel_rfl) rfl (by kernel_rfl) (by kernel_rfl) (by kernel_rfl) (fun _ _ _ h => h) (Or.inl ⟨by rfl, ?_⟩) (by assumption) ?_
      rotate_left
      · intro w' hSw; (try dsimp only at hSw); have h0 := hSw.1.cell 0; have h1 := hSw.1.cell 1; have h2 := hSw.1.cell 2; have h3 := hSw.1.cell 3; have h4 := hSw.1.cell 4; have h5 := hSw.1.cell 5; have h6 := hSw.1.cell 6; have h7 := hSw.1.cell 7; have f0 := hSw.2.cell 0; have f1 := hSw.2.cell 1; have f2 := hSw.2.cell 2; have f3 := hSw.2.cell 3; have f4 := hSw.2.cell 4; have f5 := hSw.2.cell 5; have f6 := hSw.2.cell 6; have f7 := hSw.2.cell 7; go_simp; (try with_reducible rfl)
      (try simp only [Act.put, List.getElem_toArray, List.getElem_cons_zero, List.setIfInBounds_toArray, List.set_cons_zero, List.set_cons_succ])
      refine wpAnyF_take (i := 1) (v := ?_) (by kernel_rfl) (by kernel_rfl) rfl (by kernel_rfl) (by kernel_rfl) (by kernel_rfl) (fun _ _ _ h => h) (Or.inl ⟨by rfl, ?_⟩) (by assumption) ?_
      rotate_left
      · intro w' hSw; (try dsimp only at hSw); have h0 := hSw.1.cell 0; have h1 := hSw.1.cell 1; have h2 := hSw.1.cell 2; have h3 := hSw.1.cell 3; have h4 := hSw.1.cell 4; have h5 := hSw.1.cell 5; have h6 := hSw.1.cell 6; have h7 := hSw.1.cell 7; have f0 := hSw.2.cell 0; have f1 := hSw.2.cell 1; have f2 := hSw.2.cell 2; have f3 := hSw.2.cell 3; have f4 := hSw.2.cell 4; have f5 := hSw.2.cell 5; have f6 := hSw.2.cell 6; have f7 := hSw.2.cell 7; go_simp; (try with_reducible rfl)
      (try simp only [Act.put, List.getElem_toArray, List.getElem_cons_zero, List.getElem_cons_succ, List.setIfInBounds_toArray, List.set_cons_zero, List.set_cons_succ])
      refine wpAnyF_take (i := 2) (v := ?_) (by kernel_rfl) (by kernel_rfl) rfl (by kernel_rfl) (by kernel_rfl) (by kernel_rfl) (fun _ _ _ h => h) (Or.inl ⟨by rfl, ?_⟩) (by assumption) ?_
      rotate_left
      · intro w' hSw; (try dsimp only at hSw); have h0 := hSw.1.cell 0; have h1 := hSw.1.cell 1; have h2 := hSw.1.cell 2; have h3 := hSw.1.cell 3; have h4 := hSw.1.cell 4; have h5 := hSw.1.cell 5; have h6 := hSw.1.cell 6; have h7 := hSw.1.cell 7; have f0 := hSw.2.cell 0; have f1 := hSw.2.cell 1; have f2 := hSw.2.cell 2; have f3 := hSw.2.cell 3; have f4 := hSw.2.cell 4; have f5 := hSw.2.cell 5; have f6 := hSw.2.cell 6; have f7 := hSw.2.cell 7; go_simp; (try with_reducible rfl)
      (try simp only [Act.put, List.getElem_toArray, List.getElem_cons_zero, List.getElem_cons_succ, List.setIfInBounds_toArray, List.set_cons_zero, List.set_cons_succ])
      refine wpAnyF_take (i := 3) (v := ?_) (by kernel_rfl) (by kernel_rfl) rfl (by kernel_rfl) (by kernel_rfl) (by kernel_rfl) (fun _ _ _ h => h) (Or.inl ⟨by rfl, ?_⟩) (by assumption) ?_
      rotate_left
      · intro w' hSw; (try dsimp only at hSw); have h0 := hSw.1.cell 0; have h1 := hSw.1.cell 1; have h2 := hSw.1.cell 2; have h3 := hSw.1.cell 3; have h4 := hSw.1.cell 4; have h5 := hSw.1.cell 5; have h6 := hSw.1.cell 6; have h7 := hSw.1.cell 7; have f0 := hSw.2.cell 0; have f1 := hSw.2.cell 1; have f2 := hSw.2.cell 2; have f3 := hSw.2.cell 3; have f4 := hSw.2.cell 4; have f5 := hSw.2.cell 5; have f6 := hSw.2.cell 6; have f7 := hSw.2.cell 7; go_simp; (try with_reducible rfl)
      (try simp only [Act.put, List.getElem_toArray, List.getElem_cons_zero, List.getElem_cons_succ, List.setIfInBounds_toArray, List.set_cons_zero, List.set_cons_succ])
      refine wpAnyF_take (i := 4) (v := ?_) (by kernel_rfl) (by kernel_rfl) rfl (by kernel_rfl) (by kernel_rfl) (by kernel_rfl) (fun _ _ _ h => h) (Or.inl ⟨by rfl, ?_⟩) (by assumption) ?_
      rotate_left
      · intro w' hSw; (try dsimp only at hSw); have h0 := hSw.1.cell 0; have h1 := hSw.1.cell 1; have h2 := hSw.1.cell 2; have h3 := hSw.1.cell 3; have h4 := hSw.1.cell 4; have h5 := hSw.1.cell 5; have h6 := hSw.1.cell 6; have h7 := hSw.1.cell 7; have f0 := hSw.2.cell 0; have f1 := hSw.2.cell 1; have f2 := hSw.2.cell 2; have f3 := hSw.2.cell 3; have f4 := hSw.2.cell 4; have f5 := hSw.2.cell 5; have f6 := hSw.2.cell 6; have f7 := hSw.2.cell 7; go_simp; (try with_reducible rfl)
      (try simp only [Act.put, List.getElem_toArray, List.getElem_cons_zero, List.getElem_cons_succ, List.setIfInBounds_toArray, List.set_cons_zero, List.set_cons_succ])
      refine wpAnyF_take (i := 5) (v := ?_) (by kernel_rfl) (by kernel_rfl) rfl (by kernel_rfl) (by kernel_rfl) (by kernel_rfl) (fun _ _ _ h => h) (Or.inl ⟨by rfl, ?_⟩) (by assumption) ?_
      rotate_left
      · intro w' hSw; (try dsimp only at hSw); have h0 := hSw.1.cell 0; have h1 := hSw.1.cell 1; have h2 := hSw.1.cell 2; have h3 := hSw.1.cell 3; have h4 := hSw.1.cell 4; have h5 := hSw.1.cell 5; have h6 := hSw.1.cell 6; have h7 := hSw.1.cell 7; have f0 := hSw.2.cell 0; have f1 := hSw.2.cell 1; have f2 := hSw.2.cell 2; have f3 := hSw.2.cell 3; have f4 := hSw.2.cell 4; have f5 := hSw.2.cell 5; have f6 := hSw.2.cell 6; have f7 := hSw.2.cell 7; go_simp; (try with_reducible rfl)
      (try simp only [Act.put, List.getElem_toArray, List.getElem_cons_zero, List.getElem_cons_succ, List.setIfInBounds_toArray, List.set_cons_zero, List.set_cons_succ])
      refine wpAnyF_take (i := 6) (v := undef) (by kernel_rfl) (by kernel_rfl) rfl (by kernel_rfl) (by kernel_rfl) (by kernel_rfl) (fun _ _ _ h => h) (Or.inr ⟨by rfl, rfl⟩) (by assumption) ?_
      (try simp only [Act.put, List.getElem_toArray, List.getElem_cons_zero, List.getElem_cons_succ, List.setIfInBounds_toArray, List.set_cons_zero, List.set_cons_succ])
      refine wpAnyF_take (i := 7) (v := undef) (by kernel_rfl) (by kernel_rfl) rfl (by kernel_rfl) (by kernel_rfl) (by kernel_rfl) (fun _ _ _ h => h) (Or.inr ⟨by rfl, rfl⟩) (by assumption) ?_
      (try simp only [Act.put, List.getElem_toArray, List.getElem_cons_zero, List.getElem_cons_succ, List.setIfInBounds_toArray, List.set_cons_zero, List.set_cons_succ])
      refine wpAnyF_take (i := 8) (v := undef) (by kernel_rfl) (by kernel_rfl) rfl (by kernel_rfl) (by kernel_rfl) (by kernel_rfl) (fun _ _ _ h => h) (Or.inr ⟨by rfl, rfl⟩) (by assumption) ?_
      (try simp only [Act.put, List.getElem_toArray, List.getElem_cons_zero, List.getElem_cons_succ, List.setIfInBounds_toArray, List.set_cons_zero, List.set_cons_succ])
      refine wpAnyF_take (i := 9) (v := ?_) (by kernel_rfl) (by kernel_rfl) rfl (by kernel_rfl) (by kernel_rfl) (by kernel_rfl) (fun _ _ _ h => h) (Or.inl ⟨by rfl, ?_⟩) (by assumption) ?_
      rotate_left
      · intro w' hSw; (try dsimp only at hSw); have h0 := hSw.1.cell 0; have h1 := hSw.1.cell 1; have h2 := hSw.1.cell 2; have h3 := hSw.1.cell 3; have h4 := hSw.1.cell 4; have h5 := hSw.1.cell 5; have h6 := hSw.1.cell 6; have h7 := hSw.1.cell 7; have f0 := hSw.2.cell 0; have f1 := hSw.2.cell 1; have f2 := hSw.2.cell 2; have f3 := hSw.2.cell 3; have f4 := hSw.2.cell 4; have f5 := hSw.2.cell 5; have f6 := hSw.2.cell 6; have f7 := hSw.2.cell 7; go_simp; (try with_reducible rfl)
      (try simp only [Act.put, List.getElem_toArray, List.getElem_cons_zero, List.getElem_cons_succ, List.setIfInBounds_toArray, List.set_cons_zero, List.set_cons_succ])
      refine wpAnyF_take (i := 10) (v := ?_) (by kernel_rfl) (by kernel_rfl) rfl (by kernel_rfl) (by kernel_rfl) (by kernel_rfl) (fun _ _ _ h => h) (Or.inl ⟨by rfl, ?_⟩) (by assumption) ?_
      rotate_left
      · intro w' hSw; (try dsimp only at hSw); have h0 := hSw.1.cell 0; have h1 := hSw.1.cell 1; have h2 := hSw.1.cell 2; have h3 := hSw.1.cell 3; have h4 := hSw.1.cell 4; have h5 := hSw.1.cell 5; have h6 := hSw.1.cell 6; have h7 := hSw.1.cell 7; have f0 := hSw.2.cell 0; have f1 := hSw.2.cell 1; have f2 := hSw.2.cell 2; have f3 := hSw.2.cell 3; have f4 := hSw.2.cell 4; have f5 := hSw.2.cell 5; have f6 := hSw.2.cell 6; have f7 := hSw.2.cell 7; go_simp; (try with_reducible rfl)
      (try simp only [Act.put, List.getElem_toArray, List.getElem_cons_zero, List.getElem_cons_succ, List.setIfInBounds_toArray, List.set_cons_zero, List.set_cons_succ])
      refine wpAnyF_take (i := 11) (v := ?_) (by kernel_rfl) (by kernel_rfl) rfl (by kernel_rfl) (by kernel_rfl) (by kernel_rfl) (fun _ _ _ h => h) (Or.inl ⟨by rfl, ?_⟩) (by assumption) ?_
      rotate_left
      · intro w' hSw; (try dsimp only at hSw); have h0 := hSw.1.cell 0; have h1 := hSw.1.cell 1; have h2 := hSw.1.cell 2; have h3 := hSw.1.cell 3; have h4 := hSw.1.cell 4; have h5 := hSw.1.cell 5; have h6 := hSw.1.cell 6; have h7 := hSw.1.cell 7; have f0 := hSw.2.cell 0; have f1 := hSw.2.cell 1; have f2 := hSw.2.cell 2; have f3 := hSw.2.cell 3; have f4 := hSw.2.cell 4; have f5 := hSw.2.cell 5; have f6 := hSw.2.cell 6; have f7 := hSw.2.cell 7; go_simp; (try with_reducible rfl)
      (try simp only [Act.put, List.getElem_toArray, List.getElem_cons_zero, List.getElem_cons_succ, List.setIfInBounds_toArray, List.set_cons_zero, List.set_cons_succ])
      refine wpAnyF_take (i := 12) (v := ?_) (by kernel_rfl) (by kernel_rfl) rfl (by kernel_rfl) (by kernel_rfl) (by kernel_rfl) (fun _ _ _ h => h) (Or.inl ⟨by rfl, ?_⟩) (by assumption) ?_
      rotate_left
      · intro w' hSw; (try dsimp only at hSw); have h0 := hSw.1.cell 0; have h1 := hSw.1.cell 1; have h2 := hSw.1.cell 2; have h3 := hSw.1.cell 3; have h4 := hSw.1.cell 4; have h5 := hSw.1.cell 5; have h6 := hSw.1.cell 6; have h7 := hSw.1.cell 7; have f0 := hSw.2.cell 0; have f1 := hSw.2.cell 1; have f2 := hSw.2.cell 2; have f3 := hSw.2.cell 3; have f4 := hSw.2.cell 4; have f5 := hSw.2.cell 5; have f6 := hSw.2.cell 6; have f7 := hSw.2.cell 7; go_simp; (try with_reducible rfl)
      (try simp only [Act.put, List.getElem_toArray, List.getElem_cons_zero, List.getElem_cons_succ, List.setIfInBounds_toArray, List.set_cons_zero, List.set_cons_succ])
      refine wpAnyF_take (i := 13) (v := ?_) (by kernel_rfl) (by kernel_rfl) rfl (by kernel_rfl) (by kernel_rfl) (by kernel_rfl) (fun _ _ _ h => h) (Or.inl ⟨by rfl, ?_⟩) (by assumption) ?_
      rotate_left
      · intro w' hSw; (try dsimp only at hSw); have h0 := hSw.1.cell 0; have h1 := hSw.1.cell 1; have h2 := hSw.1.cell 2; have h3 := hSw.1.cell 3; have h4 := hSw.1.cell 4; have h5 := hSw.1.cell 5; have h6 := hSw.1.cell 6; have h7 := hSw.1.cell 7; have f0 := hSw.2.cell 0; have f1 := hSw.2.cell 1; have f2 := hSw.2.cell 2; have f3 := hSw.2.cell 3; have f4 := hSw.2.cell 4; have f5 := hSw.2.cell 5; have f6 := hSw.2.cell 6; have f7 := hSw.2.cell 7; go_simp; (try with_reducible rfl)
      (try simp only [Act.put, List.getElem_toArray, List.getElem_cons_zero, List.getElem_cons_succ, List.setIfInBounds_toArray, List.set_cons_zero, List.set_cons_succ])
      refine wpAnyF_take (i := 14) (v := ?_) (by kernel_rfl) (by kernel_rfl) rfl (by kernel_rfl) (by kernel_rfl) (by kernel_rfl) (fun _ _ _ h => h) (Or.inl ⟨by rfl, ?_⟩) (by assumption) ?_
      rotate_left
      · intro w' hSw; (try dsimp only at hSw); have h0 := hSw.1.cell 0; have h1 := hSw.1.cell 1; have h2 := hSw.1.cell 2; have h3 := hSw.1.cell 3; have h4 := hSw.1.cell 4; have h5 := hSw.1.cell 5; have h6 := hSw.1.cell 6; have h7 := hSw.1.cell 7; have f0 := hSw.2.cell 0; have f1 := hSw.2.cell 1; have f2 := hSw.2.cell 2; have f3 := hSw.2.cell 3; have f4 := hSw.2.cell 4; have f5 := hSw.2.cell 5; have f6 := hSw.2.cell 6; have f7 := hSw.2.cell 7; go_simp; (try with_reducible rfl)
      (try simp only [Act.put, List.getElem_toArray, List.getElem_cons_zero, List.getElem_cons_succ, List.setIfInBounds_toArray, List.set_cons_zero, List.set_cons_succ])
      refine wpAnyF_take (i := 15) (v := ?_) (by kernel_rfl) (by kernel_rfl) rfl (by kernel_rfl) (by kernel_rfl) (by kernel_rfl) (fun _ _ _ h => h) (Or.inl ⟨by rfl, ?_⟩) (by assumption) ?_
      rotate_left
      · intro w' hSw; (try dsimp only at hSw); have h0 := hSw.1.cell 0; have h1 := hSw.1.cell 1; have h2 := hSw.1.cell 2; have h3 := hSw.1.cell 3; have h4 := hSw.1.cell 4; have h5 := hSw.1.cell 5; have h6 := hSw.1.cell 6; have h7 := hSw.1.cell 7; have f0 := hSw.2.cell 0; have f1 := hSw.2.cell 1; have f2 := hSw.2.cell 2; have f3 := hSw.2.cell 3; have f4 := hSw.2.cell 4; have f5 := hSw.2.cell 5; have f6 := hSw.2.cell 6; have f7 := hSw.2.cell 7; go_simp; (try with_reducible rfl)
      (try simp only [Act.put, List.getElem_toArray, List.getElem_cons_zero, List.getElem_cons_succ, List.setIfInBounds_toArray, List.set_cons_zero, List.set_cons_succ])
      refine wpAnyF_take (i := 16) (v := ?_) (by kernel_rfl) (by kernel_rfl) rfl (by kernel_rfl) (by kernel_rfl) (by kernel_rfl) (fun _ _ _ h => h) (Or.inl ⟨by rfl, ?_⟩) (by assumption) ?_
      rotate_left
      · intro w' hSw; (try dsimp only at hSw); have h0 := hSw.1.cell 0; have h1 := hSw.1.cell 1; have h2 := hSw.1.cell 2; have h3 := hSw.1.cell 3; have h4 := hSw.1.cell 4; have h5 := hSw.1.cell 5; have h6 := hSw.1.cell 6; have h7 := hSw.1.cell 7; have f0 := hSw.2.cell 0; have f1 := hSw.2.cell 1; have f2 := hSw.2.cell 2; have f3 := hSw.2.cell 3; have f4 := hSw.2.cell 4; have f5 := hSw.2.cell 5; have f6 := hSw.2.cell 6; have f7 := hSw.2.cell 7; go_simp; (try with_reducible rfl)
      (try simp only [Act.put, List.getElem_toArray, List.getElem_cons_zero, List.getElem_cons_succ, List.setIfInBounds_toArray, List.set_cons_zero, List.set_cons_succ])
      refine wpAnyF_take (i := 17) (v := ?_) (by kernel_rfl) (by kernel_rfl) rfl (by kernel_rfl) (by kernel_rfl) (by kernel_rfl) (fun _ _ _ h => h) (Or.inl ⟨by rfl, ?_⟩) (by assumption) ?_
      rotate_left
      · intro w' hSw; (try dsimp only at hSw); have h0 := hSw.1.cell 0; have h1 := hSw.1.cell 1; have h2 := hSw.1.cell 2; have h3 := hSw.1.cell 3; have h4 := hSw.1.cell 4; have h5 := hSw.1.cell 5; have h6 := hSw.1.cell 6; have h7 := hSw.1.cell 7; have f0 := hSw.2.cell 0; have f1 := hSw.2.cell 1; have f2 := hSw.2.cell 2; have f3 := hSw.2.cell 3; have f4 := hSw.2.cell 4; have f5 := hSw.2.cell 5; have f6 := hSw.2.cell 6; have f7 := hSw.2.cell 7; go_simp; (try with_reducible rfl)
      (try simp only [Act.put, List.getElem_toArray, List.getElem_cons_zero, List.getElem_cons_succ, List.setIfInBounds_toArray, List.set_cons_zero, List.set_cons_succ])
      refine wpAnyF_take (i := 18) (v := ?_) (by kernel_rfl) (by kernel_rfl) rfl (by kernel_rfl) (by kernel_rfl) (by kernel_rfl) (fun _ _ _ h => h) (Or.inl ⟨by rfl, ?_⟩) (by assumption) ?_
      rotate_left
      · intro w' hSw; (try dsimp only at hSw); have h0 := hSw.1.cell 0; have h1 := hSw.1.cell 1; have h2 := hSw.1.cell 2; have h3 := hSw.1.cell 3; have h4 := hSw.1.cell 4; have h5 := hSw.1.cell 5; have h6 := hSw.1.cell 6; have h7 := hSw.1.cell 7; have f0 := hSw.2.cell 0; have f1 := hSw.2.cell 1; have f2 := hSw.2.cell 2; have f3 := hSw.2.cell 3; have f4 := hSw.2.cell 4; have f5 := hSw.2.cell 5; have f6 := hSw.2.cell 6; have f7 := hSw.2.cell 7; go_simp; (try with_reducible rfl)
      (try simp only [Act.put, List.getElem_toArray, List.getElem_cons_zero, List.getElem_cons_succ, List.setIfInBounds_toArray, List.set_cons_zero, List.set_cons_succ])
      refine wpAnyF_take (i := 19) (v := ?_) (by kernel_rfl) (by kernel_rfl) rfl (by kernel_rfl) (by kernel_rfl) (by kernel_rfl) (fun _ _ _ h => h) (Or.inl ⟨by rfl, ?_⟩) (by assumption) ?_
      rotate_left
      · intro w' hSw; (try dsimp only at hSw); have h0 := hSw.1.cell 0; have h1 := hSw.1.cell 1; have h2 := hSw.1.cell 2; have h3 := hSw.1.cell 3; have h4 := hSw.1.cell 4; have h5 := hSw.1.cell 5; have h6 := hSw.1.cell 6; have h7 := hSw.1.cell 7; have f0 := hSw.2.cell 0; have f1 := hSw.2.cell 1; have f2 := hSw.2.cell 2; have f3 := hSw.2.cell 3; have f4 := hSw.2.cell 4; have f5 := hSw.2.cell 5; have f6 := hSw.2.cell 6; have f7 := hSw.2.cell 7; go_simp; (try with_reducible rfl)
      (try simp only [Act.put, List.getElem_toArray, List.getElem_cons_zero, List.getElem_cons_succ, List.setIfInBounds_toArray, List.set_cons_zero, List.set_cons_succ])
      refine wpAnyF_take (i := 20) (v := ?_) (by kernel_rfl) (by kernel_rfl) rfl (by kernel_rfl) (by kernel_rfl) (by kernel_rfl) (fun _ _ _ h => h) (Or.inl ⟨by rfl, ?_⟩) (by assumption) ?_
      rotate_left
      · intro w' hSw; (try dsimp only at hSw); have h0 := hSw.1.cell 0; have h1 := hSw.1.cell 1; have h2 := hSw.1.cell 2; have h3 := hSw.1.cell 3; have h4 := hSw.1.cell 4; have h5 := hSw.1.cell 5; have h6 := hSw.1.cell 6; have h7 := hSw.1.cell 7; have f0 := hSw.2.cell 0; have f1 := hSw.2.cell 1; have f2 := hSw.2.cell 2; have f3 := hSw.2.cell 3; have f4 := hSw.2.cell 4; have f5 := hSw.2.cell 5; have f6 := hSw.2.cell 6; have f7 := hSw.2.cell 7; go_simp; (try with_reducible rfl)
      (try simp only [Act.put, List.getElem_toArray, List.getElem_cons_zero, List.getElem_cons_succ, List.setIfInBounds_toArray, List.set_cons_zero, List.set_cons_succ])
      refine wpAnyF_take (i := 21) (v := ?_) (by kernel_rfl) (by kernel_rfl) rfl (by kernel_rfl) (by kernel_rfl) (by kernel_rfl) (fun _ _ _ h => h) (Or.inl ⟨by rfl, ?_⟩) (by assumption) ?_
      rotate_left
      · intro w' hSw; (try dsimp only at hSw); have h0 := hSw.1.cell 0; have h1 := hSw.1.cell 1; have h2 := hSw.1.cell 2; have h3 := hSw.1.cell 3; have h4 := hSw.1.cell 4; have h5 := hSw.1.cell 5; have h6 := hSw.1.cell 6; have h7 := hSw.1.cell 7; have f0 := hSw.2.cell 0; have f1 := hSw.2.cell 1; have f2 := hSw.2.cell 2; have f3 := hSw.2.cell 3; have f4 := hSw.2.cell 4; have f5 := hSw.2.cell 5; have f6 := hSw.2.cell 6; have f7 := hSw.2.cell 7; go_simp; (try with_reducible rfl)
      (try simp only [Act.put, List.getElem_toArray, List.getElem_cons_zero, List.getElem_cons_succ, List.setIfInBounds_toArray, List.set_cons_zero, List.set_cons_succ])
      refine wpAnyF_take (i := 22) (v := ?_) (by kernel_rfl) (by kernel_rfl) rfl (by kernel_rfl) (by kernel_rfl) (by kernel_rfl) (fun _ _ _ h => h) (Or.inl ⟨by rfl, ?_⟩) (by assumption) ?_
      rotate_left
      · intro w' hSw; (try dsimp only at hSw); have h0 := hSw.1.cell 0; have h1 := hSw.1.cell 1; have h2 := hSw.1.cell 2; have h3 := hSw.1.cell 3; have h4 := hSw.1.cell 4; have h5 := hSw.1.cell 5; have h6 := hSw.1.cell 6; have h7 := hSw.1.cell 7; have f0 := hSw.2.cell 0; have f1 := hSw.2.cell 1; have f2 := hSw.2.cell 2; have f3 := hSw.2.cell 3; have f4 := hSw.2.cell 4; have f5 := hSw.2.cell 5; have f6 := hSw.2.cell 6; have f7 := hSw.2.cell 7; go_simp; (try with_reducible rfl)
      (try simp only [Act.put, List.getElem_toArray, List.getElem_cons_zero, List.getElem_cons_succ, List.setIfInBounds_toArray, List.set_cons_zero, List.set_cons_succ])
      refine wpAnyF_take (i := 23) (v := ?_) (by kernel_rfl) (by kernel_rfl) rfl (by kernel_rfl) (by kernel_rfl) (by kernel_rfl) (fun _ _ _ h => h) (Or.inl ⟨by rfl, ?_⟩) (by assumption) ?_
      rotate_left
      · intro w' hSw; (try dsimp only at hSw); have h0 := hSw.1.cell 0; have h1 := hSw.1.cell 1; have h2 := hSw.1.cell 2; have h3 := hSw.1.cell 3; have h4 := hSw.1.cell 4; have h5 := hSw.1.cell 5; have h6 := hSw.1.cell 6; have h7 := hSw.1.cell 7; have f0 := hSw.2.cell 0; have f1 := hSw.2.cell 1; have f2 := hSw.2.cell 2; have f3 := hSw.2.cell 3; have f4 := hSw.2.cell 4; have f5 := hSw.2.cell 5; have f6 := hSw.2.cell 6; have f7 := hSw.2.cell 7; go_simp; (try with_reducible rfl)
      (try simp only [Act.put, List.getElem_toArray, List.getElem_cons_zero, List.getElem_cons_succ, List.setIfInBounds_toArray, List.set_cons_zero, List.set_cons_succ])
      refine wpAnyF_take (i := 24) (v := ?_) (by kernel_rfl) (by kernel_rfl) rfl (by kernel_rfl) (by kernel_rfl) (by kernel_rfl) (fun _ _ _ h => h) (Or.inl ⟨by rfl, ?_⟩) (by assumption) ?_
      rotate_left
      · intro w' hSw; (try dsimp only at hSw); have h0 := hSw.1.cell 0; have h1 := hSw.1.cell 1; have h2 := hSw.1.cell 2; have h3 := hSw.1.cell 3; have h4 := hSw.1.cell 4; have h5 := hSw.1.cell 5; have h6 := hSw.1.cell 6; have h7 := hSw.1.cell 7; have f0 := hSw.2.cell 0; have f1 := hSw.2.cell 1; have f2 := hSw.2.cell 2; have f3 := hSw.2.cell 3; have f4 := hSw.2.cell 4; have f5 := hSw.2.cell 5; have f6 := hSw.2.cell 6; have f7 := hSw.2.cell 7; go_simp; (try with_reducible rfl)
      (try simp only [Act.put, List.getElem_toArray, List.getElem_cons_zero, List.getElem_cons_succ, List.setIfInBounds_toArray, List.set_cons_zero, List.set_cons_succ])
      refine wpAnyF_take (i := 25) (v := ?_) (by kernel_rfl) (by kernel_rfl) rfl (by kernel_rfl) (by kernel_rfl) (by kernel_rfl) (fun _ _ _ h => h) (Or.inl ⟨by rfl, ?_⟩) (by assumption) ?_
      rotate_left
      · intro w' hSw; (try dsimp only at hSw); have h0 := hSw.1.cell 0; have h1 := hSw.1.cell 1; have h2 := hSw.1.cell 2; have h3 := hSw.1.cell 3; have h4 := hSw.1.cell 4; have h5 := hSw.1.cell 5; have h6 := hSw.1.cell 6; have h7 := hSw.1.cell 7; have f0 := hSw.2.cell 0; have f1 := hSw.2.cell 1; have f2 := hSw.2.cell 2; have f3 := hSw.2.cell 3; have f4 := hSw.2.cell 4; have f5 := hSw.2.cell 5; have f6 := hSw.2.cell 6; have f7 := hSw.2.cell 7; go_simp; (try with_reducible rfl)
      (try simp only [Act.put, List.getElem_toArray, List.getElem_cons_zero, List.getElem_cons_succ, List.setIfInBounds_toArray, List.set_cons_zero, List.set_cons_succ])
      refine wpAnyF_take (i := 26) (v := ?_) (by kernel_rfl) (by kernel_rfl) rfl (by kernel_rfl) (by kernel_rfl) (by kernel_rfl) (fun _ _ _ h => h) (Or.inl ⟨by rfl, ?_⟩) (by assumption) ?_
      rotate_left
      · intro w' hSw; (try dsimp only at hSw); have h0 := hSw.1.cell 0; have h1 := hSw.1.cell 1; have h2 := hSw.1.cell 2; have h3 := hSw.1.cell 3; have h4 := hSw.1.cell 4; have h5 := hSw.1.cell 5; have h6 := hSw.1.cell 6; have h7 := hSw.1.cell 7; have f0 := hSw.2.cell 0; have f1 := hSw.2.cell 1; have f2 := hSw.2.cell 2; have f3 := hSw.2.cell 3; have f4 := hSw.2.cell 4; have f5 := hSw.2.cell 5; have f6 := hSw.2.cell 6; have f7 := hSw.2.cell 7; go_simp; (try with_reducible rfl)
      (try simp only [Act.put, List.getElem_toArray, List.getElem_cons_zero, List.getElem_cons_succ, List.setIfInBounds_toArray, List.set_cons_zero, List.set_cons_succ])
      refine wpAnyF_take (i := 27) (v := ?_) (by kernel_rfl) (by kernel_rfl) rfl (by kernel_rfl) (by kernel_rfl) (by kernel_rfl) (fun _ _ _ h => h) (Or.inl ⟨by rfl, ?_⟩) (by assumption) ?_
      rotate_left
      · intro w' hSw; (try dsimp only at hSw); have h0 := hSw.1.cell 0; have h1 := hSw.1.cell 1; have h2 := hSw.1.cell 2; have h3 := hSw.1.cell 3; have h4 := hSw.1.cell 4; have h5 := hSw.1.cell 5; have h6 := hSw.1.cell 6; have h7 := hSw.1.cell 7; have f0 := hSw.2.cell 0; have f1 := hSw.2.cell 1; have f2 := hSw.2.cell 2; have f3 := hSw.2.cell 3; have f4 := hSw.2.cell 4; have f5 := hSw.2.cell 5; have f6 := hSw.2.cell 6; have f7 := hSw.2.cell 7; go_simp; (try with_reducible rfl)
      (try simp only [Act.put, List.getElem_toArray, List.getElem_cons_zero, List.getElem_cons_succ, List.setIfInBounds_toArray, List.set_cons_zero, List.set_cons_succ])
      refine wpAnyF_take (i := 28) (v := ?_) (by kernel_rfl) (by kernel_rfl) rfl (by kernel_rfl) (by kernel_rfl) (by kernel_rfl) (fun _ _ _ h => h) (Or.inl ⟨by rfl, ?_⟩) (by assumption) ?_
      rotate_left
      · intro w' hSw; (try dsimp only at hSw); have h0 := hSw.1.cell 0; have h1 := hSw.1.cell 1; have h2 := hSw.1.cell 2; have h3 := hSw.1.cell 3; have h4 := hSw.1.cell 4; have h5 := hSw.1.cell 5; have h6 := hSw.1.cell 6; have h7 := hSw.1.cell 7; have f0 := hSw.2.cell 0; have f1 := hSw.2.cell 1; have f2 := hSw.2.cell 2; have f3 := hSw.2.cell 3; have f4 := hSw.2.cell 4; have f5 := hSw.2.cell 5; have f6 := hSw.2.cell 6; have f7 := hSw.2.cell 7; go_simp; (try with_reducible rfl)
      (try simp only [Act.put, List.getElem_toArray, List.getElem_cons_zero, List.getElem_cons_succ, List.setIfInBounds_toArray, List.set_cons_zero, List.set_cons_succ])
      refine wpAnyF_take (i := 29) (v := ?_) (by kernel_rfl) (by kernel_rfl) rfl (by kernel_rfl) (by kernel_rfl) (by kernel_rfl) (fun _ _ _ h => h) (Or.inl ⟨by rfl, ?_⟩) (by assumption) ?_
      rotate_left
      · intro w' hSw; (try dsimp only at hSw); have h0 := hSw.1.cell 0; have h1 := hSw.1.cell 1; have h2 := hSw.1.cell 2; have h3 := hSw.1.cell 3; have h4 := hSw.1.cell 4; have h5 := hSw.1.cell 5; have h6 := hSw.1.cell 6; have h7 := hSw.1.cell 7; have f0 := hSw.2.cell 0; have f1 := hSw.2.cell 1; have f2 := hSw.2.cell 2; have f3 := hSw.2.cell 3; have f4 := hSw.2.cell 4; have f5 := hSw.2.cell 5; have f6 := hSw.2.cell 6; have f7 := hSw.2.cell 7; go_simp; (try with_reducible rfl)
      (try simp only [Act.put, List.getElem_toArray, List.getElem_cons_zero, List.getElem_cons_succ, List.setIfInBounds_toArray, List.set_cons_zero, List.set_cons_succ])
      refine wpAnyF_take (i := 30) (v := ?_) (by kernel_rfl) (by kernel_rfl) rfl (by kernel_rfl) (by kernel_rfl) (by kernel_rfl) (fun _ _ _ h => h) (Or.inl ⟨by rfl, ?_⟩) (by assumption) ?_
      rotate_left
      · intro w' hSw; (try dsimp only at hSw); have h0 := hSw.1.cell 0; have h1 := hSw.1.cell 1; have h2 := hSw.1.cell 2; have h3 := hSw.1.cell 3; have h4 := hSw.1.cell 4; have h5 := hSw.1.cell 5; have h6 := hSw.1.cell 6; have h7 := hSw.1.cell 7; have f0 := hSw.2.cell 0; have f1 := hSw.2.cell 1; have f2 := hSw.2.cell 2; have f3 := hSw.2.cell 3; have f4 := hSw.2.cell 4; have f5 := hSw.2.cell 5; have f6 := hSw.2.cell 6; have f7 := hSw.2.cell 7; go_simp; (try with_reducible rfl)
      (try simp only [Act.put, List.getElem_toArray, List.getElem_cons_zero, List.getElem_cons_succ, List.setIfInBounds_toArray, List.set_cons_zero, List.set_cons_succ])
      refine wpAnyF_take (i := 31) (v := ?_) (by kernel_rfl) (by kernel_rfl) rfl (by kernel_rfl) (by kernel_rfl) (by kernel_rfl) (fun _ _ _ h => h) (Or.inl ⟨by rfl, ?_⟩) (by assumption) ?_
      rotate_left
      · intro w' hSw; (try dsimp only at hSw); have h0 := hSw.1.cell 0; have h1 := hSw.1.cell 1; have h2 := hSw.1.cell 2; have h3 := hSw.1.cell 3; have h4 := hSw.1.cell 4; have h5 := hSw.1.cell 5; have h6 := hSw.1.cell 6; have h7 := hSw.1.cell 7; have f0 := hSw.2.cell 0; have f1 := hSw.2.cell 1; have f2 := hSw.2.cell 2; have f3 := hSw.2.cell 3; have f4 := hSw.2.cell 4; have f5 := hSw.2.cell 5; have f6 := hSw.2.cell 6; have f7 := hSw.2.cell 7; go_simp; (try with_reducible rfl)
      (try simp only [Act.put, List.getElem_toArray, List.getElem_cons_zero, List.getElem_cons_succ, List.setIfInBounds_toArray, List.set_cons_zero, List.set_cons_succ])
      refine wpAnyF_take (i := 32) (v := undef) (by kernel_rfl) (by kernel_rfl) rfl (by kernel_rfl) (by kernel_rfl) (by kernel_rfl) (fun _ _ _ h => h) (Or.inr ⟨by rfl, rfl⟩) (by assumption) ?_
      (try simp only [Act.put, List.getElem_toArray, List.getElem_cons_zero, List.getElem_cons_succ, List.setIfInBounds_toArray, List.set_cons_zero, List.set_cons_succ])
      refine wpAnyF_take (i := 33) (v := undef) (by kernel_rfl) (by kernel_rfl) rfl (by kernel_rfl) (by kernel_rfl) (by kernel_rfl) (fun _ _ _ h => h) (Or.inr ⟨by rfl, rfl⟩) (by assumption) ?_
      (try simp only [Act.put, List.getElem_toArray, List.getElem_cons_zero, List.getElem_cons_succ, List.setIfInBounds_toArray, List.set_cons_zero, List.set_cons_succ])
      refine wpAnyF_take (i := 34) (v := undef) (by kernel_rfl) (by kernel_rfl) rfl (by kernel_rfl) (by kernel_rfl) (by kernel_rfl) (fun _ _ _ h => h) (Or.inr ⟨by rfl, rfl⟩) (by assumption) ?_
      (try simp only [Act.put, List.getElem_toArray, List.getElem_cons_zero, List.getElem_cons_succ, List.setIfInBounds_toArray, List.set_cons_zero, List.set_cons_succ])
      refine wpAnyF_take (i := 35) (v := undef) (by kernel_rfl) (by kernel_rfl) rfl (by kernel_rfl) (by kernel_rfl) (by kernel_rfl) (fun _ _ _ h => h) (Or.inr ⟨by rfl, rfl⟩) (by assumption) ?_
      (try simp only [Act.put, List.getElem_toArray, List.getElem_cons_zero, List.getElem_cons_succ, List.setIfInBounds_toArray, List.set_cons_zero, List.set_cons_succ])
      refine wpAnyF_take (i := 36) (v := undef) (by kernel_rfl) (by kernel_rfl) rfl (by kernel_rfl) (by kernel_rfl) (by kernel_rfl) (fun _ _ _ h => h) (Or.inr ⟨by rfl, rfl⟩) (by assumption) ?_
      (try simp only [Act.put, List.getElem_toArray, List.getElem_cons_zero, List.getElem_cons_succ, List.setIfInBounds_toArray, List.set_cons_zero, List.set_cons_succ])
      refine wpAnyF_take (i := 37) (v := undef) (by kernel_rfl) (by kernel_rfl) rfl (by kernel_rfl) (by kernel_rfl) (by kernel_rfl) (fun _ _ _ h => h) (Or.inr ⟨by rfl, rfl⟩) (by assumption) ?_
      (try simp only [Act.put, List.getElem_toArray, List.getElem_cons_zero, List.getElem_cons_succ, List.setIfInBounds_toArray, List.set_cons_zero, List.set_cons_succ])
      refine wpAnyF_take (i := 38) (v := ?_) (by kernel_rfl) (by kernel_rfl) rfl (by kernel_rfl) (by kernel_rfl) (by kernel_rfl) (fun _ _ _ h => h) (Or.inl ⟨by rfl, ?_⟩) (by assumption) ?_
      rotate_left
      · intro w' hSw; (try dsimp only at hSw); have h0 := hSw.1.cell 0; have h1 := hSw.1.cell 1; have h2 := hSw.1.cell 2; have h3 := hSw.1.cell 3; have h4 := hSw.1.cell 4; have h5 := hSw.1.cell 5; have h6 := hSw.1.cell 6; have h7 := hSw.1.cell 7; have f0 := hSw.2.cell 0; have f1 := hSw.2.cell 1; have f2 := hSw.2.cell 2; have f3 := hSw.2.cell 3; have f4 := hSw.2.cell 4; have f5 := hSw.2.cell 5; have f6 := hSw.2.cell 6; have f7 := hSw.2.cell 7; go_simp; (try with_reducible rfl)
      (try simp only [Act.put, List.getElem_toArray, List.getElem_cons_zero, List.getElem_cons_succ, List.setIfInBounds_toArray, List.set_cons_zero, List.set_cons_succ])
      refine wpAnyF_take (i := 39) (v := ?_) (by kernel_rfl) (by kernel_rfl) rfl (by kernel_rfl) (by kernel_rfl) (by kernel_rfl) (fun _ _ _ h => h) (Or.inl ⟨by rfl, ?_⟩) (by assumption) ?_
      rotate_left
      · intro w' hSw; (try dsimp only at hSw); have h0 := hSw.1.cell 0; have h1 := hSw.1.cell 1; have h2 := hSw.1.cell 2; have h3 := hSw.1.cell 3; have h4 := hSw.1.cell 4; have h5 := hSw.1.cell 5; have h6 := hSw.1.cell 6; have h7 := hSw.1.cell 7; have f0 := hSw.2.cell 0; have f1 := hSw.2.cell 1; have f2 := hSw.2.cell 2; have f3 := hSw.2.cell 3; have f4 := hSw.2.cell 4; have f5 := hSw.2.cell 5; have f6 := hSw.2.cell 6; have f7 := hSw.2.cell 7; go_simp; (try with_reducible rfl)
      (try simp only [Act.put, List.getElem_toArray, List.getElem_cons_zero, List.getElem_cons_succ, List.setIfInBounds_toArray, List.set_cons_zero, List.set_cons_succ])
      refine wpAnyF_take (i := 40) (v := ?_) (by kernel_rfl) (by kernel_rfl) rfl (by kernel_rfl) (by kernel_rfl) (by kernel_rfl) (fun _ _ _ h => h) (Or.inl ⟨by rfl, ?_⟩) (by assumption) ?_
      rotate_left
      · intro w' hSw; (try dsimp only at hSw); have h0 := hSw.1.cell 0; have h1 := hSw.1.cell 1; have h2 := hSw.1.cell 2; have h3 := hSw.1.cell 3; have h4 := hSw.1.cell 4; have h5 := hSw.1.cell 5; have h6 := hSw.1.cell 6; have h7 := hSw.1.cell 7; have f0 := hSw.2.cell 0; have f1 := hSw.2.cell 1; have f2 := hSw.2.cell 2; have f3 := hSw.2.cell 3; have f4 := hSw.2.cell 4; have f5 := hSw.2.cell 5; have f6 := hSw.2.cell 6; have f7 := hSw.2.cell 7; go_simp; (try with_reducible rfl)
      (try simp only [Act.put, List.getElem_toArray, List.getElem_cons_zero, List.getElem_cons_succ, List.setIfInBounds_toArray, List.set_cons_zero, List.set_cons_succ])
      refine wpAnyF_take (i := 41) (v := ?_) (by kernel_rfl) (by kernel_rfl) rfl (by kernel_rfl) (by kernel_rfl) (by kernel_rfl) (fun _ _ _ h => h) (Or.inl ⟨by rfl, ?_⟩) (by assumption) ?_
      rotate_left
      · intro w' hSw; (try dsimp only at hSw); have h0 := hSw.1.cell 0; have h1 := hSw.1.cell 1; have h2 := hSw.1.cell 2; have h3 := hSw.1.cell 3; have h4 := hSw.1.cell 4; have h5 := hSw.1.cell 5; have h6 := hSw.1.cell 6; have h7 := hSw.1.cell 7; have f0 := hSw.2.cell 0; have f1 := hSw.2.cell 1; have f2 := hSw.2.cell 2; have f3 := hSw.2.cell 3; have f4 := hSw.2.cell 4; have f5 := hSw.2.cell 5; have f6 := hSw.2.cell 6; have f7 := hSw.2.cell 7; go_simp; (try with_reducible rfl)
      (try simp only [Act.put, List.getElem_toArray, List.getElem_cons_zero, List.getElem_cons_succ, List.setIfInBounds_toArray, List.set_cons_zero, List.set_cons_succ])
      refine wpAnyF_take (i := 42) (v := ?_) (by kernel_rfl) (by kernel_rfl) rfl (by kernel_rfl) (by kernel_rfl) (by kernel_rfl) (fun _ _ _ h => h) (Or.inl ⟨by rfl, ?_⟩) (by assumption) ?_
      rotate_left
      · intro w' hSw; (try dsimp only at hSw); have h0 := hSw.1.cell 0; have h1 := hSw.1.cell 1; have h2 := hSw.1.cell 2; have h3 := hSw.1.cell 3; have h4 := hSw.1.cell 4; have h5 := hSw.1.cell 5; have h6 := hSw.1.cell 6; have h7 := hSw.1.cell 7; have f0 := hSw.2.cell 0; have f1 := hSw.2.cell 1; have f2 := hSw.2.cell 2; have f3 := hSw.2.cell 3; have f4 := hSw.2.cell 4; have f5 := hSw.2.cell 5; have f6 := hSw.2.cell 6; have f7 := hSw.2.cell 7; go_simp; (try with_reducible rfl)
      (try simp only [Act.put, List.getElem_toArray, List.getElem_cons_zero, List.getElem_cons_succ, List.setIfInBounds_toArray, List.set_cons_zero, List.set_cons_succ])
      refine wpAnyF_take (i := 43) (v := ?_) (by kernel_rfl) (by kernel_rfl) rfl (by kernel_rfl) (by kernel_rfl) (by kernel_rfl) (fun _ _ _ h => h) (Or.inl ⟨by rfl, ?_⟩) (by assumption) ?_
      rotate_left
      · intro w' hSw; (try dsimp only at hSw); have h0 := hSw.1.cell 0; have h1 := hSw.1.cell 1; have h2 := hSw.1.cell 2; have h3 := hSw.1.cell 3; have h4 := hSw.1.cell 4; have h5 := hSw.1.cell 5; have h6 := hSw.1.cell 6; have h7 := hSw.1.cell 7; have f0 := hSw.2.cell 0; have f1 := hSw.2.cell 1; have f2 := hSw.2.cell 2; have f3 := hSw.2.cell 3; have f4 := hSw.2.cell 4; have f5 := hSw.2.cell 5; have f6 := hSw.2.cell 6; have f7 := hSw.2.cell 7; go_simp; (try with_reducible rfl)
      (try simp only [Act.put, List.getElem_toArray, List.getElem_cons_zero, List.getElem_cons_succ, List.setIfInBounds_toArray, List.set_cons_zero, List.set_cons_succ])
      refine wpAnyF_take (i := 44) (v := ?_) (by kernel_rfl) (by kernel_rfl) rfl (by kernel_rfl) (by kernel_rfl) (by kernel_rfl) (fun _ _ _ h => h) (Or.inl ⟨by rfl, ?_⟩) (by assumption) ?_
      rotate_left
      · intro w' hSw; (try dsimp only at hSw); have h0 := hSw.1.cell 0; have h1 := hSw.1.cell 1; have h2 := hSw.1.cell 2; have h3 := hSw.1.cell 3; have h4 := hSw.1.cell 4; have h5 := hSw.1.cell 5; have h6 := hSw.1.cell 6; have h7 := hSw.1.cell 7; have f0 := hSw.2.cell 0; have f1 := hSw.2.cell 1; have f2 := hSw.2.cell 2; have f3 := hSw.2.cell 3; have f4 := hSw.2.cell 4; have f5 := hSw.2.cell 5; have f6 := hSw.2.cell 6; have f7 := hSw.2.cell 7; go_simp; (try with_reducible rfl)
      (try simp only [Act.put, List.getElem_toArray, List.getElem_cons_zero, List.getElem_cons_succ, List.setIfInBounds_toArray, List.set_cons_zero, List.set_cons_succ])
      refine wpAnyF_take (i := 45) (v := ?_) (by kernel_rfl) (by kernel_rfl) rfl (by kernel_rfl) (by kernel_rfl) (by kernel_rfl) (fun _ _ _ h => h) (Or.inl ⟨by rfl, ?_⟩) (by assumption) ?_
      rotate_left
      · intro w' hSw; (try dsimp only at hSw); have h0 := hSw.1.cell 0; have h1 := hSw.1.cell 1; have h2 := hSw.1.cell 2; have h3 := hSw.1.cell 3; have h4 := hSw.1.cell 4; have h5 := hSw.1.cell 5; have h6 := hSw.1.cell 6; have h7 := hSw.1.cell 7; have f0 := hSw.2.cell 0; have f1 := hSw.2.cell 1; have f2 := hSw.2.cell 2; have f3 := hSw.2.cell 3; have f4 := hSw.2.cell 4; have f5 := hSw.2.cell 5; have f6 := hSw.2.cell 6; have f7 := hSw.2.cell 7; go_simp; (try with_reducible rfl)
      (try simp only [Act.put, List.getElem_toArray, List.getElem_cons_zero, List.getElem_cons_succ, List.setIfInBounds_toArray, List.set_cons_zero, List.set_cons_succ])
      refine wpAnyF_take (i := 46) (v := ?_) (by kernel_rfl) (by kernel_rfl) rfl (by kernel_rfl) (by kernel_rfl) (by kernel_rfl) (fun _ _ _ h => h) (Or.inl ⟨by rfl, ?_⟩) (by assumption) ?_
      rotate_left
      · intro w' hSw; (try dsimp only at hSw); have h0 := hSw.1.cell 0; have h1 := hSw.1.cell 1; have h2 := hSw.1.cell 2; have h3 := hSw.1.cell 3; have h4 := hSw.1.cell 4; have h5 := hSw.1.cell 5; have h6 := hSw.1.cell 6; have h7 := hSw.1.cell 7; have f0 := hSw.2.cell 0; have f1 := hSw.2.cell 1; have f2 := hSw.2.cell 2; have f3 := hSw.2.cell 3; have f4 := hSw.2.cell 4; have f5 := hSw.2.cell 5; have f6 := hSw.2.cell 6; have f7 := hSw.2.cell 7; go_simp; (try with_reducible rfl)
      (try simp only [Act.put, List.getElem_toArray, List.getElem_cons_zero, List.getElem_cons_succ, List.setIfInBounds_toArray, List.set_cons_zero, List.set_cons_succ])
      refine wpAnyF_take (i := 47) (v := ?_) (by kernel_rfl) (by kernel_rfl) rfl (by kernel_rfl) (by kernel_rfl) (by kernel_rfl) (fun _ _ _ h => h) (Or.inl ⟨by rfl, ?_⟩) (by assumption) ?_
      rotate_left
      · intro w' hSw; (try dsimp only at hSw); have h0 := hSw.1.cell 0; have h1 := hSw.1.cell 1; have h2 := hSw.1.cell 2; have h3 := hSw.1.cell 3; have h4 := hSw.1.cell 4; have h5 := hSw.1.cell 5; have h6 := hSw.1.cell 6; have h7 := hSw.1.cell 7; have f0 := hSw.2.cell 0; have f1 := hSw.2.cell 1; have f2 := hSw.2.cell 2; have f3 := hSw.2.cell 3; have f4 := hSw.2.cell 4; have f5 := hSw.2.cell 5; have f6 := hSw.2.cell 6; have f7 := hSw.2.cell 7; go_simp; (try with_reducible rfl)
      (try simp only [Act.put, List.getElem_toArray, List.getElem_cons_zero, List.getElem_cons_succ, List.setIfInBounds_toArray, List.set_cons_zero, List.set_cons_succ])
      refine wpAnyF_take (i := 48) (v := ?_) (by kernel_rfl) (by kernel_rfl) rfl (by kernel_rfl) (by kernel_rfl) (by kernel_rfl) (fun _ _ _ h => h) (Or.inl ⟨by rfl, ?_⟩) (by assumption) ?_
      rotate_left
      · intro w' hSw; (try dsimp only at hSw); have h0 := hSw.1.cell 0; have h1 := hSw.1.cell 1; have h2 := hSw.1.cell 2; have h3 := hSw.1.cell 3; have h4 := hSw.1.cell 4; have h5 := hSw.1.cell 5; have h6 := hSw.1.cell 6; have h7 := hSw.1.cell 7; have f0 := hSw.2.cell 0; have f1 := hSw.2.cell 1; have f2 := hSw.2.cell 2; have f3 := hSw.2.cell 3; have f4 := hSw.2.cell 4; have f5 := hSw.2.cell 5; have f6 := hSw.2.cell 6; have f7 := hSw.2.cell 7; go_simp; (try with_reducible rfl)
      (try simp only [Act.put, List.getElem_toArray, List.getElem_cons_zero, List.getElem_cons_succ, List.setIfInBounds_toArray, List.set_cons_zero, List.set_cons_succ])
      refine wpAnyF_take (i := 49) (v := ?_) (by kernel_rfl) (by kernel_rfl) rfl (by kernel_rfl) (by kernel_rfl) (by kernel_rfl) (fun _ _ _ h => h) (Or.inl ⟨by rfl, ?_⟩) (by assumption) ?_
      rotate_left
      · intro w' hSw; (try dsimp only at hSw); have h0 := hSw.1.cell 0; have h1 := hSw.1.cell 1; have h2 := hSw.1.cell 2; have h3 := hSw.1.cell 3; have h4 := hSw.1.cell 4; have h5 := hSw.1.cell 5; have h6 := hSw.1.cell 6; have h7 := hSw.1.cell 7; have f0 := hSw.2.cell 0; have f1 := hSw.2.cell 1; have f2 := hSw.2.cell 2; have f3 := hSw.2.cell 3; have f4 := hSw.2.cell 4; have f5 := hSw.2.cell 5; have f6 := hSw.2.cell 6; have f7 := hSw.2.cell 7; go_simp; (try with_reducible rfl)
      (try simp only [Act.put, List.getElem_toArray, List.getElem_cons_zero, List.getElem_cons_succ, List.setIfInBounds_toArray, List.set_cons_zero, List.set_cons_succ])
      refine wpAnyF_done (by kernel_rfl) ?_ _
      refine NoPanic.normal ?_
      go_wp2
      go_ret
      exact ⟨rfl, B8d.out⟩
    · rw [hR] at HRU
      dsimp only at HRU
      obtain ⟨j, hj⟩ : ∃ j, 8 * ((i : Int) / 2) = j := ⟨_, rfl⟩
      have hj1 : (j != 255) = true := by
        have : j ≠ 255 := by omega
        simpa using this
      rw [hj] at HRU
      by_cases hig : (i : Int) % 2 = g
      · have hdv : dropV ⟨m, p0, p1, o0, o1, sp, r⟩ g = (⟨m, p0, p1, o0, o1, sp, put r i false⟩, true) := by unfold dropV; simp [hD, hR, hig, hDR]
        rw [hdv] at HDR
        rw [hig] at HRU
        dsimp only at HDR HRU
        have hiG : (i : Int) % 2 = 0 := by have := gO_int g; rw [hG] at this; omega
        have hwo : wd (put r i false) 1 = wd r 1 := by
          rw [show i = 2 * (i / 2) + 0 by omega]
          exact wd_put_other r (i / 2) 0 1 false (by decide) (by decide) (by decide)
        have HDH := hi (fun W => depth_any ⟨m, p0, p1, o0, o1, sp, put r i false⟩ W)
        have hrl := rungs_len r
        obtain ⟨q, hq⟩ : ∃ q, put r i false = q := ⟨_, rfl⟩
        rw [hq] at HDH HDR hlen hwo
        dsimp only at HDH HDE
        unfold Fc.v Fc.cs at HDH
        dsimp only at HDH
        rw [hwo] at HDH
        obtain ⟨n, hn⟩ : ∃ n, (rungs q).length = n := ⟨_, rfl⟩
        rw [hn] at HDH hlen
        rw [hlen] at HDE hrl
        have hwn : IntKind.i64.wrap (((n + 1 : Nat) : Int) - 1) = n := by rw [IntKind.wrap_i64]; omega
        have hwn2 : IntKind.i64.wrap ((n : Int) + 1 - 1) = n := by rw [IntKind.wrap_i64]; omega
        have hwn3 : IntKind.i64.wrap (n : Int) = n := by rw [IntKind.wrap_i64]; omega
        clear hR hD hdv hG hDR hj hiG hq hn hig hlen hri hi64
        go_enter Try.func7, Try.ntmps7
        go_wp2_with (first
          | (go_at_call 9; ((with_reducible refine (awake_if _).mono ?_); rintro e w1 ⟨rfl, hb⟩; have F1 := hi (HF0.out.below hb); have C1 := hi (HC0.out.below hb); have B1 := hi (HB0.out.trans (hb.mono HB0.out.size)); have f0 := F1.out.cell 0; have f1 := F1.out.cell 1; have f2 := F1.out.cell 2; have f3 := F1.out.cell 3; have f4 := F1.out.cell 4; have f5 := F1.out.cell 5; have f6 := F1.out.cell 6; have f7 := F1.out.cell 7; have c2 := C1.out.cell 2; have cf := C1.out.frozen; have hcg := C1.out.below (bal w1 (.cells #[.int .i64 m, .int .i64 p0, .int .i64 p1, .bool false, .bool o1, .bool sp, .int .u32 (wd r 0), .int .u32 (wd r 1)] 29)); have e2 := hcg.cell 2; have ef := hcg.frozen; have hl := C1.out.lt; have W1 := hi (show ∃ W, (w1.alloc (.cells #[.int .i64 m, .int .i64 p0, .int .i64 p1, .bool false, .bool o1, .bool sp, .int .u32 (wd r 0), .int .u32 (wd r 1)] 29)).setCell ⟨w.heap.size + 1, 2, none⟩ (.int .i64 g) = W ∧ CB W w.heap.size 29 #[.int .i64 m, .int .i64 p0, .int .i64 p1, .bool o0, .bool o1, .bool sp, .int .u32 (wd r 0), .int .u32 (wd r 1)] ∧ CB W (w.heap.size + 1) 39 #[.int .i64 ci, .int .i64 cp, .int .i64 g, .bool cis] ∧ CB W w1.heap.size 29 #[.int .i64 m, .int .i64 p0, .int .i64 p1, .bool false, .bool o1, .bool sp, .int .u32 (wd r 0), .int .u32 (wd r 1)] ∧ Below w.heap.size w W ∧ W.heap.size = w1.heap.size + 1 from ⟨_, rfl, (F1.out.below (bal w1 _)).other _ _ _ (by omega), by simpa using hcg.set 2 (.int .i64 g), (CB.new w1 29 #[.int .i64 m, .int .i64 p0, .int .i64 p1, .bool false, .bool o1, .bool sp, .int .u32 (wd r 0), .int .u32 (wd r 1)]).other _ _ _ (by omega), below_set (B1.out.trans ((bal w1 _).mono B1.out.size)) (show w.heap.size ≤ w.heap.size + 1 by omega) _, by simp⟩); have gg := ((CB.new w1 29 #[.int .i64 m, .int .i64 p0, .int .i64 p1, .bool false, .bool o1, .bool sp, .int .u32 (wd r 0), .int .u32 (wd r 1)]).other (w.heap.size + 1) 2 (.int .i64 g) (by omega)); have k0 := gg.cell 0; have k1 := gg.cell 1; have k2 := gg.cell 2; have k3 := gg.cell 3; have k4 := gg.cell 4; have k5 := gg.cell 5; have k6 := gg.cell 6; have k7 := gg.cell 7; have yc : CB ((w1.alloc (.cells #[.int .i64 m, .int .i64 p0, .int .i64 p1, .bool false, .bool o1, .bool sp, .int .u32 (wd r 0), .int .u32 (wd r 1)] 29)).setCell ⟨w.heap.size + 1, 2, none⟩ (.int .i64 g)) (w.heap.size + 1) 39 #[.int .i64 ci, .int .i64 cp, .int .i64 g, .bool cis] := (by simpa using hcg.set 2 (.int .i64 g)); have y0 := yc.cell 0; have y1 := yc.cell 1; have y2 := yc.cell 2; have y3 := yc.cell 3; have yf := yc.frozen; have yd := yc.below (bal _ (.cells #[.int .i64 m, .int .i64 p0, .int .i64 p1, .bool false, .bool o1, .bool sp, .int .u32 (wd r 0), .int .u32 (wd r 1)] 29)); have z0 := yd.cell 0; have z1 := yd.cell 1; have z2 := yd.cell 2; have z3 := yd.cell 3; have zf := yd.frozen; have LT := hi hl; clear hb hcg hl gg yc yd)))
        obtain ⟨W, hW, hF, hC, hG1, hB, hZ⟩ := W1.out
        rw [hW]
        have hw := bal W (.cells #[.int .i64 m, .int .i64 p0, .int .i64 p1, .bool false, .bool o1, .bool sp, .int .u32 (wd r 0), .int .u32 (wd r 1)] 29)
        have F2 := hi (hF.below hw)
        have C2 := hi (hC.below hw)
        have G2 := hi (hG1.below hw)
        have V2 := hi (show CB (W.alloc (.cells #[.int .i64 m, .int .i64 p0, .int .i64 p1, .bool false, .bool o1, .bool sp, .int .u32 (wd r 0), .int .u32 (wd r 1)] 29)) (w1.heap.size + 1) 29 #[.int .i64 m, .int .i64 p0, .int .i64 p1, .bool false, .bool o1, .bool sp, .int .u32 (wd r 0), .int .u32 (wd r 1)] from hZ ▸ CB.new W 29 #[.int .i64 m, .int .i64 p0, .int .i64 p1, .bool false, .bool o1, .bool sp, .int .u32 (wd r 0), .int .u32 (wd r 1)])
        have B2 := hi (hB.trans (hw.mono hB.size))
        have Z := hi hZ
        have d0 := C2.out.cell 0
        have d1 := C2.out.cell 1
        have d2 := C2.out.cell 2
        have d3 := C2.out.cell 3
        clear y0 y1 y2 y3 yf z0 z1 z2 z3 zf
        clear hW hF hC hG1 hB hZ hw W1 k0 k1 k2 k3 k4 k5 k6 k7 e2 ef f0 f1 f2 f3 f4 f5 f6 f7 c2 cf
        go_wp2_with (first
          | (go_at_call 26; ((with_reducible refine (HT.out _ _ G2.out).mono ?_); rintro e w3 ⟨rfl, hA⟩; have G3 := hi hA.bx; have F3 := hi (F2.out.keptB hA.kept (by have := LT.out; omega)); have C3 := hi (C2.out.keptB hA.kept (by have := LT.out; omega)); have V3 := hi (V2.out.keptB hA.kept (by omega)); have B3 := hi (B2.out.trans (hA.kept.toBelow B2.out.size (fun i z => by subst z; have := LT.out; omega))); have k0 := G3.out.cell 0; have k1 := G3.out.cell 1; have k2 := G3.out.cell 2; have k3 := G3.out.cell 3; have k4 := G3.out.cell 4; have k5 := G3.out.cell 5; have k6 := G3.out.cell 6; have k7 := G3.out.cell 7; have n0 := V3.out.cell 0; have n1 := V3.out.cell 1; have n2 := V3.out.cell 2; have n3 := V3.out.cell 3; have n4 := V3.out.cell 4; have n5 := V3.out.cell 5; have n6 := V3.out.cell 6; have n7 := V3.out.cell 7; have d0 := C3.out.cell 0; have d1 := C3.out.cell 1; have d2 := C3.out.cell 2; have d3 := C3.out.cell 3; clear hA))
          | (go_at_call 17; ((with_reducible refine (HS.out _).mono ?_); rintro e w4 ⟨rfl, hb⟩; have G4 := hi (G3.out.below hb); have F4 := hi (F3.out.below hb); have C4 := hi (C3.out.below hb); have B4 := hi (B3.out.trans (hb.mono B3.out.size)); have k0 := G4.out.cell 0; have k1 := G4.out.cell 1; have k2 := G4.out.cell 2; have k3 := G4.out.cell 3; have k4 := G4.out.cell 4; have k5 := G4.out.cell 5; have k6 := G4.out.cell 6; have k7 := G4.out.cell 7; have d0 := C4.out.cell 0; have d1 := C4.out.cell 1; have d2 := C4.out.cell 2; have d3 := C4.out.cell 3; clear hb))
          | (go_at_call 15; ((with_reducible refine (HM.out _).mono ?_); rintro e w5 ⟨rfl, hb⟩; have hc := bal w5 (.cells #[.int .i64 m, .int .i64 p0, .int .i64 p1, .bool o0, .bool o1, .bool sp, .int .u32 (wd r 0), .int .u32 (wd r 1)] 29); have F5 := hi (F4.out.below hb); have F6 := hi (F5.out.below hc); have H6 := hi (CB.new w5 29 #[.int .i64 m, .int .i64 p0, .int .i64 p1, .bool o0, .bool o1, .bool sp, .int .u32 (wd r 0), .int .u32 (wd r 1)]); have B6 := hi ((B4.out.trans (hb.mono B4.out.size)).trans (hc.mono (B4.out.trans (hb.mono B4.out.size)).size)); have L6 := hi (show w.heap.size < w5.heap.size from F5.out.lt); have f0 := F5.out.cell 0; have f1 := F5.out.cell 1; have f2 := F5.out.cell 2; have f3 := F5.out.cell 3; have f4 := F5.out.cell 4; have f5 := F5.out.cell 5; have f6 := F5.out.cell 6; have f7 := F5.out.cell 7; clear hb hc))
          | (go_at_call 29; ((with_reducible refine (HDR.out _ _ H6.out).mono ?_); rintro e w7 ⟨rfl, hA⟩; have H7 := hi (show CB w7 w5.heap.size 29 #[.int .i64 m, .int .i64 p0, .int .i64 p1, .bool o0, .bool o1, .bool sp, .int .u32 (wd q 0), .int .u32 (wd q 1)] from hA.bx); have F7 := hi (F6.out.keptB hA.kept (by have := L6.out; omega)); have B7 := hi (B6.out.trans (hA.kept.toBelow B6.out.size (fun i z => by subst z; have := L6.out; omega))); have f0 := F7.out.cell 0; have f1 := F7.out.cell 1; have f2 := F7.out.cell 2; have f3 := F7.out.cell 3; have f4 := F7.out.cell 4; have f5 := F7.out.cell 5; have f6 := F7.out.cell 6; have f7 := F7.out.cell 7; clear hA))
          | (go_at_call 28; ((with_reducible refine (HRU.out _).mono ?_); rintro e w8 ⟨rfl, hb⟩; have H8 := hi (H7.out.below hb); have F8 := hi (F7.out.below hb); have B8 := hi (B7.out.trans (hb.mono B7.out.size)); clear hb)))
        have B8d := hi (Below.drewN (m := 1) B8.out)
        refine wp_region_noPanic ?_
        refine wp_region_last_drew (S := (fun W' => CB W' w5.heap.size 29 #[.int .i64 m, .int .i64 p0, .int .i64 p1, .bool o0, .bool o1, .bool sp, .int .u32 (wd q 0), .int .u32 (wd q 1)] ∧ CB W' w.heap.size 29 #[.int .i64 m, .int .i64 p0, .int .i64 p1, .bool o0, .bool o1, .bool sp, .int .u32 (wd r 0), .int .u32 (wd r 1)])) [] (by kernel_rfl) ⟨H8.out.drew, F8.out.drew⟩ (fun hHeld => ?_)
        (try simp only [Array.replicate_succ, Array.replicate_zero, List.push_toArray, List.nil_append, List.cons_append])
        refine wpAnyF_take (i := 0) (v := ?_) (by kernel_rfl) (by kernel_rfl) rfl (by kernel_rfl) (by kernel_rfl) (by kernel_rfl) (fun _ _ _ h => h) (Or.inl ⟨by rfl, ?_⟩) (by assumption) ?_
        rotate_left
        · intro w' hSw; (try dsimp only at hSw); have h0 := hSw.1.cell 0; have h1 := hSw.1.cell 1; have h2 := hSw.1.cell 2; have h3 := hSw.1.cell 3; have h4 := hSw.1.cell 4; have h5 := hSw.1.cell 5; have h6 := hSw.1.cell 6; have h7 := hSw.1.cell 7; have f0 := hSw.2.cell 0; have f1 := hSw.2.cell 1; have f2 := hSw.2.cell 2; have f3 := hSw.2.cell 3; have f4 := hSw.2.cell 4; have f5 := hSw.2.cell 5; have f6 := hSw.2.cell 6; have f7 := hSw.2.cell 7; go_simp; (try with_reducible rfl)
        (try simp only [Act.put, List.getElem_toArray, List.getElem_cons_zero, List.setIfInBounds_toArray, List.set_cons_zero, List.set_cons_succ])
        refine wpAnyF_take (i := 1) (v := ?_) (by kernel_rfl) (by kernel_rfl) rfl (by kernel_rfl) (by kernel_rfl) (by kernel_rfl) (fun _ _ _ h => h) (Or.inl ⟨by rfl, ?_⟩) (by assumption) ?_
        rotate_left
        · intro w' hSw; (try dsimp only at hSw); have h0 := hSw.1.cell 0; have h1 := hSw.1.cell 1; have h2 := hSw.1.cell 2; have h3 := hSw.1.cell 3; have h4 := hSw.1.cell 4; have h5 := hSw.1.cell 5; have h6 := hSw.1.cell 6; have h7 := hSw.1.cell 7; have f0 := hSw.2.cell 0; have f1 := hSw.2.cell 1; have f2 := hSw.2.cell 2; have f3 := hSw.2.cell 3; have f4 := hSw.2.cell 4; have f5 := hSw.2.cell 5; have f6 := hSw.2.cell 6; have f7 := hSw.2.cell 7; go_simp; (try with_reducible rfl)
        (try simp only [Act.put, List.getElem_toArray, List.getElem_cons_zero, List.getElem_cons_succ, List.setIfInBounds_toArray, List.set_cons_zero, List.set_cons_succ])
        refine wpAnyF_take (i := 2) (v := ?_) (by kernel_rfl) (by kernel_rfl) rfl (by kernel_rfl) (by kernel_rfl) (by kernel_rfl) (fun _ _ _ h => h) (Or.inl ⟨by rfl, ?_⟩) (by assumption) ?_
        rotate_left
        · intro w' hSw; (try dsimp only at hSw); have h0 := hSw.1.cell 0; have h1 := hSw.1.cell 1; have h2 := hSw.1.cell 2; have h3 := hSw.1.cell 3; have h4 := hSw.1.cell 4; have h5 := hSw.1.cell 5; have h6 := hSw.1.cell 6; have h7 := hSw.1.cell 7; have f0 := hSw.2.cell 0; have f1 := hSw.2.cell 1; have f2 := hSw.2.cell 2; have f3 := hSw.2.cell 3; have f4 := hSw.2.cell 4; have f5 := hSw.2.cell 5; have f6 := hSw.2.cell 6; have f7 := hSw.2.cell 7; go_simp; (try with_reducible rfl)
        (try simp only [Act.put, List.getElem_toArray, List.getElem_cons_zero, List.getElem_cons_succ, List.setIfInBounds_toArray, List.set_cons_zero, List.set_cons_succ])
        refine wpAnyF_take (i := 3) (v := ?_) (by kernel_rfl) (by kernel_rfl) rfl (by kernel_rfl) (by kernel_rfl) (by kernel_rfl) (fun _ _ _ h => h) (Or.inl ⟨by rfl, ?_⟩) (by assumption) ?_
        rotate_left
        · intro w' hSw; (try dsimp only at hSw); have h0 := hSw.1.cell 0; have h1 := hSw.1.cell 1; have h2 := hSw.1.cell 2; have h3 := hSw.1.cell 3; have h4 := hSw.1.cell 4; have h5 := hSw.1.cell 5; have h6 := hSw.1.cell 6; have h7 := hSw.1.cell 7; have f0 := hSw.2.cell 0; have f1 := hSw.2.cell 1; have f2 := hSw.2.cell 2; have f3 := hSw.2.cell 3; have f4 := hSw.2.cell 4; have f5 := hSw.2.cell 5; have f6 := hSw.2.cell 6; have f7 := hSw.2.cell 7; go_simp; (try with_reducible rfl)
        (try simp only [Act.put, List.getElem_toArray, List.getElem_cons_zero, List.getElem_cons_succ, List.setIfInBounds_toArray, List.set_cons_zero, List.set_cons_succ])
        refine wpAnyF_take (i := 4) (v := ?_) (by kernel_rfl) (by kernel_rfl) rfl (by kernel_rfl) (by kernel_rfl) (by kernel_rfl) (fun _ _ _ h => h) (Or.inl ⟨by rfl, ?_⟩) (by assumption) ?_
        rotate_left
        · intro w' hSw; (try dsimp only at hSw); have h0 := hSw.1.cell 0; have h1 := hSw.1.cell 1; have h2 := hSw.1.cell 2; have h3 := hSw.1.cell 3; have h4 := hSw.1.cell 4; have h5 := hSw.1.cell 5; have h6 := hSw.1.cell 6; have h7 := hSw.1.cell 7; have f0 := hSw.2.cell 0; have f1 := hSw.2.cell 1; have f2 := hSw.2.cell 2; have f3 := hSw.2.cell 3; have f4 := hSw.2.cell 4; have f5 := hSw.2.cell 5; have f6 := hSw.2.cell 6; have f7 := hSw.2.cell 7; go_simp; (try with_reducible rfl)
        (try simp only [Act.put, List.getElem_toArray, List.getElem_cons_zero, List.getElem_cons_succ, List.setIfInBounds_toArray, List.set_cons_zero, List.set_cons_succ])
        refine wpAnyF_take (i := 5) (v := ?_) (by kernel_rfl) (by kernel_rfl) rfl (by kernel_rfl) (by kernel_rfl) (by kernel_rfl) (fun _ _ _ h => h) (Or.inl ⟨by rfl, ?_⟩) (by assumption) ?_
        rotate_left
        · intro w' hSw; (try dsimp only at hSw); have h0 := hSw.1.cell 0; have h1 := hSw.1.cell 1; have h2 := hSw.1.cell 2; have h3 := hSw.1.cell 3; have h4 := hSw.1.cell 4; have h5 := hSw.1.cell 5; have h6 := hSw.1.cell 6; have h7 := hSw.1.cell 7; have f0 := hSw.2.cell 0; have f1 := hSw.2.cell 1; have f2 := hSw.2.cell 2; have f3 := hSw.2.cell 3; have f4 := hSw.2.cell 4; have f5 := hSw.2.cell 5; have f6 := hSw.2.cell 6; have f7 := hSw.2.cell 7; go_simp; (try with_reducible rfl)
        (try simp only [Act.put, List.getElem_toArray, List.getElem_cons_zero, List.getElem_cons_succ, List.setIfInBounds_toArray, List.set_cons_zero, List.set_cons_succ])
        refine wpAnyF_take (i := 6) (v := ?_) (by kernel_rfl) (by kernel_rfl) rfl (by kernel_rfl) (by kernel_rfl) (by kernel_rfl) (fun _ _ _ h => h) (Or.inl ⟨by rfl, ?_⟩) (by assumption) ?_
        rotate_left
        · intro w' hSw; (try dsimp only at hSw); have h0 := hSw.1.cell 0; have h1 := hSw.1.cell 1; have h2 := hSw.1.cell 2; have h3 := hSw.1.cell 3; have h4 := hSw.1.cell 4; have h5 := hSw.1.cell 5; have h6 := hSw.1.cell 6; have h7 := hSw.1.cell 7; have f0 := hSw.2.cell 0; have f1 := hSw.2.cell 1; have f2 := hSw.2.cell 2; have f3 := hSw.2.cell 3; have f4 := hSw.2.cell 4; have f5 := hSw.2.cell 5; have f6 := hSw.2.cell 6; have f7 := hSw.2.cell 7; go_simp; (try with_reducible rfl)
        (try simp only [Act.put, List.getElem_toArray, List.getElem_cons_zero, List.getElem_cons_succ, List.setIfInBounds_toArray, List.set_cons_zero, List.set_cons_succ])
        refine wpAnyF_take (i := 7) (v := ?_) (by kernel_rfl) (by kernel_rfl) rfl (by kernel_rfl) (by kernel_rfl) (by kernel_rfl) (fun _ _ _ h => h) (Or.inl ⟨by rfl, ?_⟩) (by assumption) ?_
        rotate_left
        · intro w' hSw; (try dsimp only at hSw); have h0 := hSw.1.cell 0; have h1 := hSw.1.cell 1; have h2 := hSw.1.cell 2; have h3 := hSw.1.cell 3; have h4 := hSw.1.cell 4; have h5 := hSw.1.cell 5; have h6 := hSw.1.cell 6; have h7 := hSw.1.cell 7; have f0 := hSw.2.cell 0; have f1 := hSw.2.cell 1; have f2 := hSw.2.cell 2; have f3 := hSw.2.cell 3; have f4 := hSw.2.cell 4; have f5 := hSw.2.cell 5; have f6 := hSw.2.cell 6; have f7 := hSw.2.cell 7; go_simp; (try with_reducible rfl)
        (try simp only [Act.put, List.getElem_toArray, List.getElem_cons_zero, List.getElem_cons_succ, List.setIfInBounds_toArray, List.set_cons_zero, List.set_cons_succ])
        refine wpAnyF_take (i := 8) (v := ?_) (by kernel_rfl) (by kernel_rfl) rfl (by kernel_rfl) (by kernel_rfl) (by kernel_rfl) (fun _ _ _ h => h) (Or.inl ⟨by rfl, ?_⟩) (by assumption) ?_
        rotate_left
        · intro w' hSw; (try dsimp only at hSw); have h0 := hSw.1.cell 0; have h1 := hSw.1.cell 1; have h2 := hSw.1.cell 2; have h3 := hSw.1.cell 3; have h4 := hSw.1.cell 4; have h5 := hSw.1.cell 5; have h6 := hSw.1.cell 6; have h7 := hSw.1.cell 7; have f0 := hSw.2.cell 0; have f1 := hSw.2.cell 1; have f2 := hSw.2.cell 2; have f3 := hSw.2.cell 3; have f4 := hSw.2.cell 4; have f5 := hSw.2.cell 5; have f6 := hSw.2.cell 6; have f7 := hSw.2.cell 7; go_simp; (try with_reducible rfl)
        (try simp only [Act.put, List.getElem_toArray, List.getElem_cons_zero, List.getElem_cons_succ, List.setIfInBounds_toArray, List.set_cons_zero, List.set_cons_succ])
        refine wpAnyF_take (i := 9) (v := ?_) (by kernel_rfl) (by kernel_rfl) rfl (by kernel_rfl) (by kernel_rfl) (by kernel_rfl) (fun _ _ _ h => h) (Or.inl ⟨by rfl, ?_⟩) (by assumption) ?_
        rotate_left
        · intro w' hSw; (try dsimp only at hSw); have h0 := hSw.1.cell 0; have h1 := hSw.1.cell 1; have h2 := hSw.1.cell 2; have h3 := hSw.1.cell 3; have h4 := hSw.1.cell 4; have h5 := hSw.1.cell 5; have h6 := hSw.1.cell 6; have h7 := hSw.1.cell 7; have f0 := hSw.2.cell 0; have f1 := hSw.2.cell 1; have f2 := hSw.2.cell 2; have f3 := hSw.2.cell 3; have f4 := hSw.2.cell 4; have f5 := hSw.2.cell 5; have f6 := hSw.2.cell 6; have f7 := hSw.2.cell 7; go_simp; (try with_reducible rfl)
        (try simp only [Act.put, List.getElem_toArray, List.getElem_cons_zero, List.getElem_cons_succ, List.setIfInBounds_toArray, List.set_cons_zero, List.set_cons_succ])
        refine wpAnyF_take (i := 10) (v := ?_) (by kernel_rfl) (by kernel_rfl) rfl (by kernel_rfl) (by kernel_rfl) (by kernel_rfl) (fun _ _ _ h => h) (Or.inl ⟨by rfl, ?_⟩) (by assumption) ?_
        rotate_left
        · intro w' hSw; (try dsimp only at hSw); have h0 := hSw.1.cell 0; have h1 := hSw.1.cell 1; have h2 := hSw.1.cell 2; have h3 := hSw.1.cell 3; have h4 := hSw.1.cell 4; have h5 := hSw.1.cell 5; have h6 := hSw.1.cell 6; have h7 := hSw.1.cell 7; have f0 := hSw.2.cell 0; have f1 := hSw.2.cell 1; have f2 := hSw.2.cell 2; have f3 := hSw.2.cell 3; have f4 := hSw.2.cell 4; have f5 := hSw.2.cell 5; have f6 := hSw.2.cell 6; have f7 := hSw.2.cell 7; go_simp; (try with_reducible rfl)
        (try simp only [Act.put, List.getElem_toArray, List.getElem_cons_zero, List.getElem_cons_succ, List.setIfInBounds_toArray, List.set_cons_zero, List.set_cons_succ])
        refine wpAnyF_take (i := 11) (v := ?_) (by kernel_rfl) (by kernel_rfl) rfl (by kernel_rfl) (by kernel_rfl) (by kernel_rfl) (fun _ _ _ h => h) (Or.inl ⟨by rfl, ?_⟩) (by assumption) ?_
        rotate_left
        · intro w' hSw; (try dsimp only at hSw); have h0 := hSw.1.cell 0; have h1 := hSw.1.cell 1; have h2 := hSw.1.cell 2; have h3 := hSw.1.cell 3; have h4 := hSw.1.cell 4; have h5 := hSw.1.cell 5; have h6 := hSw.1.cell 6; have h7 := hSw.1.cell 7; have f0 := hSw.2.cell 0; have f1 := hSw.2.cell 1; have f2 := hSw.2.cell 2; have f3 := hSw.2.cell 3; have f4 := hSw.2.cell 4; have f5 := hSw.2.cell 5; have f6 := hSw.2.cell 6; have f7 := hSw.2.cell 7; go_simp; (try with_reducible rfl)
        (try simp only [Act.put, List.getElem_toArray, List.getElem_cons_zero, List.getElem_cons_succ, List.setIfInBounds_toArray, List.set_cons_zero, List.set_cons_succ])
        refine wpAnyF_take (i := 12) (v := ?_) (by kernel_rfl) (by kernel_rfl) rfl (by kernel_rfl) (by kernel_rfl) (by kernel_rfl) (fun _ _ _ h => h) (Or.inl ⟨by rfl, ?_⟩) (by assumption) ?_
        rotate_left
        · intro w' hSw; (try dsimp only at hSw); have h0 := hSw.1.cell 0; have h1 := hSw.1.cell 1; have h2 := hSw.1.cell 2; have h3 := hSw.1.cell 3; have h4 := hSw.1.cell 4; have h5 := hSw.1.cell 5; have h6 := hSw.1.cell 6; have h7 := hSw.1.cell 7; have f0 := hSw.2.cell 0; have f1 := hSw.2.cell 1; have f2 := hSw.2.cell 2; have f3 := hSw.2.cell 3; have f4 := hSw.2.cell 4; have f5 := hSw.2.cell 5; have f6 := hSw.2.cell 6; have f7 := hSw.2.cell 7; go_simp; (try with_reducible rfl)
        (try simp only [Act.put, List.getElem_toArray, List.getElem_cons_zero, List.getElem_cons_succ, List.setIfInBounds_toArray, List.set_cons_zero, List.set_cons_succ])
        refine wpAnyF_take (i := 13) (v := ?_) (by kernel_rfl) (by kernel_rfl) rfl (by kernel_rfl) (by kernel_rfl) (by kernel_rfl) (fun _ _ _ h => h) (Or.inl ⟨by rfl, ?_⟩) (by assumption) ?_
        rotate_left
        · intro w' hSw; (try dsimp only at hSw); have h0 := hSw.1.cell 0; have h1 := hSw.1.cell 1; have h2 := hSw.1.cell 2; have h3 := hSw.1.cell 3; have h4 := hSw.1.cell 4; have h5 := hSw.1.cell 5; have h6 := hSw.1.cell 6; have h7 := hSw.1.cell 7; have f0 := hSw.2.cell 0; have f1 := hSw.2.cell 1; have f2 := hSw.2.cell 2; have f3 := hSw.2.cell 3; have f4 := hSw.2.cell 4; have f5 := hSw.2.cell 5; have f6 := hSw.2.cell 6; have f7 := hSw.2.cell 7; go_simp; (try with_reducible rfl)
        (try simp only [Act.put, List.getElem_toArray, List.getElem_cons_zero, List.getElem_cons_succ, List.setIfInBounds_toArray, List.set_cons_zero, List.set_cons_succ])
        refine wpAnyF_take (i := 14) (v := ?_) (by kernel_rfl) (by kernel_rfl) rfl (by kernel_rfl) (by kernel_rfl) (by kernel_rfl) (fun _ _ _ h => h) (Or.inl ⟨by rfl, ?_⟩) (by assumption) ?_
        rotate_left
        · intro w' hSw; (try dsimp only at hSw); have h0 := hSw.1.cell 0; have h1 := hSw.1.cell 1; have h2 := hSw.1.cell 2; have h3 := hSw.1.cell 3; have h4 := hSw.1.cell 4; have h5 := hSw.1.cell 5; have h6 := hSw.1.cell 6; have h7 := hSw.1.cell 7; have f0 := hSw.2.cell 0; have f1 := hSw.2.cell 1; have f2 := hSw.2.cell 2; have f3 := hSw.2.cell 3; have f4 := hSw.2.cell 4; have f5 := hSw.2.cell 5; have f6 := hSw.2.cell 6; have f7 := hSw.2.cell 7; go_simp; (try with_reducible rfl)
        (try simp only [Act.put, List.getElem_toArray, List.getElem_cons_zero, List.getElem_cons_succ, List.setIfInBounds_toArray, List.set_cons_zero, List.set_cons_succ])
        refine wpAnyF_take (i := 15) (v := ?_) (by kernel_rfl) (by kernel_rfl) rfl (by kernel_rfl) (by kernel_rfl) (by kernel_rfl) (fun _ _ _ h => h) (Or.inl ⟨by rfl, ?_⟩) (by assumption) ?_
        rotate_left
        · intro w' hSw; (try dsimp only at hSw); have h0 := hSw.1.cell 0; have h1 := hSw.1.cell 1; have h2 := hSw.1.cell 2; have h3 := hSw.1.cell 3; have h4 := hSw.1.cell 4; have h5 := hSw.1.cell 5; have h6 := hSw.1.cell 6; have h7 := hSw.1.cell 7; have f0 := hSw.2.cell 0; have f1 := hSw.2.cell 1; have f2 := hSw.2.cell 2; have f3 := hSw.2.cell 3; have f4 := hSw.2.cell 4; have f5 := hSw.2.cell 5; have f6 := hSw.2.cell 6; have f7 := hSw.2.cell 7; go_simp; (try with_reducible rfl)
        (try simp only [Act.put, List.getElem_toArray, List.getElem_cons_zero, List.getElem_cons_succ, List.setIfInBounds_toArray, List.set_cons_zero, List.set_cons_succ])
        refine wpAnyF_take (i := 16) (v := ?_) (by kernel_rfl) (by kernel_rfl) rfl (by kernel_rfl) (by kernel_rfl) (by kernel_rfl) (fun _ _ _ h => h) (Or.inl ⟨by rfl, ?_⟩) (by assumption) ?_
        rotate_left
        · intro w' hSw; (try dsimp only at hSw); have h0 := hSw.1.cell 0; have h1 := hSw.1.cell 1; have h2 := hSw.1.cell 2; have h3 := hSw.1.cell 3; have h4 := hSw.1.cell 4; have h5 := hSw.1.cell 5; have h6 := hSw.1.cell 6; have h7 := hSw.1.cell 7; have f0 := hSw.2.cell 0; have f1 := hSw.2.cell 1; have f2 := hSw.2.cell 2; have f3 := hSw.2.cell 3; have f4 := hSw.2.cell 4; have f5 := hSw.2.cell 5; have f6 := hSw.2.cell 6; have f7 := hSw.2.cell 7; go_simp; (try with_reducible rfl)
        (try simp only [Act.put, List.getElem_toArray, List.getElem_cons_zero, List.getElem_cons_succ, List.setIfInBounds_toArray, List.set_cons_zero, List.set_cons_succ])
        refine wpAnyF_take (i := 17) (v := ?_) (by kernel_rfl) (by kernel_rfl) rfl (by kernel_rfl) (by kernel_rfl) (by kernel_rfl) (fun _ _ _ h => h) (Or.inl ⟨by rfl, ?_⟩) (by assumption) ?_
        rotate_left
        · intro w' hSw; (try dsimp only at hSw); have h0 := hSw.1.cell 0; have h1 := hSw.1.cell 1; have h2 := hSw.1.cell 2; have h3 := hSw.1.cell 3; have h4 := hSw.1.cell 4; have h5 := hSw.1.cell 5; have h6 := hSw.1.cell 6; have h7 := hSw.1.cell 7; have f0 := hSw.2.cell 0; have f1 := hSw.2.cell 1; have f2 := hSw.2.cell 2; have f3 := hSw.2.cell 3; have f4 := hSw.2.cell 4; have f5 := hSw.2.cell 5; have f6 := hSw.2.cell 6; have f7 := hSw.2.cell 7; go_simp; (try with_reducible rfl)
        (try simp only [Act.put, List.getElem_toArray, List.getElem_cons_zero, List.getElem_cons_succ, List.setIfInBounds_toArray, List.set_cons_zero, List.set_cons_succ])
        refine wpAnyF_take (i := 18) (v := ?_) (by kernel_rfl) (by kernel_rfl) rfl (by kernel_rfl) (by kernel_rfl) (by kernel_rfl) (fun _ _ _ h => h) (Or.inl ⟨by rfl, ?_⟩) (by assumption) ?_
        rotate_left
        · intro w' hSw; (try dsimp only at hSw); have h0 := hSw.1.cell 0; have h1 := hSw.1.cell 1; have h2 := hSw.1.cell 2; have h3 := hSw.1.cell 3; have h4 := hSw.1.cell 4; have h5 := hSw.1.cell 5; have h6 := hSw.1.cell 6; have h7 := hSw.1.cell 7; have f0 := hSw.2.cell 0; have f1 := hSw.2.cell 1; have f2 := hSw.2.cell 2; have f3 := hSw.2.cell 3; have f4 := hSw.2.cell 4; have f5 := hSw.2.cell 5; have f6 := hSw.2.cell 6; have f7 := hSw.2.cell 7; go_simp; (try with_reducible rfl)
        (try simp only [Act.put, List.getElem_toArray, List.getElem_cons_zero, List.getElem_cons_succ, List.setIfInBounds_toArray, List.set_cons_zero, List.set_cons_succ])
        refine wpAnyF_take (i := 19) (v := ?_) (by kernel_rfl) (by kernel_rfl) rfl (by kernel_rfl) (by kernel_rfl) (by kernel_rfl) (fun _ _ _ h => h) (Or.inl ⟨by rfl, ?_⟩) (by assumption) ?_
        rotate_left
        · intro w' hSw; (try dsimp only at hSw); have h0 := hSw.1.cell 0; have h1 := hSw.1.cell 1; have h2 := hSw.1.cell 2; have h3 := hSw.1.cell 3; have h4 := hSw.1.cell 4; have h5 := hSw.1.cell 5; have h6 := hSw.1.cell 6; have h7 := hSw.1.cell 7; have f0 := hSw.2.cell 0; have f1 := hSw.2.cell 1; have f2 := hSw.2.cell 2; have f3 := hSw.2.cell 3; have f4 := hSw.2.cell 4; have f5 := hSw.2.cell 5; have f6 := hSw.2.cell 6; have f7 := hSw.2.cell 7; go_simp; (try with_reducible rfl)
        (try simp only [Act.put, List.getElem_toArray, List.getElem_cons_zero, List.getElem_cons_succ, List.setIfInBounds_toArray, List.set_cons_zero, List.set_cons_succ])
        refine wpAnyF_take (i := 20) (v := ?_) (by kernel_rfl) (by kernel_rfl) rfl (by kernel_rfl) (by kernel_rfl) (by kernel_rfl) (fun _ _ _ h => h) (Or.inl ⟨by rfl, ?_⟩) (by assumption) ?_
        rotate_left
        · intro w' hSw; (try dsimp only at hSw); have h0 := hSw.1.cell 0; have h1 := hSw.1.cell 1; have h2 := hSw.1.cell 2; have h3 := hSw.1.cell 3; have h4 := hSw.1.cell 4; have h5 := hSw.1.cell 5; have h6 := hSw.1.cell 6; have h7 := hSw.1.cell 7; have f0 := hSw.2.cell 0; have f1 := hSw.2.cell 1; have f2 := hSw.2.cell 2; have f3 := hSw.2.cell 3; have f4 := hSw.2.cell 4; have f5 := hSw.2.cell 5; have f6 := hSw.2.cell 6; have f7 := hSw.2.cell 7; go_simp; (try with_reducible rfl)
        (try simp only [Act.put, List.getElem_toArray, List.getElem_cons_zero, List.getElem_cons_succ, List.setIfInBounds_toArray, List.set_cons_zero, List.set_cons_succ])
        refine wpAnyF_take (i := 21) (v := ?_) (by kernel_rfl) (by kernel_rfl) rfl (by kernel_rfl) (by kernel_rfl) (by kernel_rfl) (fun _ _ _ h => h) (Or.inl ⟨by rfl, ?_⟩) (by assumption) ?_
        rotate_left
        · intro w' hSw; (try dsimp only at hSw); have h0 := hSw.1.cell 0; have h1 := hSw.1.cell 1; have h2 := hSw.1.cell 2; have h3 := hSw.1.cell 3; have h4 := hSw.1.cell 4; have h5 := hSw.1.cell 5; have h6 := hSw.1.cell 6; have h7 := hSw.1.cell 7; have f0 := hSw.2.cell 0; have f1 := hSw.2.cell 1; have f2 := hSw.2.cell 2; have f3 := hSw.2.cell 3; have f4 := hSw.2.cell 4; have f5 := hSw.2.cell 5; have f6 := hSw.2.cell 6; have f7 := hSw.2.cell 7; go_simp; (try with_reducible rfl)
        (try simp only [Act.put, List.getElem_toArray, List.getElem_cons_zero, List.getElem_cons_succ, List.setIfInBounds_toArray, List.set_cons_zero, List.set_cons_succ])
        refine wpAnyF_take (i := 22) (v := ?_) (by kernel_rfl) (by kernel_rfl) rfl (by kernel_rfl) (by kernel_rfl) (by kernel_rfl) (fun _ _ _ h => h) (Or.inl ⟨by rfl, ?_⟩) (by assumption) ?_
        rotate_left
        · intro w' hSw; (try dsimp only at hSw); have h0 := hSw.1.cell 0; have h1 := hSw.1.cell 1; have h2 := hSw.1.cell 2; have h3 := hSw.1.cell 3; have h4 := hSw.1.cell 4; have h5 := hSw.1.cell 5; have h6 := hSw.1.cell 6; have h7 := hSw.1.cell 7; have f0 := hSw.2.cell 0; have f1 := hSw.2.cell 1; have f2 := hSw.2.cell 2; have f3 := hSw.2.cell 3; have f4 := hSw.2.cell 4; have f5 := hSw.2.cell 5; have f6 := hSw.2.cell 6; have f7 := hSw.2.cell 7; go_simp; (try with_reducible rfl)
        (try simp only [Act.put, List.getElem_toArray, List.getElem_cons_zero, List.getElem_cons_succ, List.setIfInBounds_toArray, List.set_cons_zero, List.set_cons_succ])
        refine wpAnyF_take (i := 23) (v := ?_) (by kernel_rfl) (by kernel_rfl) rfl (by kernel_rfl) (by kernel_rfl) (by kernel_rfl) (fun _ _ _ h => h) (Or.inl ⟨by rfl, ?_⟩) (by assumption) ?_
        rotate_left
        · intro w' hSw; (try dsimp only at hSw); have h0 := hSw.1.cell 0; have h1 := hSw.1.cell 1; have h2 := hSw.1.cell 2; have h3 := hSw.1.cell 3; have h4 := hSw.1.cell 4; have h5 := hSw.1.cell 5; have h6 := hSw.1.cell 6; have h7 := hSw.1.cell 7; have f0 := hSw.2.cell 0; have f1 := hSw.2.cell 1; have f2 := hSw.2.cell 2; have f3 := hSw.2.cell 3; have f4 := hSw.2.cell 4; have f5 := hSw.2.cell 5; have f6 := hSw.2.cell 6; have f7 := hSw.2.cell 7; go_simp; (try with_reducible rfl)
        (try simp only [Act.put, List.getElem_toArray, List.getElem_cons_zero, List.getElem_cons_succ, List.setIfInBounds_toArray, List.set_cons_zero, List.set_cons_succ])
        refine wpAnyF_take (i := 24) (v := ?_) (by kernel_rfl) (by kernel_rfl) rfl (by kernel_rfl) (by kernel_rfl) (by kernel_rfl) (fun _ _ _ h => h) (Or.inl ⟨by rfl, ?_⟩) (by assumption) ?_
        rotate_left
        · intro w' hSw; (try dsimp only at hSw); have h0 := hSw.1.cell 0; have h1 := hSw.1.cell 1; have h2 := hSw.1.cell 2; have h3 := hSw.1.cell 3; have h4 := hSw.1.cell 4; have h5 := hSw.1.cell 5; have h6 := hSw.1.cell 6; have h7 := hSw.1.cell 7; have f0 := hSw.2.cell 0; have f1 := hSw.2.cell 1; have f2 := hSw.2.cell 2; have f3 := hSw.2.cell 3; have f4 := hSw.2.cell 4; have f5 := hSw.2.cell 5; have f6 := hSw.2.cell 6; have f7 := hSw.2.cell 7; go_simp; (try with_reducible rfl)
        (try simp only [Act.put, List.getElem_toArray, List.getElem_cons_zero, List.getElem_cons_succ, List.setIfInBounds_toArray, List.set_cons_zero, List.set_cons_succ])
        refine wpAnyF_take (i := 25) (v := ?_) (by kernel_rfl) (by kernel_rfl) rfl (by kernel_rfl) (by kernel_rfl) (by kernel_rfl) (fun _ _ _ h => h) (Or.inl ⟨by rfl, ?_⟩) (by assumption) ?_
        rotate_left
        · intro w' hSw; (try dsimp only at hSw); have h0 := hSw.1.cell 0; have h1 := hSw.1.cell 1; have h2 := hSw.1.cell 2; have h3 := hSw.1.cell 3; have h4 := hSw.1.cell 4; have h5 := hSw.1.cell 5; have h6 := hSw.1.cell 6; have h7 := hSw.1.cell 7; have f0 := hSw.2.cell 0; have f1 := hSw.2.cell 1; have f2 := hSw.2.cell 2; have f3 := hSw.2.cell 3; have f4 := hSw.2.cell 4; have f5 := hSw.2.cell 5; have f6 := hSw.2.cell 6; have f7 := hSw.2.cell 7; go_simp; (try with_reducible rfl)
        (try simp only [Act.put, List.getElem_toArray, List.getElem_cons_zero, List.getElem_cons_succ, List.setIfInBounds_toArray, List.set_cons_zero, List.set_cons_succ])
        refine wpAnyF_take (i := 26) (v := ?_) (by kernel_rfl) (by kernel_rfl) rfl (by kernel_rfl) (by kernel_rfl) (by kernel_rfl) (fun _ _ _ h => h) (Or.inl ⟨by rfl, ?_⟩) (by assumption) ?_
        rotate_left
        · intro w' hSw; (try dsimp only at hSw); have h0 := hSw.1.cell 0; have h1 := hSw.1.cell 1; have h2 := hSw.1.cell 2; have h3 := hSw.1.cell 3; have h4 := hSw.1.cell 4; have h5 := hSw.1.cell 5; have h6 := hSw.1.cell 6; have h7 := hSw.1.cell 7; have f0 := hSw.2.cell 0; have f1 := hSw.2.cell 1; have f2 := hSw.2.cell 2; have f3 := hSw.2.cell 3; have f4 := hSw.2.cell 4; have f5 := hSw.2.cell 5; have f6 := hSw.2.cell 6; have f7 := hSw.2.cell 7; go_simp; (try with_reducible rfl)
        (try simp only [Act.put, List.getElem_toArray, List.getElem_cons_zero, List.getElem_cons_succ, List.setIfInBounds_toArray, List.set_cons_zero, List.set_cons_succ])
        refine wpAnyF_take (i := 27) (v := ?_) (by kernel_rfl) (by kernel_rfl) rfl (by kernel_rfl) (by kernel_rfl) (by kernel_rfl) (fun _ _ _ h => h) (Or.inl ⟨by rfl, ?_⟩) (by assumption) ?_
        rotate_left
        · intro w' hSw; (try dsimp only at hSw); have h0 := hSw.1.cell 0; have h1 := hSw.1.cell 1; have h2 := hSw.1.cell 2; have h3 := hSw.1.cell 3; have h4 := hSw.1.cell 4; have h5 := hSw.1.cell 5; have h6 := hSw.1.cell 6; have h7 := hSw.1.cell 7; have f0 := hSw.2.cell 0; have f1 := hSw.2.cell 1; have f2 := hSw.2.cell 2; have f3 := hSw.2.cell 3; have f4 := hSw.2.cell 4; have f5 := hSw.2.cell 5; have f6 := hSw.2.cell 6; have f7 := hSw.2.cell 7; go_simp; (try with_reducible rfl)
        (try simp only [Act.put, List.getElem_toArray, List.getElem_cons_zero, List.getElem_cons_succ, List.setIfInBounds_toArray, List.set_cons_zero, List.set_cons_succ])
        refine wpAnyF_take (i := 28) (v := ?_) (by kernel_rfl) (by kernel_rfl) rfl (by kernel_rfl) (by kernel_rfl) (by kernel_rfl) (fun _ _ _ h => h) (Or.inl ⟨by rfl, ?_⟩) (by assumption) ?_
        rotate_left
        · intro w' hSw; (try dsimp only at hSw); have h0 := hSw.1.cell 0; have h1 := hSw.1.cell 1; have h2 := hSw.1.cell 2; have h3 := hSw.1.cell 3; have h4 := hSw.1.cell 4; have h5 := hSw.1.cell 5; have h6 := hSw.1.cell 6; have h7 := hSw.1.cell 7; have f0 := hSw.2.cell 0; have f1 := hSw.2.cell 1; have f2 := hSw.2.cell 2; have f3 := hSw.2.cell 3; have f4 := hSw.2.cell 4; have f5 := hSw.2.cell 5; have f6 := hSw.2.cell 6; have f7 := hSw.2.cell 7; go_simp; (try with_reducible rfl)
        (try simp only [Act.put, List.getElem_toArray, List.getElem_cons_zero, List.getElem_cons_succ, List.setIfInBounds_toArray, List.set_cons_zero, List.set_cons_succ])
        refine wpAnyF_take (i := 29) (v := ?_) (by kernel_rfl) (by kernel_rfl) rfl (by kernel_rfl) (by kernel_rfl) (by kernel_rfl) (fun _ _ _ h => h) (Or.inl ⟨by rfl, ?_⟩) (by assumption) ?_
        rotate_left
        · intro w' hSw; (try dsimp only at hSw); have h0 := hSw.1.cell 0; have h1 := hSw.1.cell 1; have h2 := hSw.1.cell 2; have h3 := hSw.1.cell 3; have h4 := hSw.1.cell 4; have h5 := hSw.1.cell 5; have h6 := hSw.1.cell 6; have h7 := hSw.1.cell 7; have f0 := hSw.2.cell 0; have f1 := hSw.2.cell 1; have f2 := hSw.2.cell 2; have f3 := hSw.2.cell 3; have f4 := hSw.2.cell 4; have f5 := hSw.2.cell 5; have f6 := hSw.2.cell 6; have f7 := hSw.2.cell 7; go_simp; (try with_reducible rfl)
        (try simp only [Act.put, List.getElem_toArray, List.getElem_cons_zero, List.getElem_cons_succ, List.setIfInBounds_toArray, List.set_cons_zero, List.set_cons_succ])
        refine wpAnyF_take (i := 30) (v := ?_) (by kernel_rfl) (by kernel_rfl) rfl (by kernel_rfl) (by kernel_rfl) (by kernel_rfl) (fun _ _ _ h => h) (Or.inl ⟨by rfl, ?_⟩) (by assumption) ?_
        rotate_left
        · intro w' hSw; (try dsimp only at hSw); have h0 := hSw.1.cell 0; have h1 := hSw.1.cell 1; have h2 := hSw.1.cell 2; have h3 := hSw.1.cell 3; have h4 := hSw.1.cell 4; have h5 := hSw.1.cell 5; have h6 := hSw.1.cell 6; have h7 := hSw.1.cell 7; have f0 := hSw.2.cell 0; have f1 := hSw.2.cell 1; have f2 := hSw.2.cell 2; have f3 := hSw.2.cell 3; have f4 := hSw.2.cell 4; have f5 := hSw.2.cell 5; have f6 := hSw.2.cell 6; have f7 := hSw.2.cell 7; go_simp; (try with_reducible rfl)
        (try simp only [Act.put, List.getElem_toArray, List.getElem_cons_zero, List.getElem_cons_succ, List.setIfInBounds_toArray, List.set_cons_zero, List.set_cons_succ])
        refine wpAnyF_take (i := 31) (v := ?_) (by kernel_rfl) (by kernel_rfl) rfl (by kernel_rfl) (by kernel_rfl) (by kernel_rfl) (fun _ _ _ h => h) (Or.inl ⟨by rfl, ?_⟩) (by assumption) ?_
        rotate_left
        · intro w' hSw; (try dsimp only at hSw); have h0 := hSw.1.cell 0; have h1 := hSw.1.cell 1; have h2 := hSw.1.cell 2; have h3 := hSw.1.cell 3; have h4 := hSw.1.cell 4; have h5 := hSw.1.cell 5; have h6 := hSw.1.cell 6; have h7 := hSw.1.cell 7; have f0 := hSw.2.cell 0; have f1 := hSw.2.cell 1; have f2 := hSw.2.cell 2; have f3 := hSw.2.cell 3; have f4 := hSw.2.cell 4; have f5 := hSw.2.cell 5; have f6 := hSw.2.cell 6; have f7 := hSw.2.cell 7; go_simp; (try with_reducible rfl)
        (try simp only [Act.put, List.getElem_toArray, List.getElem_cons_zero, List.getElem_cons_succ, List.setIfInBounds_toArray, List.set_cons_zero, List.set_cons_succ])
        refine wpAnyF_take (i := 32) (v := ?_) (by kernel_rfl) (by kernel_rfl) rfl (by kernel_rfl) (by kernel_rfl) (by kernel_rfl) (fun _ _ _ h => h) (Or.inl ⟨by rfl, ?_⟩) (by assumption) ?_
        rotate_left
        · intro w' hSw; (try dsimp only at hSw); have h0 := hSw.1.cell 0; have h1 := hSw.1.cell 1; have h2 := hSw.1.cell 2; have h3 := hSw.1.cell 3; have h4 := hSw.1.cell 4; have h5 := hSw.1.cell 5; have h6 := hSw.1.cell 6; have h7 := hSw.1.cell 7; have f0 := hSw.2.cell 0; have f1 := hSw.2.cell 1; have f2 := hSw.2.cell 2; have f3 := hSw.2.cell 3; have f4 := hSw.2.cell 4; have f5 := hSw.2.cell 5; have f6 := hSw.2.cell 6; have f7 := hSw.2.cell 7; go_simp; (try with_reducible rfl)
        (try simp only [Act.put, List.getElem_toArray, List.getElem_cons_zero, List.getElem_cons_succ, List.setIfInBounds_toArray, List.set_cons_zero, List.set_cons_succ])
        refine wpAnyF_take (i := 34) (v := ?_) (by kernel_rfl) (by kernel_rfl) rfl (by kernel_rfl) (by kernel_rfl) (by kernel_rfl) (fun _ _ _ h => h) (Or.inl ⟨by rfl, ?_⟩) (by assumption) ?_
        rotate_left
        · intro w' hSw; (try dsimp only at hSw); have h0 := hSw.1.cell 0; have h1 := hSw.1.cell 1; have h2 := hSw.1.cell 2; have h3 := hSw.1.cell 3; have h4 := hSw.1.cell 4; have h5 := hSw.1.cell 5; have h6 := hSw.1.cell 6; have h7 := hSw.1.cell 7; have f0 := hSw.2.cell 0; have f1 := hSw.2.cell 1; have f2 := hSw.2.cell 2; have f3 := hSw.2.cell 3; have f4 := hSw.2.cell 4; have f5 := hSw.2.cell 5; have f6 := hSw.2.cell 6; have f7 := hSw.2.cell 7; go_simp; (try with_reducible rfl)
        (try simp only [Act.put, List.getElem_toArray, List.getElem_cons_zero, List.getElem_cons_succ, List.setIfInBounds_toArray, List.set_cons_zero, List.set_cons_succ])
        refine wpAnyF_ready (rs := [33]) (by kernel_rfl) (by simp) ?_
        refine AllReadyF.cons rfl (fun KK hKK => ?_) AllReadyF.nil
        go_simp
        ((with_reducible refine (HDH.out _).mono ?_); rintro e' w9 ⟨rfl, hb⟩; have B9 := hi hb; have hSS := And.intro (hHeld.1.below hb) (hHeld.2.below hb); clear hb)
        (try go_simp)
        refine hKK.out _ _ hSS (fun hHeld => ?_)
        clear hKK KK
        (try simp only [Act.put, List.getElem_toArray, List.getElem_cons_zero, List.getElem_cons_succ, List.setIfInBounds_toArray, List.set_cons_zero, List.set_cons_succ])
        refine wpAnyF_ready (rs := [35]) (by kernel_rfl) (by simp) ?_
        refine AllReadyF.cons rfl (fun KK hKK => ?_) AllReadyF.nil
        go_simp
        ((with_reducible refine (HDE.out _).mono ?_); rintro e' w10 ⟨rfl, hb⟩; have B10 := hi hb; have hSS := And.intro (hHeld.1.below hb) (hHeld.2.below hb); clear hb)
        (try go_simp)
        refine hKK.out _ _ hSS (fun hHeld => ?_)
        clear hKK KK
        (try simp only [Act.put, List.getElem_toArray, List.getElem_cons_zero, List.getElem_cons_succ, List.setIfInBounds_toArray, List.set_cons_zero, List.set_cons_succ])
        refine wpAnyF_take (i := 36) (v := ?_) (by kernel_rfl) (by kernel_rfl) rfl (by kernel_rfl) (by kernel_rfl) (by kernel_rfl) (fun _ _ _ h => h) (Or.inl ⟨by rfl, ?_⟩) (by assumption) ?_
        rotate_left
        · intro w' hSw; (try dsimp only at hSw); have h0 := hSw.1.cell 0; have h1 := hSw.1.cell 1; have h2 := hSw.1.cell 2; have h3 := hSw.1.cell 3; have h4 := hSw.1.cell 4; have h5 := hSw.1.cell 5; have h6 := hSw.1.cell 6; have h7 := hSw.1.cell 7; have f0 := hSw.2.cell 0; have f1 := hSw.2.cell 1; have f2 := hSw.2.cell 2; have f3 := hSw.2.cell 3; have f4 := hSw.2.cell 4; have f5 := hSw.2.cell 5; have f6 := hSw.2.cell 6; have f7 := hSw.2.cell 7; go_simp; (try with_reducible rfl)
        (try simp only [Act.put, List.getElem_toArray, List.getElem_cons_zero, List.getElem_cons_succ, List.setIfInBounds_toArray, List.set_cons_zero, List.set_cons_succ])
        refine wpAnyF_take (i := 37) (v := ?_) (by kernel_rfl) (by kernel_rfl) rfl (by kernel_rfl) (by kernel_rfl) (by kernel_rfl) (fun _ _ _ h => h) (Or.inl ⟨by rfl, ?_⟩) (by assumption) ?_
        rotate_left
        · intro w' hSw; (try dsimp only at hSw); have h0 := hSw.1.cell 0; have h1 := hSw.1.cell 1; have h2 := hSw.1.cell 2; have h3 := hSw.1.cell 3; have h4 := hSw.1.cell 4; have h5 := hSw.1.cell 5; have h6 := hSw.1.cell 6; have h7 := hSw.1.cell 7; have f0 := hSw.2.cell 0; have f1 := hSw.2.cell 1; have f2 := hSw.2.cell 2; have f3 := hSw.2.cell 3; have f4 := hSw.2.cell 4; have f5 := hSw.2.cell 5; have f6 := hSw.2.cell 6; have f7 := hSw.2.cell 7; go_simp; (try with_reducible rfl)
        (try simp only [Act.put, List.getElem_toArray, List.getElem_cons_zero, List.getElem_cons_succ, List.setIfInBounds_toArray, List.set_cons_zero, List.set_cons_succ])
        refine wpAnyF_take (i := 38) (v := ?_) (by kernel_rfl) (by kernel_rfl) rfl (by kernel_rfl) (by kernel_rfl) (by kernel_rfl) (fun _ _ _ h => h) (Or.inl ⟨by rfl, ?_⟩) (by assumption) ?_
        rotate_left
        · intro w' hSw; (try dsimp only at hSw); have h0 := hSw.1.cell 0; have h1 := hSw.1.cell 1; have h2 := hSw.1.cell 2; have h3 := hSw.1.cell 3; have h4 := hSw.1.cell 4; have h5 := hSw.1.cell 5; have h6 := hSw.1.cell 6; have h7 := hSw.1.cell 7; have f0 := hSw.2.cell 0; have f1 := hSw.2.cell 1; have f2 := hSw.2.cell 2; have f3 := hSw.2.cell 3; have f4 := hSw.2.cell 4; have f5 := hSw.2.cell 5; have f6 := hSw.2.cell 6; have f7 := hSw.2.cell 7; go_simp; (try with_reducible rfl)
        (try simp only [Act.put, List.getElem_toArray, List.getElem_cons_zero, List.getElem_cons_succ, List.setIfInBounds_toArray, List.set_cons_zero, List.set_cons_succ])
        refine wpAnyF_take (i := 39) (v := ?_) (by kernel_rfl) (by kernel_rfl) rfl (by kernel_rfl) (by kernel_rfl) (by kernel_rfl) (fun _ _ _ h => h) (Or.inl ⟨by rfl, ?_⟩) (by assumption) ?_
        rotate_left
        · intro w' hSw; (try dsimp only at hSw); have h0 := hSw.1.cell 0; have h1 := hSw.1.cell 1; have h2 := hSw.1.cell 2; have h3 := hSw.1.cell 3; have h4 := hSw.1.cell 4; have h5 := hSw.1.cell 5; have h6 := hSw.1.cell 6; have h7 := hSw.1.cell 7; have f0 := hSw.2.cell 0; have f1 := hSw.2.cell 1; have f2 := hSw.2.cell 2; have f3 := hSw.2.cell 3; have f4 := hSw.2.cell 4; have f5 := hSw.2.cell 5; have f6 := hSw.2.cell 6; have f7 := hSw.2.cell 7; go_simp; (try with_reducible rfl)
        (try simp only [Act.put, List.getElem_toArray, List.getElem_cons_zero, List.getElem_cons_succ, List.setIfInBounds_toArray, List.set_cons_zero, List.set_cons_succ])
        refine wpAnyF_take (i := 40) (v := undef) (by kernel_rfl) (by kernel_rfl) rfl (by kernel_rfl) (by kernel_rfl) (by kernel_rfl) (fun _ _ _ h => h) (Or.inr ⟨by rfl, rfl⟩) (by assumption) ?_
        (try simp only [Act.put, List.getElem_toArray, List.getElem_cons_zero, List.getElem_cons_succ, List.setIfInBounds_toArray, List.set_cons_zero, List.set_cons_succ])
        refine wpAnyF_take (i := 41) (v := undef) (by kernel_rfl) (by kernel_rfl) rfl (by kernel_rfl) (by kernel_rfl) (by kernel_rfl) (fun _ _ _ h => h) (Or.inr ⟨by rfl, rfl⟩) (by assumption) ?_
        (try simp only [Act.put, List.getElem_toArray, List.getElem_cons_zero, List.getElem_cons_succ, List.setIfInBounds_toArray, List.set_cons_zero, List.set_cons_succ])
        refine wpAnyF_take (i := 42) (v := undef) (by kernel_rfl) (by kernel_rfl) rfl (by kernel_rfl) (by kernel_rfl) (by kernel_rfl) (fun _ _ _ h => h) (Or.inr ⟨by rfl, rfl⟩) (by assumption) ?_
        (try simp only [Act.put, List.getElem_toArray, List.getElem_cons_zero, List.getElem_cons_succ, List.setIfInBounds_toArray, List.set_cons_zero, List.set_cons_succ])
        refine wpAnyF_take (i := 43) (v := undef) (by kernel_rfl) (by kernel_rfl) rfl (by kernel_rfl) (by kernel_rfl) (by kernel_rfl) (fun _ _ _ h => h) (Or.inr ⟨by rfl, rfl⟩) (by assumption) ?_
        (try simp only [Act.put, List.getElem_toArray, List.getElem_cons_zero, List.getElem_cons_succ, List.setIfInBounds_toArray, List.set_cons_zero, List.set_cons_succ])
        refine wpAnyF_take (i := 44) (v := undef) (by kernel_rfl) (by kernel_rfl) rfl (by kernel_rfl) (by kernel_rfl) (by kernel_rfl) (fun _ _ _ h => h) (Or.inr ⟨by rfl, rfl⟩) (by assumption) ?_
        (try simp only [Act.put, List.getElem_toArray, List.getElem_cons_zero, List.getElem_cons_succ, List.setIfInBounds_toArray, List.set_cons_zero, List.set_cons_succ])
        refine wpAnyF_take (i := 45) (v := undef) (by kernel_rfl) (by kernel_rfl) rfl (by kernel_rfl) (by kernel_rfl) (by kernel_rfl) (fun _ _ _ h => h) (Or.inr ⟨by rfl, rfl⟩) (by assumption) ?_
        (try simp only [Act.put, List.getElem_toArray, List.getElem_cons_zero, List.getElem_cons_succ, List.setIfInBounds_toArray, List.set_cons_zero, List.set_cons_succ])
        refine wpAnyF_take (i := 46) (v := undef) (by kernel_rfl) (by kernel_rfl) rfl (by kernel_rfl) (by kernel_rfl) (by kernel_rfl) (fun _ _ _ h => h) (Or.inr ⟨by rfl, rfl⟩) (by assumption) ?_
        (try simp only [Act.put, List.getElem_toArray, List.getElem_cons_zero, List.getElem_cons_succ, List.setIfInBounds_toArray, List.set_cons_zero, List.set_cons_succ])
        refine wpAnyF_take (i := 47) (v := ?_) (by kernel_rfl) (by kernel_rfl) rfl (by kernel_rfl) (by kernel_rfl) (by kernel_rfl) (fun _ _ _ h => h) (Or.inl ⟨by rfl, ?_⟩) (by assumption) ?_
        rotate_left
        · intro w' hSw; (try dsimp only at hSw); have h0 := hSw.1.cell 0; have h1 := hSw.1.cell 1; have h2 := hSw.1.cell 2; have h3 := hSw.1.cell 3; have h4 := hSw.1.cell 4; have h5 := hSw.1.cell 5; have h6 := hSw.1.cell 6; have h7 := hSw.1.cell 7; have f0 := hSw.2.cell 0; have f1 := hSw.2.cell 1; have f2 := hSw.2.cell 2; have f3 := hSw.2.cell 3; have f4 := hSw.2.cell 4; have f5 := hSw.2.cell 5; have f6 := hSw.2.cell 6; have f7 := hSw.2.cell 7; go_simp; (try with_reducible rfl)
        (try simp only [Act.put, List.getElem_toArray, List.getElem_cons_zero, List.getElem_cons_succ, List.setIfInBounds_toArray, List.set_cons_zero, List.set_cons_succ])
        refine wpAnyF_take (i := 48) (v := ?_) (by kernel_rfl) (by kernel_rfl) rfl (by kernel_rfl) (by kernel_rfl) (by kernel_rfl) (fun _ _ _ h => h) (Or.inl ⟨by rfl, ?_⟩) (by assumption) ?_
        rotate_left
        · intro w' hSw; (try dsimp only at hSw); have h0 := hSw.1.cell 0; have h1 := hSw.1.cell 1; have h2 := hSw.1.cell 2; have h3 := hSw.1.cell 3; have h4 := hSw.1.cell 4; have h5 := hSw.1.cell 5; have h6 := hSw.1.cell 6; have h7 := hSw.1.cell 7; have f0 := hSw.2.cell 0; have f1 := hSw.2.cell 1; have f2 := hSw.2.cell 2; have f3 := hSw.2.cell 3; have f4 := hSw.2.cell 4; have f5 := hSw.2.cell 5; have f6 := hSw.2.cell 6; have f7 := hSw.2.cell 7; go_simp; (try with_reducible rfl)
        (try simp only [Act.put, List.getElem_toArray, List.getElem_cons_zero, List.getElem_cons_succ, List.setIfInBounds_toArray, List.set_cons_zero, List.set_cons_succ])
        refine wpAnyF_take (i := 49) (v := ?_) (by kernel_rfl) (by kernel_rfl) rfl (by kernel_rfl) (by kernel_rfl) (by kernel_rfl) (fun _ _ _ h => h) (Or.inl ⟨by rfl, ?_⟩) (by assumption) ?_
        rotate_left
        · intro w' hSw; (try dsimp only at hSw); have h0 := hSw.1.cell 0; have h1 := hSw.1.cell 1; have h2 := hSw.1.cell 2; have h3 := hSw.1.cell 3; have h4 := hSw.1.cell 4; have h5 := hSw.1.cell 5; have h6 := hSw.1.cell 6; have h7 := hSw.1.cell 7; have f0 := hSw.2.cell 0; have f1 := hSw.2.cell 1; have f2 := hSw.2.cell 2; have f3 := hSw.2.cell 3; have f4 := hSw.2.cell 4; have f5 := hSw.2.cell 5; have f6 := hSw.2.cell 6; have f7 := hSw.2.cell 7; go_simp; (try with_reducible rfl)
        (try simp only [Act.put, List.getElem_toArray, List.getElem_cons_zero, List.getElem_cons_succ, List.setIfInBounds_toArray, List.set_cons_zero, List.set_cons_succ])
        refine wpAnyF_done (by kernel_rfl) ?_ _
        refine NoPanic.normal ?_
        go_wp2
        go_ret
        exact ⟨rfl, (B8d.out.trans (B9.out.mono B8d.out.size)).trans (B10.out.mono (B8d.out.trans (B9.out.mono B8d.out.size)).size)⟩
      · have hdv : dropV ⟨m, p0, p1, o0, o1, sp, r⟩ g = (⟨m, p0, p1, o0, o1, sp, r⟩, false) := by unfold dropV; simp [hR, hig]
        rw [hdv] at HDR
        dsimp only at HDR
        obtain ⟨k9, hk9⟩ : ∃ k9, (i : Int) % 2 = k9 := ⟨_, rfl⟩
        rw [hk9] at HRU hig
        have hkg : (k9 == g) = false := by simpa using hig
        clear hR hD hdv hG hDR hj hk9 hlen HDE hri hi64
        go_enter Try.func7, Try.ntmps7
        go_wp2_with (first
          | (go_at_call 9; ((with_reducible refine (awake_if _).mono ?_); rintro e w1 ⟨rfl, hb⟩; have F1 := hi (HF0.out.below hb); have C1 := hi (HC0.out.below hb); have B1 := hi (HB0.out.trans (hb.mono HB0.out.size)); have f0 := F1.out.cell 0; have f1 := F1.out.cell 1; have f2 := F1.out.cell 2; have f3 := F1.out.cell 3; have f4 := F1.out.cell 4; have f5 := F1.out.cell 5; have f6 := F1.out.cell 6; have f7 := F1.out.cell 7; have c2 := C1.out.cell 2; have cf := C1.out.frozen; have hcg := C1.out.below (bal w1 (.cells #[.int .i64 m, .int .i64 p0, .int .i64 p1, .bool false, .bool o1, .bool sp, .int .u32 (wd r 0), .int .u32 (wd r 1)] 29)); have e2 := hcg.cell 2; have ef := hcg.frozen; have hl := C1.out.lt; have W1 := hi (show ∃ W, (w1.alloc (.cells #[.int .i64 m, .int .i64 p0, .int .i64 p1, .bool false, .bool o1, .bool sp, .int .u32 (wd r 0), .int .u32 (wd r 1)] 29)).setCell ⟨w.heap.size + 1, 2, none⟩ (.int .i64 g) = W ∧ CB W w.heap.size 29 #[.int .i64 m, .int .i64 p0, .int .i64 p1, .bool o0, .bool o1, .bool sp, .int .u32 (wd r 0), .int .u32 (wd r 1)] ∧ CB W (w.heap.size + 1) 39 #[.int .i64 ci, .int .i64 cp, .int .i64 g, .bool cis] ∧ CB W w1.heap.size 29 #[.int .i64 m, .int .i64 p0, .int .i64 p1, .bool false, .bool o1, .bool sp, .int .u32 (wd r 0), .int .u32 (wd r 1)] ∧ Below w.heap.size w W ∧ W.heap.size = w1.heap.size + 1 from ⟨_, rfl, (F1.out.below (bal w1 _)).other _ _ _ (by omega), by simpa using hcg.set 2 (.int .i64 g), (CB.new w1 29 #[.int .i64 m, .int .i64 p0, .int .i64 p1, .bool false, .bool o1, .bool sp, .int .u32 (wd r 0), .int .u32 (wd r 1)]).other _ _ _ (by omega), below_set (B1.out.trans ((bal w1 _).mono B1.out.size)) (show w.heap.size ≤ w.heap.size + 1 by omega) _, by simp⟩); have gg := ((CB.new w1 29 #[.int .i64 m, .int .i64 p0, .int .i64 p1, .bool false, .bool o1, .bool sp, .int .u32 (wd r 0), .int .u32 (wd r 1)]).other (w.heap.size + 1) 2 (.int .i64 g) (by omega)); have k0 := gg.cell 0; have k1 := gg.cell 1; have k2 := gg.cell 2; have k3 := gg.cell 3; have k4 := gg.cell 4; have k5 := gg.cell 5; have k6 := gg.cell 6; have k7 := gg.cell 7; have yc : CB ((w1.alloc (.cells #[.int .i64 m, .int .i64 p0, .int .i64 p1, .bool false, .bool o1, .bool sp, .int .u32 (wd r 0), .int .u32 (wd r 1)] 29)).setCell ⟨w.heap.size + 1, 2, none⟩ (.int .i64 g)) (w.heap.size + 1) 39 #[.int .i64 ci, .int .i64 cp, .int .i64 g, .bool cis] := (by simpa using hcg.set 2 (.int .i64 g)); have y0 := yc.cell 0; have y1 := yc.cell 1; have y2 := yc.cell 2; have y3 := yc.cell 3; have yf := yc.frozen; have yd := yc.below (bal _ (.cells #[.int .i64 m, .int .i64 p0, .int .i64 p1, .bool false, .bool o1, .bool sp, .int .u32 (wd r 0), .int .u32 (wd r 1)] 29)); have z0 := yd.cell 0; have z1 := yd.cell 1; have z2 := yd.cell 2; have z3 := yd.cell 3; have zf := yd.frozen; have LT := hi hl; clear hb hcg hl gg yc yd)))
        obtain ⟨W, hW, hF, hC, hG1, hB, hZ⟩ := W1.out
        rw [hW]
        have hw := bal W (.cells #[.int .i64 m, .int .i64 p0, .int .i64 p1, .bool false, .bool o1, .bool sp, .int .u32 (wd r 0), .int .u32 (wd r 1)] 29)
        have F2 := hi (hF.below hw)
        have C2 := hi (hC.below hw)
        have G2 := hi (hG1.below hw)
        have V2 := hi (show CB (W.alloc (.cells #[.int .i64 m, .int .i64 p0, .int .i64 p1, .bool false, .bool o1, .bool sp, .int .u32 (wd r 0), .int .u32 (wd r 1)] 29)) (w1.heap.size + 1) 29 #[.int .i64 m, .int .i64 p0, .int .i64 p1, .bool false, .bool o1, .bool sp, .int .u32 (wd r 0), .int .u32 (wd r 1)] from hZ ▸ CB.new W 29 #[.int .i64 m, .int .i64 p0, .int .i64 p1, .bool false, .bool o1, .bool sp, .int .u32 (wd r 0), .int .u32 (wd r 1)])
        have B2 := hi (hB.trans (hw.mono hB.size))
        have Z := hi hZ
        have d0 := C2.out.cell 0
        have d1 := C2.out.cell 1
        have d2 := C2.out.cell 2
        have d3 := C2.out.cell 3
        clear y0 y1 y2 y3 yf z0 z1 z2 z3 zf
        clear hW hF hC hG1 hB hZ hw W1 k0 k1 k2 k3 k4 k5 k6 k7 e2 ef f0 f1 f2 f3 f4 f5 f6 f7 c2 cf
        go_wp2_with (first
          | (go_at_call 26; ((with_reducible refine (HT.out _ _ G2.out).mono ?_); rintro e w3 ⟨rfl, hA⟩; have G3 := hi hA.bx; have F3 := hi (F2.out.keptB hA.kept (by have := LT.out; omega)); have C3 := hi (C2.out.keptB hA.kept (by have := LT.out; omega)); have V3 := hi (V2.out.keptB hA.kept (by omega)); have B3 := hi (B2.out.trans (hA.kept.toBelow B2.out.size (fun i z => by subst z; have := LT.out; omega))); have k0 := G3.out.cell 0; have k1 := G3.out.cell 1; have k2 := G3.out.cell 2; have k3 := G3.out.cell 3; have k4 := G3.out.cell 4; have k5 := G3.out.cell 5; have k6 := G3.out.cell 6; have k7 := G3.out.cell 7; have n0 := V3.out.cell 0; have n1 := V3.out.cell 1; have n2 := V3.out.cell 2; have n3 := V3.out.cell 3; have n4 := V3.out.cell 4; have n5 := V3.out.cell 5; have n6 := V3.out.cell 6; have n7 := V3.out.cell 7; have d0 := C3.out.cell 0; have d1 := C3.out.cell 1; have d2 := C3.out.cell 2; have d3 := C3.out.cell 3; clear hA))
          | (go_at_call 17; ((with_reducible refine (HS.out _).mono ?_); rintro e w4 ⟨rfl, hb⟩; have G4 := hi (G3.out.below hb); have F4 := hi (F3.out.below hb); have C4 := hi (C3.out.below hb); have B4 := hi (B3.out.trans (hb.mono B3.out.size)); have k0 := G4.out.cell 0; have k1 := G4.out.cell 1; have k2 := G4.out.cell 2; have k3 := G4.out.cell 3; have k4 := G4.out.cell 4; have k5 := G4.out.cell 5; have k6 := G4.out.cell 6; have k7 := G4.out.cell 7; have d0 := C4.out.cell 0; have d1 := C4.out.cell 1; have d2 := C4.out.cell 2; have d3 := C4.out.cell 3; clear hb))
          | (go_at_call 15; ((with_reducible refine (HM.out _).mono ?_); rintro e w5 ⟨rfl, hb⟩; have hc := bal w5 (.cells #[.int .i64 m, .int .i64 p0, .int .i64 p1, .bool o0, .bool o1, .bool sp, .int .u32 (wd r 0), .int .u32 (wd r 1)] 29); have F5 := hi (F4.out.below hb); have F6 := hi (F5.out.below hc); have H6 := hi (CB.new w5 29 #[.int .i64 m, .int .i64 p0, .int .i64 p1, .bool o0, .bool o1, .bool sp, .int .u32 (wd r 0), .int .u32 (wd r 1)]); have B6 := hi ((B4.out.trans (hb.mono B4.out.size)).trans (hc.mono (B4.out.trans (hb.mono B4.out.size)).size)); have L6 := hi (show w.heap.size < w5.heap.size from F5.out.lt); have f0 := F5.out.cell 0; have f1 := F5.out.cell 1; have f2 := F5.out.cell 2; have f3 := F5.out.cell 3; have f4 := F5.out.cell 4; have f5 := F5.out.cell 5; have f6 := F5.out.cell 6; have f7 := F5.out.cell 7; clear hb hc))
          | (go_at_call 29; ((with_reducible refine (HDR.out _ _ H6.out).mono ?_); rintro e w7 ⟨rfl, hA⟩; have H7 := hi (show CB w7 w5.heap.size 29 #[.int .i64 m, .int .i64 p0, .int .i64 p1, .bool o0, .bool o1, .bool sp, .int .u32 (wd r 0), .int .u32 (wd r 1)] from hA.bx); have F7 := hi (F6.out.keptB hA.kept (by have := L6.out; omega)); have B7 := hi (B6.out.trans (hA.kept.toBelow B6.out.size (fun i z => by subst z; have := L6.out; omega))); have f0 := F7.out.cell 0; have f1 := F7.out.cell 1; have f2 := F7.out.cell 2; have f3 := F7.out.cell 3; have f4 := F7.out.cell 4; have f5 := F7.out.cell 5; have f6 := F7.out.cell 6; have f7 := F7.out.cell 7; clear hA))
          | (go_at_call 28; ((with_reducible refine (HRU.out _).mono ?_); rintro e w8 ⟨rfl, hb⟩; have H8 := hi (H7.out.below hb); have F8 := hi (F7.out.below hb); have B8 := hi (B7.out.trans (hb.mono B7.out.size)); clear hb)))
        have B8d := hi (Below.drewN (m := 1) B8.out)
        refine wp_region_noPanic ?_
        refine wp_region_last_drew (S := (fun W' => CB W' w5.heap.size 29 #[.int .i64 m, .int .i64 p0, .int .i64 p1, .bool o0, .bool o1, .bool sp, .int .u32 (wd r 0), .int .u32 (wd r 1)] ∧ CB W' w.heap.size 29 #[.int .i64 m, .int .i64 p0, .int .i64 p1, .bool o0, .bool o1, .bool sp, .int .u32 (wd r 0), .int .u32 (wd r 1)])) [] (by kernel_rfl) ⟨H8.out.drew, F8.out.drew⟩ (fun hHeld => ?_)
        (try simp only [Array.replicate_succ, Array.replicate_zero, List.push_toArray, List.nil_append, List.cons_append])
        refine wpAnyF_take (i := 0) (v := ?_) (by kernel_rfl) (by kernel_rfl) rfl (by kernel_rfl) (by kernel_rfl) (by kernel_rfl) (fun _ _ _ h => h) (Or.inl ⟨by rfl, ?_⟩) (by assumption) ?_
        rotate_left
        · intro w' hSw; (try dsimp only at hSw); have h0 := hSw.1.cell 0; have h1 := hSw.1.cell 1; have h2 := hSw.1.cell 2; have h3 := hSw.1.cell 3; have h4 := hSw.1.cell 4; have h5 := hSw.1.cell 5; have h6 := hSw.1.cell 6; have h7 := hSw.1.cell 7; have f0 := hSw.2.cell 0; have f1 := hSw.2.cell 1; have f2 := hSw.2.cell 2; have f3 := hSw.2.cell 3; have f4 := hSw.2.cell 4; have f5 := hSw.2.cell 5; have f6 := hSw.2.cell 6; have f7 := hSw.2.cell 7; go_simp; (try with_reducible rfl)
        (try simp only [Act.put, List.getElem_toArray, List.getElem_cons_zero, List.setIfInBounds_toArray, List.set_cons_zero, List.set_cons_succ])
        refine wpAnyF_take (i := 1) (v := ?_) (by kernel_rfl) (by kernel_rfl) rfl (by kernel_rfl) (by kernel_rfl) (by kernel_rfl) (fun _ _ _ h => h) (Or.inl ⟨by rfl, ?_⟩) (by assumption) ?_
        rotate_left
        · intro w' hSw; (try dsimp only at hSw); have h0 := hSw.1.cell 0; have h1 := hSw.1.cell 1; have h2 := hSw.1.cell 2; have h3 := hSw.1.cell 3; have h4 := hSw.1.cell 4; have h5 := hSw.1.cell 5; have h6 := hSw.1.cell 6; have h7 := hSw.1.cell 7; have f0 := hSw.2.cell 0; have f1 := hSw.2.cell 1; have f2 := hSw.2.cell 2; have f3 := hSw.2.cell 3; have f4 := hSw.2.cell 4; have f5 := hSw.2.cell 5; have f6 := hSw.2.cell 6; have f7 := hSw.2.cell 7; go_simp; (try with_reducible rfl)
        (try simp only [Act.put, List.getElem_toArray, List.getElem_cons_zero, List.getElem_cons_succ, List.setIfInBounds_toArray, List.set_cons_zero, List.set_cons_succ])
        refine wpAnyF_take (i := 2) (v := ?_) (by kernel_rfl) (by kernel_rfl) rfl (by kernel_rfl) (by kernel_rfl) (by kernel_rfl) (fun _ _ _ h => h) (Or.inl ⟨by rfl, ?_⟩) (by assumption) ?_
        rotate_left
        · intro w' hSw; (try dsimp only at hSw); have h0 := hSw.1.cell 0; have h1 := hSw.1.cell 1; have h2 := hSw.1.cell 2; have h3 := hSw.1.cell 3; have h4 := hSw.1.cell 4; have h5 := hSw.1.cell 5; have h6 := hSw.1.cell 6; have h7 := hSw.1.cell 7; have f0 := hSw.2.cell 0; have f1 := hSw.2.cell 1; have f2 := hSw.2.cell 2; have f3 := hSw.2.cell 3; have f4 := hSw.2.cell 4; have f5 := hSw.2.cell 5; have f6 := hSw.2.cell 6; have f7 := hSw.2.cell 7; go_simp; (try with_reducible rfl)
        (try simp only [Act.put, List.getElem_toArray, List.getElem_cons_zero, List.getElem_cons_succ, List.setIfInBounds_toArray, List.set_cons_zero, List.set_cons_succ])
        refine wpAnyF_take (i := 3) (v := ?_) (by kernel_rfl) (by kernel_rfl) rfl (by kernel_rfl) (by kernel_rfl) (by kernel_rfl) (fun _ _ _ h => h) (Or.inl ⟨by rfl, ?_⟩) (by assumption) ?_
        rotate_left
        · intro w' hSw; (try dsimp only at hSw); have h0 := hSw.1.cell 0; have h1 := hSw.1.cell 1; have h2 := hSw.1.cell 2; have h3 := hSw.1.cell 3; have h4 := hSw.1.cell 4; have h5 := hSw.1.cell 5; have h6 := hSw.1.cell 6; have h7 := hSw.1.cell 7; have f0 := hSw.2.cell 0; have f1 := hSw.2.cell 1; have f2 := hSw.2.cell 2; have f3 := hSw.2.cell 3; have f4 := hSw.2.cell 4; have f5 := hSw.2.cell 5; have f6 := hSw.2.cell 6; have f7 := hSw.2.cell 7; go_simp; (try with_reducible rfl)
        (try simp only [Act.put, List.getElem_toArray, List.getElem_cons_zero, List.getElem_cons_succ, List.setIfInBounds_toArray, List.set_cons_zero, List.set_cons_succ])
        refine wpAnyF_take (i := 4) (v := ?_) (by kernel_rfl) (by kernel_rfl) rfl (by kernel_rfl) (by kernel_rfl) (by kernel_rfl) (fun _ _ _ h => h) (Or.inl ⟨by rfl, ?_⟩) (by assumption) ?_
        rotate_left
        · intro w' hSw; (try dsimp only at hSw); have h0 := hSw.1.cell 0; have h1 := hSw.1.cell 1; have h2 := hSw.1.cell 2; have h3 := hSw.1.cell 3; have h4 := hSw.1.cell 4; have h5 := hSw.1.cell 5; have h6 := hSw.1.cell 6; have h7 := hSw.1.cell 7; have f0 := hSw.2.cell 0; have f1 := hSw.2.cell 1; have f2 := hSw.2.cell 2; have f3 := hSw.2.cell 3; have f4 := hSw.2.cell 4; have f5 := hSw.2.cell 5; have f6 := hSw.2.cell 6; have f7 := hSw.2.cell 7; go_simp; (try with_reducible rfl)
        (try simp only [Act.put, List.getElem_toArray, List.getElem_cons_zero, List.getElem_cons_succ, List.setIfInBounds_toArray, List.set_cons_zero, List.set_cons_succ])
        refine wpAnyF_take (i := 5) (v := ?_) (by kernel_rfl) (by kernel_rfl) rfl (by kernel_rfl) (by kernel_rfl) (by kernel_rfl) (fun _ _ _ h => h) (Or.inl ⟨by rfl, ?_⟩) (by assumption) ?_
        rotate_left
        · intro w' hSw; (try dsimp only at hSw); have h0 := hSw.1.cell 0; have h1 := hSw.1.cell 1; have h2 := hSw.1.cell 2; have h3 := hSw.1.cell 3; have h4 := hSw.1.cell 4; have h5 := hSw.1.cell 5; have h6 := hSw.1.cell 6; have h7 := hSw.1.cell 7; have f0 := hSw.2.cell 0; have f1 := hSw.2.cell 1; have f2 := hSw.2.cell 2; have f3 := hSw.2.cell 3; have f4 := hSw.2.cell 4; have f5 := hSw.2.cell 5; have f6 := hSw.2.cell 6; have f7 := hSw.2.cell 7; go_simp; (try with_reducible rfl)
        (try simp only [Act.put, List.getElem_toArray, List.getElem_cons_zero, List.getElem_cons_succ, List.setIfInBounds_toArray, List.set_cons_zero, List.set_cons_succ])
        refine wpAnyF_take (i := 6) (v := ?_) (by kernel_rfl) (by kernel_rfl) rfl (by kernel_rfl) (by kernel_rfl) (by kernel_rfl) (fun _ _ _ h => h) (Or.inl ⟨by rfl, ?_⟩) (by assumption) ?_
        rotate_left
        · intro w' hSw; (try dsimp only at hSw); have h0 := hSw.1.cell 0; have h1 := hSw.1.cell 1; have h2 := hSw.1.cell 2; have h3 := hSw.1.cell 3; have h4 := hSw.1.cell 4; have h5 := hSw.1.cell 5; have h6 := hSw.1.cell 6; have h7 := hSw.1.cell 7; have f0 := hSw.2.cell 0; have f1 := hSw.2.cell 1; have f2 := hSw.2.cell 2; have f3 := hSw.2.cell 3; have f4 := hSw.2.cell 4; have f5 := hSw.2.cell 5; have f6 := hSw.2.cell 6; have f7 := hSw.2.cell 7; go_simp; (try with_reducible rfl)
        (try simp only [Act.put, List.getElem_toArray, List.getElem_cons_zero, List.getElem_cons_succ, List.setIfInBounds_toArray, List.set_cons_zero, List.set_cons_succ])
        refine wpAnyF_take (i := 7) (v := ?_) (by kernel_rfl) (by kernel_rfl) rfl (by kernel_rfl) (by kernel_rfl) (by kernel_rfl) (fun _ _ _ h => h) (Or.inl ⟨by rfl, ?_⟩) (by assumption) ?_
        rotate_left
        · intro w' hSw; (try dsimp only at hSw); have h0 := hSw.1.cell 0; have h1 := hSw.1.cell 1; have h2 := hSw.1.cell 2; have h3 := hSw.1.cell 3; have h4 := hSw.1.cell 4; have h5 := hSw.1.cell 5; have h6 := hSw.1.cell 6; have h7 := hSw.1.cell 7; have f0 := hSw.2.cell 0; have f1 := hSw.2.cell 1; have f2 := hSw.2.cell 2; have f3 := hSw.2.cell 3; have f4 := hSw.2.cell 4; have f5 := hSw.2.cell 5; have f6 := hSw.2.cell 6; have f7 := hSw.2.cell 7; go_simp; (try with_reducible rfl)
        (try simp only [Act.put, List.getElem_toArray, List.getElem_cons_zero, List.getElem_cons_succ, List.setIfInBounds_toArray, List.set_cons_zero, List.set_cons_succ])
        refine wpAnyF_take (i := 8) (v := ?_) (by kernel_rfl) (by kernel_rfl) rfl (by kernel_rfl) (by kernel_rfl) (by kernel_rfl) (fun _ _ _ h => h) (Or.inl ⟨by rfl, ?_⟩) (by assumption) ?_
        rotate_left
        · intro w' hSw; (try dsimp only at hSw); have h0 := hSw.1.cell 0; have h1 := hSw.1.cell 1; have h2 := hSw.1.cell 2; have h3 := hSw.1.cell 3; have h4 := hSw.1.cell 4; have h5 := hSw.1.cell 5; have h6 := hSw.1.cell 6; have h7 := hSw.1.cell 7; have f0 := hSw.2.cell 0; have f1 := hSw.2.cell 1; have f2 := hSw.2.cell 2; have f3 := hSw.2.cell 3; have f4 := hSw.2.cell 4; have f5 := hSw.2.cell 5; have f6 := hSw.2.cell 6; have f7 := hSw.2.cell 7; go_simp; (try with_reducible rfl)
        (try simp only [Act.put, List.getElem_toArray, List.getElem_cons_zero, List.getElem_cons_succ, List.setIfInBounds_toArray, List.set_cons_zero, List.set_cons_succ])
        refine wpAnyF_take (i := 9) (v := ?_) (by kernel_rfl) (by kernel_rfl) rfl (by kernel_rfl) (by kernel_rfl) (by kernel_rfl) (fun _ _ _ h => h) (Or.inl ⟨by rfl, ?_⟩) (by assumption) ?_
        rotate_left
        · intro w' hSw; (try dsimp only at hSw); have h0 := hSw.1.cell 0; have h1 := hSw.1.cell 1; have h2 := hSw.1.cell 2; have h3 := hSw.1.cell 3; have h4 := hSw.1.cell 4; have h5 := hSw.1.cell 5; have h6 := hSw.1.cell 6; have h7 := hSw.1.cell 7; have f0 := hSw.2.cell 0; have f1 := hSw.2.cell 1; have f2 := hSw.2.cell 2; have f3 := hSw.2.cell 3; have f4 := hSw.2.cell 4; have f5 := hSw.2.cell 5; have f6 := hSw.2.cell 6; have f7 := hSw.2.cell 7; go_simp; (try with_reducible rfl)
        (try simp only [Act.put, List.getElem_toArray, List.getElem_cons_zero, List.getElem_cons_succ, List.setIfInBounds_toArray, List.set_cons_zero, List.set_cons_succ])
        refine wpAnyF_take (i := 10) (v := ?_) (by kernel_rfl) (by kernel_rfl) rfl (by kernel_rfl) (by kernel_rfl) (by kernel_rfl) (fun _ _ _ h => h) (Or.inl ⟨by rfl, ?_⟩) (by assumption) ?_
        rotate_left
        · intro w' hSw; (try dsimp only at hSw); have h0 := hSw.1.cell 0; have h1 := hSw.1.cell 1; have h2 := hSw.1.cell 2; have h3 := hSw.1.cell 3; have h4 := hSw.1.cell 4; have h5 := hSw.1.cell 5; have h6 := hSw.1.cell 6; have h7 := hSw.1.cell 7; have f0 := hSw.2.cell 0; have f1 := hSw.2.cell 1; have f2 := hSw.2.cell 2; have f3 := hSw.2.cell 3; have f4 := hSw.2.cell 4; have f5 := hSw.2.cell 5; have f6 := hSw.2.cell 6; have f7 := hSw.2.cell 7; go_simp; (try with_reducible rfl)
        (try simp only [Act.put, List.getElem_toArray, List.getElem_cons_zero, List.getElem_cons_succ, List.setIfInBounds_toArray, List.set_cons_zero, List.set_cons_succ])
        refine wpAnyF_take (i := 11) (v := ?_) (by kernel_rfl) (by kernel_rfl) rfl (by kernel_rfl) (by kernel_rfl) (by kernel_rfl) (fun _ _ _ h => h) (Or.inl ⟨by rfl, ?_⟩) (by assumption) ?_
        rotate_left
        · intro w' hSw; (try dsimp only at hSw); have h0 := hSw.1.cell 0; have h1 := hSw.1.cell 1; have h2 := hSw.1.cell 2; have h3 := hSw.1.cell 3; have h4 := hSw.1.cell 4; have h5 := hSw.1.cell 5; have h6 := hSw.1.cell 6; have h7 := hSw.1.cell 7; have f0 := hSw.2.cell 0; have f1 := hSw.2.cell 1; have f2 := hSw.2.cell 2; have f3 := hSw.2.cell 3; have f4 := hSw.2.cell 4; have f5 := hSw.2.cell 5; have f6 := hSw.2.cell 6; have f7 := hSw.2.cell 7; go_simp; (try with_reducible rfl)
        (try simp only [Act.put, List.getElem_toArray, List.getElem_cons_zero, List.getElem_cons_succ, List.setIfInBounds_toArray, List.set_cons_zero, List.set_cons_succ])
        refine wpAnyF_take (i := 12) (v := ?_) (by kernel_rfl) (by kernel_rfl) rfl (by kernel_rfl) (by kernel_rfl) (by kernel_rfl) (fun _ _ _ h => h) (Or.inl ⟨by rfl, ?_⟩) (by assumption) ?_
        rotate_left
        · intro w' hSw; (try dsimp only at hSw); have h0 := hSw.1.cell 0; have h1 := hSw.1.cell 1; have h2 := hSw.1.cell 2; have h3 := hSw.1.cell 3; have h4 := hSw.1.cell 4; have h5 := hSw.1.cell 5; have h6 := hSw.1.cell 6; have h7 := hSw.1.cell 7; have f0 := hSw.2.cell 0; have f1 := hSw.2.cell 1; have f2 := hSw.2.cell 2; have f3 := hSw.2.cell 3; have f4 := hSw.2.cell 4; have f5 := hSw.2.cell 5; have f6 := hSw.2.cell 6; have f7 := hSw.2.cell 7; go_simp; (try with_reducible rfl)
        (try simp only [Act.put, List.getElem_toArray, List.getElem_cons_zero, List.getElem_cons_succ, List.setIfInBounds_toArray, List.set_cons_zero, List.set_cons_succ])
        refine wpAnyF_take (i := 13) (v := ?_) (by kernel_rfl) (by kernel_rfl) rfl (by kernel_rfl) (by kernel_rfl) (by kernel_rfl) (fun _ _ _ h => h) (Or.inl ⟨by rfl, ?_⟩) (by assumption) ?_
        rotate_left
        · intro w' hSw; (try dsimp only at hSw); have h0 := hSw.1.cell 0; have h1 := hSw.1.cell 1; have h2 := hSw.1.cell 2; have h3 := hSw.1.cell 3; have h4 := hSw.1.cell 4; have h5 := hSw.1.cell 5; have h6 := hSw.1.cell 6; have h7 := hSw.1.cell 7; have f0 := hSw.2.cell 0; have f1 := hSw.2.cell 1; have f2 := hSw.2.cell 2; have f3 := hSw.2.cell 3; have f4 := hSw.2.cell 4; have f5 := hSw.2.cell 5; have f6 := hSw.2.cell 6; have f7 := hSw.2.cell 7; go_simp; (try with_reducible rfl)
        (try simp only [Act.put, List.getElem_toArray, List.getElem_cons_zero, List.getElem_cons_succ, List.setIfInBounds_toArray, List.set_cons_zero, List.set_cons_succ])
        refine wpAnyF_take (i := 14) (v := ?_) (by kernel_rfl) (by kernel_rfl) rfl (by kernel_rfl) (by kernel_rfl) (by kernel_rfl) (fun _ _ _ h => h) (Or.inl ⟨by rfl, ?_⟩) (by assumption) ?_
        rotate_left
        · intro w' hSw; (try dsimp only at hSw); have h0 := hSw.1.cell 0; have h1 := hSw.1.cell 1; have h2 := hSw.1.cell 2; have h3 := hSw.1.cell 3; have h4 := hSw.1.cell 4; have h5 := hSw.1.cell 5; have h6 := hSw.1.cell 6; have h7 := hSw.1.cell 7; have f0 := hSw.2.cell 0; have f1 := hSw.2.cell 1; have f2 := hSw.2.cell 2; have f3 := hSw.2.cell 3; have f4 := hSw.2.cell 4; have f5 := hSw.2.cell 5; have f6 := hSw.2.cell 6; have f7 := hSw.2.cell 7; go_simp; (try with_reducible rfl)
        (try simp only [Act.put, List.getElem_toArray, List.getElem_cons_zero, List.getElem_cons_succ, List.setIfInBounds_toArray, List.set_cons_zero, List.set_cons_succ])
        refine wpAnyF_take (i := 15) (v := ?_) (by kernel_rfl) (by kernel_rfl) rfl (by kernel_rfl) (by kernel_rfl) (by kernel_rfl) (fun _ _ _ h => h) (Or.inl ⟨by rfl, ?_⟩) (by assumption) ?_
        rotate_left
        · intro w' hSw; (try dsimp only at hSw); have h0 := hSw.1.cell 0; have h1 := hSw.1.cell 1; have h2 := hSw.1.cell 2; have h3 := hSw.1.cell 3; have h4 := hSw.1.cell 4; have h5 := hSw.1.cell 5; have h6 := hSw.1.cell 6; have h7 := hSw.1.cell 7; have f0 := hSw.2.cell 0; have f1 := hSw.2.cell 1; have f2 := hSw.2.cell 2; have f3 := hSw.2.cell 3; have f4 := hSw.2.cell 4; have f5 := hSw.2.cell 5; have f6 := hSw.2.cell 6; have f7 := hSw.2.cell 7; go_simp; (try with_reducible rfl)
        (try simp only [Act.put, List.getElem_toArray, List.getElem_cons_zero, List.getElem_cons_succ, List.setIfInBounds_toArray, List.set_cons_zero, List.set_cons_succ])
        refine wpAnyF_take (i := 16) (v := ?_) (by kernel_rfl) (by kernel_rfl) rfl (by kernel_rfl) (by kernel_rfl) (by kernel_rfl) (fun _ _ _ h => h) (Or.inl ⟨by rfl, ?_⟩) (by assumption) ?_
        rotate_left
        · intro w' hSw; (try dsimp only at hSw); have h0 := hSw.1.cell 0; have h1 := hSw.1.cell 1; have h2 := hSw.1.cell 2; have h3 := hSw.1.cell 3; have h4 := hSw.1.cell 4; have h5 := hSw.1.cell 5; have h6 := hSw.1.cell 6; have h7 := hSw.1.cell 7; have f0 := hSw.2.cell 0; have f1 := hSw.2.cell 1; have f2 := hSw.2.cell 2; have f3 := hSw.2.cell 3; have f4 := hSw.2.cell 4; have f5 := hSw.2.cell 5; have f6 := hSw.2.cell 6; have f7 := hSw.2.cell 7; go_simp; (try with_reducible rfl)
        (try simp only [Act.put, List.getElem_toArray, List.getElem_cons_zero, List.getElem_cons_succ, List.setIfInBounds_toArray, List.set_cons_zero, List.set_cons_succ])
        refine wpAnyF_take (i := 17) (v := ?_) (by kernel_rfl) (by kernel_rfl) rfl (by kernel_rfl) (by kernel_rfl) (by kernel_rfl) (fun _ _ _ h => h) (Or.inl ⟨by rfl, ?_⟩) (by assumption) ?_
        rotate_left
        · intro w' hSw; (try dsimp only at hSw); have h0 := hSw.1.cell 0; have h1 := hSw.1.cell 1; have h2 := hSw.1.cell 2; have h3 := hSw.1.cell 3; have h4 := hSw.1.cell 4; have h5 := hSw.1.cell 5; have h6 := hSw.1.cell 6; have h7 := hSw.1.cell 7; have f0 := hSw.2.cell 0; have f1 := hSw.2.cell 1; have f2 := hSw.2.cell 2; have f3 := hSw.2.cell 3; have f4 := hSw.2.cell 4; have f5 := hSw.2.cell 5; have f6 := hSw.2.cell 6; have f7 := hSw.2.cell 7; go_simp; (try with_reducible rfl)
        (try simp only [Act.put, List.getElem_toArray, List.getElem_cons_zero, List.getElem_cons_succ, List.setIfInBounds_toArray, List.set_cons_zero, List.set_cons_succ])
        refine wpAnyF_take (i := 18) (v := ?_) (by kernel_rfl) (by kernel_rfl) rfl (by kernel_rfl) (by kernel_rfl) (by kernel_rfl) (fun _ _ _ h => h) (Or.inl ⟨by rfl, ?_⟩) (by assumption) ?_
        rotate_left
        · intro w' hSw; (try dsimp only at hSw); have h0 := hSw.1.cell 0; have h1 := hSw.1.cell 1; have h2 := hSw.1.cell 2; have h3 := hSw.1.cell 3; have h4 := hSw.1.cell 4; have h5 := hSw.1.cell 5; have h6 := hSw.1.cell 6; have h7 := hSw.1.cell 7; have f0 := hSw.2.cell 0; have f1 := hSw.2.cell 1; have f2 := hSw.2.cell 2; have f3 := hSw.2.cell 3; have f4 := hSw.2.cell 4; have f5 := hSw.2.cell 5; have f6 := hSw.2.cell 6; have f7 := hSw.2.cell 7; go_simp; (try with_reducible rfl)
        (try simp only [Act.put, List.getElem_toArray, List.getElem_cons_zero, List.getElem_cons_succ, List.setIfInBounds_toArray, List.set_cons_zero, List.set_cons_succ])
        refine wpAnyF_take (i := 19) (v := ?_) (by kernel_rfl) (by kernel_rfl) rfl (by kernel_rfl) (by kernel_rfl) (by kernel_rfl) (fun _ _ _ h => h) (Or.inl ⟨by rfl, ?_⟩) (by assumption) ?_
        rotate_left
        · intro w' hSw; (try dsimp only at hSw); have h0 := hSw.1.cell 0; have h1 := hSw.1.cell 1; have h2 := hSw.1.cell 2; have h3 := hSw.1.cell 3; have h4 := hSw.1.cell 4; have h5 := hSw.1.cell 5; have h6 := hSw.1.cell 6; have h7 := hSw.1.cell 7; have f0 := hSw.2.cell 0; have f1 := hSw.2.cell 1; have f2 := hSw.2.cell 2; have f3 := hSw.2.cell 3; have f4 := hSw.2.cell 4; have f5 := hSw.2.cell 5; have f6 := hSw.2.cell 6; have f7 := hSw.2.cell 7; go_simp; (try with_reducible rfl)
        (try simp only [Act.put, List.getElem_toArray, List.getElem_cons_zero, List.getElem_cons_succ, List.setIfInBounds_toArray, List.set_cons_zero, List.set_cons_succ])
        refine wpAnyF_take (i := 20) (v := ?_) (by kernel_rfl) (by kernel_rfl) rfl (by kernel_rfl) (by kernel_rfl) (by kernel_rfl) (fun _ _ _ h => h) (Or.inl ⟨by rfl, ?_⟩) (by assumption) ?_
        rotate_left
        · intro w' hSw; (try dsimp only at hSw); have h0 := hSw.1.cell 0; have h1 := hSw.1.cell 1; have h2 := hSw.1.cell 2; have h3 := hSw.1.cell 3; have h4 := hSw.1.cell 4; have h5 := hSw.1.cell 5; have h6 := hSw.1.cell 6; have h7 := hSw.1.cell 7; have f0 := hSw.2.cell 0; have f1 := hSw.2.cell 1; have f2 := hSw.2.cell 2; have f3 := hSw.2.cell 3; have f4 := hSw.2.cell 4; have f5 := hSw.2.cell 5; have f6 := hSw.2.cell 6; have f7 := hSw.2.cell 7; go_simp; (try with_reducible rfl)
        (try simp only [Act.put, List.getElem_toArray, List.getElem_cons_zero, List.getElem_cons_succ, List.setIfInBounds_toArray, List.set_cons_zero, List.set_cons_succ])
        refine wpAnyF_take (i := 21) (v := ?_) (by kernel_rfl) (by kernel_rfl) rfl (by kernel_rfl) (by kernel_rfl) (by kernel_rfl) (fun _ _ _ h => h) (Or.inl ⟨by rfl, ?_⟩) (by assumption) ?_
        rotate_left
        · intro w' hSw; (try dsimp only at hSw); have h0 := hSw.1.cell 0; have h1 := hSw.1.cell 1; have h2 := hSw.1.cell 2; have h3 := hSw.1.cell 3; have h4 := hSw.1.cell 4; have h5 := hSw.1.cell 5; have h6 := hSw.1.cell 6; have h7 := hSw.1.cell 7; have f0 := hSw.2.cell 0; have f1 := hSw.2.cell 1; have f2 := hSw.2.cell 2; have f3 := hSw.2.cell 3; have f4 := hSw.2.cell 4; have f5 := hSw.2.cell 5; have f6 := hSw.2.cell 6; have f7 := hSw.2.cell 7; go_simp; (try with_reducible rfl)
        (try simp only [Act.put, List.getElem_toArray, List.getElem_cons_zero, List.getElem_cons_succ, List.setIfInBounds_toArray, List.set_cons_zero, List.set_cons_succ])
        refine wpAnyF_take (i := 22) (v := ?_) (by kernel_rfl) (by kernel_rfl) rfl (by kernel_rfl) (by kernel_rfl) (by kernel_rfl) (fun _ _ _ h => h) (Or.inl ⟨by rfl, ?_⟩) (by assumption) ?_
        rotate_left
        · intro w' hSw; (try dsimp only at hSw); have h0 := hSw.1.cell 0; have h1 := hSw.1.cell 1; have h2 := hSw.1.cell 2; have h3 := hSw.1.cell 3; have h4 := hSw.1.cell 4; have h5 := hSw.1.cell 5; have h6 := hSw.1.cell 6; have h7 := hSw.1.cell 7; have f0 := hSw.2.cell 0; have f1 := hSw.2.cell 1; have f2 := hSw.2.cell 2; have f3 := hSw.2.cell 3; have f4 := hSw.2.cell 4; have f5 := hSw.2.cell 5; have f6 := hSw.2.cell 6; have f7 := hSw.2.cell 7; go_simp; (try with_reducible rfl)
        (try simp only [Act.put, List.getElem_toArray, List.getElem_cons_zero, List.getElem_cons_succ, List.setIfInBounds_toArray, List.set_cons_zero, List.set_cons_succ])
        refine wpAnyF_take (i := 23) (v := ?_) (by kernel_rfl) (by kernel_rfl) rfl (by kernel_rfl) (by kernel_rfl) (by kernel_rfl) (fun _ _ _ h => h) (Or.inl ⟨by rfl, ?_⟩) (by assumption) ?_
        rotate_left
        · intro w' hSw; (try dsimp only at hSw); have h0 := hSw.1.cell 0; have h1 := hSw.1.cell 1; have h2 := hSw.1.cell 2; have h3 := hSw.1.cell 3; have h4 := hSw.1.cell 4; have h5 := hSw.1.cell 5; have h6 := hSw.1.cell 6; have h7 := hSw.1.cell 7; have f0 := hSw.2.cell 0; have f1 := hSw.2.cell 1; have f2 := hSw.2.cell 2; have f3 := hSw.2.cell 3; have f4 := hSw.2.cell 4; have f5 := hSw.2.cell 5; have f6 := hSw.2.cell 6; have f7 := hSw.2.cell 7; go_simp; (try with_reducible rfl)
        (try simp only [Act.put, List.getElem_toArray, List.getElem_cons_zero, List.getElem_cons_succ, List.setIfInBounds_toArray, List.set_cons_zero, List.set_cons_succ])
        refine wpAnyF_take (i := 24) (v := ?_) (by kernel_rfl) (by kernel_rfl) rfl (by kernel_rfl) (by kernel_rfl) (by kernel_rfl) (fun _ _ _ h => h) (Or.inl ⟨by rfl, ?_⟩) (by assumption) ?_
        rotate_left
        · intro w' hSw; (try dsimp only at hSw); have h0 := hSw.1.cell 0; have h1 := hSw.1.cell 1; have h2 := hSw.1.cell 2; have h3 := hSw.1.cell 3; have h4 := hSw.1.cell 4; have h5 := hSw.1.cell 5; have h6 := hSw.1.cell 6; have h7 := hSw.1.cell 7; have f0 := hSw.2.cell 0; have f1 := hSw.2.cell 1; have f2 := hSw.2.cell 2; have f3 := hSw.2.cell 3; have f4 := hSw.2.cell 4; have f5 := hSw.2.cell 5; have f6 := hSw.2.cell 6; have f7 := hSw.2.cell 7; go_simp; (try with_reducible rfl)
        (try simp only [Act.put, List.getElem_toArray, List.getElem_cons_zero, List.getElem_cons_succ, List.setIfInBounds_toArray, List.set_cons_zero, List.set_cons_succ])
        refine wpAnyF_take (i := 25) (v := ?_) (by kernel_rfl) (by kernel_rfl) rfl (by kernel_rfl) (by kernel_rfl) (by kernel_rfl) (fun _ _ _ h => h) (Or.inl ⟨by rfl, ?_⟩) (by assumption) ?_
        rotate_left
        · intro w' hSw; (try dsimp only at hSw); have h0 := hSw.1.cell 0; have h1 := hSw.1.cell 1; have h2 := hSw.1.cell 2; have h3 := hSw.1.cell 3; have h4 := hSw.1.cell 4; have h5 := hSw.1.cell 5; have h6 := hSw.1.cell 6; have h7 := hSw.1.cell 7; have f0 := hSw.2.cell 0; have f1 := hSw.2.cell 1; have f2 := hSw.2.cell 2; have f3 := hSw.2.cell 3; have f4 := hSw.2.cell 4; have f5 := hSw.2.cell 5; have f6 := hSw.2.cell 6; have f7 := hSw.2.cell 7; go_simp; (try with_reducible rfl)
        (try simp only [Act.put, List.getElem_toArray, List.getElem_cons_zero, List.getElem_cons_succ, List.setIfInBounds_toArray, List.set_cons_zero, List.set_cons_succ])
        refine wpAnyF_take (i := 26) (v := ?_) (by kernel_rfl) (by kernel_rfl) rfl (by kernel_rfl) (by kernel_rfl) (by kernel_rfl) (fun _ _ _ h => h) (Or.inl ⟨by rfl, ?_⟩) (by assumption) ?_
        rotate_left
        · intro w' hSw; (try dsimp only at hSw); have h0 := hSw.1.cell 0; have h1 := hSw.1.cell 1; have h2 := hSw.1.cell 2; have h3 := hSw.1.cell 3; have h4 := hSw.1.cell 4; have h5 := hSw.1.cell 5; have h6 := hSw.1.cell 6; have h7 := hSw.1.cell 7; have f0 := hSw.2.cell 0; have f1 := hSw.2.cell 1; have f2 := hSw.2.cell 2; have f3 := hSw.2.cell 3; have f4 := hSw.2.cell 4; have f5 := hSw.2.cell 5; have f6 := hSw.2.cell 6; have f7 := hSw.2.cell 7; go_simp; (try with_reducible rfl)
        (try simp only [Act.put, List.getElem_toArray, List.getElem_cons_zero, List.getElem_cons_succ, List.setIfInBounds_toArray, List.set_cons_zero, List.set_cons_succ])
        refine wpAnyF_take (i := 27) (v := ?_) (by kernel_rfl) (by kernel_rfl) rfl (by kernel_rfl) (by kernel_rfl) (by kernel_rfl) (fun _ _ _ h => h) (Or.inl ⟨by rfl, ?_⟩) (by assumption) ?_
        rotate_left
        · intro w' hSw; (try dsimp only at hSw); have h0 := hSw.1.cell 0; have h1 := hSw.1.cell 1; have h2 := hSw.1.cell 2; have h3 := hSw.1.cell 3; have h4 := hSw.1.cell 4; have h5 := hSw.1.cell 5; have h6 := hSw.1.cell 6; have h7 := hSw.1.cell 7; have f0 := hSw.2.cell 0; have f1 := hSw.2.cell 1; have f2 := hSw.2.cell 2; have f3 := hSw.2.cell 3; have f4 := hSw.2.cell 4; have f5 := hSw.2.cell 5; have f6 := hSw.2.cell 6; have f7 := hSw.2.cell 7; go_simp; (try with_reducible rfl)
        (try simp only [Act.put, List.getElem_toArray, List.getElem_cons_zero, List.getElem_cons_succ, List.setIfInBounds_toArray, List.set_cons_zero, List.set_cons_succ])
        refine wpAnyF_take (i := 28) (v := ?_) (by kernel_rfl) (by kernel_rfl) rfl (by kernel_rfl) (by kernel_rfl) (by kernel_rfl) (fun _ _ _ h => h) (Or.inl ⟨by rfl, ?_⟩) (by assumption) ?_
        rotate_left
        · intro w' hSw; (try dsimp only at hSw); have h0 := hSw.1.cell 0; have h1 := hSw.1.cell 1; have h2 := hSw.1.cell 2; have h3 := hSw.1.cell 3; have h4 := hSw.1.cell 4; have h5 := hSw.1.cell 5; have h6 := hSw.1.cell 6; have h7 := hSw.1.cell 7; have f0 := hSw.2.cell 0; have f1 := hSw.2.cell 1; have f2 := hSw.2.cell 2; have f3 := hSw.2.cell 3; have f4 := hSw.2.cell 4; have f5 := hSw.2.cell 5; have f6 := hSw.2.cell 6; have f7 := hSw.2.cell 7; go_simp; (try with_reducible rfl)
        (try simp only [Act.put, List.getElem_toArray, List.getElem_cons_zero, List.getElem_cons_succ, List.setIfInBounds_toArray, List.set_cons_zero, List.set_cons_succ])
        refine wpAnyF_take (i := 29) (v := ?_) (by kernel_rfl) (by kernel_rfl) rfl (by kernel_rfl) (by kernel_rfl) (by kernel_rfl) (fun _ _ _ h => h) (Or.inl ⟨by rfl, ?_⟩) (by assumption) ?_
        rotate_left
        · intro w' hSw; (try dsimp only at hSw); have h0 := hSw.1.cell 0; have h1 := hSw.1.cell 1; have h2 := hSw.1.cell 2; have h3 := hSw.1.cell 3; have h4 := hSw.1.cell 4; have h5 := hSw.1.cell 5; have h6 := hSw.1.cell 6; have h7 := hSw.1.cell 7; have f0 := hSw.2.cell 0; have f1 := hSw.2.cell 1; have f2 := hSw.2.cell 2; have f3 := hSw.2.cell 3; have f4 := hSw.2.cell 4; have f5 := hSw.2.cell 5; have f6 := hSw.2.cell 6; have f7 := hSw.2.cell 7; go_simp; (try with_reducible rfl)
        (try simp only [Act.put, List.getElem_toArray, List.getElem_cons_zero, List.getElem_cons_succ, List.setIfInBounds_toArray, List.set_cons_zero, List.set_cons_succ])
        refine wpAnyF_take (i := 30) (v := ?_) (by kernel_rfl) (by kernel_rfl) rfl (by kernel_rfl) (by kernel_rfl) (by kernel_rfl) (fun _ _ _ h => h) (Or.inl ⟨by rfl, ?_⟩) (by assumption) ?_
        rotate_left
        · intro w' hSw; (try dsimp only at hSw); have h0 := hSw.1.cell 0; have h1 := hSw.1.cell 1; have h2 := hSw.1.cell 2; have h3 := hSw.1.cell 3; have h4 := hSw.1.cell 4; have h5 := hSw.1.cell 5; have h6 := hSw.1.cell 6; have h7 := hSw.1.cell 7; have f0 := hSw.2.cell 0; have f1 := hSw.2.cell 1; have f2 := hSw.2.cell 2; have f3 := hSw.2.cell 3; have f4 := hSw.2.cell 4; have f5 := hSw.2.cell 5; have f6 := hSw.2.cell 6; have f7 := hSw.2.cell 7; go_simp; (try with_reducible rfl)
        (try simp only [Act.put, List.getElem_toArray, List.getElem_cons_zero, List.getElem_cons_succ, List.setIfInBounds_toArray, List.set_cons_zero, List.set_cons_succ])
        refine wpAnyF_take (i := 31) (v := ?_) (by kernel_rfl) (by kernel_rfl) rfl (by kernel_rfl) (by kernel_rfl) (by kernel_rfl) (fun _ _ _ h => h) (Or.inl ⟨by rfl, ?_⟩) (by assumption) ?_
        rotate_left
        · intro w' hSw; (try dsimp only at hSw); have h0 := hSw.1.cell 0; have h1 := hSw.1.cell 1; have h2 := hSw.1.cell 2; have h3 := hSw.1.cell 3; have h4 := hSw.1.cell 4; have h5 := hSw.1.cell 5; have h6 := hSw.1.cell 6; have h7 := hSw.1.cell 7; have f0 := hSw.2.cell 0; have f1 := hSw.2.cell 1; have f2 := hSw.2.cell 2; have f3 := hSw.2.cell 3; have f4 := hSw.2.cell 4; have f5 := hSw.2.cell 5; have f6 := hSw.2.cell 6; have f7 := hSw.2.cell 7; go_simp; (try with_reducible rfl)
        (try simp only [Act.put, List.getElem_toArray, List.getElem_cons_zero, List.getElem_cons_succ, List.setIfInBounds_toArray, List.set_cons_zero, List.set_cons_succ])
        refine wpAnyF_take (i := 32) (v := undef) (by kernel_rfl) (by kernel_rfl) rfl (by kernel_rfl) (by kernel_rfl) (by kernel_rfl) (fun _ _ _ h => h) (Or.inr ⟨by rfl, rfl⟩) (by assumption) ?_
        (try simp only [Act.put, List.getElem_toArray, List.getElem_cons_zero, List.getElem_cons_succ, List.setIfInBounds_toArray, List.set_cons_zero, List.set_cons_succ])
        refine wpAnyF_take (i := 33) (v := undef) (by kernel_rfl) (by kernel_rfl) rfl (by kernel_rfl) (by kernel_rfl) (by kernel_rfl) (fun _ _ _ h => h) (Or.inr ⟨by rfl, rfl⟩) (by assumption) ?_
        (try simp only [Act.put, List.getElem_toArray, List.getElem_cons_zero, List.getElem_cons_succ, List.setIfInBounds_toArray, List.set_cons_zero, List.set_cons_succ])
        refine wpAnyF_take (i := 34) (v := undef) (by kernel_rfl) (by kernel_rfl) rfl (by kernel_rfl) (by kernel_rfl) (by kernel_rfl) (fun _ _ _ h => h) (Or.inr ⟨by rfl, rfl⟩) (by assumption) ?_
        (try simp only [Act.put, List.getElem_toArray, List.getElem_cons_zero, List.getElem_cons_succ, List.setIfInBounds_toArray, List.set_cons_zero, List.set_cons_succ])
        refine wpAnyF_take (i := 35) (v := undef) (by kernel_rfl) (by kernel_rfl) rfl (by kernel_rfl) (by kernel_rfl) (by kernel_rfl) (fun _ _ _ h => h) (Or.inr ⟨by rfl, rfl⟩) (by assumption) ?_
        (try simp only [Act.put, List.getElem_toArray, List.getElem_cons_zero, List.getElem_cons_succ, List.setIfInBounds_toArray, List.set_cons_zero, List.set_cons_succ])
        refine wpAnyF_take (i := 36) (v := undef) (by kernel_rfl) (by kernel_rfl) rfl (by kernel_rfl) (by kernel_rfl) (by kernel_rfl) (fun _ _ _ h => h) (Or.inr ⟨by rfl, rfl⟩) (by assumption) ?_
        (try simp only [Act.put, List.getElem_toArray, List.getElem_cons_zero, List.getElem_cons_succ, List.setIfInBounds_toArray, List.set_cons_zero, List.set_cons_succ])
        refine wpAnyF_take (i := 37) (v := undef) (by kernel_rfl) (by kernel_rfl) rfl (by kernel_rfl) (by kernel_rfl) (by kernel_rfl) (fun _ _ _ h => h) (Or.inr ⟨by rfl, rfl⟩) (by assumption) ?_
        (try simp only [Act.put, List.getElem_toArray, List.getElem_cons_zero, List.getElem_cons_succ, List.setIfInBounds_toArray, List.set_cons_zero, List.set_cons_succ])
        refine wpAnyF_take (i := 38) (v := ?_) (by kernel_rfl) (by kernel_rfl) rfl (by kernel_rfl) (by kernel_rfl) (by kernel_rfl) (fun _ _ _ h => h) (Or.inl ⟨by rfl, ?_⟩) (by assumption) ?_
        rotate_left
        · intro w' hSw; (try dsimp only at hSw); have h0 := hSw.1.cell 0; have h1 := hSw.1.cell 1; have h2 := hSw.1.cell 2; have h3 := hSw.1.cell 3; have h4 := hSw.1.cell 4; have h5 := hSw.1.cell 5; have h6 := hSw.1.cell 6; have h7 := hSw.1.cell 7; have f0 := hSw.2.cell 0; have f1 := hSw.2.cell 1; have f2 := hSw.2.cell 2; have f3 := hSw.2.cell 3; have f4 := hSw.2.cell 4; have f5 := hSw.2.cell 5; have f6 := hSw.2.cell 6; have f7 := hSw.2.cell 7; go_simp; (try with_reducible rfl)
        (try simp only [Act.put, List.getElem_toArray, List.getElem_cons_zero, List.getElem_cons_succ, List.setIfInBounds_toArray, List.set_cons_zero, List.set_cons_succ])
        refine wpAnyF_take (i := 39) (v := ?_) (by kernel_rfl) (by kernel_rfl) rfl (by kernel_rfl) (by kernel_rfl) (by kernel_rfl) (fun _ _ _ h => h) (Or.inl ⟨by rfl, ?_⟩) (by assumption) ?_
        rotate_left
        · intro w' hSw; (try dsimp only at hSw); have h0 := hSw.1.cell 0; have h1 := hSw.1.cell 1; have h2 := hSw.1.cell 2; have h3 := hSw.1.cell 3; have h4 := hSw.1.cell 4; have h5 := hSw.1.cell 5; have h6 := hSw.1.cell 6; have h7 := hSw.1.cell 7; have f0 := hSw.2.cell 0; have f1 := hSw.2.cell 1; have f2 := hSw.2.cell 2; have f3 := hSw.2.cell 3; have f4 := hSw.2.cell 4; have f5 := hSw.2.cell 5; have f6 := hSw.2.cell 6; have f7 := hSw.2.cell 7; go_simp; (try with_reducible rfl)
        (try simp only [Act.put, List.getElem_toArray, List.getElem_cons_zero, List.getElem_cons_succ, List.setIfInBounds_toArray, List.set_cons_zero, List.set_cons_succ])
        refine wpAnyF_take (i := 40) (v := ?_) (by kernel_rfl) (by kernel_rfl) rfl (by kernel_rfl) (by kernel_rfl) (by kernel_rfl) (fun _ _ _ h => h) (Or.inl ⟨by rfl, ?_⟩) (by assumption) ?_
        rotate_left
        · intro w' hSw; (try dsimp only at hSw); have h0 := hSw.1.cell 0; have h1 := hSw.1.cell 1; have h2 := hSw.1.cell 2; have h3 := hSw.1.cell 3; have h4 := hSw.1.cell 4; have h5 := hSw.1.cell 5; have h6 := hSw.1.cell 6; have h7 := hSw.1.cell 7; have f0 := hSw.2.cell 0; have f1 := hSw.2.cell 1; have f2 := hSw.2.cell 2; have f3 := hSw.2.cell 3; have f4 := hSw.2.cell 4; have f5 := hSw.2.cell 5; have f6 := hSw.2.cell 6; have f7 := hSw.2.cell 7; go_simp; (try with_reducible rfl)
        (try simp only [Act.put, List.getElem_toArray, List.getElem_cons_zero, List.getElem_cons_succ, List.setIfInBounds_toArray, List.set_cons_zero, List.set_cons_succ])
        refine wpAnyF_take (i := 41) (v := ?_) (by kernel_rfl) (by kernel_rfl) rfl (by kernel_rfl) (by kernel_rfl) (by kernel_rfl) (fun _ _ _ h => h) (Or.inl ⟨by rfl, ?_⟩) (by assumption) ?_
        rotate_left
        · intro w' hSw; (try dsimp only at hSw); have h0 := hSw.1.cell 0; have h1 := hSw.1.cell 1; have h2 := hSw.1.cell 2; have h3 := hSw.1.cell 3; have h4 := hSw.1.cell 4; have h5 := hSw.1.cell 5; have h6 := hSw.1.cell 6; have h7 := hSw.1.cell 7; have f0 := hSw.2.cell 0; have f1 := hSw.2.cell 1; have f2 := hSw.2.cell 2; have f3 := hSw.2.cell 3; have f4 := hSw.2.cell 4; have f5 := hSw.2.cell 5; have f6 := hSw.2.cell 6; have f7 := hSw.2.cell 7; go_simp; (try with_reducible rfl)
        (try simp only [Act.put, List.getElem_toArray, List.getElem_cons_zero, List.getElem_cons_succ, List.setIfInBounds_toArray, List.set_cons_zero, List.set_cons_succ])
        refine wpAnyF_take (i := 42) (v := ?_) (by kernel_rfl) (by kernel_rfl) rfl (by kernel_rfl) (by kernel_rfl) (by kernel_rfl) (fun _ _ _ h => h) (Or.inl ⟨by rfl, ?_⟩) (by assumption) ?_
        rotate_left
        · intro w' hSw; (try dsimp only at hSw); have h0 := hSw.1.cell 0; have h1 := hSw.1.cell 1; have h2 := hSw.1.cell 2; have h3 := hSw.1.cell 3; have h4 := hSw.1.cell 4; have h5 := hSw.1.cell 5; have h6 := hSw.1.cell 6; have h7 := hSw.1.cell 7; have f0 := hSw.2.cell 0; have f1 := hSw.2.cell 1; have f2 := hSw.2.cell 2; have f3 := hSw.2.cell 3; have f4 := hSw.2.cell 4; have f5 := hSw.2.cell 5; have f6 := hSw.2.cell 6; have f7 := hSw.2.cell 7; go_simp; (try with_reducible rfl)
        (try simp only [Act.put, List.getElem_toArray, List.getElem_cons_zero, List.getElem_cons_succ, List.setIfInBounds_toArray, List.set_cons_zero, List.set_cons_succ])
        refine wpAnyF_take (i := 43) (v := ?_) (by kernel_rfl) (by kernel_rfl) rfl (by kernel_rfl) (by kernel_rfl) (by kernel_rfl) (fun _ _ _ h => h) (Or.inl ⟨by rfl, ?_⟩) (by assumption) ?_
        rotate_left
        · intro w' hSw; (try dsimp only at hSw); have h0 := hSw.1.cell 0; have h1 := hSw.1.cell 1; have h2 := hSw.1.cell 2; have h3 := hSw.1.cell 3; have h4 := hSw.1.cell 4; have h5 := hSw.1.cell 5; have h6 := hSw.1.cell 6; have h7 := hSw.1.cell 7; have f0 := hSw.2.cell 0; have f1 := hSw.2.cell 1; have f2 := hSw.2.cell 2; have f3 := hSw.2.cell 3; have f4 := hSw.2.cell 4; have f5 := hSw.2.cell 5; have f6 := hSw.2.cell 6; have f7 := hSw.2.cell 7; go_simp; (try with_reducible rfl)
        (try simp only [Act.put, List.getElem_toArray, List.getElem_cons_zero, List.getElem_cons_succ, List.setIfInBounds_toArray, List.set_cons_zero, List.set_cons_succ])
        refine wpAnyF_take (i := 44) (v := ?_) (by kernel_rfl) (by kernel_rfl) rfl (by kernel_rfl) (by kernel_rfl) (by kernel_rfl) (fun _ _ _ h => h) (Or.inl ⟨by rfl, ?_⟩) (by assumption) ?_
        rotate_left
        · intro w' hSw; (try dsimp only at hSw); have h0 := hSw.1.cell 0; have h1 := hSw.1.cell 1; have h2 := hSw.1.cell 2; have h3 := hSw.1.cell 3; have h4 := hSw.1.cell 4; have h5 := hSw.1.cell 5; have h6 := hSw.1.cell 6; have h7 := hSw.1.cell 7; have f0 := hSw.2.cell 0; have f1 := hSw.2.cell 1; have f2 := hSw.2.cell 2; have f3 := hSw.2.cell 3; have f4 := hSw.2.cell 4; have f5 := hSw.2.cell 5; have f6 := hSw.2.cell 6; have f7 := hSw.2.cell 7; go_simp; (try with_reducible rfl)
        (try simp only [Act.put, List.getElem_toArray, List.getElem_cons_zero, List.getElem_cons_succ, List.setIfInBounds_toArray, List.set_cons_zero, List.set_cons_succ])
        refine wpAnyF_take (i := 45) (v := ?_) (by kernel_rfl) (by kernel_rfl) rfl (by kernel_rfl) (by kernel_rfl) (by kernel_rfl) (fun _ _ _ h => h) (Or.inl ⟨by rfl, ?_⟩) (by assumption) ?_
        rotate_left
        · intro w' hSw; (try dsimp only at hSw); have h0 := hSw.1.cell 0; have h1 := hSw.1.cell 1; have h2 := hSw.1.cell 2; have h3 := hSw.1.cell 3; have h4 := hSw.1.cell 4; have h5 := hSw.1.cell 5; have h6 := hSw.1.cell 6; have h7 := hSw.1.cell 7; have f0 := hSw.2.cell 0; have f1 := hSw.2.cell 1; have f2 := hSw.2.cell 2; have f3 := hSw.2.cell 3; have f4 := hSw.2.cell 4; have f5 := hSw.2.cell 5; have f6 := hSw.2.cell 6; have f7 := hSw.2.cell 7; go_simp; (try with_reducible rfl)
        (try simp only [Act.put, List.getElem_toArray, List.getElem_cons_zero, List.getElem_cons_succ, List.setIfInBounds_toArray, List.set_cons_zero, List.set_cons_succ])
        refine wpAnyF_take (i := 46) (v := ?_) (by kernel_rfl) (by kernel_rfl) rfl (by kernel_rfl) (by kernel_rfl) (by kernel_rfl) (fun _ _ _ h => h) (Or.inl ⟨by rfl, ?_⟩) (by assumption) ?_
        rotate_left
        · intro w' hSw; (try dsimp only at hSw); have h0 := hSw.1.cell 0; have h1 := hSw.1.cell 1; have h2 := hSw.1.cell 2; have h3 := hSw.1.cell 3; have h4 := hSw.1.cell 4; have h5 := hSw.1.cell 5; have h6 := hSw.1.cell 6; have h7 := hSw.1.cell 7; have f0 := hSw.2.cell 0; have f1 := hSw.2.cell 1; have f2 := hSw.2.cell 2; have f3 := hSw.2.cell 3; have f4 := hSw.2.cell 4; have f5 := hSw.2.cell 5; have f6 := hSw.2.cell 6; have f7 := hSw.2.cell 7; go_simp; (try with_reducible rfl)
        (try simp only [Act.put, List.getElem_toArray, List.getElem_cons_zero, List.getElem_cons_succ, List.setIfInBounds_toArray, List.set_cons_zero, List.set_cons_succ])
        refine wpAnyF_take (i := 47) (v := ?_) (by kernel_rfl) (by kernel_rfl) rfl (by kernel_rfl) (by kernel_rfl) (by kernel_rfl) (fun _ _ _ h => h) (Or.inl ⟨by rfl, ?_⟩) (by assumption) ?_
        rotate_left
        · intro w' hSw; (try dsimp only at hSw); have h0 := hSw.1.cell 0; have h1 := hSw.1.cell 1; have h2 := hSw.1.cell 2; have h3 := hSw.1.cell 3; have h4 := hSw.1.cell 4; have h5 := hSw.1.cell 5; have h6 := hSw.1.cell 6; have h7 := hSw.1.cell 7; have f0 := hSw.2.cell 0; have f1 := hSw.2.cell 1; have f2 := hSw.2.cell 2; have f3 := hSw.2.cell 3; have f4 := hSw.2.cell 4; have f5 := hSw.2.cell 5; have f6 := hSw.2.cell 6; have f7 := hSw.2.cell 7; go_simp; (try with_reducible rfl)
        (try simp only [Act.put, List.getElem_toArray, List.getElem_cons_zero, List.getElem_cons_succ, List.setIfInBounds_toArray, List.set_cons_zero, List.set_cons_succ])
        refine wpAnyF_take (i := 48) (v := ?_) (by kernel_rfl) (by kernel_rfl) rfl (by kernel_rfl) (by kernel_rfl) (by kernel_rfl) (fun _ _ _ h => h) (Or.inl ⟨by rfl, ?_⟩) (by assumption) ?_
        rotate_left
        · intro w' hSw; (try dsimp only at hSw); have h0 := hSw.1.cell 0; have h1 := hSw.1.cell 1; have h2 := hSw.1.cell 2; have h3 := hSw.1.cell 3; have h4 := hSw.1.cell 4; have h5 := hSw.1.cell 5; have h6 := hSw.1.cell 6; have h7 := hSw.1.cell 7; have f0 := hSw.2.cell 0; have f1 := hSw.2.cell 1; have f2 := hSw.2.cell 2; have f3 := hSw.2.cell 3; have f4 := hSw.2.cell 4; have f5 := hSw.2.cell 5; have f6 := hSw.2.cell 6; have f7 := hSw.2.cell 7; go_simp; (try with_reducible rfl)
        (try simp only [Act.put, List.getElem_toArray, List.getElem_cons_zero, List.getElem_cons_succ, List.setIfInBounds_toArray, List.set_cons_zero, List.set_cons_succ])
        refine wpAnyF_take (i := 49) (v := ?_) (by kernel_rfl) (by kernel_rfl) rfl (by kernel_rfl) (by kernel_rfl) (by kernel_rfl) (fun _ _ _ h => h) (Or.inl ⟨by rfl, ?_⟩) (by assumption) ?_
        rotate_left
        · intro w' hSw; (try dsimp only at hSw); have h0 := hSw.1.cell 0; have h1 := hSw.1.cell 1; have h2 := hSw.1.cell 2; have h3 := hSw.1.cell 3; have h4 := hSw.1.cell 4; have h5 := hSw.1.cell 5; have h6 := hSw.1.cell 6; have h7 := hSw.1.cell 7; have f0 := hSw.2.cell 0; have f1 := hSw.2.cell 1; have f2 := hSw.2.cell 2; have f3 := hSw.2.cell 3; have f4 := hSw.2.cell 4; have f5 := hSw.2.cell 5; have f6 := hSw.2.cell 6; have f7 := hSw.2.cell 7; go_simp; (try with_reducible rfl)
        (try simp only [Act.put, List.getElem_toArray, List.getElem_cons_zero, List.getElem_cons_succ, List.setIfInBounds_toArray, List.set_cons_zero, List.set_cons_succ])
        refine wpAnyF_done (by kernel_rfl) ?_ _
        refine NoPanic.normal ?_
        go_wp2
        go_ret
        exact ⟨rfl, B8d.out⟩
  · have hz : bits .and .i64 g 1 = 1 := by rw [ha, ← gO_int, hG]; rfl
    have hon : ({ x with o1 := false } : Fc).on g = false := by unfold Fc.on; rw [hG]; rfl
    have HT := hi (fun b W (z : CB W b 29 (({ x with o1 := false } : Fc)).cs) => take_any b ({ x with o1 := false } : Fc) ⟨ci, cp, g, cis⟩ g W z)
    have HS := hi (fun W => shows_any ({ x with o1 := false } : Fc) ⟨ci, cp, g, cis⟩ g W)
    have HM := hi (fun W => may_any ({ x with o1 := false } : Fc) ⟨ci, cp, g, cis⟩ W)
    rw [off_take hon] at HT
    rw [off_shows hon] at HS
    rw [off_may (c := ⟨ci, cp, g, cis⟩) hon] at HM
    obtain ⟨m, p0, p1, o0, o1, sp, r⟩ := x
    dsimp only at HT HS HM HRU HDR HDE
    have HB0 := hi (bal_two w (.cells #[.int .i64 m, .int .i64 p0, .int .i64 p1, .bool o0, .bool o1, .bool sp, .int .u32 (wd r 0), .int .u32 (wd r 1)] 29) (.cells #[.int .i64 ci, .int .i64 cp, .int .i64 cg, .bool cis] 39))
    have HF0 := hi ((CB.new w 29 #[.int .i64 m, .int .i64 p0, .int .i64 p1, .bool o0, .bool o1, .bool sp, .int .u32 (wd r 0), .int .u32 (wd r 1)]).alloc (.cells #[.int .i64 ci, .int .i64 cp, .int .i64 cg, .bool cis] 39))
    have HC0 := hi (cb_second (w := w) (o := .cells #[.int .i64 m, .int .i64 p0, .int .i64 p1, .bool o0, .bool o1, .bool sp, .int .u32 (wd r 0), .int .u32 (wd r 1)] 29) (cs := #[.int .i64 ci, .int .i64 cp, .int .i64 cg, .bool cis]) (t := 39))
    have wr1 : IntKind.i64.wrap 1 = 1 := by rw [IntKind.wrap_i64]; rfl
    have wr0 : IntKind.i64.wrap 0 = 0 := by rw [IntKind.wrap_i64]; rfl
    clear ha hon
    rcases run_cases r with ⟨_, hR, hD⟩ | ⟨i, hi64, hri, _, hR, hD, hDR, hlen⟩
    · rw [hR] at HRU
      have hdv : dropV ⟨m, p0, p1, o0, o1, sp, r⟩ g = (⟨m, p0, p1, o0, o1, sp, r⟩, false) := by unfold dropV; simp [hD]
      rw [hdv] at HDR
      dsimp only at HDR HRU
      clear hR hD hdv hG HDE
      go_enter Try.func7, Try.ntmps7
      go_wp2_with (first
        | (go_at_call 9; ((with_reducible refine (awake_if _).mono ?_); rintro e w1 ⟨rfl, hb⟩; have F1 := hi (HF0.out.below hb); have C1 := hi (HC0.out.below hb); have B1 := hi (HB0.out.trans (hb.mono HB0.out.size)); have f0 := F1.out.cell 0; have f1 := F1.out.cell 1; have f2 := F1.out.cell 2; have f3 := F1.out.cell 3; have f4 := F1.out.cell 4; have f5 := F1.out.cell 5; have f6 := F1.out.cell 6; have f7 := F1.out.cell 7; have c2 := C1.out.cell 2; have cf := C1.out.frozen; have hcg := C1.out.below (bal w1 (.cells #[.int .i64 m, .int .i64 p0, .int .i64 p1, .bool o0, .bool false, .bool sp, .int .u32 (wd r 0), .int .u32 (wd r 1)] 29)); have e2 := hcg.cell 2; have ef := hcg.frozen; have hl := C1.out.lt; have W1 := hi (show ∃ W, (w1.alloc (.cells #[.int .i64 m, .int .i64 p0, .int .i64 p1, .bool o0, .bool false, .bool sp, .int .u32 (wd r 0), .int .u32 (wd r 1)] 29)).setCell ⟨w.heap.size + 1, 2, none⟩ (.int .i64 g) = W ∧ CB W w.heap.size 29 #[.int .i64 m, .int .i64 p0, .int .i64 p1, .bool o0, .bool o1, .bool sp, .int .u32 (wd r 0), .int .u32 (wd r 1)] ∧ CB W (w.heap.size + 1) 39 #[.int .i64 ci, .int .i64 cp, .int .i64 g, .bool cis] ∧ CB W w1.heap.size 29 #[.int .i64 m, .int .i64 p0, .int .i64 p1, .bool o0, .bool false, .bool sp, .int .u32 (wd r 0), .int .u32 (wd r 1)] ∧ Below w.heap.size w W ∧ W.heap.size = w1.heap.size + 1 from ⟨_, rfl, (F1.out.below (bal w1 _)).other _ _ _ (by omega), by simpa using hcg.set 2 (.int .i64 g), (CB.new w1 29 #[.int .i64 m, .int .i64 p0, .int .i64 p1, .bool o0, .bool false, .bool sp, .int .u32 (wd r 0), .int .u32 (wd r 1)]).other _ _ _ (by omega), below_set (B1.out.trans ((bal w1 _).mono B1.out.size)) (show w.heap.size ≤ w.heap.size + 1 by omega) _, by simp⟩); have gg := ((CB.new w1 29 #[.int .i64 m, .int .i64 p0, .int .i64 p1, .bool o0, .bool false, .bool sp, .int .u32 (wd r 0), .int .u32 (wd r 1)]).other (w.heap.size + 1) 2 (.int .i64 g) (by omega)); have k0 := gg.cell 0; have k1 := gg.cell 1; have k2 := gg.cell 2; have k3 := gg.cell 3; have k4 := gg.cell 4; have k5 := gg.cell 5; have k6 := gg.cell 6; have k7 := gg.cell 7; have yc : CB ((w1.alloc (.cells #[.int .i64 m, .int .i64 p0, .int .i64 p1, .bool o0, .bool false, .bool sp, .int .u32 (wd r 0), .int .u32 (wd r 1)] 29)).setCell ⟨w.heap.size + 1, 2, none⟩ (.int .i64 g)) (w.heap.size + 1) 39 #[.int .i64 ci, .int .i64 cp, .int .i64 g, .bool cis] := (by simpa using hcg.set 2 (.int .i64 g)); have y0 := yc.cell 0; have y1 := yc.cell 1; have y2 := yc.cell 2; have y3 := yc.cell 3; have yf := yc.frozen; have yd := yc.below (bal _ (.cells #[.int .i64 m, .int .i64 p0, .int .i64 p1, .bool o0, .bool false, .bool sp, .int .u32 (wd r 0), .int .u32 (wd r 1)] 29)); have z0 := yd.cell 0; have z1 := yd.cell 1; have z2 := yd.cell 2; have z3 := yd.cell 3; have zf := yd.frozen; have LT := hi hl; clear hb hcg hl gg yc yd)))
      obtain ⟨W, hW, hF, hC, hG1, hB, hZ⟩ := W1.out
      rw [hW]
      have hw := bal W (.cells #[.int .i64 m, .int .i64 p0, .int .i64 p1, .bool o0, .bool false, .bool sp, .int .u32 (wd r 0), .int .u32 (wd r 1)] 29)
      have F2 := hi (hF.below hw)
      have C2 := hi (hC.below hw)
      have G2 := hi (hG1.below hw)
      have V2 := hi (show CB (W.alloc (.cells #[.int .i64 m, .int .i64 p0, .int .i64 p1, .bool o0, .bool false, .bool sp, .int .u32 (wd r 0), .int .u32 (wd r 1)] 29)) (w1.heap.size + 1) 29 #[.int .i64 m, .int .i64 p0, .int .i64 p1, .bool o0, .bool false, .bool sp, .int .u32 (wd r 0), .int .u32 (wd r 1)] from hZ ▸ CB.new W 29 #[.int .i64 m, .int .i64 p0, .int .i64 p1, .bool o0, .bool false, .bool sp, .int .u32 (wd r 0), .int .u32 (wd r 1)])
      have B2 := hi (hB.trans (hw.mono hB.size))
      have Z := hi hZ
      have d0 := C2.out.cell 0
      have d1 := C2.out.cell 1
      have d2 := C2.out.cell 2
      have d3 := C2.out.cell 3
      clear y0 y1 y2 y3 yf z0 z1 z2 z3 zf
      clear hW hF hC hG1 hB hZ hw W1 k0 k1 k2 k3 k4 k5 k6 k7 e2 ef f0 f1 f2 f3 f4 f5 f6 f7 c2 cf
      go_wp2_with (first
        | (go_at_call 26; ((with_reducible refine (HT.out _ _ G2.out).mono ?_); rintro e w3 ⟨rfl, hA⟩; have G3 := hi hA.bx; have F3 := hi (F2.out.keptB hA.kept (by have := LT.out; omega)); have C3 := hi (C2.out.keptB hA.kept (by have := LT.out; omega)); have V3 := hi (V2.out.keptB hA.kept (by omega)); have B3 := hi (B2.out.trans (hA.kept.toBelow B2.out.size (fun i z => by subst z; have := LT.out; omega))); have k0 := G3.out.cell 0; have k1 := G3.out.cell 1; have k2 := G3.out.cell 2; have k3 := G3.out.cell 3; have k4 := G3.out.cell 4; have k5 := G3.out.cell 5; have k6 := G3.out.cell 6; have k7 := G3.out.cell 7; have n0 := V3.out.cell 0; have n1 := V3.out.cell 1; have n2 := V3.out.cell 2; have n3 := V3.out.cell 3; have n4 := V3.out.cell 4; have n5 := V3.out.cell 5; have n6 := V3.out.cell 6; have n7 := V3.out.cell 7; have d0 := C3.out.cell 0; have d1 := C3.out.cell 1; have d2 := C3.out.cell 2; have d3 := C3.out.cell 3; clear hA))
        | (go_at_call 17; ((with_reducible refine (HS.out _).mono ?_); rintro e w4 ⟨rfl, hb⟩; have G4 := hi (G3.out.below hb); have F4 := hi (F3.out.below hb); have C4 := hi (C3.out.below hb); have B4 := hi (B3.out.trans (hb.mono B3.out.size)); have k0 := G4.out.cell 0; have k1 := G4.out.cell 1; have k2 := G4.out.cell 2; have k3 := G4.out.cell 3; have k4 := G4.out.cell 4; have k5 := G4.out.cell 5; have k6 := G4.out.cell 6; have k7 := G4.out.cell 7; have d0 := C4.out.cell 0; have d1 := C4.out.cell 1; have d2 := C4.out.cell 2; have d3 := C4.out.cell 3; clear hb))
        | (go_at_call 15; ((with_reducible refine (HM.out _).mono ?_); rintro e w5 ⟨rfl, hb⟩; have hc := bal w5 (.cells #[.int .i64 m, .int .i64 p0, .int .i64 p1, .bool o0, .bool o1, .bool sp, .int .u32 (wd r 0), .int .u32 (wd r 1)] 29); have F5 := hi (F4.out.below hb); have F6 := hi (F5.out.below hc); have H6 := hi (CB.new w5 29 #[.int .i64 m, .int .i64 p0, .int .i64 p1, .bool o0, .bool o1, .bool sp, .int .u32 (wd r 0), .int .u32 (wd r 1)]); have B6 := hi ((B4.out.trans (hb.mono B4.out.size)).trans (hc.mono (B4.out.trans (hb.mono B4.out.size)).size)); have L6 := hi (show w.heap.size < w5.heap.size from F5.out.lt); have f0 := F5.out.cell 0; have f1 := F5.out.cell 1; have f2 := F5.out.cell 2; have f3 := F5.out.cell 3; have f4 := F5.out.cell 4; have f5 := F5.out.cell 5; have f6 := F5.out.cell 6; have f7 := F5.out.cell 7; clear hb hc))
        | (go_at_call 29; ((with_reducible refine (HDR.out _ _ H6.out).mono ?_); rintro e w7 ⟨rfl, hA⟩; have H7 := hi (show CB w7 w5.heap.size 29 #[.int .i64 m, .int .i64 p0, .int .i64 p1, .bool o0, .bool o1, .bool sp, .int .u32 (wd r 0), .int .u32 (wd r 1)] from hA.bx); have F7 := hi (F6.out.keptB hA.kept (by have := L6.out; omega)); have B7 := hi (B6.out.trans (hA.kept.toBelow B6.out.size (fun i z => by subst z; have := L6.out; omega))); have f0 := F7.out.cell 0; have f1 := F7.out.cell 1; have f2 := F7.out.cell 2; have f3 := F7.out.cell 3; have f4 := F7.out.cell 4; have f5 := F7.out.cell 5; have f6 := F7.out.cell 6; have f7 := F7.out.cell 7; clear hA))
        | (go_at_call 28; ((with_reducible refine (HRU.out _).mono ?_); rintro e w8 ⟨rfl, hb⟩; have H8 := hi (H7.out.below hb); have F8 := hi (F7.out.below hb); have B8 := hi (B7.out.trans (hb.mono B7.out.size)); clear hb)))
      have B8d := hi (Below.drewN (m := 1) B8.out)
      refine wp_region_noPanic ?_
      refine wp_region_last_drew (S := (fun W' => CB W' w5.heap.size 29 #[.int .i64 m, .int .i64 p0, .int .i64 p1, .bool o0, .bool o1, .bool sp, .int .u32 (wd r 0), .int .u32 (wd r 1)] ∧ CB W' w.heap.size 29 #[.int .i64 m, .int .i64 p0, .int .i64 p1, .bool o0, .bool o1, .bool sp, .int .u32 (wd r 0), .int .u32 (wd r 1)])) [] (by kernel_rfl) ⟨H8.out.drew, F8.out.drew⟩ (fun hHeld => ?_)
      (try simp only [Array.replicate_succ, Array.replicate_zero, List.push_toArray, List.nil_append, List.cons_append])
      refine wpAnyF_take (i := 0) (v := ?_) (by kernel_rfl) (by kernel_rfl) rfl (by kernel_rfl) (by kernel_rfl) (by kernel_rfl) (fun _ _ _ h => h) (Or.inl ⟨by rfl, ?_⟩) (by assumption) ?_
      rotate_left
      · intro w' hSw; (try dsimp only at hSw); have h0 := hSw.1.cell 0; have h1 := hSw.1.cell 1; have h2 := hSw.1.cell 2; have h3 := hSw.1.cell 3; have h4 := hSw.1.cell 4; have h5 := hSw.1.cell 5; have h6 := hSw.1.cell 6; have h7 := hSw.1.cell 7; have f0 := hSw.2.cell 0; have f1 := hSw.2.cell 1; have f2 := hSw.2.cell 2; have f3 := hSw.2.cell 3; have f4 := hSw.2.cell 4; have f5 := hSw.2.cell 5; have f6 := hSw.2.cell 6; have f7 := hSw.2.cell 7; go_simp; (try with_reducible rfl)
      (try simp only [Act.put, List.getElem_toArray, List.getElem_cons_zero, List.setIfInBounds_toArray, List.set_cons_zero, List.set_cons_succ])
      refine wpAnyF_take (i := 1) (v := ?_) (by kernel_rfl) (by kernel_rfl) rfl (by kernel_rfl) (by kernel_rfl) (by kernel_rfl) (fun _ _ _ h => h) (Or.inl ⟨by rfl, ?_⟩) (by assumption) ?_
      rotate_left
      · intro w' hSw; (try dsimp only at hSw); have h0 := hSw.1.cell 0; have h1 := hSw.1.cell 1; have h2 := hSw.1.cell 2; have h3 := hSw.1.cell 3; have h4 := hSw.1.cell 4; have h5 := hSw.1.cell 5; have h6 := hSw.1.cell 6; have h7 := hSw.1.cell 7; have f0 := hSw.2.cell 0; have f1 := hSw.2.cell 1; have f2 := hSw.2.cell 2; have f3 := hSw.2.cell 3; have f4 := hSw.2.cell 4; have f5 := hSw.2.cell 5; have f6 := hSw.2.cell 6; have f7 := hSw.2.cell 7; go_simp; (try with_reducible rfl)
      (try simp only [Act.put, List.getElem_toArray, List.getElem_cons_zero, List.getElem_cons_succ, List.setIfInBounds_toArray, List.set_cons_zero, List.set_cons_succ])
      refine wpAnyF_take (i := 2) (v := ?_) (by kernel_rfl) (by kernel_rfl) rfl (by kernel_rfl) (by kernel_rfl) (by kernel_rfl) (fun _ _ _ h => h) (Or.inl ⟨by rfl, ?_⟩) (by assumption) ?_
      rotate_left
      · intro w' hSw; (try dsimp only at hSw); have h0 := hSw.1.cell 0; have h1 := hSw.1.cell 1; have h2 := hSw.1.cell 2; have h3 := hSw.1.cell 3; have h4 := hSw.1.cell 4; have h5 := hSw.1.cell 5; have h6 := hSw.1.cell 6; have h7 := hSw.1.cell 7; have f0 := hSw.2.cell 0; have f1 := hSw.2.cell 1; have f2 := hSw.2.cell 2; have f3 := hSw.2.cell 3; have f4 := hSw.2.cell 4; have f5 := hSw.2.cell 5; have f6 := hSw.2.cell 6; have f7 := hSw.2.cell 7; go_simp; (try with_reducible rfl)
      (try simp only [Act.put, List.getElem_toArray, List.getElem_cons_zero, List.getElem_cons_succ, List.setIfInBounds_toArray, List.set_cons_zero, List.set_cons_succ])
      refine wpAnyF_take (i := 3) (v := ?_) (by kernel_rfl) (by kernel_rfl) rfl (by kernel_rfl) (by kernel_rfl) (by kernel_rfl) (fun _ _ _ h => h) (Or.inl ⟨by rfl, ?_⟩) (by assumption) ?_
      rotate_left
      · intro w' hSw; (try dsimp only at hSw); have h0 := hSw.1.cell 0; have h1 := hSw.1.cell 1; have h2 := hSw.1.cell 2; have h3 := hSw.1.cell 3; have h4 := hSw.1.cell 4; have h5 := hSw.1.cell 5; have h6 := hSw.1.cell 6; have h7 := hSw.1.cell 7; have f0 := hSw.2.cell 0; have f1 := hSw.2.cell 1; have f2 := hSw.2.cell 2; have f3 := hSw.2.cell 3; have f4 := hSw.2.cell 4; have f5 := hSw.2.cell 5; have f6 := hSw.2.cell 6; have f7 := hSw.2.cell 7; go_simp; (try with_reducible rfl)
      (try simp only [Act.put, List.getElem_toArray, List.getElem_cons_zero, List.getElem_cons_succ, List.setIfInBounds_toArray, List.set_cons_zero, List.set_cons_succ])
      refine wpAnyF_take (i := 4) (v := ?_) (by kernel_rfl) (by kernel_rfl) rfl (by kernel_rfl) (by kernel_rfl) (by kernel_rfl) (fun _ _ _ h => h) (Or.inl ⟨by rfl, ?_⟩) (by assumption) ?_
      rotate_left
      · intro w' hSw; (try dsimp only at hSw); have h0 := hSw.1.cell 0; have h1 := hSw.1.cell 1; have h2 := hSw.1.cell 2; have h3 := hSw.1.cell 3; have h4 := hSw.1.cell 4; have h5 := hSw.1.cell 5; have h6 := hSw.1.cell 6; have h7 := hSw.1.cell 7; have f0 := hSw.2.cell 0; have f1 := hSw.2.cell 1; have f2 := hSw.2.cell 2; have f3 := hSw.2.cell 3; have f4 := hSw.2.cell 4; have f5 := hSw.2.cell 5; have f6 := hSw.2.cell 6; have f7 := hSw.2.cell 7; go_simp; (try with_reducible rfl)
      (try simp only [Act.put, List.getElem_toArray, List.getElem_cons_zero, List.getElem_cons_succ, List.setIfInBounds_toArray, List.set_cons_zero, List.set_cons_succ])
      refine wpAnyF_take (i := 5) (v := ?_) (by kernel_rfl) (by kernel_rfl) rfl (by kernel_rfl) (by kernel_rfl) (by kernel_rfl) (fun _ _ _ h => h) (Or.inl ⟨by rfl, ?_⟩) (by assumption) ?_
      rotate_left
      · intro w' hSw; (try dsimp only at hSw); have h0 := hSw.1.cell 0; have h1 := hSw.1.cell 1; have h2 := hSw.1.cell 2; have h3 := hSw.1.cell 3; have h4 := hSw.1.cell 4; have h5 := hSw.1.cell 5; have h6 := hSw.1.cell 6; have h7 := hSw.1.cell 7; have f0 := hSw.2.cell 0; have f1 := hSw.2.cell 1; have f2 := hSw.2.cell 2; have f3 := hSw.2.cell 3; have f4 := hSw.2.cell 4; have f5 := hSw.2.cell 5; have f6 := hSw.2.cell 6; have f7 := hSw.2.cell 7; go_simp; (try with_reducible rfl)
      (try simp only [Act.put, List.getElem_toArray, List.getElem_cons_zero, List.getElem_cons_succ, List.setIfInBounds_toArray, List.set_cons_zero, List.set_cons_succ])
      refine wpAnyF_take (i := 6) (v := undef) (by kernel_rfl) (by kernel_rfl) rfl (by kernel_rfl) (by kernel_rfl) (by kernel_rfl) (fun _ _ _ h => h) (Or.inr ⟨by rfl, rfl⟩) (by assumption) ?_
      (try simp only [Act.put, List.getElem_toArray, List.getElem_cons_zero, List.getElem_cons_succ, List.setIfInBounds_toArray, List.set_cons_zero, List.set_cons_succ])
      refine wpAnyF_take (i := 7) (v := undef) (by kernel_rfl) (by kernel_rfl) rfl (by kernel_rfl) (by kernel_rfl) (by kernel_rfl) (fun _ _ _ h => h) (Or.inr ⟨by rfl, rfl⟩) (by assumption) ?_
      (try simp only [Act.put, List.getElem_toArray, List.getElem_cons_zero, List.getElem_cons_succ, List.setIfInBounds_toArray, List.set_cons_zero, List.set_cons_succ])
      refine wpAnyF_take (i := 8) (v := undef) (by kernel_rfl) (by kernel_rfl) rfl (by kernel_rfl) (by kernel_rfl) (by kernel_rfl) (fun _ _ _ h => h) (Or.inr ⟨by rfl, rfl⟩) (by assumption) ?_
      (try simp only [Act.put, List.getElem_toArray, List.getElem_cons_zero, List.getElem_cons_succ, List.setIfInBounds_toArray, List.set_cons_zero, List.set_cons_succ])
      refine wpAnyF_take (i := 9) (v := ?_) (by kernel_rfl) (by kernel_rfl) rfl (by kernel_rfl) (by kernel_rfl) (by kernel_rfl) (fun _ _ _ h => h) (Or.inl ⟨by rfl, ?_⟩) (by assumption) ?_
      rotate_left
      · intro w' hSw; (try dsimp only at hSw); have h0 := hSw.1.cell 0; have h1 := hSw.1.cell 1; have h2 := hSw.1.cell 2; have h3 := hSw.1.cell 3; have h4 := hSw.1.cell 4; have h5 := hSw.1.cell 5; have h6 := hSw.1.cell 6; have h7 := hSw.1.cell 7; have f0 := hSw.2.cell 0; have f1 := hSw.2.cell 1; have f2 := hSw.2.cell 2; have f3 := hSw.2.cell 3; have f4 := hSw.2.cell 4; have f5 := hSw.2.cell 5; have f6 := hSw.2.cell 6; have f7 := hSw.2.cell 7; go_simp; (try with_reducible rfl)
      (try simp only [Act.put, List.getElem_toArray, List.getElem_cons_zero, List.getElem_cons_succ, List.setIfInBounds_toArray, List.set_cons_zero, List.set_cons_succ])
      refine wpAnyF_take (i := 10) (v := ?_) (by kernel_rfl) (by kernel_rfl) rfl (by kernel_rfl) (by kernel_rfl) (by kernel_rfl) (fun _ _ _ h => h) (Or.inl ⟨by rfl, ?_⟩) (by assumption) ?_
      rotate_left
      · intro w' hSw; (try dsimp only at hSw); have h0 := hSw.1.cell 0; have h1 := hSw.1.cell 1; have h2 := hSw.1.cell 2; have h3 := hSw.1.cell 3; have h4 := hSw.1.cell 4; have h5 := hSw.1.cell 5; have h6 := hSw.1.cell 6; have h7 := hSw.1.cell 7; have f0 := hSw.2.cell 0; have f1 := hSw.2.cell 1; have f2 := hSw.2.cell 2; have f3 := hSw.2.cell 3; have f4 := hSw.2.cell 4; have f5 := hSw.2.cell 5; have f6 := hSw.2.cell 6; have f7 := hSw.2.cell 7; go_simp; (try with_reducible rfl)
      (try simp only [Act.put, List.getElem_toArray, List.getElem_cons_zero, List.getElem_cons_succ, List.setIfInBounds_toArray, List.set_cons_zero, List.set_cons_succ])
      refine wpAnyF_take (i := 11) (v := ?_) (by kernel_rfl) (by kernel_rfl) rfl (by kernel_rfl) (by kernel_rfl) (by kernel_rfl) (fun _ _ _ h => h) (Or.inl ⟨by rfl, ?_⟩) (by assumption) ?_
      rotate_left
      · intro w' hSw; (try dsimp only at hSw); have h0 := hSw.1.cell 0; have h1 := hSw.1.cell 1; have h2 := hSw.1.cell 2; have h3 := hSw.1.cell 3; have h4 := hSw.1.cell 4; have h5 := hSw.1.cell 5; have h6 := hSw.1.cell 6; have h7 := hSw.1.cell 7; have f0 := hSw.2.cell 0; have f1 := hSw.2.cell 1; have f2 := hSw.2.cell 2; have f3 := hSw.2.cell 3; have f4 := hSw.2.cell 4; have f5 := hSw.2.cell 5; have f6 := hSw.2.cell 6; have f7 := hSw.2.cell 7; go_simp; (try with_reducible rfl)
      (try simp only [Act.put, List.getElem_toArray, List.getElem_cons_zero, List.getElem_cons_succ, List.setIfInBounds_toArray, List.set_cons_zero, List.set_cons_succ])
      refine wpAnyF_take (i := 12) (v := ?_) (by kernel_rfl) (by kernel_rfl) rfl (by kernel_rfl) (by kernel_rfl) (by kernel_rfl) (fun _ _ _ h => h) (Or.inl ⟨by rfl, ?_⟩) (by assumption) ?_
      rotate_left
      · intro w' hSw; (try dsimp only at hSw); have h0 := hSw.1.cell 0; have h1 := hSw.1.cell 1; have h2 := hSw.1.cell 2; have h3 := hSw.1.cell 3; have h4 := hSw.1.cell 4; have h5 := hSw.1.cell 5; have h6 := hSw.1.cell 6; have h7 := hSw.1.cell 7; have f0 := hSw.2.cell 0; have f1 := hSw.2.cell 1; have f2 := hSw.2.cell 2; have f3 := hSw.2.cell 3; have f4 := hSw.2.cell 4; have f5 := hSw.2.cell 5; have f6 := hSw.2.cell 6; have f7 := hSw.2.cell 7; go_simp; (try with_reducible rfl)
      (try simp only [Act.put, List.getElem_toArray, List.getElem_cons_zero, List.getElem_cons_succ, List.setIfInBounds_toArray, List.set_cons_zero, List.set_cons_succ])
      refine wpAnyF_take (i := 13) (v := ?_) (by kernel_rfl) (by kernel_rfl) rfl (by kernel_rfl) (by kernel_rfl) (by kernel_rfl) (fun _ _ _ h => h) (Or.inl ⟨by rfl, ?_⟩) (by assumption) ?_
      rotate_left
      · intro w' hSw; (try dsimp only at hSw); have h0 := hSw.1.cell 0; have h1 := hSw.1.cell 1; have h2 := hSw.1.cell 2; have h3 := hSw.1.cell 3; have h4 := hSw.1.cell 4; have h5 := hSw.1.cell 5; have h6 := hSw.1.cell 6; have h7 := hSw.1.cell 7; have f0 := hSw.2.cell 0; have f1 := hSw.2.cell 1; have f2 := hSw.2.cell 2; have f3 := hSw.2.cell 3; have f4 := hSw.2.cell 4; have f5 := hSw.2.cell 5; have f6 := hSw.2.cell 6; have f7 := hSw.2.cell 7; go_simp; (try with_reducible rfl)
      (try simp only [Act.put, List.getElem_toArray, List.getElem_cons_zero, List.getElem_cons_succ, List.setIfInBounds_toArray, List.set_cons_zero, List.set_cons_succ])
      refine wpAnyF_take (i := 14) (v := ?_) (by kernel_rfl) (by kernel_rfl) rfl (by kernel_rfl) (by kernel_rfl) (by kernel_rfl) (fun _ _ _ h => h) (Or.inl ⟨by rfl, ?_⟩) (by assumption) ?_
      rotate_left
      · intro w' hSw; (try dsimp only at hSw); have h0 := hSw.1.cell 0; have h1 := hSw.1.cell 1; have h2 := hSw.1.cell 2; have h3 := hSw.1.cell 3; have h4 := hSw.1.cell 4; have h5 := hSw.1.cell 5; have h6 := hSw.1.cell 6; have h7 := hSw.1.cell 7; have f0 := hSw.2.cell 0; have f1 := hSw.2.cell 1; have f2 := hSw.2.cell 2; have f3 := hSw.2.cell 3; have f4 := hSw.2.cell 4; have f5 := hSw.2.cell 5; have f6 := hSw.2.cell 6; have f7 := hSw.2.cell 7; go_simp; (try with_reducible rfl)
      (try simp only [Act.put, List.getElem_toArray, List.getElem_cons_zero, List.getElem_cons_succ, List.setIfInBounds_toArray, List.set_cons_zero, List.set_cons_succ])
      refine wpAnyF_take (i := 15) (v := ?_) (by kernel_rfl) (by kernel_rfl) rfl (by kernel_rfl) (by kernel_rfl) (by kernel_rfl) (fun _ _ _ h => h) (Or.inl ⟨by rfl, ?_⟩) (by assumption) ?_
      rotate_left
      · intro w' hSw; (try dsimp only at hSw); have h0 := hSw.1.cell 0; have h1 := hSw.1.cell 1; have h2 := hSw.1.cell 2; have h3 := hSw.1.cell 3; have h4 := hSw.1.cell 4; have h5 := hSw.1.cell 5; have h6 := hSw.1.cell 6; have h7 := hSw.1.cell 7; have f0 := hSw.2.cell 0; have f1 := hSw.2.cell 1; have f2 := hSw.2.cell 2; have f3 := hSw.2.cell 3; have f4 := hSw.2.cell 4; have f5 := hSw.2.cell 5; have f6 := hSw.2.cell 6; have f7 := hSw.2.cell 7; go_simp; (try with_reducible rfl)
      (try simp only [Act.put, List.getElem_toArray, List.getElem_cons_zero, List.getElem_cons_succ, List.setIfInBounds_toArray, List.set_cons_zero, List.set_cons_succ])
      refine wpAnyF_take (i := 16) (v := ?_) (by kernel_rfl) (by kernel_rfl) rfl (by kernel_rfl) (by kernel_rfl) (by kernel_rfl) (fun _ _ _ h => h) (Or.inl ⟨by rfl, ?_⟩) (by assumption) ?_
      rotate_left
      · intro w' hSw; (try dsimp only at hSw); have h0 := hSw.1.cell 0; have h1 := hSw.1.cell 1; have h2 := hSw.1.cell 2; have h3 := hSw.1.cell 3; have h4 := hSw.1.cell 4; have h5 := hSw.1.cell 5; have h6 := hSw.1.cell 6; have h7 := hSw.1.cell 7; have f0 := hSw.2.cell 0; have f1 := hSw.2.cell 1; have f2 := hSw.2.cell 2; have f3 := hSw.2.cell 3; have f4 := hSw.2.cell 4; have f5 := hSw.2.cell 5; have f6 := hSw.2.cell 6; have f7 := hSw.2.cell 7; go_simp; (try with_reducible rfl)
      (try simp only [Act.put, List.getElem_toArray, List.getElem_cons_zero, List.getElem_cons_succ, List.setIfInBounds_toArray, List.set_cons_zero, List.set_cons_succ])
      refine wpAnyF_take (i := 17) (v := ?_) (by kernel_rfl) (by kernel_rfl) rfl (by kernel_rfl) (by kernel_rfl) (by kernel_rfl) (fun _ _ _ h => h) (Or.inl ⟨by rfl, ?_⟩) (by assumption) ?_
      rotate_left
      · intro w' hSw; (try dsimp only at hSw); have h0 := hSw.1.cell 0; have h1 := hSw.1.cell 1; have h2 := hSw.1.cell 2; have h3 := hSw.1.cell 3; have h4 := hSw.1.cell 4; have h5 := hSw.1.cell 5; have h6 := hSw.1.cell 6; have h7 := hSw.1.cell 7; have f0 := hSw.2.cell 0; have f1 := hSw.2.cell 1; have f2 := hSw.2.cell 2; have f3 := hSw.2.cell 3; have f4 := hSw.2.cell 4; have f5 := hSw.2.cell 5; have f6 := hSw.2.cell 6; have f7 := hSw.2.cell 7; go_simp; (try with_reducible rfl)
      (try simp only [Act.put, List.getElem_toArray, List.getElem_cons_zero, List.getElem_cons_succ, List.setIfInBounds_toArray, List.set_cons_zero, List.set_cons_succ])
      refine wpAnyF_take (i := 18) (v := ?_) (by kernel_rfl) (by kernel_rfl) rfl (by kernel_rfl) (by kernel_rfl) (by kernel_rfl) (fun _ _ _ h => h) (Or.inl ⟨by rfl, ?_⟩) (by assumption) ?_
      rotate_left
      · intro w' hSw; (try dsimp only at hSw); have h0 := hSw.1.cell 0; have h1 := hSw.1.cell 1; have h2 := hSw.1.cell 2; have h3 := hSw.1.cell 3; have h4 := hSw.1.cell 4; have h5 := hSw.1.cell 5; have h6 := hSw.1.cell 6; have h7 := hSw.1.cell 7; have f0 := hSw.2.cell 0; have f1 := hSw.2.cell 1; have f2 := hSw.2.cell 2; have f3 := hSw.2.cell 3; have f4 := hSw.2.cell 4; have f5 := hSw.2.cell 5; have f6 := hSw.2.cell 6; have f7 := hSw.2.cell 7; go_simp; (try with_reducible rfl)
      (try simp only [Act.put, List.getElem_toArray, List.getElem_cons_zero, List.getElem_cons_succ, List.setIfInBounds_toArray, List.set_cons_zero, List.set_cons_succ])
      refine wpAnyF_take (i := 19) (v := ?_) (by kernel_rfl) (by kernel_rfl) rfl (by kernel_rfl) (by kernel_rfl) (by kernel_rfl) (fun _ _ _ h => h) (Or.inl ⟨by rfl, ?_⟩) (by assumption) ?_
      rotate_left
      · intro w' hSw; (try dsimp only at hSw); have h0 := hSw.1.cell 0; have h1 := hSw.1.cell 1; have h2 := hSw.1.cell 2; have h3 := hSw.1.cell 3; have h4 := hSw.1.cell 4; have h5 := hSw.1.cell 5; have h6 := hSw.1.cell 6; have h7 := hSw.1.cell 7; have f0 := hSw.2.cell 0; have f1 := hSw.2.cell 1; have f2 := hSw.2.cell 2; have f3 := hSw.2.cell 3; have f4 := hSw.2.cell 4; have f5 := hSw.2.cell 5; have f6 := hSw.2.cell 6; have f7 := hSw.2.cell 7; go_simp; (try with_reducible rfl)
      (try simp only [Act.put, List.getElem_toArray, List.getElem_cons_zero, List.getElem_cons_succ, List.setIfInBounds_toArray, List.set_cons_zero, List.set_cons_succ])
      refine wpAnyF_take (i := 20) (v := ?_) (by kernel_rfl) (by kernel_rfl) rfl (by kernel_rfl) (by kernel_rfl) (by kernel_rfl) (fun _ _ _ h => h) (Or.inl ⟨by rfl, ?_⟩) (by assumption) ?_
      rotate_left
      · intro w' hSw; (try dsimp only at hSw); have h0 := hSw.1.cell 0; have h1 := hSw.1.cell 1; have h2 := hSw.1.cell 2; have h3 := hSw.1.cell 3; have h4 := hSw.1.cell 4; have h5 := hSw.1.cell 5; have h6 := hSw.1.cell 6; have h7 := hSw.1.cell 7; have f0 := hSw.2.cell 0; have f1 := hSw.2.cell 1; have f2 := hSw.2.cell 2; have f3 := hSw.2.cell 3; have f4 := hSw.2.cell 4; have f5 := hSw.2.cell 5; have f6 := hSw.2.cell 6; have f7 := hSw.2.cell 7; go_simp; (try with_reducible rfl)
      (try simp only [Act.put, List.getElem_toArray, List.getElem_cons_zero, List.getElem_cons_succ, List.setIfInBounds_toArray, List.set_cons_zero, List.set_cons_succ])
      refine wpAnyF_take (i := 21) (v := ?_) (by kernel_rfl) (by kernel_rfl) rfl (by kernel_rfl) (by kernel_rfl) (by kernel_rfl) (fun _ _ _ h => h) (Or.inl ⟨by rfl, ?_⟩) (by assumption) ?_
      rotate_left
      · intro w' hSw; (try dsimp only at hSw); have h0 := hSw.1.cell 0; have h1 := hSw.1.cell 1; have h2 := hSw.1.cell 2; have h3 := hSw.1.cell 3; have h4 := hSw.1.cell 4; have h5 := hSw.1.cell 5; have h6 := hSw.1.cell 6; have h7 := hSw.1.cell 7; have f0 := hSw.2.cell 0; have f1 := hSw.2.cell 1; have f2 := hSw.2.cell 2; have f3 := hSw.2.cell 3; have f4 := hSw.2.cell 4; have f5 := hSw.2.cell 5; have f6 := hSw.2.cell 6; have f7 := hSw.2.cell 7; go_simp; (try with_reducible rfl)
      (try simp only [Act.put, List.getElem_toArray, List.getElem_cons_zero, List.getElem_cons_succ, List.setIfInBounds_toArray, List.set_cons_zero, List.set_cons_succ])
      refine wpAnyF_take (i := 22) (v := ?_) (by kernel_rfl) (by kernel_rfl) rfl (by kernel_rfl) (by kernel_rfl) (by kernel_rfl) (fun _ _ _ h => h) (Or.inl ⟨by rfl, ?_⟩) (by assumption) ?_
      rotate_left
      · intro w' hSw; (try dsimp only at hSw); have h0 := hSw.1.cell 0; have h1 := hSw.1.cell 1; have h2 := hSw.1.cell 2; have h3 := hSw.1.cell 3; have h4 := hSw.1.cell 4; have h5 := hSw.1.cell 5; have h6 := hSw.1.cell 6; have h7 := hSw.1.cell 7; have f0 := hSw.2.cell 0; have f1 := hSw.2.cell 1; have f2 := hSw.2.cell 2; have f3 := hSw.2.cell 3; have f4 := hSw.2.cell 4; have f5 := hSw.2.cell 5; have f6 := hSw.2.cell 6; have f7 := hSw.2.cell 7; go_simp; (try with_reducible rfl)
      (try simp only [Act.put, List.getElem_toArray, List.getElem_cons_zero, List.getElem_cons_succ, List.setIfInBounds_toArray, List.set_cons_zero, List.set_cons_succ])
      refine wpAnyF_take (i := 23) (v := ?_) (by kernel_rfl) (by kernel_rfl) rfl (by kernel_rfl) (by kernel_rfl) (by kernel_rfl) (fun _ _ _ h => h) (Or.inl ⟨by rfl, ?_⟩) (by assumption) ?_
      rotate_left
      · intro w' hSw; (try dsimp only at hSw); have h0 := hSw.1.cell 0; have h1 := hSw.1.cell 1; have h2 := hSw.1.cell 2; have h3 := hSw.1.cell 3; have h4 := hSw.1.cell 4; have h5 := hSw.1.cell 5; have h6 := hSw.1.cell 6; have h7 := hSw.1.cell 7; have f0 := hSw.2.cell 0; have f1 := hSw.2.cell 1; have f2 := hSw.2.cell 2; have f3 := hSw.2.cell 3; have f4 := hSw.2.cell 4; have f5 := hSw.2.cell 5; have f6 := hSw.2.cell 6; have f7 := hSw.2.cell 7; go_simp; (try with_reducible rfl)
      (try simp only [Act.put, List.getElem_toArray, List.getElem_cons_zero, List.getElem_cons_succ, List.setIfInBounds_toArray, List.set_cons_zero, List.set_cons_succ])
      refine wpAnyF_take (i := 24) (v := ?_) (by kernel_rfl) (by kernel_rfl) rfl (by kernel_rfl) (by kernel_rfl) (by kernel_rfl) (fun _ _ _ h => h) (Or.inl ⟨by rfl, ?_⟩) (by assumption) ?_
      rotate_left
      · intro w' hSw; (try dsimp only at hSw); have h0 := hSw.1.cell 0; have h1 := hSw.1.cell 1; have h2 := hSw.1.cell 2; have h3 := hSw.1.cell 3; have h4 := hSw.1.cell 4; have h5 := hSw.1.cell 5; have h6 := hSw.1.cell 6; have h7 := hSw.1.cell 7; have f0 := hSw.2.cell 0; have f1 := hSw.2.cell 1; have f2 := hSw.2.cell 2; have f3 := hSw.2.cell 3; have f4 := hSw.2.cell 4; have f5 := hSw.2.cell 5; have f6 := hSw.2.cell 6; have f7 := hSw.2.cell 7; go_simp; (try with_reducible rfl)
      (try simp only [Act.put, List.getElem_toArray, List.getElem_cons_zero, List.getElem_cons_succ, List.setIfInBounds_toArray, List.set_cons_zero, List.set_cons_succ])
      refine wpAnyF_take (i := 25) (v := ?_) (by kernel_rfl) (by kernel_rfl) rfl (by kernel_rfl) (by kernel_rfl) (by kernel_rfl) (fun _ _ _ h => h) (Or.inl ⟨by rfl, ?_⟩) (by assumption) ?_
      rotate_left
      · intro w' hSw; (try dsimp only at hSw); have h0 := hSw.1.cell 0; have h1 := hSw.1.cell 1; have h2 := hSw.1.cell 2; have h3 := hSw.1.cell 3; have h4 := hSw.1.cell 4; have h5 := hSw.1.cell 5; have h6 := hSw.1.cell 6; have h7 := hSw.1.cell 7; have f0 := hSw.2.cell 0; have f1 := hSw.2.cell 1; have f2 := hSw.2.cell 2; have f3 := hSw.2.cell 3; have f4 := hSw.2.cell 4; have f5 := hSw.2.cell 5; have f6 := hSw.2.cell 6; have f7 := hSw.2.cell 7; go_simp; (try with_reducible rfl)
      (try simp only [Act.put, List.getElem_toArray, List.getElem_cons_zero, List.getElem_cons_succ, List.setIfInBounds_toArray, List.set_cons_zero, List.set_cons_succ])
      refine wpAnyF_take (i := 26) (v := ?_) (by kernel_rfl) (by kernel_rfl) rfl (by kernel_rfl) (by kernel_rfl) (by kernel_rfl) (fun _ _ _ h => h) (Or.inl ⟨by rfl, ?_⟩) (by assumption) ?_
      rotate_left
      · intro w' hSw; (try dsimp only at hSw); have h0 := hSw.1.cell 0; have h1 := hSw.1.cell 1; have h2 := hSw.1.cell 2; have h3 := hSw.1.cell 3; have h4 := hSw.1.cell 4; have h5 := hSw.1.cell 5; have h6 := hSw.1.cell 6; have h7 := hSw.1.cell 7; have f0 := hSw.2.cell 0; have f1 := hSw.2.cell 1; have f2 := hSw.2.cell 2; have f3 := hSw.2.cell 3; have f4 := hSw.2.cell 4; have f5 := hSw.2.cell 5; have f6 := hSw.2.cell 6; have f7 := hSw.2.cell 7; go_simp; (try with_reducible rfl)
      (try simp only [Act.put, List.getElem_toArray, List.getElem_cons_zero, List.getElem_cons_succ, List.setIfInBounds_toArray, List.set_cons_zero, List.set_cons_succ])
      refine wpAnyF_take (i := 27) (v := ?_) (by kernel_rfl) (by kernel_rfl) rfl (by kernel_rfl) (by kernel_rfl) (by kernel_rfl) (fun _ _ _ h => h) (Or.inl ⟨by rfl, ?_⟩) (by assumption) ?_
      rotate_left
      · intro w' hSw; (try dsimp only at hSw); have h0 := hSw.1.cell 0; have h1 := hSw.1.cell 1; have h2 := hSw.1.cell 2; have h3 := hSw.1.cell 3; have h4 := hSw.1.cell 4; have h5 := hSw.1.cell 5; have h6 := hSw.1.cell 6; have h7 := hSw.1.cell 7; have f0 := hSw.2.cell 0; have f1 := hSw.2.cell 1; have f2 := hSw.2.cell 2; have f3 := hSw.2.cell 3; have f4 := hSw.2.cell 4; have f5 := hSw.2.cell 5; have f6 := hSw.2.cell 6; have f7 := hSw.2.cell 7; go_simp; (try with_reducible rfl)
      (try simp only [Act.put, List.getElem_toArray, List.getElem_cons_zero, List.getElem_cons_succ, List.setIfInBounds_toArray, List.set_cons_zero, List.set_cons_succ])
      refine wpAnyF_take (i := 28) (v := ?_) (by kernel_rfl) (by kernel_rfl) rfl (by kernel_rfl) (by kernel_rfl) (by kernel_rfl) (fun _ _ _ h => h) (Or.inl ⟨by rfl, ?_⟩) (by assumption) ?_
      rotate_left
      · intro w' hSw; (try dsimp only at hSw); have h0 := hSw.1.cell 0; have h1 := hSw.1.cell 1; have h2 := hSw.1.cell 2; have h3 := hSw.1.cell 3; have h4 := hSw.1.cell 4; have h5 := hSw.1.cell 5; have h6 := hSw.1.cell 6; have h7 := hSw.1.cell 7; have f0 := hSw.2.cell 0; have f1 := hSw.2.cell 1; have f2 := hSw.2.cell 2; have f3 := hSw.2.cell 3; have f4 := hSw.2.cell 4; have f5 := hSw.2.cell 5; have f6 := hSw.2.cell 6; have f7 := hSw.2.cell 7; go_simp; (try with_reducible rfl)
      (try simp only [Act.put, List.getElem_toArray, List.getElem_cons_zero, List.getElem_cons_succ, List.setIfInBounds_toArray, List.set_cons_zero, List.set_cons_succ])
      refine wpAnyF_take (i := 29) (v := ?_) (by kernel_rfl) (by kernel_rfl) rfl (by kernel_rfl) (by kernel_rfl) (by kernel_rfl) (fun _ _ _ h => h) (Or.inl ⟨by rfl, ?_⟩) (by assumption) ?_
      rotate_left
      · intro w' hSw; (try dsimp only at hSw); have h0 := hSw.1.cell 0; have h1 := hSw.1.cell 1; have h2 := hSw.1.cell 2; have h3 := hSw.1.cell 3; have h4 := hSw.1.cell 4; have h5 := hSw.1.cell 5; have h6 := hSw.1.cell 6; have h7 := hSw.1.cell 7; have f0 := hSw.2.cell 0; have f1 := hSw.2.cell 1; have f2 := hSw.2.cell 2; have f3 := hSw.2.cell 3; have f4 := hSw.2.cell 4; have f5 := hSw.2.cell 5; have f6 := hSw.2.cell 6; have f7 := hSw.2.cell 7; go_simp; (try with_reducible rfl)
      (try simp only [Act.put, List.getElem_toArray, List.getElem_cons_zero, List.getElem_cons_succ, List.setIfInBounds_toArray, List.set_cons_zero, List.set_cons_succ])
      refine wpAnyF_take (i := 30) (v := ?_) (by kernel_rfl) (by kernel_rfl) rfl (by kernel_rfl) (by kernel_rfl) (by kernel_rfl) (fun _ _ _ h => h) (Or.inl ⟨by rfl, ?_⟩) (by assumption) ?_
      rotate_left
      · intro w' hSw; (try dsimp only at hSw); have h0 := hSw.1.cell 0; have h1 := hSw.1.cell 1; have h2 := hSw.1.cell 2; have h3 := hSw.1.cell 3; have h4 := hSw.1.cell 4; have h5 := hSw.1.cell 5; have h6 := hSw.1.cell 6; have h7 := hSw.1.cell 7; have f0 := hSw.2.cell 0; have f1 := hSw.2.cell 1; have f2 := hSw.2.cell 2; have f3 := hSw.2.cell 3; have f4 := hSw.2.cell 4; have f5 := hSw.2.cell 5; have f6 := hSw.2.cell 6; have f7 := hSw.2.cell 7; go_simp; (try with_reducible rfl)
      (try simp only [Act.put, List.getElem_toArray, List.getElem_cons_zero, List.getElem_cons_succ, List.setIfInBounds_toArray, List.set_cons_zero, List.set_cons_succ])
      refine wpAnyF_take (i := 31) (v := ?_) (by kernel_rfl) (by kernel_rfl) rfl (by kernel_rfl) (by kernel_rfl) (by kernel_rfl) (fun _ _ _ h => h) (Or.inl ⟨by rfl, ?_⟩) (by assumption) ?_
      rotate_left
      · intro w' hSw; (try dsimp only at hSw); have h0 := hSw.1.cell 0; have h1 := hSw.1.cell 1; have h2 := hSw.1.cell 2; have h3 := hSw.1.cell 3; have h4 := hSw.1.cell 4; have h5 := hSw.1.cell 5; have h6 := hSw.1.cell 6; have h7 := hSw.1.cell 7; have f0 := hSw.2.cell 0; have f1 := hSw.2.cell 1; have f2 := hSw.2.cell 2; have f3 := hSw.2.cell 3; have f4 := hSw.2.cell 4; have f5 := hSw.2.cell 5; have f6 := hSw.2.cell 6; have f7 := hSw.2.cell 7; go_simp; (try with_reducible rfl)
      (try simp only [Act.put, List.getElem_toArray, List.getElem_cons_zero, List.getElem_cons_succ, List.setIfInBounds_toArray, List.set_cons_zero, List.set_cons_succ])
      refine wpAnyF_take (i := 32) (v := undef) (by kernel_rfl) (by kernel_rfl) rfl (by kernel_rfl) (by kernel_rfl) (by kernel_rfl) (fun _ _ _ h => h) (Or.inr ⟨by rfl, rfl⟩) (by assumption) ?_
      (try simp only [Act.put, List.getElem_toArray, List.getElem_cons_zero, List.getElem_cons_succ, List.setIfInBounds_toArray, List.set_cons_zero, List.set_cons_succ])
      refine wpAnyF_take (i := 33) (v := undef) (by kernel_rfl) (by kernel_rfl) rfl (by kernel_rfl) (by kernel_rfl) (by kernel_rfl) (fun _ _ _ h => h) (Or.inr ⟨by rfl, rfl⟩) (by assumption) ?_
      (try simp only [Act.put, List.getElem_toArray, List.getElem_cons_zero, List.getElem_cons_succ, List.setIfInBounds_toArray, List.set_cons_zero, List.set_cons_succ])
      refine wpAnyF_take (i := 34) (v := undef) (by kernel_rfl) (by kernel_rfl) rfl (by kernel_rfl) (by kernel_rfl) (by kernel_rfl) (fun _ _ _ h => h) (Or.inr ⟨by rfl, rfl⟩) (by assumption) ?_
      (try simp only [Act.put, List.getElem_toArray, List.getElem_cons_zero, List.getElem_cons_succ, List.setIfInBounds_toArray, List.set_cons_zero, List.set_cons_succ])
      refine wpAnyF_take (i := 35) (v := undef) (by kernel_rfl) (by kernel_rfl) rfl (by kernel_rfl) (by kernel_rfl) (by kernel_rfl) (fun _ _ _ h => h) (Or.inr ⟨by rfl, rfl⟩) (by assumption) ?_
      (try simp only [Act.put, List.getElem_toArray, List.getElem_cons_zero, List.getElem_cons_succ, List.setIfInBounds_toArray, List.set_cons_zero, List.set_cons_succ])
      refine wpAnyF_take (i := 36) (v := undef) (by kernel_rfl) (by kernel_rfl) rfl (by kernel_rfl) (by kernel_rfl) (by kernel_rfl) (fun _ _ _ h => h) (Or.inr ⟨by rfl, rfl⟩) (by assumption) ?_
      (try simp only [Act.put, List.getElem_toArray, List.getElem_cons_zero, List.getElem_cons_succ, List.setIfInBounds_toArray, List.set_cons_zero, List.set_cons_succ])
      refine wpAnyF_take (i := 37) (v := undef) (by kernel_rfl) (by kernel_rfl) rfl (by kernel_rfl) (by kernel_rfl) (by kernel_rfl) (fun _ _ _ h => h) (Or.inr ⟨by rfl, rfl⟩) (by assumption) ?_
      (try simp only [Act.put, List.getElem_toArray, List.getElem_cons_zero, List.getElem_cons_succ, List.setIfInBounds_toArray, List.set_cons_zero, List.set_cons_succ])
      refine wpAnyF_take (i := 38) (v := ?_) (by kernel_rfl) (by kernel_rfl) rfl (by kernel_rfl) (by kernel_rfl) (by kernel_rfl) (fun _ _ _ h => h) (Or.inl ⟨by rfl, ?_⟩) (by assumption) ?_
      rotate_left
      · intro w' hSw; (try dsimp only at hSw); have h0 := hSw.1.cell 0; have h1 := hSw.1.cell 1; have h2 := hSw.1.cell 2; have h3 := hSw.1.cell 3; have h4 := hSw.1.cell 4; have h5 := hSw.1.cell 5; have h6 := hSw.1.cell 6; have h7 := hSw.1.cell 7; have f0 := hSw.2.cell 0; have f1 := hSw.2.cell 1; have f2 := hSw.2.cell 2; have f3 := hSw.2.cell 3; have f4 := hSw.2.cell 4; have f5 := hSw.2.cell 5; have f6 := hSw.2.cell 6; have f7 := hSw.2.cell 7; go_simp; (try with_reducible rfl)
      (try simp only [Act.put, List.getElem_toArray, List.getElem_cons_zero, List.getElem_cons_succ, List.setIfInBounds_toArray, List.set_cons_zero, List.set_cons_succ])
      refine wpAnyF_take (i := 39) (v := ?_) (by kernel_rfl) (by kernel_rfl) rfl (by kernel_rfl) (by kernel_rfl) (by kernel_rfl) (fun _ _ _ h => h) (Or.inl ⟨by rfl, ?_⟩) (by assumption) ?_
      rotate_left
      · intro w' hSw; (try dsimp only at hSw); have h0 := hSw.1.cell 0; have h1 := hSw.1.cell 1; have h2 := hSw.1.cell 2; have h3 := hSw.1.cell 3; have h4 := hSw.1.cell 4; have h5 := hSw.1.cell 5; have h6 := hSw.1.cell 6; have h7 := hSw.1.cell 7; have f0 := hSw.2.cell 0; have f1 := hSw.2.cell 1; have f2 := hSw.2.cell 2; have f3 := hSw.2.cell 3; have f4 := hSw.2.cell 4; have f5 := hSw.2.cell 5; have f6 := hSw.2.cell 6; have f7 := hSw.2.cell 7; go_simp; (try with_reducible rfl)
      (try simp only [Act.put, List.getElem_toArray, List.getElem_cons_zero, List.getElem_cons_succ, List.setIfInBounds_toArray, List.set_cons_zero, List.set_cons_succ])
      refine wpAnyF_take (i := 40) (v := ?_) (by kernel_rfl) (by kernel_rfl) rfl (by kernel_rfl) (by kernel_rfl) (by kernel_rfl) (fun _ _ _ h => h) (Or.inl ⟨by rfl, ?_⟩) (by assumption) ?_
      rotate_left
      · intro w' hSw; (try dsimp only at hSw); have h0 := hSw.1.cell 0; have h1 := hSw.1.cell 1; have h2 := hSw.1.cell 2; have h3 := hSw.1.cell 3; have h4 := hSw.1.cell 4; have h5 := hSw.1.cell 5; have h6 := hSw.1.cell 6; have h7 := hSw.1.cell 7; have f0 := hSw.2.cell 0; have f1 := hSw.2.cell 1; have f2 := hSw.2.cell 2; have f3 := hSw.2.cell 3; have f4 := hSw.2.cell 4; have f5 := hSw.2.cell 5; have f6 := hSw.2.cell 6; have f7 := hSw.2.cell 7; go_simp; (try with_reducible rfl)
      (try simp only [Act.put, List.getElem_toArray, List.getElem_cons_zero, List.getElem_cons_succ, List.setIfInBounds_toArray, List.set_cons_zero, List.set_cons_succ])
      refine wpAnyF_take (i := 41) (v := ?_) (by kernel_rfl) (by kernel_rfl) rfl (by kernel_rfl) (by kernel_rfl) (by kernel_rfl) (fun _ _ _ h => h) (Or.inl ⟨by rfl, ?_⟩) (by assumption) ?_
      rotate_left
      · intro w' hSw; (try dsimp only at hSw); have h0 := hSw.1.cell 0; have h1 := hSw.1.cell 1; have h2 := hSw.1.cell 2; have h3 := hSw.1.cell 3; have h4 := hSw.1.cell 4; have h5 := hSw.1.cell 5; have h6 := hSw.1.cell 6; have h7 := hSw.1.cell 7; have f0 := hSw.2.cell 0; have f1 := hSw.2.cell 1; have f2 := hSw.2.cell 2; have f3 := hSw.2.cell 3; have f4 := hSw.2.cell 4; have f5 := hSw.2.cell 5; have f6 := hSw.2.cell 6; have f7 := hSw.2.cell 7; go_simp; (try with_reducible rfl)
      (try simp only [Act.put, List.getElem_toArray, List.getElem_cons_zero, List.getElem_cons_succ, List.setIfInBounds_toArray, List.set_cons_zero, List.set_cons_succ])
      refine wpAnyF_take (i := 42) (v := ?_) (by kernel_rfl) (by kernel_rfl) rfl (by kernel_rfl) (by kernel_rfl) (by kernel_rfl) (fun _ _ _ h => h) (Or.inl ⟨by rfl, ?_⟩) (by assumption) ?_
      rotate_left
      · intro w' hSw; (try dsimp only at hSw); have h0 := hSw.1.cell 0; have h1 := hSw.1.cell 1; have h2 := hSw.1.cell 2; have h3 := hSw.1.cell 3; have h4 := hSw.1.cell 4; have h5 := hSw.1.cell 5; have h6 := hSw.1.cell 6; have h7 := hSw.1.cell 7; have f0 := hSw.2.cell 0; have f1 := hSw.2.cell 1; have f2 := hSw.2.cell 2; have f3 := hSw.2.cell 3; have f4 := hSw.2.cell 4; have f5 := hSw.2.cell 5; have f6 := hSw.2.cell 6; have f7 := hSw.2.cell 7; go_simp; (try with_reducible rfl)
      (try simp only [Act.put, List.getElem_toArray, List.getElem_cons_zero, List.getElem_cons_succ, List.setIfInBounds_toArray, List.set_cons_zero, List.set_cons_succ])
      refine wpAnyF_take (i := 43) (v := ?_) (by kernel_rfl) (by kernel_rfl) rfl (by kernel_rfl) (by kernel_rfl) (by kernel_rfl) (fun _ _ _ h => h) (Or.inl ⟨by rfl, ?_⟩) (by assumption) ?_
      rotate_left
      · intro w' hSw; (try dsimp only at hSw); have h0 := hSw.1.cell 0; have h1 := hSw.1.cell 1; have h2 := hSw.1.cell 2; have h3 := hSw.1.cell 3; have h4 := hSw.1.cell 4; have h5 := hSw.1.cell 5; have h6 := hSw.1.cell 6; have h7 := hSw.1.cell 7; have f0 := hSw.2.cell 0; have f1 := hSw.2.cell 1; have f2 := hSw.2.cell 2; have f3 := hSw.2.cell 3; have f4 := hSw.2.cell 4; have f5 := hSw.2.cell 5; have f6 := hSw.2.cell 6; have f7 := hSw.2.cell 7; go_simp; (try with_reducible rfl)
      (try simp only [Act.put, List.getElem_toArray, List.getElem_cons_zero, List.getElem_cons_succ, List.setIfInBounds_toArray, List.set_cons_zero, List.set_cons_succ])
      refine wpAnyF_take (i := 44) (v := ?_) (by kernel_rfl) (by kernel_rfl) rfl (by kernel_rfl) (by kernel_rfl) (by kernel_rfl) (fun _ _ _ h => h) (Or.inl ⟨by rfl, ?_⟩) (by assumption) ?_
      rotate_left
      · intro w' hSw; (try dsimp only at hSw); have h0 := hSw.1.cell 0; have h1 := hSw.1.cell 1; have h2 := hSw.1.cell 2; have h3 := hSw.1.cell 3; have h4 := hSw.1.cell 4; have h5 := hSw.1.cell 5; have h6 := hSw.1.cell 6; have h7 := hSw.1.cell 7; have f0 := hSw.2.cell 0; have f1 := hSw.2.cell 1; have f2 := hSw.2.cell 2; have f3 := hSw.2.cell 3; have f4 := hSw.2.cell 4; have f5 := hSw.2.cell 5; have f6 := hSw.2.cell 6; have f7 := hSw.2.cell 7; go_simp; (try with_reducible rfl)
      (try simp only [Act.put, List.getElem_toArray, List.getElem_cons_zero, List.getElem_cons_succ, List.setIfInBounds_toArray, List.set_cons_zero, List.set_cons_succ])
      refine wpAnyF_take (i := 45) (v := ?_) (by kernel_rfl) (by kernel_rfl) rfl (by kernel_rfl) (by kernel_rfl) (by kernel_rfl) (fun _ _ _ h => h) (Or.inl ⟨by rfl, ?_⟩) (by assumption) ?_
      rotate_left
      · intro w' hSw; (try dsimp only at hSw); have h0 := hSw.1.cell 0; have h1 := hSw.1.cell 1; have h2 := hSw.1.cell 2; have h3 := hSw.1.cell 3; have h4 := hSw.1.cell 4; have h5 := hSw.1.cell 5; have h6 := hSw.1.cell 6; have h7 := hSw.1.cell 7; have f0 := hSw.2.cell 0; have f1 := hSw.2.cell 1; have f2 := hSw.2.cell 2; have f3 := hSw.2.cell 3; have f4 := hSw.2.cell 4; have f5 := hSw.2.cell 5; have f6 := hSw.2.cell 6; have f7 := hSw.2.cell 7; go_simp; (try with_reducible rfl)
      (try simp only [Act.put, List.getElem_toArray, List.getElem_cons_zero, List.getElem_cons_succ, List.setIfInBounds_toArray, List.set_cons_zero, List.set_cons_succ])
      refine wpAnyF_take (i := 46) (v := ?_) (by kernel_rfl) (by kernel_rfl) rfl (by kernel_rfl) (by kernel_rfl) (by kernel_rfl) (fun _ _ _ h => h) (Or.inl ⟨by rfl, ?_⟩) (by assumption) ?_
      rotate_left
      · intro w' hSw; (try dsimp only at hSw); have h0 := hSw.1.cell 0; have h1 := hSw.1.cell 1; have h2 := hSw.1.cell 2; have h3 := hSw.1.cell 3; have h4 := hSw.1.cell 4; have h5 := hSw.1.cell 5; have h6 := hSw.1.cell 6; have h7 := hSw.1.cell 7; have f0 := hSw.2.cell 0; have f1 := hSw.2.cell 1; have f2 := hSw.2.cell 2; have f3 := hSw.2.cell 3; have f4 := hSw.2.cell 4; have f5 := hSw.2.cell 5; have f6 := hSw.2.cell 6; have f7 := hSw.2.cell 7; go_simp; (try with_reducible rfl)
      (try simp only [Act.put, List.getElem_toArray, List.getElem_cons_zero, List.getElem_cons_succ, List.setIfInBounds_toArray, List.set_cons_zero, List.set_cons_succ])
      refine wpAnyF_take (i := 47) (v := ?_) (by kernel_rfl) (by kernel_rfl) rfl (by kernel_rfl) (by kernel_rfl) (by kernel_rfl) (fun _ _ _ h => h) (Or.inl ⟨by rfl, ?_⟩) (by assumption) ?_
      rotate_left
      · intro w' hSw; (try dsimp only at hSw); have h0 := hSw.1.cell 0; have h1 := hSw.1.cell 1; have h2 := hSw.1.cell 2; have h3 := hSw.1.cell 3; have h4 := hSw.1.cell 4; have h5 := hSw.1.cell 5; have h6 := hSw.1.cell 6; have h7 := hSw.1.cell 7; have f0 := hSw.2.cell 0; have f1 := hSw.2.cell 1; have f2 := hSw.2.cell 2; have f3 := hSw.2.cell 3; have f4 := hSw.2.cell 4; have f5 := hSw.2.cell 5; have f6 := hSw.2.cell 6; have f7 := hSw.2.cell 7; go_simp; (try with_reducible rfl)
      (try simp only [Act.put, List.getElem_toArray, List.getElem_cons_zero, List.getElem_cons_succ, List.setIfInBounds_toArray, List.set_cons_zero, List.set_cons_succ])
      refine wpAnyF_take (i := 48) (v := ?_) (by kernel_rfl) (by kernel_rfl) rfl (by kernel_rfl) (by kernel_rfl) (by kernel_rfl) (fun _ _ _ h => h) (Or.inl ⟨by rfl, ?_⟩) (by assumption) ?_
      rotate_left
      · intro w' hSw; (try dsimp only at hSw); have h0 := hSw.1.cell 0; have h1 := hSw.1.cell 1; have h2 := hSw.1.cell 2; have h3 := hSw.1.cell 3; have h4 := hSw.1.cell 4; have h5 := hSw.1.cell 5; have h6 := hSw.1.cell 6; have h7 := hSw.1.cell 7; have f0 := hSw.2.cell 0; have f1 := hSw.2.cell 1; have f2 := hSw.2.cell 2; have f3 := hSw.2.cell 3; have f4 := hSw.2.cell 4; have f5 := hSw.2.cell 5; have f6 := hSw.2.cell 6; have f7 := hSw.2.cell 7; go_simp; (try with_reducible rfl)
      (try simp only [Act.put, List.getElem_toArray, List.getElem_cons_zero, List.getElem_cons_succ, List.setIfInBounds_toArray, List.set_cons_zero, List.set_cons_succ])
      refine wpAnyF_take (i := 49) (v := ?_) (by kernel_rfl) (by kernel_rfl) rfl (by kernel_rfl) (by kernel_rfl) (by kernel_rfl) (fun _ _ _ h => h) (Or.inl ⟨by rfl, ?_⟩) (by assumption) ?_
      rotate_left
      · intro w' hSw; (try dsimp only at hSw); have h0 := hSw.1.cell 0; have h1 := hSw.1.cell 1; have h2 := hSw.1.cell 2; have h3 := hSw.1.cell 3; have h4 := hSw.1.cell 4; have h5 := hSw.1.cell 5; have h6 := hSw.1.cell 6; have h7 := hSw.1.cell 7; have f0 := hSw.2.cell 0; have f1 := hSw.2.cell 1; have f2 := hSw.2.cell 2; have f3 := hSw.2.cell 3; have f4 := hSw.2.cell 4; have f5 := hSw.2.cell 5; have f6 := hSw.2.cell 6; have f7 := hSw.2.cell 7; go_simp; (try with_reducible rfl)
      (try simp only [Act.put, List.getElem_toArray, List.getElem_cons_zero, List.getElem_cons_succ, List.setIfInBounds_toArray, List.set_cons_zero, List.set_cons_succ])
      refine wpAnyF_done (by kernel_rfl) ?_ _
      refine NoPanic.normal ?_
      go_wp2
      go_ret
      exact ⟨rfl, B8d.out⟩
    · rw [hR] at HRU
      dsimp only at HRU
      obtain ⟨j, hj⟩ : ∃ j, 8 * ((i : Int) / 2) = j := ⟨_, rfl⟩
      have hj1 : (j != 255) = true := by
        have : j ≠ 255 := by omega
        simpa using this
      rw [hj] at HRU
      by_cases hig : (i : Int) % 2 = g
      · have hdv : dropV ⟨m, p0, p1, o0, o1, sp, r⟩ g = (⟨m, p0, p1, o0, o1, sp, put r i false⟩, true) := by unfold dropV; simp [hD, hR, hig, hDR]
        rw [hdv] at HDR
        rw [hig] at HRU
        dsimp only at HDR HRU
        have hiG : (i : Int) % 2 = 1 := by have := gO_int g; rw [hG] at this; omega
        have hwo : wd (put r i false) 0 = wd r 0 := by
          rw [show i = 2 * (i / 2) + 1 by omega]
          exact wd_put_other r (i / 2) 1 0 false (by decide) (by decide) (by decide)
        have HDH := hi (fun W => depth_any ⟨m, p0, p1, o0, o1, sp, put r i false⟩ W)
        have hrl := rungs_len r
        obtain ⟨q, hq⟩ : ∃ q, put r i false = q := ⟨_, rfl⟩
        rw [hq] at HDH HDR hlen hwo
        dsimp only at HDH HDE
        unfold Fc.v Fc.cs at HDH
        dsimp only at HDH
        rw [hwo] at HDH
        obtain ⟨n, hn⟩ : ∃ n, (rungs q).length = n := ⟨_, rfl⟩
        rw [hn] at HDH hlen
        rw [hlen] at HDE hrl
        have hwn : IntKind.i64.wrap (((n + 1 : Nat) : Int) - 1) = n := by rw [IntKind.wrap_i64]; omega
        have hwn2 : IntKind.i64.wrap ((n : Int) + 1 - 1) = n := by rw [IntKind.wrap_i64]; omega
        have hwn3 : IntKind.i64.wrap (n : Int) = n := by rw [IntKind.wrap_i64]; omega
        clear hR hD hdv hG hDR hj hiG hq hn hig hlen hri hi64
        go_enter Try.func7, Try.ntmps7
        go_wp2_with (first
          | (go_at_call 9; ((with_reducible refine (awake_if _).mono ?_); rintro e w1 ⟨rfl, hb⟩; have F1 := hi (HF0.out.below hb); have C1 := hi (HC0.out.below hb); have B1 := hi (HB0.out.trans (hb.mono HB0.out.size)); have f0 := F1.out.cell 0; have f1 := F1.out.cell 1; have f2 := F1.out.cell 2; have f3 := F1.out.cell 3; have f4 := F1.out.cell 4; have f5 := F1.out.cell 5; have f6 := F1.out.cell 6; have f7 := F1.out.cell 7; have c2 := C1.out.cell 2; have cf := C1.out.frozen; have hcg := C1.out.below (bal w1 (.cells #[.int .i64 m, .int .i64 p0, .int .i64 p1, .bool o0, .bool false, .bool sp, .int .u32 (wd r 0), .int .u32 (wd r 1)] 29)); have e2 := hcg.cell 2; have ef := hcg.frozen; have hl := C1.out.lt; have W1 := hi (show ∃ W, (w1.alloc (.cells #[.int .i64 m, .int .i64 p0, .int .i64 p1, .bool o0, .bool false, .bool sp, .int .u32 (wd r 0), .int .u32 (wd r 1)] 29)).setCell ⟨w.heap.size + 1, 2, none⟩ (.int .i64 g) = W ∧ CB W w.heap.size 29 #[.int .i64 m, .int .i64 p0, .int .i64 p1, .bool o0, .bool o1, .bool sp, .int .u32 (wd r 0), .int .u32 (wd r 1)] ∧ CB W (w.heap.size + 1) 39 #[.int .i64 ci, .int .i64 cp, .int .i64 g, .bool cis] ∧ CB W w1.heap.size 29 #[.int .i64 m, .int .i64 p0, .int .i64 p1, .bool o0, .bool false, .bool sp, .int .u32 (wd r 0), .int .u32 (wd r 1)] ∧ Below w.heap.size w W ∧ W.heap.size = w1.heap.size + 1 from ⟨_, rfl, (F1.out.below (bal w1 _)).other _ _ _ (by omega), by simpa using hcg.set 2 (.int .i64 g), (CB.new w1 29 #[.int .i64 m, .int .i64 p0, .int .i64 p1, .bool o0, .bool false, .bool sp, .int .u32 (wd r 0), .int .u32 (wd r 1)]).other _ _ _ (by omega), below_set (B1.out.trans ((bal w1 _).mono B1.out.size)) (show w.heap.size ≤ w.heap.size + 1 by omega) _, by simp⟩); have gg := ((CB.new w1 29 #[.int .i64 m, .int .i64 p0, .int .i64 p1, .bool o0, .bool false, .bool sp, .int .u32 (wd r 0), .int .u32 (wd r 1)]).other (w.heap.size + 1) 2 (.int .i64 g) (by omega)); have k0 := gg.cell 0; have k1 := gg.cell 1; have k2 := gg.cell 2; have k3 := gg.cell 3; have k4 := gg.cell 4; have k5 := gg.cell 5; have k6 := gg.cell 6; have k7 := gg.cell 7; have yc : CB ((w1.alloc (.cells #[.int .i64 m, .int .i64 p0, .int .i64 p1, .bool o0, .bool false, .bool sp, .int .u32 (wd r 0), .int .u32 (wd r 1)] 29)).setCell ⟨w.heap.size + 1, 2, none⟩ (.int .i64 g)) (w.heap.size + 1) 39 #[.int .i64 ci, .int .i64 cp, .int .i64 g, .bool cis] := (by simpa using hcg.set 2 (.int .i64 g)); have y0 := yc.cell 0; have y1 := yc.cell 1; have y2 := yc.cell 2; have y3 := yc.cell 3; have yf := yc.frozen; have yd := yc.below (bal _ (.cells #[.int .i64 m, .int .i64 p0, .int .i64 p1, .bool o0, .bool false, .bool sp, .int .u32 (wd r 0), .int .u32 (wd r 1)] 29)); have z0 := yd.cell 0; have z1 := yd.cell 1; have z2 := yd.cell 2; have z3 := yd.cell 3; have zf := yd.frozen; have LT := hi hl; clear hb hcg hl gg yc yd)))
        obtain ⟨W, hW, hF, hC, hG1, hB, hZ⟩ := W1.out
        rw [hW]
        have hw := bal W (.cells #[.int .i64 m, .int .i64 p0, .int .i64 p1, .bool o0, .bool false, .bool sp, .int .u32 (wd r 0), .int .u32 (wd r 1)] 29)
        have F2 := hi (hF.below hw)
        have C2 := hi (hC.below hw)
        have G2 := hi (hG1.below hw)
        have V2 := hi (show CB (W.alloc (.cells #[.int .i64 m, .int .i64 p0, .int .i64 p1, .bool o0, .bool false, .bool sp, .int .u32 (wd r 0), .int .u32 (wd r 1)] 29)) (w1.heap.size + 1) 29 #[.int .i64 m, .int .i64 p0, .int .i64 p1, .bool o0, .bool false, .bool sp, .int .u32 (wd r 0), .int .u32 (wd r 1)] from hZ ▸ CB.new W 29 #[.int .i64 m, .int .i64 p0, .int .i64 p1, .bool o0, .bool false, .bool sp, .int .u32 (wd r 0), .int .u32 (wd r 1)])
        have B2 := hi (hB.trans (hw.mono hB.size))
        have Z := hi hZ
        have d0 := C2.out.cell 0
        have d1 := C2.out.cell 1
        have d2 := C2.out.cell 2
        have d3 := C2.out.cell 3
        clear y0 y1 y2 y3 yf z0 z1 z2 z3 zf
        clear hW hF hC hG1 hB hZ hw W1 k0 k1 k2 k3 k4 k5 k6 k7 e2 ef f0 f1 f2 f3 f4 f5 f6 f7 c2 cf
        go_wp2_with (first
          | (go_at_call 26; ((with_reducible refine (HT.out _ _ G2.out).mono ?_); rintro e w3 ⟨rfl, hA⟩; have G3 := hi hA.bx; have F3 := hi (F2.out.keptB hA.kept (by have := LT.out; omega)); have C3 := hi (C2.out.keptB hA.kept (by have := LT.out; omega)); have V3 := hi (V2.out.keptB hA.kept (by omega)); have B3 := hi (B2.out.trans (hA.kept.toBelow B2.out.size (fun i z => by subst z; have := LT.out; omega))); have k0 := G3.out.cell 0; have k1 := G3.out.cell 1; have k2 := G3.out.cell 2; have k3 := G3.out.cell 3; have k4 := G3.out.cell 4; have k5 := G3.out.cell 5; have k6 := G3.out.cell 6; have k7 := G3.out.cell 7; have n0 := V3.out.cell 0; have n1 := V3.out.cell 1; have n2 := V3.out.cell 2; have n3 := V3.out.cell 3; have n4 := V3.out.cell 4; have n5 := V3.out.cell 5; have n6 := V3.out.cell 6; have n7 := V3.out.cell 7; have d0 := C3.out.cell 0; have d1 := C3.out.cell 1; have d2 := C3.out.cell 2; have d3 := C3.out.cell 3; clear hA))
          | (go_at_call 17; ((with_reducible refine (HS.out _).mono ?_); rintro e w4 ⟨rfl, hb⟩; have G4 := hi (G3.out.below hb); have F4 := hi (F3.out.below hb); have C4 := hi (C3.out.below hb); have B4 := hi (B3.out.trans (hb.mono B3.out.size)); have k0 := G4.out.cell 0; have k1 := G4.out.cell 1; have k2 := G4.out.cell 2; have k3 := G4.out.cell 3; have k4 := G4.out.cell 4; have k5 := G4.out.cell 5; have k6 := G4.out.cell 6; have k7 := G4.out.cell 7; have d0 := C4.out.cell 0; have d1 := C4.out.cell 1; have d2 := C4.out.cell 2; have d3 := C4.out.cell 3; clear hb))
          | (go_at_call 15; ((with_reducible refine (HM.out _).mono ?_); rintro e w5 ⟨rfl, hb⟩; have hc := bal w5 (.cells #[.int .i64 m, .int .i64 p0, .int .i64 p1, .bool o0, .bool o1, .bool sp, .int .u32 (wd r 0), .int .u32 (wd r 1)] 29); have F5 := hi (F4.out.below hb); have F6 := hi (F5.out.below hc); have H6 := hi (CB.new w5 29 #[.int .i64 m, .int .i64 p0, .int .i64 p1, .bool o0, .bool o1, .bool sp, .int .u32 (wd r 0), .int .u32 (wd r 1)]); have B6 := hi ((B4.out.trans (hb.mono B4.out.size)).trans (hc.mono (B4.out.trans (hb.mono B4.out.size)).size)); have L6 := hi (show w.heap.size < w5.heap.size from F5.out.lt); have f0 := F5.out.cell 0; have f1 := F5.out.cell 1; have f2 := F5.out.cell 2; have f3 := F5.out.cell 3; have f4 := F5.out.cell 4; have f5 := F5.out.cell 5; have f6 := F5.out.cell 6; have f7 := F5.out.cell 7; clear hb hc))
          | (go_at_call 29; ((with_reducible refine (HDR.out _ _ H6.out).mono ?_); rintro e w7 ⟨rfl, hA⟩; have H7 := hi (show CB w7 w5.heap.size 29 #[.int .i64 m, .int .i64 p0, .int .i64 p1, .bool o0, .bool o1, .bool sp, .int .u32 (wd q 0), .int .u32 (wd q 1)] from hA.bx); have F7 := hi (F6.out.keptB hA.kept (by have := L6.out; omega)); have B7 := hi (B6.out.trans (hA.kept.toBelow B6.out.size (fun i z => by subst z; have := L6.out; omega))); have f0 := F7.out.cell 0; have f1 := F7.out.cell 1; have f2 := F7.out.cell 2; have f3 := F7.out.cell 3; have f4 := F7.out.cell 4; have f5 := F7.out.cell 5; have f6 := F7.out.cell 6; have f7 := F7.out.cell 7; clear hA))
          | (go_at_call 28; ((with_reducible refine (HRU.out _).mono ?_); rintro e w8 ⟨rfl, hb⟩; have H8 := hi (H7.out.below hb); have F8 := hi (F7.out.below hb); have B8 := hi (B7.out.trans (hb.mono B7.out.size)); clear hb)))
        have B8d := hi (Below.drewN (m := 1) B8.out)
        refine wp_region_noPanic ?_
        refine wp_region_last_drew (S := (fun W' => CB W' w5.heap.size 29 #[.int .i64 m, .int .i64 p0, .int .i64 p1, .bool o0, .bool o1, .bool sp, .int .u32 (wd q 0), .int .u32 (wd q 1)] ∧ CB W' w.heap.size 29 #[.int .i64 m, .int .i64 p0, .int .i64 p1, .bool o0, .bool o1, .bool sp, .int .u32 (wd r 0), .int .u32 (wd r 1)])) [] (by kernel_rfl) ⟨H8.out.drew, F8.out.drew⟩ (fun hHeld => ?_)
        (try simp only [Array.replicate_succ, Array.replicate_zero, List.push_toArray, List.nil_append, List.cons_append])
        refine wpAnyF_take (i := 0) (v := ?_) (by kernel_rfl) (by kernel_rfl) rfl (by kernel_rfl) (by kernel_rfl) (by kernel_rfl) (fun _ _ _ h => h) (Or.inl ⟨by rfl, ?_⟩) (by assumption) ?_
        rotate_left
        · intro w' hSw; (try dsimp only at hSw); have h0 := hSw.1.cell 0; have h1 := hSw.1.cell 1; have h2 := hSw.1.cell 2; have h3 := hSw.1.cell 3; have h4 := hSw.1.cell 4; have h5 := hSw.1.cell 5; have h6 := hSw.1.cell 6; have h7 := hSw.1.cell 7; have f0 := hSw.2.cell 0; have f1 := hSw.2.cell 1; have f2 := hSw.2.cell 2; have f3 := hSw.2.cell 3; have f4 := hSw.2.cell 4; have f5 := hSw.2.cell 5; have f6 := hSw.2.cell 6; have f7 := hSw.2.cell 7; go_simp; (try with_reducible rfl)
        (try simp only [Act.put, List.getElem_toArray, List.getElem_cons_zero, List.setIfInBounds_toArray, List.set_cons_zero, List.set_cons_succ])
        refine wpAnyF_take (i := 1) (v := ?_) (by kernel_rfl) (by kernel_rfl) rfl (by kernel_rfl) (by kernel_rfl) (by kernel_rfl) (fun _ _ _ h => h) (Or.inl ⟨by rfl, ?_⟩) (by assumption) ?_
        rotate_left
        · intro w' hSw; (try dsimp only at hSw); have h0 := hSw.1.cell 0; have h1 := hSw.1.cell 1; have h2 := hSw.1.cell 2; have h3 := hSw.1.cell 3; have h4 := hSw.1.cell 4; have h5 := hSw.1.cell 5; have h6 := hSw.1.cell 6; have h7 := hSw.1.cell 7; have f0 := hSw.2.cell 0; have f1 := hSw.2.cell 1; have f2 := hSw.2.cell 2; have f3 := hSw.2.cell 3; have f4 := hSw.2.cell 4; have f5 := hSw.2.cell 5; have f6 := hSw.2.cell 6; have f7 := hSw.2.cell 7; go_simp; (try with_reducible rfl)
        (try simp only [Act.put, List.getElem_toArray, List.getElem_cons_zero, List.getElem_cons_succ, List.setIfInBounds_toArray, List.set_cons_zero, List.set_cons_succ])
        refine wpAnyF_take (i := 2) (v := ?_) (by kernel_rfl) (by kernel_rfl) rfl (by kernel_rfl) (by kernel_rfl) (by kernel_rfl) (fun _ _ _ h => h) (Or.inl ⟨by rfl, ?_⟩) (by assumption) ?_
        rotate_left
        · intro w' hSw; (try dsimp only at hSw); have h0 := hSw.1.cell 0; have h1 := hSw.1.cell 1; have h2 := hSw.1.cell 2; have h3 := hSw.1.cell 3; have h4 := hSw.1.cell 4; have h5 := hSw.1.cell 5; have h6 := hSw.1.cell 6; have h7 := hSw.1.cell 7; have f0 := hSw.2.cell 0; have f1 := hSw.2.cell 1; have f2 := hSw.2.cell 2; have f3 := hSw.2.cell 3; have f4 := hSw.2.cell 4; have f5 := hSw.2.cell 5; have f6 := hSw.2.cell 6; have f7 := hSw.2.cell 7; go_simp; (try with_reducible rfl)
        (try simp only [Act.put, List.getElem_toArray, List.getElem_cons_zero, List.getElem_cons_succ, List.setIfInBounds_toArray, List.set_cons_zero, List.set_cons_succ])
        refine wpAnyF_take (i := 3) (v := ?_) (by kernel_rfl) (by kernel_rfl) rfl (by kernel_rfl) (by kernel_rfl) (by kernel_rfl) (fun _ _ _ h => h) (Or.inl ⟨by rfl, ?_⟩) (by assumption) ?_
        rotate_left
        · intro w' hSw; (try dsimp only at hSw); have h0 := hSw.1.cell 0; have h1 := hSw.1.cell 1; have h2 := hSw.1.cell 2; have h3 := hSw.1.cell 3; have h4 := hSw.1.cell 4; have h5 := hSw.1.cell 5; have h6 := hSw.1.cell 6; have h7 := hSw.1.cell 7; have f0 := hSw.2.cell 0; have f1 := hSw.2.cell 1; have f2 := hSw.2.cell 2; have f3 := hSw.2.cell 3; have f4 := hSw.2.cell 4; have f5 := hSw.2.cell 5; have f6 := hSw.2.cell 6; have f7 := hSw.2.cell 7; go_simp; (try with_reducible rfl)
        (try simp only [Act.put, List.getElem_toArray, List.getElem_cons_zero, List.getElem_cons_succ, List.setIfInBounds_toArray, List.set_cons_zero, List.set_cons_succ])
        refine wpAnyF_take (i := 4) (v := ?_) (by kernel_rfl) (by kernel_rfl) rfl (by kernel_rfl) (by kernel_rfl) (by kernel_rfl) (fun _ _ _ h => h) (Or.inl ⟨by rfl, ?_⟩) (by assumption) ?_
        rotate_left
        · intro w' hSw; (try dsimp only at hSw); have h0 := hSw.1.cell 0; have h1 := hSw.1.cell 1; have h2 := hSw.1.cell 2; have h3 := hSw.1.cell 3; have h4 := hSw.1.cell 4; have h5 := hSw.1.cell 5; have h6 := hSw.1.cell 6; have h7 := hSw.1.cell 7; have f0 := hSw.2.cell 0; have f1 := hSw.2.cell 1; have f2 := hSw.2.cell 2; have f3 := hSw.2.cell 3; have f4 := hSw.2.cell 4; have f5 := hSw.2.cell 5; have f6 := hSw.2.cell 6; have f7 := hSw.2.cell 7; go_simp; (try with_reducible rfl)
        (try simp only [Act.put, List.getElem_toArray, List.getElem_cons_zero, List.getElem_cons_succ, List.setIfInBounds_toArray, List.set_cons_zero, List.set_cons_succ])
        refine wpAnyF_take (i := 5) (v := ?_) (by kernel_rfl) (by kernel_rfl) rfl (by kernel_rfl) (by kernel_rfl) (by kernel_rfl) (fun _ _ _ h => h) (Or.inl ⟨by rfl, ?_⟩) (by assumption) ?_
        rotate_left
        · intro w' hSw; (try dsimp only at hSw); have h0 := hSw.1.cell 0; have h1 := hSw.1.cell 1; have h2 := hSw.1.cell 2; have h3 := hSw.1.cell 3; have h4 := hSw.1.cell 4; have h5 := hSw.1.cell 5; have h6 := hSw.1.cell 6; have h7 := hSw.1.cell 7; have f0 := hSw.2.cell 0; have f1 := hSw.2.cell 1; have f2 := hSw.2.cell 2; have f3 := hSw.2.cell 3; have f4 := hSw.2.cell 4; have f5 := hSw.2.cell 5; have f6 := hSw.2.cell 6; have f7 := hSw.2.cell 7; go_simp; (try with_reducible rfl)
        (try simp only [Act.put, List.getElem_toArray, List.getElem_cons_zero, List.getElem_cons_succ, List.setIfInBounds_toArray, List.set_cons_zero, List.set_cons_succ])
        refine wpAnyF_take (i := 6) (v := ?_) (by kernel_rfl) (by kernel_rfl) rfl (by kernel_rfl) (by kernel_rfl) (by kernel_rfl) (fun _ _ _ h => h) (Or.inl ⟨by rfl, ?_⟩) (by assumption) ?_
        rotate_left
        · intro w' hSw; (try dsimp only at hSw); have h0 := hSw.1.cell 0; have h1 := hSw.1.cell 1; have h2 := hSw.1.cell 2; have h3 := hSw.1.cell 3; have h4 := hSw.1.cell 4; have h5 := hSw.1.cell 5; have h6 := hSw.1.cell 6; have h7 := hSw.1.cell 7; have f0 := hSw.2.cell 0; have f1 := hSw.2.cell 1; have f2 := hSw.2.cell 2; have f3 := hSw.2.cell 3; have f4 := hSw.2.cell 4; have f5 := hSw.2.cell 5; have f6 := hSw.2.cell 6; have f7 := hSw.2.cell 7; go_simp; (try with_reducible rfl)
        (try simp only [Act.put, List.getElem_toArray, List.getElem_cons_zero, List.getElem_cons_succ, List.setIfInBounds_toArray, List.set_cons_zero, List.set_cons_succ])
        refine wpAnyF_take (i := 7) (v := ?_) (by kernel_rfl) (by kernel_rfl) rfl (by kernel_rfl) (by kernel_rfl) (by kernel_rfl) (fun _ _ _ h => h) (Or.inl ⟨by rfl, ?_⟩) (by assumption) ?_
        rotate_left
        · intro w' hSw; (try dsimp only at hSw); have h0 := hSw.1.cell 0; have h1 := hSw.1.cell 1; have h2 := hSw.1.cell 2; have h3 := hSw.1.cell 3; have h4 := hSw.1.cell 4; have h5 := hSw.1.cell 5; have h6 := hSw.1.cell 6; have h7 := hSw.1.cell 7; have f0 := hSw.2.cell 0; have f1 := hSw.2.cell 1; have f2 := hSw.2.cell 2; have f3 := hSw.2.cell 3; have f4 := hSw.2.cell 4; have f5 := hSw.2.cell 5; have f6 := hSw.2.cell 6; have f7 := hSw.2.cell 7; go_simp; (try with_reducible rfl)
        (try simp only [Act.put, List.getElem_toArray, List.getElem_cons_zero, List.getElem_cons_succ, List.setIfInBounds_toArray, List.set_cons_zero, List.set_cons_succ])
        refine wpAnyF_take (i := 8) (v := ?_) (by kernel_rfl) (by kernel_rfl) rfl (by kernel_rfl) (by kernel_rfl) (by kernel_rfl) (fun _ _ _ h => h) (Or.inl ⟨by rfl, ?_⟩) (by assumption) ?_
        rotate_left
        · intro w' hSw; (try dsimp only at hSw); have h0 := hSw.1.cell 0; have h1 := hSw.1.cell 1; have h2 := hSw.1.cell 2; have h3 := hSw.1.cell 3; have h4 := hSw.1.cell 4; have h5 := hSw.1.cell 5; have h6 := hSw.1.cell 6; have h7 := hSw.1.cell 7; have f0 := hSw.2.cell 0; have f1 := hSw.2.cell 1; have f2 := hSw.2.cell 2; have f3 := hSw.2.cell 3; have f4 := hSw.2.cell 4; have f5 := hSw.2.cell 5; have f6 := hSw.2.cell 6; have f7 := hSw.2.cell 7; go_simp; (try with_reducible rfl)
        (try simp only [Act.put, List.getElem_toArray, List.getElem_cons_zero, List.getElem_cons_succ, List.setIfInBounds_toArray, List.set_cons_zero, List.set_cons_succ])
        refine wpAnyF_take (i := 9) (v := ?_) (by kernel_rfl) (by kernel_rfl) rfl (by kernel_rfl) (by kernel_rfl) (by kernel_rfl) (fun _ _ _ h => h) (Or.inl ⟨by rfl, ?_⟩) (by assumption) ?_
        rotate_left
        · intro w' hSw; (try dsimp only at hSw); have h0 := hSw.1.cell 0; have h1 := hSw.1.cell 1; have h2 := hSw.1.cell 2; have h3 := hSw.1.cell 3; have h4 := hSw.1.cell 4; have h5 := hSw.1.cell 5; have h6 := hSw.1.cell 6; have h7 := hSw.1.cell 7; have f0 := hSw.2.cell 0; have f1 := hSw.2.cell 1; have f2 := hSw.2.cell 2; have f3 := hSw.2.cell 3; have f4 := hSw.2.cell 4; have f5 := hSw.2.cell 5; have f6 := hSw.2.cell 6; have f7 := hSw.2.cell 7; go_simp; (try with_reducible rfl)
        (try simp only [Act.put, List.getElem_toArray, List.getElem_cons_zero, List.getElem_cons_succ, List.setIfInBounds_toArray, List.set_cons_zero, List.set_cons_succ])
        refine wpAnyF_take (i := 10) (v := ?_) (by kernel_rfl) (by kernel_rfl) rfl (by kernel_rfl) (by kernel_rfl) (by kernel_rfl) (fun _ _ _ h => h) (Or.inl ⟨by rfl, ?_⟩) (by assumption) ?_
        rotate_left
        · intro w' hSw; (try dsimp only at hSw); have h0 := hSw.1.cell 0; have h1 := hSw.1.cell 1; have h2 := hSw.1.cell 2; have h3 := hSw.1.cell 3; have h4 := hSw.1.cell 4; have h5 := hSw.1.cell 5; have h6 := hSw.1.cell 6; have h7 := hSw.1.cell 7; have f0 := hSw.2.cell 0; have f1 := hSw.2.cell 1; have f2 := hSw.2.cell 2; have f3 := hSw.2.cell 3; have f4 := hSw.2.cell 4; have f5 := hSw.2.cell 5; have f6 := hSw.2.cell 6; have f7 := hSw.2.cell 7; go_simp; (try with_reducible rfl)
        (try simp only [Act.put, List.getElem_toArray, List.getElem_cons_zero, List.getElem_cons_succ, List.setIfInBounds_toArray, List.set_cons_zero, List.set_cons_succ])
        refine wpAnyF_take (i := 11) (v := ?_) (by kernel_rfl) (by kernel_rfl) rfl (by kernel_rfl) (by kernel_rfl) (by kernel_rfl) (fun _ _ _ h => h) (Or.inl ⟨by rfl, ?_⟩) (by assumption) ?_
        rotate_left
        · intro w' hSw; (try dsimp only at hSw); have h0 := hSw.1.cell 0; have h1 := hSw.1.cell 1; have h2 := hSw.1.cell 2; have h3 := hSw.1.cell 3; have h4 := hSw.1.cell 4; have h5 := hSw.1.cell 5; have h6 := hSw.1.cell 6; have h7 := hSw.1.cell 7; have f0 := hSw.2.cell 0; have f1 := hSw.2.cell 1; have f2 := hSw.2.cell 2; have f3 := hSw.2.cell 3; have f4 := hSw.2.cell 4; have f5 := hSw.2.cell 5; have f6 := hSw.2.cell 6; have f7 := hSw.2.cell 7; go_simp; (try with_reducible rfl)
        (try simp only [Act.put, List.getElem_toArray, List.getElem_cons_zero, List.getElem_cons_succ, List.setIfInBounds_toArray, List.set_cons_zero, List.set_cons_succ])
        refine wpAnyF_take (i := 12) (v := ?_) (by kernel_rfl) (by kernel_rfl) rfl (by kernel_rfl) (by kernel_rfl) (by kernel_rfl) (fun _ _ _ h => h) (Or.inl ⟨by rfl, ?_⟩) (by assumption) ?_
        rotate_left
        · intro w' hSw; (try dsimp only at hSw); have h0 := hSw.1.cell 0; have h1 := hSw.1.cell 1; have h2 := hSw.1.cell 2; have h3 := hSw.1.cell 3; have h4 := hSw.1.cell 4; have h5 := hSw.1.cell 5; have h6 := hSw.1.cell 6; have h7 := hSw.1.cell 7; have f0 := hSw.2.cell 0; have f1 := hSw.2.cell 1; have f2 := hSw.2.cell 2; have f3 := hSw.2.cell 3; have f4 := hSw.2.cell 4; have f5 := hSw.2.cell 5; have f6 := hSw.2.cell 6; have f7 := hSw.2.cell 7; go_simp; (try with_reducible rfl)
        (try simp only [Act.put, List.getElem_toArray, List.getElem_cons_zero, List.getElem_cons_succ, List.setIfInBounds_toArray, List.set_cons_zero, List.set_cons_succ])
        refine wpAnyF_take (i := 13) (v := ?_) (by kernel_rfl) (by kernel_rfl) rfl (by kernel_rfl) (by kernel_rfl) (by kernel_rfl) (fun _ _ _ h => h) (Or.inl ⟨by rfl, ?_⟩) (by assumption) ?_
        rotate_left
        · intro w' hSw; (try dsimp only at hSw); have h0 := hSw.1.cell 0; have h1 := hSw.1.cell 1; have h2 := hSw.1.cell 2; have h3 := hSw.1.cell 3; have h4 := hSw.1.cell 4; have h5 := hSw.1.cell 5; have h6 := hSw.1.cell 6; have h7 := hSw.1.cell 7; have f0 := hSw.2.cell 0; have f1 := hSw.2.cell 1; have f2 := hSw.2.cell 2; have f3 := hSw.2.cell 3; have f4 := hSw.2.cell 4; have f5 := hSw.2.cell 5; have f6 := hSw.2.cell 6; have f7 := hSw.2.cell 7; go_simp; (try with_reducible rfl)
        (try simp only [Act.put, List.getElem_toArray, List.getElem_cons_zero, List.getElem_cons_succ, List.setIfInBounds_toArray, List.set_cons_zero, List.set_cons_succ])
        refine wpAnyF_take (i := 14) (v := ?_) (by kernel_rfl) (by kernel_rfl) rfl (by kernel_rfl) (by kernel_rfl) (by kernel_rfl) (fun _ _ _ h => h) (Or.inl ⟨by rfl, ?_⟩) (by assumption) ?_
        rotate_left
        · intro w' hSw; (try dsimp only at hSw); have h0 := hSw.1.cell 0; have h1 := hSw.1.cell 1; have h2 := hSw.1.cell 2; have h3 := hSw.1.cell 3; have h4 := hSw.1.cell 4; have h5 := hSw.1.cell 5; have h6 := hSw.1.cell 6; have h7 := hSw.1.cell 7; have f0 := hSw.2.cell 0; have f1 := hSw.2.cell 1; have f2 := hSw.2.cell 2; have f3 := hSw.2.cell 3; have f4 := hSw.2.cell 4; have f5 := hSw.2.cell 5; have f6 := hSw.2.cell 6; have f7 := hSw.2.cell 7; go_simp; (try with_reducible rfl)
        (try simp only [Act.put, List.getElem_toArray, List.getElem_cons_zero, List.getElem_cons_succ, List.setIfInBounds_toArray, List.set_cons_zero, List.set_cons_succ])
        refine wpAnyF_take (i := 15) (v := ?_) (by kernel_rfl) (by kernel_rfl) rfl (by kernel_rfl) (by kernel_rfl) (by kernel_rfl) (fun _ _ _ h => h) (Or.inl ⟨by rfl, ?_⟩) (by assumption) ?_
        rotate_left
        · intro w' hSw; (try dsimp only at hSw); have h0 := hSw.1.cell 0; have h1 := hSw.1.cell 1; have h2 := hSw.1.cell 2; have h3 := hSw.1.cell 3; have h4 := hSw.1.cell 4; have h5 := hSw.1.cell 5; have h6 := hSw.1.cell 6; have h7 := hSw.1.cell 7; have f0 := hSw.2.cell 0; have f1 := hSw.2.cell 1; have f2 := hSw.2.cell 2; have f3 := hSw.2.cell 3; have f4 := hSw.2.cell 4; have f5 := hSw.2.cell 5; have f6 := hSw.2.cell 6; have f7 := hSw.2.cell 7; go_simp; (try with_reducible rfl)
        (try simp only [Act.put, List.getElem_toArray, List.getElem_cons_zero, List.getElem_cons_succ, List.setIfInBounds_toArray, List.set_cons_zero, List.set_cons_succ])
        refine wpAnyF_take (i := 16) (v := ?_) (by kernel_rfl) (by kernel_rfl) rfl (by kernel_rfl) (by kernel_rfl) (by kernel_rfl) (fun _ _ _ h => h) (Or.inl ⟨by rfl, ?_⟩) (by assumption) ?_
        rotate_left
        · intro w' hSw; (try dsimp only at hSw); have h0 := hSw.1.cell 0; have h1 := hSw.1.cell 1; have h2 := hSw.1.cell 2; have h3 := hSw.1.cell 3; have h4 := hSw.1.cell 4; have h5 := hSw.1.cell 5; have h6 := hSw.1.cell 6; have h7 := hSw.1.cell 7; have f0 := hSw.2.cell 0; have f1 := hSw.2.cell 1; have f2 := hSw.2.cell 2; have f3 := hSw.2.cell 3; have f4 := hSw.2.cell 4; have f5 := hSw.2.cell 5; have f6 := hSw.2.cell 6; have f7 := hSw.2.cell 7; go_simp; (try with_reducible rfl)
        (try simp only [Act.put, List.getElem_toArray, List.getElem_cons_zero, List.getElem_cons_succ, List.setIfInBounds_toArray, List.set_cons_zero, List.set_cons_succ])
        refine wpAnyF_take (i := 17) (v := ?_) (by kernel_rfl) (by kernel_rfl) rfl (by kernel_rfl) (by kernel_rfl) (by kernel_rfl) (fun _ _ _ h => h) (Or.inl ⟨by rfl, ?_⟩) (by assumption) ?_
        rotate_left
        · intro w' hSw; (try dsimp only at hSw); have h0 := hSw.1.cell 0; have h1 := hSw.1.cell 1; have h2 := hSw.1.cell 2; have h3 := hSw.1.cell 3; have h4 := hSw.1.cell 4; have h5 := hSw.1.cell 5; have h6 := hSw.1.cell 6; have h7 := hSw.1.cell 7; have f0 := hSw.2.cell 0; have f1 := hSw.2.cell 1; have f2 := hSw.2.cell 2; have f3 := hSw.2.cell 3; have f4 := hSw.2.cell 4; have f5 := hSw.2.cell 5; have f6 := hSw.2.cell 6; have f7 := hSw.2.cell 7; go_simp; (try with_reducible rfl)
        (try simp only [Act.put, List.getElem_toArray, List.getElem_cons_zero, List.getElem_cons_succ, List.setIfInBounds_toArray, List.set_cons_zero, List.set_cons_succ])
        refine wpAnyF_take (i := 18) (v := ?_) (by kernel_rfl) (by kernel_rfl) rfl (by kernel_rfl) (by kernel_rfl) (by kernel_rfl) (fun _ _ _ h => h) (Or.inl ⟨by rfl, ?_⟩) (by assumption) ?_
        rotate_left
        · intro w' hSw; (try dsimp only at hSw); have h0 := hSw.1.cell 0; have h1 := hSw.1.cell 1; have h2 := hSw.1.cell 2; have h3 := hSw.1.cell 3; have h4 := hSw.1.cell 4; have h5 := hSw.1.cell 5; have h6 := hSw.1.cell 6; have h7 := hSw.1.cell 7; have f0 := hSw.2.cell 0; have f1 := hSw.2.cell 1; have f2 := hSw.2.cell 2; have f3 := hSw.2.cell 3; have f4 := hSw.2.cell 4; have f5 := hSw.2.cell 5; have f6 := hSw.2.cell 6; have f7 := hSw.2.cell 7; go_simp; (try with_reducible rfl)
        (try simp only [Act.put, List.getElem_toArray, List.getElem_cons_zero, List.getElem_cons_succ, List.setIfInBounds_toArray, List.set_cons_zero, List.set_cons_succ])
        refine wpAnyF_take (i := 19) (v := ?_) (by kernel_rfl) (by kernel_rfl) rfl (by kernel_rfl) (by kernel_rfl) (by kernel_rfl) (fun _ _ _ h => h) (Or.inl ⟨by rfl, ?_⟩) (by assumption) ?_
        rotate_left
        · intro w' hSw; (try dsimp only at hSw); have h0 := hSw.1.cell 0; have h1 := hSw.1.cell 1; have h2 := hSw.1.cell 2; have h3 := hSw.1.cell 3; have h4 := hSw.1.cell 4; have h5 := hSw.1.cell 5; have h6 := hSw.1.cell 6; have h7 := hSw.1.cell 7; have f0 := hSw.2.cell 0; have f1 := hSw.2.cell 1; have f2 := hSw.2.cell 2; have f3 := hSw.2.cell 3; have f4 := hSw.2.cell 4; have f5 := hSw.2.cell 5; have f6 := hSw.2.cell 6; have f7 := hSw.2.cell 7; go_simp; (try with_reducible rfl)
        (try simp only [Act.put, List.getElem_toArray, List.getElem_cons_zero, List.getElem_cons_succ, List.setIfInBounds_toArray, List.set_cons_zero, List.set_cons_succ])
        refine wpAnyF_take (i := 20) (v := ?_) (by kernel_rfl) (by kernel_rfl) rfl (by kernel_rfl) (by kernel_rfl) (by kernel_rfl) (fun _ _ _ h => h) (Or.inl ⟨by rfl, ?_⟩) (by assumption) ?_
        rotate_left
        · intro w' hSw; (try dsimp only at hSw); have h0 := hSw.1.cell 0; have h1 := hSw.1.cell 1; have h2 := hSw.1.cell 2; have h3 := hSw.1.cell 3; have h4 := hSw.1.cell 4; have h5 := hSw.1.cell 5; have h6 := hSw.1.cell 6; have h7 := hSw.1.cell 7; have f0 := hSw.2.cell 0; have f1 := hSw.2.cell 1; have f2 := hSw.2.cell 2; have f3 := hSw.2.cell 3; have f4 := hSw.2.cell 4; have f5 := hSw.2.cell 5; have f6 := hSw.2.cell 6; have f7 := hSw.2.cell 7; go_simp; (try with_reducible rfl)
        (try simp only [Act.put, List.getElem_toArray, List.getElem_cons_zero, List.getElem_cons_succ, List.setIfInBounds_toArray, List.set_cons_zero, List.set_cons_succ])
        refine wpAnyF_take (i := 21) (v := ?_) (by kernel_rfl) (by kernel_rfl) rfl (by kernel_rfl) (by kernel_rfl) (by kernel_rfl) (fun _ _ _ h => h) (Or.inl ⟨by rfl, ?_⟩) (by assumption) ?_
        rotate_left
        · intro w' hSw; (try dsimp only at hSw); have h0 := hSw.1.cell 0; have h1 := hSw.1.cell 1; have h2 := hSw.1.cell 2; have h3 := hSw.1.cell 3; have h4 := hSw.1.cell 4; have h5 := hSw.1.cell 5; have h6 := hSw.1.cell 6; have h7 := hSw.1.cell 7; have f0 := hSw.2.cell 0; have f1 := hSw.2.cell 1; have f2 := hSw.2.cell 2; have f3 := hSw.2.cell 3; have f4 := hSw.2.cell 4; have f5 := hSw.2.cell 5; have f6 := hSw.2.cell 6; have f7 := hSw.2.cell 7; go_simp; (try with_reducible rfl)
        (try simp only [Act.put, List.getElem_toArray, List.getElem_cons_zero, List.getElem_cons_succ, List.setIfInBounds_toArray, List.set_cons_zero, List.set_cons_succ])
        refine wpAnyF_take (i := 22) (v := ?_) (by kernel_rfl) (by kernel_rfl) rfl (by kernel_rfl) (by kernel_rfl) (by kernel_rfl) (fun _ _ _ h => h) (Or.inl ⟨by rfl, ?_⟩) (by assumption) ?_
        rotate_left
        · intro w' hSw; (try dsimp only at hSw); have h0 := hSw.1.cell 0; have h1 := hSw.1.cell 1; have h2 := hSw.1.cell 2; have h3 := hSw.1.cell 3; have h4 := hSw.1.cell 4; have h5 := hSw.1.cell 5; have h6 := hSw.1.cell 6; have h7 := hSw.1.cell 7; have f0 := hSw.2.cell 0; have f1 := hSw.2.cell 1; have f2 := hSw.2.cell 2; have f3 := hSw.2.cell 3; have f4 := hSw.2.cell 4; have f5 := hSw.2.cell 5; have f6 := hSw.2.cell 6; have f7 := hSw.2.cell 7; go_simp; (try with_reducible rfl)
        (try simp only [Act.put, List.getElem_toArray, List.getElem_cons_zero, List.getElem_cons_succ, List.setIfInBounds_toArray, List.set_cons_zero, List.set_cons_succ])
        refine wpAnyF_take (i := 23) (v := ?_) (by kernel_rfl) (by kernel_rfl) rfl (by kernel_rfl) (by kernel_rfl) (by kernel_rfl) (fun _ _ _ h => h) (Or.inl ⟨by rfl, ?_⟩) (by assumption) ?_
        rotate_left
        · intro w' hSw; (try dsimp only at hSw); have h0 := hSw.1.cell 0; have h1 := hSw.1.cell 1; have h2 := hSw.1.cell 2; have h3 := hSw.1.cell 3; have h4 := hSw.1.cell 4; have h5 := hSw.1.cell 5; have h6 := hSw.1.cell 6; have h7 := hSw.1.cell 7; have f0 := hSw.2.cell 0; have f1 := hSw.2.cell 1; have f2 := hSw.2.cell 2; have f3 := hSw.2.cell 3; have f4 := hSw.2.cell 4; have f5 := hSw.2.cell 5; have f6 := hSw.2.cell 6; have f7 := hSw.2.cell 7; go_simp; (try with_reducible rfl)
        (try simp only [Act.put, List.getElem_toArray, List.getElem_cons_zero, List.getElem_cons_succ, List.setIfInBounds_toArray, List.set_cons_zero, List.set_cons_succ])
        refine wpAnyF_take (i := 24) (v := ?_) (by kernel_rfl) (by kernel_rfl) rfl (by kernel_rfl) (by kernel_rfl) (by kernel_rfl) (fun _ _ _ h => h) (Or.inl ⟨by rfl, ?_⟩) (by assumption) ?_
        rotate_left
        · intro w' hSw; (try dsimp only at hSw); have h0 := hSw.1.cell 0; have h1 := hSw.1.cell 1; have h2 := hSw.1.cell 2; have h3 := hSw.1.cell 3; have h4 := hSw.1.cell 4; have h5 := hSw.1.cell 5; have h6 := hSw.1.cell 6; have h7 := hSw.1.cell 7; have f0 := hSw.2.cell 0; have f1 := hSw.2.cell 1; have f2 := hSw.2.cell 2; have f3 := hSw.2.cell 3; have f4 := hSw.2.cell 4; have f5 := hSw.2.cell 5; have f6 := hSw.2.cell 6; have f7 := hSw.2.cell 7; go_simp; (try with_reducible rfl)
        (try simp only [Act.put, List.getElem_toArray, List.getElem_cons_zero, List.getElem_cons_succ, List.setIfInBounds_toArray, List.set_cons_zero, List.set_cons_succ])
        refine wpAnyF_take (i := 25) (v := ?_) (by kernel_rfl) (by kernel_rfl) rfl (by kernel_rfl) (by kernel_rfl) (by kernel_rfl) (fun _ _ _ h => h) (Or.inl ⟨by rfl, ?_⟩) (by assumption) ?_
        rotate_left
        · intro w' hSw; (try dsimp only at hSw); have h0 := hSw.1.cell 0; have h1 := hSw.1.cell 1; have h2 := hSw.1.cell 2; have h3 := hSw.1.cell 3; have h4 := hSw.1.cell 4; have h5 := hSw.1.cell 5; have h6 := hSw.1.cell 6; have h7 := hSw.1.cell 7; have f0 := hSw.2.cell 0; have f1 := hSw.2.cell 1; have f2 := hSw.2.cell 2; have f3 := hSw.2.cell 3; have f4 := hSw.2.cell 4; have f5 := hSw.2.cell 5; have f6 := hSw.2.cell 6; have f7 := hSw.2.cell 7; go_simp; (try with_reducible rfl)
        (try simp only [Act.put, List.getElem_toArray, List.getElem_cons_zero, List.getElem_cons_succ, List.setIfInBounds_toArray, List.set_cons_zero, List.set_cons_succ])
        refine wpAnyF_take (i := 26) (v := ?_) (by kernel_rfl) (by kernel_rfl) rfl (by kernel_rfl) (by kernel_rfl) (by kernel_rfl) (fun _ _ _ h => h) (Or.inl ⟨by rfl, ?_⟩) (by assumption) ?_
        rotate_left
        · intro w' hSw; (try dsimp only at hSw); have h0 := hSw.1.cell 0; have h1 := hSw.1.cell 1; have h2 := hSw.1.cell 2; have h3 := hSw.1.cell 3; have h4 := hSw.1.cell 4; have h5 := hSw.1.cell 5; have h6 := hSw.1.cell 6; have h7 := hSw.1.cell 7; have f0 := hSw.2.cell 0; have f1 := hSw.2.cell 1; have f2 := hSw.2.cell 2; have f3 := hSw.2.cell 3; have f4 := hSw.2.cell 4; have f5 := hSw.2.cell 5; have f6 := hSw.2.cell 6; have f7 := hSw.2.cell 7; go_simp; (try with_reducible rfl)
        (try simp only [Act.put, List.getElem_toArray, List.getElem_cons_zero, List.getElem_cons_succ, List.setIfInBounds_toArray, List.set_cons_zero, List.set_cons_succ])
        refine wpAnyF_take (i := 27) (v := ?_) (by kernel_rfl) (by kernel_rfl) rfl (by kernel_rfl) (by kernel_rfl) (by kernel_rfl) (fun _ _ _ h => h) (Or.inl ⟨by rfl, ?_⟩) (by assumption) ?_
        rotate_left
        · intro w' hSw; (try dsimp only at hSw); have h0 := hSw.1.cell 0; have h1 := hSw.1.cell 1; have h2 := hSw.1.cell 2; have h3 := hSw.1.cell 3; have h4 := hSw.1.cell 4; have h5 := hSw.1.cell 5; have h6 := hSw.1.cell 6; have h7 := hSw.1.cell 7; have f0 := hSw.2.cell 0; have f1 := hSw.2.cell 1; have f2 := hSw.2.cell 2; have f3 := hSw.2.cell 3; have f4 := hSw.2.cell 4; have f5 := hSw.2.cell 5; have f6 := hSw.2.cell 6; have f7 := hSw.2.cell 7; go_simp; (try with_reducible rfl)
        (try simp only [Act.put, List.getElem_toArray, List.getElem_cons_zero, List.getElem_cons_succ, List.setIfInBounds_toArray, List.set_cons_zero, List.set_cons_succ])
        refine wpAnyF_take (i := 28) (v := ?_) (by kernel_rfl) (by kernel_rfl) rfl (by kernel_rfl) (by kernel_rfl) (by kernel_rfl) (fun _ _ _ h => h) (Or.inl ⟨by rfl, ?_⟩) (by assumption) ?_
        rotate_left
        · intro w' hSw; (try dsimp only at hSw); have h0 := hSw.1.cell 0; have h1 := hSw.1.cell 1; have h2 := hSw.1.cell 2; have h3 := hSw.1.cell 3; have h4 := hSw.1.cell 4; have h5 := hSw.1.cell 5; have h6 := hSw.1.cell 6; have h7 := hSw.1.cell 7; have f0 := hSw.2.cell 0; have f1 := hSw.2.cell 1; have f2 := hSw.2.cell 2; have f3 := hSw.2.cell 3; have f4 := hSw.2.cell 4; have f5 := hSw.2.cell 5; have f6 := hSw.2.cell 6; have f7 := hSw.2.cell 7; go_simp; (try with_reducible rfl)
        (try simp only [Act.put, List.getElem_toArray, List.getElem_cons_zero, List.getElem_cons_succ, List.setIfInBounds_toArray, List.set_cons_zero, List.set_cons_succ])
        refine wpAnyF_take (i := 29) (v := ?_) (by kernel_rfl) (by kernel_rfl) rfl (by kernel_rfl) (by kernel_rfl) (by kernel_rfl) (fun _ _ _ h => h) (Or.inl ⟨by rfl, ?_⟩) (by assumption) ?_
        rotate_left
        · intro w' hSw; (try dsimp only at hSw); have h0 := hSw.1.cell 0; have h1 := hSw.1.cell 1; have h2 := hSw.1.cell 2; have h3 := hSw.1.cell 3; have h4 := hSw.1.cell 4; have h5 := hSw.1.cell 5; have h6 := hSw.1.cell 6; have h7 := hSw.1.cell 7; have f0 := hSw.2.cell 0; have f1 := hSw.2.cell 1; have f2 := hSw.2.cell 2; have f3 := hSw.2.cell 3; have f4 := hSw.2.cell 4; have f5 := hSw.2.cell 5; have f6 := hSw.2.cell 6; have f7 := hSw.2.cell 7; go_simp; (try with_reducible rfl)
        (try simp only [Act.put, List.getElem_toArray, List.getElem_cons_zero, List.getElem_cons_succ, List.setIfInBounds_toArray, List.set_cons_zero, List.set_cons_succ])
        refine wpAnyF_take (i := 30) (v := ?_) (by kernel_rfl) (by kernel_rfl) rfl (by kernel_rfl) (by kernel_rfl) (by kernel_rfl) (fun _ _ _ h => h) (Or.inl ⟨by rfl, ?_⟩) (by assumption) ?_
        rotate_left
        · intro w' hSw; (try dsimp only at hSw); have h0 := hSw.1.cell 0; have h1 := hSw.1.cell 1; have h2 := hSw.1.cell 2; have h3 := hSw.1.cell 3; have h4 := hSw.1.cell 4; have h5 := hSw.1.cell 5; have h6 := hSw.1.cell 6; have h7 := hSw.1.cell 7; have f0 := hSw.2.cell 0; have f1 := hSw.2.cell 1; have f2 := hSw.2.cell 2; have f3 := hSw.2.cell 3; have f4 := hSw.2.cell 4; have f5 := hSw.2.cell 5; have f6 := hSw.2.cell 6; have f7 := hSw.2.cell 7; go_simp; (try with_reducible rfl)
        (try simp only [Act.put, List.getElem_toArray, List.getElem_cons_zero, List.getElem_cons_succ, List.setIfInBounds_toArray, List.set_cons_zero, List.set_cons_succ])
        refine wpAnyF_take (i := 31) (v := ?_) (by kernel_rfl) (by kernel_rfl) rfl (by kernel_rfl) (by kernel_rfl) (by kernel_rfl) (fun _ _ _ h => h) (Or.inl ⟨by rfl, ?_⟩) (by assumption) ?_
        rotate_left
        · intro w' hSw; (try dsimp only at hSw); have h0 := hSw.1.cell 0; have h1 := hSw.1.cell 1; have h2 := hSw.1.cell 2; have h3 := hSw.1.cell 3; have h4 := hSw.1.cell 4; have h5 := hSw.1.cell 5; have h6 := hSw.1.cell 6; have h7 := hSw.1.cell 7; have f0 := hSw.2.cell 0; have f1 := hSw.2.cell 1; have f2 := hSw.2.cell 2; have f3 := hSw.2.cell 3; have f4 := hSw.2.cell 4; have f5 := hSw.2.cell 5; have f6 := hSw.2.cell 6; have f7 := hSw.2.cell 7; go_simp; (try with_reducible rfl)
        (try simp only [Act.put, List.getElem_toArray, List.getElem_cons_zero, List.getElem_cons_succ, List.setIfInBounds_toArray, List.set_cons_zero, List.set_cons_succ])
        refine wpAnyF_take (i := 32) (v := ?_) (by kernel_rfl) (by kernel_rfl) rfl (by kernel_rfl) (by kernel_rfl) (by kernel_rfl) (fun _ _ _ h => h) (Or.inl ⟨by rfl, ?_⟩) (by assumption) ?_
        rotate_left
        · intro w' hSw; (try dsimp only at hSw); have h0 := hSw.1.cell 0; have h1 := hSw.1.cell 1; have h2 := hSw.1.cell 2; have h3 := hSw.1.cell 3; have h4 := hSw.1.cell 4; have h5 := hSw.1.cell 5; have h6 := hSw.1.cell 6; have h7 := hSw.1.cell 7; have f0 := hSw.2.cell 0; have f1 := hSw.2.cell 1; have f2 := hSw.2.cell 2; have f3 := hSw.2.cell 3; have f4 := hSw.2.cell 4; have f5 := hSw.2.cell 5; have f6 := hSw.2.cell 6; have f7 := hSw.2.cell 7; go_simp; (try with_reducible rfl)
        (try simp only [Act.put, List.getElem_toArray, List.getElem_cons_zero, List.getElem_cons_succ, List.setIfInBounds_toArray, List.set_cons_zero, List.set_cons_succ])
        refine wpAnyF_take (i := 34) (v := ?_) (by kernel_rfl) (by kernel_rfl) rfl (by kernel_rfl) (by kernel_rfl) (by kernel_rfl) (fun _ _ _ h => h) (Or.inl ⟨by rfl, ?_⟩) (by assumption) ?_
        rotate_left
        · intro w' hSw; (try dsimp only at hSw); have h0 := hSw.1.cell 0; have h1 := hSw.1.cell 1; have h2 := hSw.1.cell 2; have h3 := hSw.1.cell 3; have h4 := hSw.1.cell 4; have h5 := hSw.1.cell 5; have h6 := hSw.1.cell 6; have h7 := hSw.1.cell 7; have f0 := hSw.2.cell 0; have f1 := hSw.2.cell 1; have f2 := hSw.2.cell 2; have f3 := hSw.2.cell 3; have f4 := hSw.2.cell 4; have f5 := hSw.2.cell 5; have f6 := hSw.2.cell 6; have f7 := hSw.2.cell 7; go_simp; (try with_reducible rfl)
        (try simp only [Act.put, List.getElem_toArray, List.getElem_cons_zero, List.getElem_cons_succ, List.setIfInBounds_toArray, List.set_cons_zero, List.set_cons_succ])
        refine wpAnyF_ready (rs := [33]) (by kernel_rfl) (by simp) ?_
        refine AllReadyF.cons rfl (fun KK hKK => ?_) AllReadyF.nil
        go_simp
        ((with_reducible refine (HDH.out _).mono ?_); rintro e' w9 ⟨rfl, hb⟩; have B9 := hi hb; have hSS := And.intro (hHeld.1.below hb) (hHeld.2.below hb); clear hb)
        (try go_simp)
        refine hKK.out _ _ hSS (fun hHeld => ?_)
        clear hKK KK
        (try simp only [Act.put, List.getElem_toArray, List.getElem_cons_zero, List.getElem_cons_succ, List.setIfInBounds_toArray, List.set_cons_zero, List.set_cons_succ])
        refine wpAnyF_ready (rs := [35]) (by kernel_rfl) (by simp) ?_
        refine AllReadyF.cons rfl (fun KK hKK => ?_) AllReadyF.nil
        go_simp
        ((with_reducible refine (HDE.out _).mono ?_); rintro e' w10 ⟨rfl, hb⟩; have B10 := hi hb; have hSS := And.intro (hHeld.1.below hb) (hHeld.2.below hb); clear hb)
        (try go_simp)
        refine hKK.out _ _ hSS (fun hHeld => ?_)
        clear hKK KK
        (try simp only [Act.put, List.getElem_toArray, List.getElem_cons_zero, List.getElem_cons_succ, List.setIfInBounds_toArray, List.set_cons_zero, List.set_cons_succ])
        refine wpAnyF_take (i := 36) (v := ?_) (by kernel_rfl) (by kernel_rfl) rfl (by kernel_rfl) (by kernel_rfl) (by kernel_rfl) (fun _ _ _ h => h) (Or.inl ⟨by rfl, ?_⟩) (by assumption) ?_
        rotate_left
        · intro w' hSw; (try dsimp only at hSw); have h0 := hSw.1.cell 0; have h1 := hSw.1.cell 1; have h2 := hSw.1.cell 2; have h3 := hSw.1.cell 3; have h4 := hSw.1.cell 4; have h5 := hSw.1.cell 5; have h6 := hSw.1.cell 6; have h7 := hSw.1.cell 7; have f0 := hSw.2.cell 0; have f1 := hSw.2.cell 1; have f2 := hSw.2.cell 2; have f3 := hSw.2.cell 3; have f4 := hSw.2.cell 4; have f5 := hSw.2.cell 5; have f6 := hSw.2.cell 6; have f7 := hSw.2.cell 7; go_simp; (try with_reducible rfl)
        (try simp only [Act.put, List.getElem_toArray, List.getElem_cons_zero, List.getElem_cons_succ, List.setIfInBounds_toArray, List.set_cons_zero, List.set_cons_succ])
        refine wpAnyF_take (i := 37) (v := ?_) (by kernel_rfl) (by kernel_rfl) rfl (by kernel_rfl) (by kernel_rfl) (by kernel_rfl) (fun _ _ _ h => h) (Or.inl ⟨by rfl, ?_⟩) (by assumption) ?_
        rotate_left
        · intro w' hSw; (try dsimp only at hSw); have h0 := hSw.1.cell 0; have h1 := hSw.1.cell 1; have h2 := hSw.1.cell 2; have h3 := hSw.1.cell 3; have h4 := hSw.1.cell 4; have h5 := hSw.1.cell 5; have h6 := hSw.1.cell 6; have h7 := hSw.1.cell 7; have f0 := hSw.2.cell 0; have f1 := hSw.2.cell 1; have f2 := hSw.2.cell 2; have f3 := hSw.2.cell 3; have f4 := hSw.2.cell 4; have f5 := hSw.2.cell 5; have f6 := hSw.2.cell 6; have f7 := hSw.2.cell 7; go_simp; (try with_reducible rfl)
        (try simp only [Act.put, List.getElem_toArray, List.getElem_cons_zero, List.getElem_cons_succ, List.setIfInBounds_toArray, List.set_cons_zero, List.set_cons_succ])
        refine wpAnyF_take (i := 38) (v := ?_) (by kernel_rfl) (by kernel_rfl) rfl (by kernel_rfl) (by kernel_rfl) (by kernel_rfl) (fun _ _ _ h => h) (Or.inl ⟨by rfl, ?_⟩) (by assumption) ?_
        rotate_left
        · intro w' hSw; (try dsimp only at hSw); have h0 := hSw.1.cell 0; have h1 := hSw.1.cell 1; have h2 := hSw.1.cell 2; have h3 := hSw.1.cell 3; have h4 := hSw.1.cell 4; have h5 := hSw.1.cell 5; have h6 := hSw.1.cell 6; have h7 := hSw.1.cell 7; have f0 := hSw.2.cell 0; have f1 := hSw.2.cell 1; have f2 := hSw.2.cell 2; have f3 := hSw.2.cell 3; have f4 := hSw.2.cell 4; have f5 := hSw.2.cell 5; have f6 := hSw.2.cell 6; have f7 := hSw.2.cell 7; go_simp; (try with_reducible rfl)
        (try simp only [Act.put, List.getElem_toArray, List.getElem_cons_zero, List.getElem_cons_succ, List.setIfInBounds_toArray, List.set_cons_zero, List.set_cons_succ])
        refine wpAnyF_take (i := 39) (v := ?_) (by kernel_rfl) (by kernel_rfl) rfl (by kernel_rfl) (by kernel_rfl) (by kernel_rfl) (fun _ _ _ h => h) (Or.inl ⟨by rfl, ?_⟩) (by assumption) ?_
        rotate_left
        · intro w' hSw; (try dsimp only at hSw); have h0 := hSw.1.cell 0; have h1 := hSw.1.cell 1; have h2 := hSw.1.cell 2; have h3 := hSw.1.cell 3; have h4 := hSw.1.cell 4; have h5 := hSw.1.cell 5; have h6 := hSw.1.cell 6; have h7 := hSw.1.cell 7; have f0 := hSw.2.cell 0; have f1 := hSw.2.cell 1; have f2 := hSw.2.cell 2; have f3 := hSw.2.cell 3; have f4 := hSw.2.cell 4; have f5 := hSw.2.cell 5; have f6 := hSw.2.cell 6; have f7 := hSw.2.cell 7; go_simp; (try with_reducible rfl)
        (try simp only [Act.put, List.getElem_toArray, List.getElem_cons_zero, List.getElem_cons_succ, List.setIfInBounds_toArray, List.set_cons_zero, List.set_cons_succ])
        refine wpAnyF_take (i := 40) (v := undef) (by kernel_rfl) (by kernel_rfl) rfl (by kernel_rfl) (by kernel_rfl) (by kernel_rfl) (fun _ _ _ h => h) (Or.inr ⟨by rfl, rfl⟩) (by assumption) ?_
        (try simp only [Act.put, List.getElem_toArray, List.getElem_cons_zero, List.getElem_cons_succ, List.setIfInBounds_toArray, List.set_cons_zero, List.set_cons_succ])
        refine wpAnyF_take (i := 41) (v := undef) (by kernel_rfl) (by kernel_rfl) rfl (by kernel_rfl) (by kernel_rfl) (by kernel_rfl) (fun _ _ _ h => h) (Or.inr ⟨by rfl, rfl⟩) (by assumption) ?_
        (try simp only [Act.put, List.getElem_toArray, List.getElem_cons_zero, List.getElem_cons_succ, List.setIfInBounds_toArray, List.set_cons_zero, List.set_cons_succ])
        refine wpAnyF_take (i := 42) (v := undef) (by kernel_rfl) (by kernel_rfl) rfl (by kernel_rfl) (by kernel_rfl) (by kernel_rfl) (fun _ _ _ h => h) (Or.inr ⟨by rfl, rfl⟩) (by assumption) ?_
        (try simp only [Act.put, List.getElem_toArray, List.getElem_cons_zero, List.getElem_cons_succ, List.setIfInBounds_toArray, List.set_cons_zero, List.set_cons_succ])
        refine wpAnyF_take (i := 43) (v := undef) (by kernel_rfl) (by kernel_rfl) rfl (by kernel_rfl) (by kernel_rfl) (by kernel_rfl) (fun _ _ _ h => h) (Or.inr ⟨by rfl, rfl⟩) (by assumption) ?_
        (try simp only [Act.put, List.getElem_toArray, List.getElem_cons_zero, List.getElem_cons_succ, List.setIfInBounds_toArray, List.set_cons_zero, List.set_cons_succ])
        refine wpAnyF_take (i := 44) (v := undef) (by kernel_rfl) (by kernel_rfl) rfl (by kernel_rfl) (by kernel_rfl) (by kernel_rfl) (fun _ _ _ h => h) (Or.inr ⟨by rfl, rfl⟩) (by assumption) ?_
        (try simp only [Act.put, List.getElem_toArray, List.getElem_cons_zero, List.getElem_cons_succ, List.setIfInBounds_toArray, List.set_cons_zero, List.set_cons_succ])
        refine wpAnyF_take (i := 45) (v := undef) (by kernel_rfl) (by kernel_rfl) rfl (by kernel_rfl) (by kernel_rfl) (by kernel_rfl) (fun _ _ _ h => h) (Or.inr ⟨by rfl, rfl⟩) (by assumption) ?_
        (try simp only [Act.put, List.getElem_toArray, List.getElem_cons_zero, List.getElem_cons_succ, List.setIfInBounds_toArray, List.set_cons_zero, List.set_cons_succ])
        refine wpAnyF_take (i := 46) (v := undef) (by kernel_rfl) (by kernel_rfl) rfl (by kernel_rfl) (by kernel_rfl) (by kernel_rfl) (fun _ _ _ h => h) (Or.inr ⟨by rfl, rfl⟩) (by assumption) ?_
        (try simp only [Act.put, List.getElem_toArray, List.getElem_cons_zero, List.getElem_cons_succ, List.setIfInBounds_toArray, List.set_cons_zero, List.set_cons_succ])
        refine wpAnyF_take (i := 47) (v := ?_) (by kernel_rfl) (by kernel_rfl) rfl (by kernel_rfl) (by kernel_rfl) (by kernel_rfl) (fun _ _ _ h => h) (Or.inl ⟨by rfl, ?_⟩) (by assumption) ?_
        rotate_left
        · intro w' hSw; (try dsimp only at hSw); have h0 := hSw.1.cell 0; have h1 := hSw.1.cell 1; have h2 := hSw.1.cell 2; have h3 := hSw.1.cell 3; have h4 := hSw.1.cell 4; have h5 := hSw.1.cell 5; have h6 := hSw.1.cell 6; have h7 := hSw.1.cell 7; have f0 := hSw.2.cell 0; have f1 := hSw.2.cell 1; have f2 := hSw.2.cell 2; have f3 := hSw.2.cell 3; have f4 := hSw.2.cell 4; have f5 := hSw.2.cell 5; have f6 := hSw.2.cell 6; have f7 := hSw.2.cell 7; go_simp; (try with_reducible rfl)
        (try simp only [Act.put, List.getElem_toArray, List.getElem_cons_zero, List.getElem_cons_succ, List.setIfInBounds_toArray, List.set_cons_zero, List.set_cons_succ])
        refine wpAnyF_take (i := 48) (v := ?_) (by kernel_rfl) (by kernel_rfl) rfl (by kernel_rfl) (by kernel_rfl) (by kernel_rfl) (fun _ _ _ h => h) (Or.inl ⟨by rfl, ?_⟩) (by assumption) ?_
        rotate_left
        · intro w' hSw; (try dsimp only at hSw); have h0 := hSw.1.cell 0; have h1 := hSw.1.cell 1; have h2 := hSw.1.cell 2; have h3 := hSw.1.cell 3; have h4 := hSw.1.cell 4; have h5 := hSw.1.cell 5; have h6 := hSw.1.cell 6; have h7 := hSw.1.cell 7; have f0 := hSw.2.cell 0; have f1 := hSw.2.cell 1; have f2 := hSw.2.cell 2; have f3 := hSw.2.cell 3; have f4 := hSw.2.cell 4; have f5 := hSw.2.cell 5; have f6 := hSw.2.cell 6; have f7 := hSw.2.cell 7; go_simp; (try with_reducible rfl)
        (try simp only [Act.put, List.getElem_toArray, List.getElem_cons_zero, List.getElem_cons_succ, List.setIfInBounds_toArray, List.set_cons_zero, List.set_cons_succ])
        refine wpAnyF_take (i := 49) (v := ?_) (by kernel_rfl) (by kernel_rfl) rfl (by kernel_rfl) (by kernel_rfl) (by kernel_rfl) (fun _ _ _ h => h) (Or.inl ⟨by rfl, ?_⟩) (by assumption) ?_
        rotate_left
        · intro w' hSw; (try dsimp only at hSw); have h0 := hSw.1.cell 0; have h1 := hSw.1.cell 1; have h2 := hSw.1.cell 2; have h3 := hSw.1.cell 3; have h4 := hSw.1.cell 4; have h5 := hSw.1.cell 5; have h6 := hSw.1.cell 6; have h7 := hSw.1.cell 7; have f0 := hSw.2.cell 0; have f1 := hSw.2.cell 1; have f2 := hSw.2.cell 2; have f3 := hSw.2.cell 3; have f4 := hSw.2.cell 4; have f5 := hSw.2.cell 5; have f6 := hSw.2.cell 6; have f7 := hSw.2.cell 7; go_simp; (try with_reducible rfl)
        (try simp only [Act.put, List.getElem_toArray, List.getElem_cons_zero, List.getElem_cons_succ, List.setIfInBounds_toArray, List.set_cons_zero, List.set_cons_succ])
        refine wpAnyF_done (by kernel_rfl) ?_ _
        refine NoPanic.normal ?_
        go_wp2
        go_ret
        exact ⟨rfl, (B8d.out.trans (B9.out.mono B8d.out.size)).trans (B10.out.mono (B8d.out.trans (B9.out.mono B8d.out.size)).size)⟩
      · have hdv : dropV ⟨m, p0, p1, o0, o1, sp, r⟩ g = (⟨m, p0, p1, o0, o1, sp, r⟩, false) := by unfold dropV; simp [hR, hig]
        rw [hdv] at HDR
        dsimp only at HDR
        obtain ⟨k9, hk9⟩ : ∃ k9, (i : Int) % 2 = k9 := ⟨_, rfl⟩
        rw [hk9] at HRU hig
        have hkg : (k9 == g) = false := by simpa using hig
        clear hR hD hdv hG hDR hj hk9 hlen HDE hri hi64
        go_enter Try.func7, Try.ntmps7
        go_wp2_with (first
          | (go_at_call 9; ((with_reducible refine (awake_if _).mono ?_); rintro e w1 ⟨rfl, hb⟩; have F1 := hi (HF0.out.below hb); have C1 := hi (HC0.out.below hb); have B1 := hi (HB0.out.trans (hb.mono HB0.out.size)); have f0 := F1.out.cell 0; have f1 := F1.out.cell 1; have f2 := F1.out.cell 2; have f3 := F1.out.cell 3; have f4 := F1.out.cell 4; have f5 := F1.out.cell 5; have f6 := F1.out.cell 6; have f7 := F1.out.cell 7; have c2 := C1.out.cell 2; have cf := C1.out.frozen; have hcg := C1.out.below (bal w1 (.cells #[.int .i64 m, .int .i64 p0, .int .i64 p1, .bool o0, .bool false, .bool sp, .int .u32 (wd r 0), .int .u32 (wd r 1)] 29)); have e2 := hcg.cell 2; have ef := hcg.frozen; have hl := C1.out.lt; have W1 := hi (show ∃ W, (w1.alloc (.cells #[.int .i64 m, .int .i64 p0, .int .i64 p1, .bool o0, .bool false, .bool sp, .int .u32 (wd r 0), .int .u32 (wd r 1)] 29)).setCell ⟨w.heap.size + 1, 2, none⟩ (.int .i64 g) = W ∧ CB W w.heap.size 29 #[.int .i64 m, .int .i64 p0, .int .i64 p1, .bool o0, .bool o1, .bool sp, .int .u32 (wd r 0), .int .u32 (wd r 1)] ∧ CB W (w.heap.size + 1) 39 #[.int .i64 ci, .int .i64 cp, .int .i64 g, .bool cis] ∧ CB W w1.heap.size 29 #[.int .i64 m, .int .i64 p0, .int .i64 p1, .bool o0, .bool false, .bool sp, .int .u32 (wd r 0), .int .u32 (wd r 1)] ∧ Below w.heap.size w W ∧ W.heap.size = w1.heap.size + 1 from ⟨_, rfl, (F1.out.below (bal w1 _)).other _ _ _ (by omega), by simpa using hcg.set 2 (.int .i64 g), (CB.new w1 29 #[.int .i64 m, .int .i64 p0, .int .i64 p1, .bool o0, .bool false, .bool sp, .int .u32 (wd r 0), .int .u32 (wd r 1)]).other _ _ _ (by omega), below_set (B1.out.trans ((bal w1 _).mono B1.out.size)) (show w.heap.size ≤ w.heap.size + 1 by omega) _, by simp⟩); have gg := ((CB.new w1 29 #[.int .i64 m, .int .i64 p0, .int .i64 p1, .bool o0, .bool false, .bool sp, .int .u32 (wd r 0), .int .u32 (wd r 1)]).other (w.heap.size + 1) 2 (.int .i64 g) (by omega)); have k0 := gg.cell 0; have k1 := gg.cell 1; have k2 := gg.cell 2; have k3 := gg.cell 3; have k4 := gg.cell 4; have k5 := gg.cell 5; have k6 := gg.cell 6; have k7 := gg.cell 7; have yc : CB ((w1.alloc (.cells #[.int .i64 m, .int .i64 p0, .int .i64 p1, .bool o0, .bool false, .bool sp, .int .u32 (wd r 0), .int .u32 (wd r 1)] 29)).setCell ⟨w.heap.size + 1, 2, none⟩ (.int .i64 g)) (w.heap.size + 1) 39 #[.int .i64 ci, .int .i64 cp, .int .i64 g, .bool cis] := (by simpa using hcg.set 2 (.int .i64 g)); have y0 := yc.cell 0; have y1 := yc.cell 1; have y2 := yc.cell 2; have y3 := yc.cell 3; have yf := yc.frozen; have yd := yc.below (bal _ (.cells #[.int .i64 m, .int .i64 p0, .int .i64 p1, .bool o0, .bool false, .bool sp, .int .u32 (wd r 0), .int .u32 (wd r 1)] 29)); have z0 := yd.cell 0; have z1 := yd.cell 1; have z2 := yd.cell 2; have z3 := yd.cell 3; have zf := yd.frozen; have LT := hi hl; clear hb hcg hl gg yc yd)))
        obtain ⟨W, hW, hF, hC, hG1, hB, hZ⟩ := W1.out
        rw [hW]
        have hw := bal W (.cells #[.int .i64 m, .int .i64 p0, .int .i64 p1, .bool o0, .bool false, .bool sp, .int .u32 (wd r 0), .int .u32 (wd r 1)] 29)
        have F2 := hi (hF.below hw)
        have C2 := hi (hC.below hw)
        have G2 := hi (hG1.below hw)
        have V2 := hi (show CB (W.alloc (.cells #[.int .i64 m, .int .i64 p0, .int .i64 p1, .bool o0, .bool false, .bool sp, .int .u32 (wd r 0), .int .u32 (wd r 1)] 29)) (w1.heap.size + 1) 29 #[.int .i64 m, .int .i64 p0, .int .i64 p1, .bool o0, .bool false, .bool sp, .int .u32 (wd r 0), .int .u32 (wd r 1)] from hZ ▸ CB.new W 29 #[.int .i64 m, .int .i64 p0, .int .i64 p1, .bool o0, .bool false, .bool sp, .int .u32 (wd r 0), .int .u32 (wd r 1)])
        have B2 := hi (hB.trans (hw.mono hB.size))
        have Z := hi hZ
        have d0 := C2.out.cell 0
        have d1 := C2.out.cell 1
        have d2 := C2.out.cell 2
        have d3 := C2.out.cell 3
        clear y0 y1 y2 y3 yf z0 z1 z2 z3 zf
        clear hW hF hC hG1 hB hZ hw W1 k0 k1 k2 k3 k4 k5 k6 k7 e2 ef f0 f1 f2 f3 f4 f5 f6 f7 c2 cf
        go_wp2_with (first
          | (go_at_call 26; ((with_reducible refine (HT.out _ _ G2.out).mono ?_); rintro e w3 ⟨rfl, hA⟩; have G3 := hi hA.bx; have F3 := hi (F2.out.keptB hA.kept (by have := LT.out; omega)); have C3 := hi (C2.out.keptB hA.kept (by have := LT.out; omega)); have V3 := hi (V2.out.keptB hA.kept (by omega)); have B3 := hi (B2.out.trans (hA.kept.toBelow B2.out.size (fun i z => by subst z; have := LT.out; omega))); have k0 := G3.out.cell 0; have k1 := G3.out.cell 1; have k2 := G3.out.cell 2; have k3 := G3.out.cell 3; have k4 := G3.out.cell 4; have k5 := G3.out.cell 5; have k6 := G3.out.cell 6; have k7 := G3.out.cell 7; have n0 := V3.out.cell 0; have n1 := V3.out.cell 1; have n2 := V3.out.cell 2; have n3 := V3.out.cell 3; have n4 := V3.out.cell 4; have n5 := V3.out.cell 5; have n6 := V3.out.cell 6; have n7 := V3.out.cell 7; have d0 := C3.out.cell 0; have d1 := C3.out.cell 1; have d2 := C3.out.cell 2; have d3 := C3.out.cell 3; clear hA))
          | (go_at_call 17; ((with_reducible refine (HS.out _).mono ?_); rintro e w4 ⟨rfl, hb⟩; have G4 := hi (G3.out.below hb); have F4 := hi (F3.out.below hb); have C4 := hi (C3.out.below hb); have B4 := hi (B3.out.trans (hb.mono B3.out.size)); have k0 := G4.out.cell 0; have k1 := G4.out.cell 1; have k2 := G4.out.cell 2; have k3 := G4.out.cell 3; have k4 := G4.out.cell 4; have k5 := G4.out.cell 5; have k6 := G4.out.cell 6; have k7 := G4.out.cell 7; have d0 := C4.out.cell 0; have d1 := C4.out.cell 1; have d2 := C4.out.cell 2; have d3 := C4.out.cell 3; clear hb))
          | (go_at_call 15; ((with_reducible refine (HM.out _).mono ?_); rintro e w5 ⟨rfl, hb⟩; have hc := bal w5 (.cells #[.int .i64 m, .int .i64 p0, .int .i64 p1, .bool o0, .bool o1, .bool sp, .int .u32 (wd r 0), .int .u32 (wd r 1)] 29); have F5 := hi (F4.out.below hb); have F6 := hi (F5.out.below hc); have H6 := hi (CB.new w5 29 #[.int .i64 m, .int .i64 p0, .int .i64 p1, .bool o0, .bool o1, .bool sp, .int .u32 (wd r 0), .int .u32 (wd r 1)]); have B6 := hi ((B4.out.trans (hb.mono B4.out.size)).trans (hc.mono (B4.out.trans (hb.mono B4.out.size)).size)); have L6 := hi (show w.heap.size < w5.heap.size from F5.out.lt); have f0 := F5.out.cell 0; have f1 := F5.out.cell 1; have f2 := F5.out.cell 2; have f3 := F5.out.cell 3; have f4 := F5.out.cell 4; have f5 := F5.out.cell 5; have f6 := F5.out.cell 6; have f7 := F5.out.cell 7; clear hb hc))
          | (go_at_call 29; ((with_reducible refine (HDR.out _ _ H6.out).mono ?_); rintro e w7 ⟨rfl, hA⟩; have H7 := hi (show CB w7 w5.heap.size 29 #[.int .i64 m, .int .i64 p0, .int .i64 p1, .bool o0, .bool o1, .bool sp, .int .u32 (wd r 0), .int .u32 (wd r 1)] from hA.bx); have F7 := hi (F6.out.keptB hA.kept (by have := L6.out; omega)); have B7 := hi (B6.out.trans (hA.kept.toBelow B6.out.size (fun i z => by subst z; have := L6.out; omega))); have f0 := F7.out.cell 0; have f1 := F7.out.cell 1; have f2 := F7.out.cell 2; have f3 := F7.out.cell 3; have f4 := F7.out.cell 4; have f5 := F7.out.cell 5; have f6 := F7.out.cell 6; have f7 := F7.out.cell 7; clear hA))
          | (go_at_call 28; ((with_reducible refine (HRU.out _).mono ?_); rintro e w8 ⟨rfl, hb⟩; have H8 := hi (H7.out.below hb); have F8 := hi (F7.out.below hb); have B8 := hi (B7.out.trans (hb.mono B7.out.size)); clear hb)))
        have B8d := hi (Below.drewN (m := 1) B8.out)
        refine wp_region_noPanic ?_
        refine wp_region_last_drew (S := (fun W' => CB W' w5.heap.size 29 #[.int .i64 m, .int .i64 p0, .int .i64 p1, .bool o0, .bool o1, .bool sp, .int .u32 (wd r 0), .int .u32 (wd r 1)] ∧ CB W' w.heap.size 29 #[.int .i64 m, .int .i64 p0, .int .i64 p1, .bool o0, .bool o1, .bool sp, .int .u32 (wd r 0), .int .u32 (wd r 1)])) [] (by kernel_rfl) ⟨H8.out.drew, F8.out.drew⟩ (fun hHeld => ?_)
        (try simp only [Array.replicate_succ, Array.replicate_zero, List.push_toArray, List.nil_append, List.cons_append])
        refine wpAnyF_take (i := 0) (v := ?_) (by kernel_rfl) (by kernel_rfl) rfl (by kernel_rfl) (by kernel_rfl) (by kernel_rfl) (fun _ _ _ h => h) (Or.inl ⟨by rfl, ?_⟩) (by assumption) ?_
        rotate_left
        · intro w' hSw; (try dsimp only at hSw); have h0 := hSw.1.cell 0; have h1 := hSw.1.cell 1; have h2 := hSw.1.cell 2; have h3 := hSw.1.cell 3; have h4 := hSw.1.cell 4; have h5 := hSw.1.cell 5; have h6 := hSw.1.cell 6; have h7 := hSw.1.cell 7; have f0 := hSw.2.cell 0; have f1 := hSw.2.cell 1; have f2 := hSw.2.cell 2; have f3 := hSw.2.cell 3; have f4 := hSw.2.cell 4; have f5 := hSw.2.cell 5; have f6 := hSw.2.cell 6; have f7 := hSw.2.cell 7; go_simp; (try with_reducible rfl)
        (try simp only [Act.put, List.getElem_toArray, List.getElem_cons_zero, List.setIfInBounds_toArray, List.set_cons_zero, List.set_cons_succ])
        refine wpAnyF_take (i := 1) (v := ?_) (by kernel_rfl) (by kernel_rfl) rfl (by kernel_rfl) (by kernel_rfl) (by kernel_rfl) (fun _ _ _ h => h) (Or.inl ⟨by rfl, ?_⟩) (by assumption) ?_
        rotate_left
        · intro w' hSw; (try dsimp only at hSw); have h0 := hSw.1.cell 0; have h1 := hSw.1.cell 1; have h2 := hSw.1.cell 2; have h3 := hSw.1.cell 3; have h4 := hSw.1.cell 4; have h5 := hSw.1.cell 5; have h6 := hSw.1.cell 6; have h7 := hSw.1.cell 7; have f0 := hSw.2.cell 0; have f1 := hSw.2.cell 1; have f2 := hSw.2.cell 2; have f3 := hSw.2.cell 3; have f4 := hSw.2.cell 4; have f5 := hSw.2.cell 5; have f6 := hSw.2.cell 6; have f7 := hSw.2.cell 7; go_simp; (try with_reducible rfl)
        (try simp only [Act.put, List.getElem_toArray, List.getElem_cons_zero, List.getElem_cons_succ, List.setIfInBounds_toArray, List.set_cons_zero, List.set_cons_succ])
        refine wpAnyF_take (i := 2) (v := ?_) (by kernel_rfl) (by kernel_rfl) rfl (by kernel_rfl) (by kernel_rfl) (by kernel_rfl) (fun _ _ _ h => h) (Or.inl ⟨by rfl, ?_⟩) (by assumption) ?_
        rotate_left
        · intro w' hSw; (try dsimp only at hSw); have h0 := hSw.1.cell 0; have h1 := hSw.1.cell 1; have h2 := hSw.1.cell 2; have h3 := hSw.1.cell 3; have h4 := hSw.1.cell 4; have h5 := hSw.1.cell 5; have h6 := hSw.1.cell 6; have h7 := hSw.1.cell 7; have f0 := hSw.2.cell 0; have f1 := hSw.2.cell 1; have f2 := hSw.2.cell 2; have f3 := hSw.2.cell 3; have f4 := hSw.2.cell 4; have f5 := hSw.2.cell 5; have f6 := hSw.2.cell 6; have f7 := hSw.2.cell 7; go_simp; (try with_reducible rfl)
        (try simp only [Act.put, List.getElem_toArray, List.getElem_cons_zero, List.getElem_cons_succ, List.setIfInBounds_toArray, List.set_cons_zero, List.set_cons_succ])
        refine wpAnyF_take (i := 3) (v := ?_) (by kernel_rfl) (by kernel_rfl) rfl (by kernel_rfl) (by kernel_rfl) (by kernel_rfl) (fun _ _ _ h => h) (Or.inl ⟨by rfl, ?_⟩) (by assumption) ?_
        rotate_left
        · intro w' hSw; (try dsimp only at hSw); have h0 := hSw.1.cell 0; have h1 := hSw.1.cell 1; have h2 := hSw.1.cell 2; have h3 := hSw.1.cell 3; have h4 := hSw.1.cell 4; have h5 := hSw.1.cell 5; have h6 := hSw.1.cell 6; have h7 := hSw.1.cell 7; have f0 := hSw.2.cell 0; have f1 := hSw.2.cell 1; have f2 := hSw.2.cell 2; have f3 := hSw.2.cell 3; have f4 := hSw.2.cell 4; have f5 := hSw.2.cell 5; have f6 := hSw.2.cell 6; have f7 := hSw.2.cell 7; go_simp; (try with_reducible rfl)
        (try simp only [Act.put, List.getElem_toArray, List.getElem_cons_zero, List.getElem_cons_succ, List.setIfInBounds_toArray, List.set_cons_zero, List.set_cons_succ])
        refine wpAnyF_take (i := 4) (v := ?_) (by kernel_rfl) (by kernel_rfl) rfl (by kernel_rfl) (by kernel_rfl) (by kernel_rfl) (fun _ _ _ h => h) (Or.inl ⟨by rfl, ?_⟩) (by assumption) ?_
        rotate_left
        · intro w' hSw; (try dsimp only at hSw); have h0 := hSw.1.cell 0; have h1 := hSw.1.cell 1; have h2 := hSw.1.cell 2; have h3 := hSw.1.cell 3; have h4 := hSw.1.cell 4; have h5 := hSw.1.cell 5; have h6 := hSw.1.cell 6; have h7 := hSw.1.cell 7; have f0 := hSw.2.cell 0; have f1 := hSw.2.cell 1; have f2 := hSw.2.cell 2; have f3 := hSw.2.cell 3; have f4 := hSw.2.cell 4; have f5 := hSw.2.cell 5; have f6 := hSw.2.cell 6; have f7 := hSw.2.cell 7; go_simp; (try with_reducible rfl)
        (try simp only [Act.put, List.getElem_toArray, List.getElem_cons_zero, List.getElem_cons_succ, List.setIfInBounds_toArray, List.set_cons_zero, List.set_cons_succ])
        refine wpAnyF_take (i := 5) (v := ?_) (by kernel_rfl) (by kernel_rfl) rfl (by kernel_rfl) (by kernel_rfl) (by kernel_rfl) (fun _ _ _ h => h) (Or.inl ⟨by rfl, ?_⟩) (by assumption) ?_
        rotate_left
        · intro w' hSw; (try dsimp only at hSw); have h0 := hSw.1.cell 0; have h1 := hSw.1.cell 1; have h2 := hSw.1.cell 2; have h3 := hSw.1.cell 3; have h4 := hSw.1.cell 4; have h5 := hSw.1.cell 5; have h6 := hSw.1.cell 6; have h7 := hSw.1.cell 7; have f0 := hSw.2.cell 0; have f1 := hSw.2.cell 1; have f2 := hSw.2.cell 2; have f3 := hSw.2.cell 3; have f4 := hSw.2.cell 4; have f5 := hSw.2.cell 5; have f6 := hSw.2.cell 6; have f7 := hSw.2.cell 7; go_simp; (try with_reducible rfl)
        (try simp only [Act.put, List.getElem_toArray, List.getElem_cons_zero, List.getElem_cons_succ, List.setIfInBounds_toArray, List.set_cons_zero, List.set_cons_succ])
        refine wpAnyF_take (i := 6) (v := ?_) (by kernel_rfl) (by kernel_rfl) rfl (by kernel_rfl) (by kernel_rfl) (by kernel_rfl) (fun _ _ _ h => h) (Or.inl ⟨by rfl, ?_⟩) (by assumption) ?_
        rotate_left
        · intro w' hSw; (try dsimp only at hSw); have h0 := hSw.1.cell 0; have h1 := hSw.1.cell 1; have h2 := hSw.1.cell 2; have h3 := hSw.1.cell 3; have h4 := hSw.1.cell 4; have h5 := hSw.1.cell 5; have h6 := hSw.1.cell 6; have h7 := hSw.1.cell 7; have f0 := hSw.2.cell 0; have f1 := hSw.2.cell 1; have f2 := hSw.2.cell 2; have f3 := hSw.2.cell 3; have f4 := hSw.2.cell 4; have f5 := hSw.2.cell 5; have f6 := hSw.2.cell 6; have f7 := hSw.2.cell 7; go_simp; (try with_reducible rfl)
        (try simp only [Act.put, List.getElem_toArray, List.getElem_cons_zero, List.getElem_cons_succ, List.setIfInBounds_toArray, List.set_cons_zero, List.set_cons_succ])
        refine wpAnyF_take (i := 7) (v := ?_) (by kernel_rfl) (by kernel_rfl) rfl (by kernel_rfl) (by kernel_rfl) (by kernel_rfl) (fun _ _ _ h => h) (Or.inl ⟨by rfl, ?_⟩) (by assumption) ?_
        rotate_left
        · intro w' hSw; (try dsimp only at hSw); have h0 := hSw.1.cell 0; have h1 := hSw.1.cell 1; have h2 := hSw.1.cell 2; have h3 := hSw.1.cell 3; have h4 := hSw.1.cell 4; have h5 := hSw.1.cell 5; have h6 := hSw.1.cell 6; have h7 := hSw.1.cell 7; have f0 := hSw.2.cell 0; have f1 := hSw.2.cell 1; have f2 := hSw.2.cell 2; have f3 := hSw.2.cell 3; have f4 := hSw.2.cell 4; have f5 := hSw.2.cell 5; have f6 := hSw.2.cell 6; have f7 := hSw.2.cell 7; go_simp; (try with_reducible rfl)
        (try simp only [Act.put, List.getElem_toArray, List.getElem_cons_zero, List.getElem_cons_succ, List.setIfInBounds_toArray, List.set_cons_zero, List.set_cons_succ])
        refine wpAnyF_take (i := 8) (v := ?_) (by kernel_rfl) (by kernel_rfl) rfl (by kernel_rfl) (by kernel_rfl) (by kernel_rfl) (fun _ _ _ h => h) (Or.inl ⟨by rfl, ?_⟩) (by assumption) ?_
        rotate_left
        · intro w' hSw; (try dsimp only at hSw); have h0 := hSw.1.cell 0; have h1 := hSw.1.cell 1; have h2 := hSw.1.cell 2; have h3 := hSw.1.cell 3; have h4 := hSw.1.cell 4; have h5 := hSw.1.cell 5; have h6 := hSw.1.cell 6; have h7 := hSw.1.cell 7; have f0 := hSw.2.cell 0; have f1 := hSw.2.cell 1; have f2 := hSw.2.cell 2; have f3 := hSw.2.cell 3; have f4 := hSw.2.cell 4; have f5 := hSw.2.cell 5; have f6 := hSw.2.cell 6; have f7 := hSw.2.cell 7; go_simp; (try with_reducible rfl)
        (try simp only [Act.put, List.getElem_toArray, List.getElem_cons_zero, List.getElem_cons_succ, List.setIfInBounds_toArray, List.set_cons_zero, List.set_cons_succ])
        refine wpAnyF_take (i := 9) (v := ?_) (by kernel_rfl) (by kernel_rfl) rfl (by kernel_rfl) (by kernel_rfl) (by kernel_rfl) (fun _ _ _ h => h) (Or.inl ⟨by rfl, ?_⟩) (by assumption) ?_
        rotate_left
        · intro w' hSw; (try dsimp only at hSw); have h0 := hSw.1.cell 0; have h1 := hSw.1.cell 1; have h2 := hSw.1.cell 2; have h3 := hSw.1.cell 3; have h4 := hSw.1.cell 4; have h5 := hSw.1.cell 5; have h6 := hSw.1.cell 6; have h7 := hSw.1.cell 7; have f0 := hSw.2.cell 0; have f1 := hSw.2.cell 1; have f2 := hSw.2.cell 2; have f3 := hSw.2.cell 3; have f4 := hSw.2.cell 4; have f5 := hSw.2.cell 5; have f6 := hSw.2.cell 6; have f7 := hSw.2.cell 7; go_simp; (try with_reducible rfl)
        (try simp only [Act.put, List.getElem_toArray, List.getElem_cons_zero, List.getElem_cons_succ, List.setIfInBounds_toArray, List.set_cons_zero, List.set_cons_succ])
        refine wpAnyF_take (i := 10) (v := ?_) (by kernel_rfl) (by kernel_rfl) rfl (by kernel_rfl) (by kernel_rfl) (by kernel_rfl) (fun _ _ _ h => h) (Or.inl ⟨by rfl, ?_⟩) (by assumption) ?_
        rotate_left
        · intro w' hSw; (try dsimp only at hSw); have h0 := hSw.1.cell 0; have h1 := hSw.1.cell 1; have h2 := hSw.1.cell 2; have h3 := hSw.1.cell 3; have h4 := hSw.1.cell 4; have h5 := hSw.1.cell 5; have h6 := hSw.1.cell 6; have h7 := hSw.1.cell 7; have f0 := hSw.2.cell 0; have f1 := hSw.2.cell 1; have f2 := hSw.2.cell 2; have f3 := hSw.2.cell 3; have f4 := hSw.2.cell 4; have f5 := hSw.2.cell 5; have f6 := hSw.2.cell 6; have f7 := hSw.2.cell 7; go_simp; (try with_reducible rfl)
        (try simp only [Act.put, List.getElem_toArray, List.getElem_cons_zero, List.getElem_cons_succ, List.setIfInBounds_toArray, List.set_cons_zero, List.set_cons_succ])
        refine wpAnyF_take (i := 11) (v := ?_) (by kernel_rfl) (by kernel_rfl) rfl (by kernel_rfl) (by kernel_rfl) (by kernel_rfl) (fun _ _ _ h => h) (Or.inl ⟨by rfl, ?_⟩) (by assumption) ?_
        rotate_left
        · intro w' hSw; (try dsimp only at hSw); have h0 := hSw.1.cell 0; have h1 := hSw.1.cell 1; have h2 := hSw.1.cell 2; have h3 := hSw.1.cell 3; have h4 := hSw.1.cell 4; have h5 := hSw.1.cell 5; have h6 := hSw.1.cell 6; have h7 := hSw.1.cell 7; have f0 := hSw.2.cell 0; have f1 := hSw.2.cell 1; have f2 := hSw.2.cell 2; have f3 := hSw.2.cell 3; have f4 := hSw.2.cell 4; have f5 := hSw.2.cell 5; have f6 := hSw.2.cell 6; have f7 := hSw.2.cell 7; go_simp; (try with_reducible rfl)
        (try simp only [Act.put, List.getElem_toArray, List.getElem_cons_zero, List.getElem_cons_succ, List.setIfInBounds_toArray, List.set_cons_zero, List.set_cons_succ])
        refine wpAnyF_take (i := 12) (v := ?_) (by kernel_rfl) (by kernel_rfl) rfl (by kernel_rfl) (by kernel_rfl) (by kernel_rfl) (fun _ _ _ h => h) (Or.inl ⟨by rfl, ?_⟩) (by assumption) ?_
        rotate_left
        · intro w' hSw; (try dsimp only at hSw); have h0 := hSw.1.cell 0; have h1 := hSw.1.cell 1; have h2 := hSw.1.cell 2; have h3 := hSw.1.cell 3; have h4 := hSw.1.cell 4; have h5 := hSw.1.cell 5; have h6 := hSw.1.cell 6; have h7 := hSw.1.cell 7; have f0 := hSw.2.cell 0; have f1 := hSw.2.cell 1; have f2 := hSw.2.cell 2; have f3 := hSw.2.cell 3; have f4 := hSw.2.cell 4; have f5 := hSw.2.cell 5; have f6 := hSw.2.cell 6; have f7 := hSw.2.cell 7; go_simp; (try with_reducible rfl)
        (try simp only [Act.put, List.getElem_toArray, List.getElem_cons_zero, List.getElem_cons_succ, List.setIfInBounds_toArray, List.set_cons_zero, List.set_cons_succ])
        refine wpAnyF_take (i := 13) (v := ?_) (by kernel_rfl) (by kernel_rfl) rfl (by kernel_rfl) (by kernel_rfl) (by kernel_rfl) (fun _ _ _ h => h) (Or.inl ⟨by rfl, ?_⟩) (by assumption) ?_
        rotate_left
        · intro w' hSw; (try dsimp only at hSw); have h0 := hSw.1.cell 0; have h1 := hSw.1.cell 1; have h2 := hSw.1.cell 2; have h3 := hSw.1.cell 3; have h4 := hSw.1.cell 4; have h5 := hSw.1.cell 5; have h6 := hSw.1.cell 6; have h7 := hSw.1.cell 7; have f0 := hSw.2.cell 0; have f1 := hSw.2.cell 1; have f2 := hSw.2.cell 2; have f3 := hSw.2.cell 3; have f4 := hSw.2.cell 4; have f5 := hSw.2.cell 5; have f6 := hSw.2.cell 6; have f7 := hSw.2.cell 7; go_simp; (try with_reducible rfl)
        (try simp only [Act.put, List.getElem_toArray, List.getElem_cons_zero, List.getElem_cons_succ, List.setIfInBounds_toArray, List.set_cons_zero, List.set_cons_succ])
        refine wpAnyF_take (i := 14) (v := ?_) (by kernel_rfl) (by kernel_rfl) rfl (by kernel_rfl) (by kernel_rfl) (by kernel_rfl) (fun _ _ _ h => h) (Or.inl ⟨by rfl, ?_⟩) (by assumption) ?_
        rotate_left
        · intro w' hSw; (try dsimp only at hSw); have h0 := hSw.1.cell 0; have h1 := hSw.1.cell 1; have h2 := hSw.1.cell 2; have h3 := hSw.1.cell 3; have h4 := hSw.1.cell 4; have h5 := hSw.1.cell 5; have h6 := hSw.1.cell 6; have h7 := hSw.1.cell 7; have f0 := hSw.2.cell 0; have f1 := hSw.2.cell 1; have f2 := hSw.2.cell 2; have f3 := hSw.2.cell 3; have f4 := hSw.2.cell 4; have f5 := hSw.2.cell 5; have f6 := hSw.2.cell 6; have f7 := hSw.2.cell 7; go_simp; (try with_reducible rfl)
        (try simp only [Act.put, List.getElem_toArray, List.getElem_cons_zero, List.getElem_cons_succ, List.setIfInBounds_toArray, List.set_cons_zero, List.set_cons_succ])
        refine wpAnyF_take (i := 15) (v := ?_) (by kernel_rfl) (by kernel_rfl) rfl (by kernel_rfl) (by kernel_rfl) (by kernel_rfl) (fun _ _ _ h => h) (Or.inl ⟨by rfl, ?_⟩) (by assumption) ?_
        rotate_left
        · intro w' hSw; (try dsimp only at hSw); have h0 := hSw.1.cell 0; have h1 := hSw.1.cell 1; have h2 := hSw.1.cell 2; have h3 := hSw.1.cell 3; have h4 := hSw.1.cell 4; have h5 := hSw.1.cell 5; have h6 := hSw.1.cell 6; have h7 := hSw.1.cell 7; have f0 := hSw.2.cell 0; have f1 := hSw.2.cell 1; have f2 := hSw.2.cell 2; have f3 := hSw.2.cell 3; have f4 := hSw.2.cell 4; have f5 := hSw.2.cell 5; have f6 := hSw.2.cell 6; have f7 := hSw.2.cell 7; go_simp; (try with_reducible rfl)
        (try simp only [Act.put, List.getElem_toArray, List.getElem_cons_zero, List.getElem_cons_succ, List.setIfInBounds_toArray, List.set_cons_zero, List.set_cons_succ])
        refine wpAnyF_take (i := 16) (v := ?_) (by kernel_rfl) (by kernel_rfl) rfl (by kernel_rfl) (by kernel_rfl) (by kernel_rfl) (fun _ _ _ h => h) (Or.inl ⟨by rfl, ?_⟩) (by assumption) ?_
        rotate_left
        · intro w' hSw; (try dsimp only at hSw); have h0 := hSw.1.cell 0; have h1 := hSw.1.cell 1; have h2 := hSw.1.cell 2; have h3 := hSw.1.cell 3; have h4 := hSw.1.cell 4; have h5 := hSw.1.cell 5; have h6 := hSw.1.cell 6; have h7 := hSw.1.cell 7; have f0 := hSw.2.cell 0; have f1 := hSw.2.cell 1; have f2 := hSw.2.cell 2; have f3 := hSw.2.cell 3; have f4 := hSw.2.cell 4; have f5 := hSw.2.cell 5; have f6 := hSw.2.cell 6; have f7 := hSw.2.cell 7; go_simp; (try with_reducible rfl)
        (try simp only [Act.put, List.getElem_toArray, List.getElem_cons_zero, List.getElem_cons_succ, List.setIfInBounds_toArray, List.set_cons_zero, List.set_cons_succ])
        refine wpAnyF_take (i := 17) (v := ?_) (by kernel_rfl) (by kernel_rfl) rfl (by kernel_rfl) (by kernel_rfl) (by kernel_rfl) (fun _ _ _ h => h) (Or.inl ⟨by rfl, ?_⟩) (by assumption) ?_
        rotate_left
        · intro w' hSw; (try dsimp only at hSw); have h0 := hSw.1.cell 0; have h1 := hSw.1.cell 1; have h2 := hSw.1.cell 2; have h3 := hSw.1.cell 3; have h4 := hSw.1.cell 4; have h5 := hSw.1.cell 5; have h6 := hSw.1.cell 6; have h7 := hSw.1.cell 7; have f0 := hSw.2.cell 0; have f1 := hSw.2.cell 1; have f2 := hSw.2.cell 2; have f3 := hSw.2.cell 3; have f4 := hSw.2.cell 4; have f5 := hSw.2.cell 5; have f6 := hSw.2.cell 6; have f7 := hSw.2.cell 7; go_simp; (try with_reducible rfl)
        (try simp only [Act.put, List.getElem_toArray, List.getElem_cons_zero, List.getElem_cons_succ, List.setIfInBounds_toArray, List.set_cons_zero, List.set_cons_succ])
        refine wpAnyF_take (i := 18) (v := ?_) (by kernel_rfl) (by kernel_rfl) rfl (by kernel_rfl) (by kernel_rfl) (by kernel_rfl) (fun _ _ _ h => h) (Or.inl ⟨by rfl, ?_⟩) (by assumption) ?_
        rotate_left
        · intro w' hSw; (try dsimp only at hSw); have h0 := hSw.1.cell 0; have h1 := hSw.1.cell 1; have h2 := hSw.1.cell 2; have h3 := hSw.1.cell 3; have h4 := hSw.1.cell 4; have h5 := hSw.1.cell 5; have h6 := hSw.1.cell 6; have h7 := hSw.1.cell 7; have f0 := hSw.2.cell 0; have f1 := hSw.2.cell 1; have f2 := hSw.2.cell 2; have f3 := hSw.2.cell 3; have f4 := hSw.2.cell 4; have f5 := hSw.2.cell 5; have f6 := hSw.2.cell 6; have f7 := hSw.2.cell 7; go_simp; (try with_reducible rfl)
        (try simp only [Act.put, List.getElem_toArray, List.getElem_cons_zero, List.getElem_cons_succ, List.setIfInBounds_toArray, List.set_cons_zero, List.set_cons_succ])
        refine wpAnyF_take (i := 19) (v := ?_) (by kernel_rfl) (by kernel_rfl) rfl (by kernel_rfl) (by kernel_rfl) (by kernel_rfl) (fun _ _ _ h => h) (Or.inl ⟨by rfl, ?_⟩) (by assumption) ?_
        rotate_left
        · intro w' hSw; (try dsimp only at hSw); have h0 := hSw.1.cell 0; have h1 := hSw.1.cell 1; have h2 := hSw.1.cell 2; have h3 := hSw.1.cell 3; have h4 := hSw.1.cell 4; have h5 := hSw.1.cell 5; have h6 := hSw.1.cell 6; have h7 := hSw.1.cell 7; have f0 := hSw.2.cell 0; have f1 := hSw.2.cell 1; have f2 := hSw.2.cell 2; have f3 := hSw.2.cell 3; have f4 := hSw.2.cell 4; have f5 := hSw.2.cell 5; have f6 := hSw.2.cell 6; have f7 := hSw.2.cell 7; go_simp; (try with_reducible rfl)
        (try simp only [Act.put, List.getElem_toArray, List.getElem_cons_zero, List.getElem_cons_succ, List.setIfInBounds_toArray, List.set_cons_zero, List.set_cons_succ])
        refine wpAnyF_take (i := 20) (v := ?_) (by kernel_rfl) (by kernel_rfl) rfl (by kernel_rfl) (by kernel_rfl) (by kernel_rfl) (fun _ _ _ h => h) (Or.inl ⟨by rfl, ?_⟩) (by assumption) ?_
        rotate_left
        · intro w' hSw; (try dsimp only at hSw); have h0 := hSw.1.cell 0; have h1 := hSw.1.cell 1; have h2 := hSw.1.cell 2; have h3 := hSw.1.cell 3; have h4 := hSw.1.cell 4; have h5 := hSw.1.cell 5; have h6 := hSw.1.cell 6; have h7 := hSw.1.cell 7; have f0 := hSw.2.cell 0; have f1 := hSw.2.cell 1; have f2 := hSw.2.cell 2; have f3 := hSw.2.cell 3; have f4 := hSw.2.cell 4; have f5 := hSw.2.cell 5; have f6 := hSw.2.cell 6; have f7 := hSw.2.cell 7; go_simp; (try with_reducible rfl)
        (try simp only [Act.put, List.getElem_toArray, List.getElem_cons_zero, List.getElem_cons_succ, List.setIfInBounds_toArray, List.set_cons_zero, List.set_cons_succ])
        refine wpAnyF_take (i := 21) (v := ?_) (by kernel_rfl) (by kernel_rfl) rfl (by kernel_rfl) (by kernel_rfl) (by kernel_rfl) (fun _ _ _ h => h) (Or.inl ⟨by rfl, ?_⟩) (by assumption) ?_
        rotate_left
        · intro w' hSw; (try dsimp only at hSw); have h0 := hSw.1.cell 0; have h1 := hSw.1.cell 1; have h2 := hSw.1.cell 2; have h3 := hSw.1.cell 3; have h4 := hSw.1.cell 4; have h5 := hSw.1.cell 5; have h6 := hSw.1.cell 6; have h7 := hSw.1.cell 7; have f0 := hSw.2.cell 0; have f1 := hSw.2.cell 1; have f2 := hSw.2.cell 2; have f3 := hSw.2.cell 3; have f4 := hSw.2.cell 4; have f5 := hSw.2.cell 5; have f6 := hSw.2.cell 6; have f7 := hSw.2.cell 7; go_simp; (try with_reducible rfl)
        (try simp only [Act.put, List.getElem_toArray, List.getElem_cons_zero, List.getElem_cons_succ, List.setIfInBounds_toArray, List.set_cons_zero, List.set_cons_succ])
        refine wpAnyF_take (i := 22) (v := ?_) (by kernel_rfl) (by kernel_rfl) rfl (by kernel_rfl) (by kernel_rfl) (by kernel_rfl) (fun _ _ _ h => h) (Or.inl ⟨by rfl, ?_⟩) (by assumption) ?_
        rotate_left
        · intro w' hSw; (try dsimp only at hSw); have h0 := hSw.1.cell 0; have h1 := hSw.1.cell 1; have h2 := hSw.1.cell 2; have h3 := hSw.1.cell 3; have h4 := hSw.1.cell 4; have h5 := hSw.1.cell 5; have h6 := hSw.1.cell 6; have h7 := hSw.1.cell 7; have f0 := hSw.2.cell 0; have f1 := hSw.2.cell 1; have f2 := hSw.2.cell 2; have f3 := hSw.2.cell 3; have f4 := hSw.2.cell 4; have f5 := hSw.2.cell 5; have f6 := hSw.2.cell 6; have f7 := hSw.2.cell 7; go_simp; (try with_reducible rfl)
        (try simp only [Act.put, List.getElem_toArray, List.getElem_cons_zero, List.getElem_cons_succ, List.setIfInBounds_toArray, List.set_cons_zero, List.set_cons_succ])
        refine wpAnyF_take (i := 23) (v := ?_) (by kernel_rfl) (by kernel_rfl) rfl (by kernel_rfl) (by kernel_rfl) (by kernel_rfl) (fun _ _ _ h => h) (Or.inl ⟨by rfl, ?_⟩) (by assumption) ?_
        rotate_left
        · intro w' hSw; (try dsimp only at hSw); have h0 := hSw.1.cell 0; have h1 := hSw.1.cell 1; have h2 := hSw.1.cell 2; have h3 := hSw.1.cell 3; have h4 := hSw.1.cell 4; have h5 := hSw.1.cell 5; have h6 := hSw.1.cell 6; have h7 := hSw.1.cell 7; have f0 := hSw.2.cell 0; have f1 := hSw.2.cell 1; have f2 := hSw.2.cell 2; have f3 := hSw.2.cell 3; have f4 := hSw.2.cell 4; have f5 := hSw.2.cell 5; have f6 := hSw.2.cell 6; have f7 := hSw.2.cell 7; go_simp; (try with_reducible rfl)
        (try simp only [Act.put, List.getElem_toArray, List.getElem_cons_zero, List.getElem_cons_succ, List.setIfInBounds_toArray, List.set_cons_zero, List.set_cons_succ])
        refine wpAnyF_take (i := 24) (v := ?_) (by kernel_rfl) (by kernel_rfl) rfl (by kernel_rfl) (by kernel_rfl) (by kernel_rfl) (fun _ _ _ h => h) (Or.inl ⟨by rfl, ?_⟩) (by assumption) ?_
        rotate_left
        · intro w' hSw; (try dsimp only at hSw); have h0 := hSw.1.cell 0; have h1 := hSw.1.cell 1; have h2 := hSw.1.cell 2; have h3 := hSw.1.cell 3; have h4 := hSw.1.cell 4; have h5 := hSw.1.cell 5; have h6 := hSw.1.cell 6; have h7 := hSw.1.cell 7; have f0 := hSw.2.cell 0; have f1 := hSw.2.cell 1; have f2 := hSw.2.cell 2; have f3 := hSw.2.cell 3; have f4 := hSw.2.cell 4; have f5 := hSw.2.cell 5; have f6 := hSw.2.cell 6; have f7 := hSw.2.cell 7; go_simp; (try with_reducible rfl)
        (try simp only [Act.put, List.getElem_toArray, List.getElem_cons_zero, List.getElem_cons_succ, List.setIfInBounds_toArray, List.set_cons_zero, List.set_cons_succ])
        refine wpAnyF_take (i := 25) (v := ?_) (by kernel_rfl) (by kernel_rfl) rfl (by kernel_rfl) (by kernel_rfl) (by kernel_rfl) (fun _ _ _ h => h) (Or.inl ⟨by rfl, ?_⟩) (by assumption) ?_
        rotate_left
        · intro w' hSw; (try dsimp only at hSw); have h0 := hSw.1.cell 0; have h1 := hSw.1.cell 1; have h2 := hSw.1.cell 2; have h3 := hSw.1.cell 3; have h4 := hSw.1.cell 4; have h5 := hSw.1.cell 5; have h6 := hSw.1.cell 6; have h7 := hSw.1.cell 7; have f0 := hSw.2.cell 0; have f1 := hSw.2.cell 1; have f2 := hSw.2.cell 2; have f3 := hSw.2.cell 3; have f4 := hSw.2.cell 4; have f5 := hSw.2.cell 5; have f6 := hSw.2.cell 6; have f7 := hSw.2.cell 7; go_simp; (try with_reducible rfl)
        (try simp only [Act.put, List.getElem_toArray, List.getElem_cons_zero, List.getElem_cons_succ, List.setIfInBounds_toArray, List.set_cons_zero, List.set_cons_succ])
        refine wpAnyF_take (i := 26) (v := ?_) (by kernel_rfl) (by kernel_rfl) rfl (by kernel_rfl) (by kernel_rfl) (by kernel_rfl) (fun _ _ _ h => h) (Or.inl ⟨by rfl, ?_⟩) (by assumption) ?_
        rotate_left
        · intro w' hSw; (try dsimp only at hSw); have h0 := hSw.1.cell 0; have h1 := hSw.1.cell 1; have h2 := hSw.1.cell 2; have h3 := hSw.1.cell 3; have h4 := hSw.1.cell 4; have h5 := hSw.1.cell 5; have h6 := hSw.1.cell 6; have h7 := hSw.1.cell 7; have f0 := hSw.2.cell 0; have f1 := hSw.2.cell 1; have f2 := hSw.2.cell 2; have f3 := hSw.2.cell 3; have f4 := hSw.2.cell 4; have f5 := hSw.2.cell 5; have f6 := hSw.2.cell 6; have f7 := hSw.2.cell 7; go_simp; (try with_reducible rfl)
        (try simp only [Act.put, List.getElem_toArray, List.getElem_cons_zero, List.getElem_cons_succ, List.setIfInBounds_toArray, List.set_cons_zero, List.set_cons_succ])
        refine wpAnyF_take (i := 27) (v := ?_) (by kernel_rfl) (by kernel_rfl) rfl (by kernel_rfl) (by kernel_rfl) (by kernel_rfl) (fun _ _ _ h => h) (Or.inl ⟨by rfl, ?_⟩) (by assumption) ?_
        rotate_left
        · intro w' hSw; (try dsimp only at hSw); have h0 := hSw.1.cell 0; have h1 := hSw.1.cell 1; have h2 := hSw.1.cell 2; have h3 := hSw.1.cell 3; have h4 := hSw.1.cell 4; have h5 := hSw.1.cell 5; have h6 := hSw.1.cell 6; have h7 := hSw.1.cell 7; have f0 := hSw.2.cell 0; have f1 := hSw.2.cell 1; have f2 := hSw.2.cell 2; have f3 := hSw.2.cell 3; have f4 := hSw.2.cell 4; have f5 := hSw.2.cell 5; have f6 := hSw.2.cell 6; have f7 := hSw.2.cell 7; go_simp; (try with_reducible rfl)
        (try simp only [Act.put, List.getElem_toArray, List.getElem_cons_zero, List.getElem_cons_succ, List.setIfInBounds_toArray, List.set_cons_zero, List.set_cons_succ])
        refine wpAnyF_take (i := 28) (v := ?_) (by kernel_rfl) (by kernel_rfl) rfl (by kernel_rfl) (by kernel_rfl) (by kernel_rfl) (fun _ _ _ h => h) (Or.inl ⟨by rfl, ?_⟩) (by assumption) ?_
        rotate_left
        · intro w' hSw; (try dsimp only at hSw); have h0 := hSw.1.cell 0; have h1 := hSw.1.cell 1; have h2 := hSw.1.cell 2; have h3 := hSw.1.cell 3; have h4 := hSw.1.cell 4; have h5 := hSw.1.cell 5; have h6 := hSw.1.cell 6; have h7 := hSw.1.cell 7; have f0 := hSw.2.cell 0; have f1 := hSw.2.cell 1; have f2 := hSw.2.cell 2; have f3 := hSw.2.cell 3; have f4 := hSw.2.cell 4; have f5 := hSw.2.cell 5; have f6 := hSw.2.cell 6; have f7 := hSw.2.cell 7; go_simp; (try with_reducible rfl)
        (try simp only [Act.put, List.getElem_toArray, List.getElem_cons_zero, List.getElem_cons_succ, List.setIfInBounds_toArray, List.set_cons_zero, List.set_cons_succ])
        refine wpAnyF_take (i := 29) (v := ?_) (by kernel_rfl) (by kernel_rfl) rfl (by kernel_rfl) (by kernel_rfl) (by kernel_rfl) (fun _ _ _ h => h) (Or.inl ⟨by rfl, ?_⟩) (by assumption) ?_
        rotate_left
        · intro w' hSw; (try dsimp only at hSw); have h0 := hSw.1.cell 0; have h1 := hSw.1.cell 1; have h2 := hSw.1.cell 2; have h3 := hSw.1.cell 3; have h4 := hSw.1.cell 4; have h5 := hSw.1.cell 5; have h6 := hSw.1.cell 6; have h7 := hSw.1.cell 7; have f0 := hSw.2.cell 0; have f1 := hSw.2.cell 1; have f2 := hSw.2.cell 2; have f3 := hSw.2.cell 3; have f4 := hSw.2.cell 4; have f5 := hSw.2.cell 5; have f6 := hSw.2.cell 6; have f7 := hSw.2.cell 7; go_simp; (try with_reducible rfl)
        (try simp only [Act.put, List.getElem_toArray, List.getElem_cons_zero, List.getElem_cons_succ, List.setIfInBounds_toArray, List.set_cons_zero, List.set_cons_succ])
        refine wpAnyF_take (i := 30) (v := ?_) (by kernel_rfl) (by kernel_rfl) rfl (by kernel_rfl) (by kernel_rfl) (by kernel_rfl) (fun _ _ _ h => h) (Or.inl ⟨by rfl, ?_⟩) (by assumption) ?_
        rotate_left
        · intro w' hSw; (try dsimp only at hSw); have h0 := hSw.1.cell 0; have h1 := hSw.1.cell 1; have h2 := hSw.1.cell 2; have h3 := hSw.1.cell 3; have h4 := hSw.1.cell 4; have h5 := hSw.1.cell 5; have h6 := hSw.1.cell 6; have h7 := hSw.1.cell 7; have f0 := hSw.2.cell 0; have f1 := hSw.2.cell 1; have f2 := hSw.2.cell 2; have f3 := hSw.2.cell 3; have f4 := hSw.2.cell 4; have f5 := hSw.2.cell 5; have f6 := hSw.2.cell 6; have f7 := hSw.2.cell 7; go_simp; (try with_reducible rfl)
        (try simp only [Act.put, List.getElem_toArray, List.getElem_cons_zero, List.getElem_cons_succ, List.setIfInBounds_toArray, List.set_cons_zero, List.set_cons_succ])
        refine wpAnyF_take (i := 31) (v := ?_) (by kernel_rfl) (by kernel_rfl) rfl (by kernel_rfl) (by kernel_rfl) (by kernel_rfl) (fun _ _ _ h => h) (Or.inl ⟨by rfl, ?_⟩) (by assumption) ?_
        rotate_left
        · intro w' hSw; (try dsimp only at hSw); have h0 := hSw.1.cell 0; have h1 := hSw.1.cell 1; have h2 := hSw.1.cell 2; have h3 := hSw.1.cell 3; have h4 := hSw.1.cell 4; have h5 := hSw.1.cell 5; have h6 := hSw.1.cell 6; have h7 := hSw.1.cell 7; have f0 := hSw.2.cell 0; have f1 := hSw.2.cell 1; have f2 := hSw.2.cell 2; have f3 := hSw.2.cell 3; have f4 := hSw.2.cell 4; have f5 := hSw.2.cell 5; have f6 := hSw.2.cell 6; have f7 := hSw.2.cell 7; go_simp; (try with_reducible rfl)
        (try simp only [Act.put, List.getElem_toArray, List.getElem_cons_zero, List.getElem_cons_succ, List.setIfInBounds_toArray, List.set_cons_zero, List.set_cons_succ])
        refine wpAnyF_take (i := 32) (v := undef) (by kernel_rfl) (by kernel_rfl) rfl (by kernel_rfl) (by kernel_rfl) (by kernel_rfl) (fun _ _ _ h => h) (Or.inr ⟨by rfl, rfl⟩) (by assumption) ?_
        (try simp only [Act.put, List.getElem_toArray, List.getElem_cons_zero, List.getElem_cons_succ, List.setIfInBounds_toArray, List.set_cons_zero, List.set_cons_succ])
        refine wpAnyF_take (i := 33) (v := undef) (by kernel_rfl) (by kernel_rfl) rfl (by kernel_rfl) (by kernel_rfl) (by kernel_rfl) (fun _ _ _ h => h) (Or.inr ⟨by rfl, rfl⟩) (by assumption) ?_
        (try simp only [Act.put, List.getElem_toArray, List.getElem_cons_zero, List.getElem_cons_succ, List.setIfInBounds_toArray, List.set_cons_zero, List.set_cons_succ])
        refine wpAnyF_take (i := 34) (v := undef) (by kernel_rfl) (by kernel_rfl) rfl (by kernel_rfl) (by kernel_rfl) (by kernel_rfl) (fun _ _ _ h => h) (Or.inr ⟨by rfl, rfl⟩) (by assumption) ?_
        (try simp only [Act.put, List.getElem_toArray, List.getElem_cons_zero, List.getElem_cons_succ, List.setIfInBounds_toArray, List.set_cons_zero, List.set_cons_succ])
        refine wpAnyF_take (i := 35) (v := undef) (by kernel_rfl) (by kernel_rfl) rfl (by kernel_rfl) (by kernel_rfl) (by kernel_rfl) (fun _ _ _ h => h) (Or.inr ⟨by rfl, rfl⟩) (by assumption) ?_
        (try simp only [Act.put, List.getElem_toArray, List.getElem_cons_zero, List.getElem_cons_succ, List.setIfInBounds_toArray, List.set_cons_zero, List.set_cons_succ])
        refine wpAnyF_take (i := 36) (v := undef) (by kernel_rfl) (by kernel_rfl) rfl (by kernel_rfl) (by kernel_rfl) (by kernel_rfl) (fun _ _ _ h => h) (Or.inr ⟨by rfl, rfl⟩) (by assumption) ?_
        (try simp only [Act.put, List.getElem_toArray, List.getElem_cons_zero, List.getElem_cons_succ, List.setIfInBounds_toArray, List.set_cons_zero, List.set_cons_succ])
        refine wpAnyF_take (i := 37) (v := undef) (by kernel_rfl) (by kernel_rfl) rfl (by kernel_rfl) (by kernel_rfl) (by kernel_rfl) (fun _ _ _ h => h) (Or.inr ⟨by rfl, rfl⟩) (by assumption) ?_
        (try simp only [Act.put, List.getElem_toArray, List.getElem_cons_zero, List.getElem_cons_succ, List.setIfInBounds_toArray, List.set_cons_zero, List.set_cons_succ])
        refine wpAnyF_take (i := 38) (v := ?_) (by kernel_rfl) (by kernel_rfl) rfl (by kernel_rfl) (by kernel_rfl) (by kernel_rfl) (fun _ _ _ h => h) (Or.inl ⟨by rfl, ?_⟩) (by assumption) ?_
        rotate_left
        · intro w' hSw; (try dsimp only at hSw); have h0 := hSw.1.cell 0; have h1 := hSw.1.cell 1; have h2 := hSw.1.cell 2; have h3 := hSw.1.cell 3; have h4 := hSw.1.cell 4; have h5 := hSw.1.cell 5; have h6 := hSw.1.cell 6; have h7 := hSw.1.cell 7; have f0 := hSw.2.cell 0; have f1 := hSw.2.cell 1; have f2 := hSw.2.cell 2; have f3 := hSw.2.cell 3; have f4 := hSw.2.cell 4; have f5 := hSw.2.cell 5; have f6 := hSw.2.cell 6; have f7 := hSw.2.cell 7; go_simp; (try with_reducible rfl)
        (try simp only [Act.put, List.getElem_toArray, List.getElem_cons_zero, List.getElem_cons_succ, List.setIfInBounds_toArray, List.set_cons_zero, List.set_cons_succ])
        refine wpAnyF_take (i := 39) (v := ?_) (by kernel_rfl) (by kernel_rfl) rfl (by kernel_rfl) (by kernel_rfl) (by kernel_rfl) (fun _ _ _ h => h) (Or.inl ⟨by rfl, ?_⟩) (by assumption) ?_
        rotate_left
        · intro w' hSw; (try dsimp only at hSw); have h0 := hSw.1.cell 0; have h1 := hSw.1.cell 1; have h2 := hSw.1.cell 2; have h3 := hSw.1.cell 3; have h4 := hSw.1.cell 4; have h5 := hSw.1.cell 5; have h6 := hSw.1.cell 6; have h7 := hSw.1.cell 7; have f0 := hSw.2.cell 0; have f1 := hSw.2.cell 1; have f2 := hSw.2.cell 2; have f3 := hSw.2.cell 3; have f4 := hSw.2.cell 4; have f5 := hSw.2.cell 5; have f6 := hSw.2.cell 6; have f7 := hSw.2.cell 7; go_simp; (try with_reducible rfl)
        (try simp only [Act.put, List.getElem_toArray, List.getElem_cons_zero, List.getElem_cons_succ, List.setIfInBounds_toArray, List.set_cons_zero, List.set_cons_succ])
        refine wpAnyF_take (i := 40) (v := ?_) (by kernel_rfl) (by kernel_rfl) rfl (by kernel_rfl) (by kernel_rfl) (by kernel_rfl) (fun _ _ _ h => h) (Or.inl ⟨by rfl, ?_⟩) (by assumption) ?_
        rotate_left
        · intro w' hSw; (try dsimp only at hSw); have h0 := hSw.1.cell 0; have h1 := hSw.1.cell 1; have h2 := hSw.1.cell 2; have h3 := hSw.1.cell 3; have h4 := hSw.1.cell 4; have h5 := hSw.1.cell 5; have h6 := hSw.1.cell 6; have h7 := hSw.1.cell 7; have f0 := hSw.2.cell 0; have f1 := hSw.2.cell 1; have f2 := hSw.2.cell 2; have f3 := hSw.2.cell 3; have f4 := hSw.2.cell 4; have f5 := hSw.2.cell 5; have f6 := hSw.2.cell 6; have f7 := hSw.2.cell 7; go_simp; (try with_reducible rfl)
        (try simp only [Act.put, List.getElem_toArray, List.getElem_cons_zero, List.getElem_cons_succ, List.setIfInBounds_toArray, List.set_cons_zero, List.set_cons_succ])
        refine wpAnyF_take (i := 41) (v := ?_) (by kernel_rfl) (by kernel_rfl) rfl (by kernel_rfl) (by kernel_rfl) (by kernel_rfl) (fun _ _ _ h => h) (Or.inl ⟨by rfl, ?_⟩) (by assumption) ?_
        rotate_left
        · intro w' hSw; (try dsimp only at hSw); have h0 := hSw.1.cell 0; have h1 := hSw.1.cell 1; have h2 := hSw.1.cell 2; have h3 := hSw.1.cell 3; have h4 := hSw.1.cell 4; have h5 := hSw.1.cell 5; have h6 := hSw.1.cell 6; have h7 := hSw.1.cell 7; have f0 := hSw.2.cell 0; have f1 := hSw.2.cell 1; have f2 := hSw.2.cell 2; have f3 := hSw.2.cell 3; have f4 := hSw.2.cell 4; have f5 := hSw.2.cell 5; have f6 := hSw.2.cell 6; have f7 := hSw.2.cell 7; go_simp; (try with_reducible rfl)
        (try simp only [Act.put, List.getElem_toArray, List.getElem_cons_zero, List.getElem_cons_succ, List.setIfInBounds_toArray, List.set_cons_zero, List.set_cons_succ])
        refine wpAnyF_take (i := 42) (v := ?_) (by kernel_rfl) (by kernel_rfl) rfl (by kernel_rfl) (by kernel_rfl) (by kernel_rfl) (fun _ _ _ h => h) (Or.inl ⟨by rfl, ?_⟩) (by assumption) ?_
        rotate_left
        · intro w' hSw; (try dsimp only at hSw); have h0 := hSw.1.cell 0; have h1 := hSw.1.cell 1; have h2 := hSw.1.cell 2; have h3 := hSw.1.cell 3; have h4 := hSw.1.cell 4; have h5 := hSw.1.cell 5; have h6 := hSw.1.cell 6; have h7 := hSw.1.cell 7; have f0 := hSw.2.cell 0; have f1 := hSw.2.cell 1; have f2 := hSw.2.cell 2; have f3 := hSw.2.cell 3; have f4 := hSw.2.cell 4; have f5 := hSw.2.cell 5; have f6 := hSw.2.cell 6; have f7 := hSw.2.cell 7; go_simp; (try with_reducible rfl)
        (try simp only [Act.put, List.getElem_toArray, List.getElem_cons_zero, List.getElem_cons_succ, List.setIfInBounds_toArray, List.set_cons_zero, List.set_cons_succ])
        refine wpAnyF_take (i := 43) (v := ?_) (by kernel_rfl) (by kernel_rfl) rfl (by kernel_rfl) (by kernel_rfl) (by kernel_rfl) (fun _ _ _ h => h) (Or.inl ⟨by rfl, ?_⟩) (by assumption) ?_
        rotate_left
        · intro w' hSw; (try dsimp only at hSw); have h0 := hSw.1.cell 0; have h1 := hSw.1.cell 1; have h2 := hSw.1.cell 2; have h3 := hSw.1.cell 3; have h4 := hSw.1.cell 4; have h5 := hSw.1.cell 5; have h6 := hSw.1.cell 6; have h7 := hSw.1.cell 7; have f0 := hSw.2.cell 0; have f1 := hSw.2.cell 1; have f2 := hSw.2.cell 2; have f3 := hSw.2.cell 3; have f4 := hSw.2.cell 4; have f5 := hSw.2.cell 5; have f6 := hSw.2.cell 6; have f7 := hSw.2.cell 7; go_simp; (try with_reducible rfl)
        (try simp only [Act.put, List.getElem_toArray, List.getElem_cons_zero, List.getElem_cons_succ, List.setIfInBounds_toArray, List.set_cons_zero, List.set_cons_succ])
        refine wpAnyF_take (i := 44) (v := ?_) (by kernel_rfl) (by kernel_rfl) rfl (by kernel_rfl) (by kernel_rfl) (by kernel_rfl) (fun _ _ _ h => h) (Or.inl ⟨by rfl, ?_⟩) (by assumption) ?_
        rotate_left
        · intro w' hSw; (try dsimp only at hSw); have h0 := hSw.1.cell 0; have h1 := hSw.1.cell 1; have h2 := hSw.1.cell 2; have h3 := hSw.1.cell 3; have h4 := hSw.1.cell 4; have h5 := hSw.1.cell 5; have h6 := hSw.1.cell 6; have h7 := hSw.1.cell 7; have f0 := hSw.2.cell 0; have f1 := hSw.2.cell 1; have f2 := hSw.2.cell 2; have f3 := hSw.2.cell 3; have f4 := hSw.2.cell 4; have f5 := hSw.2.cell 5; have f6 := hSw.2.cell 6; have f7 := hSw.2.cell 7; go_simp; (try with_reducible rfl)
        (try simp only [Act.put, List.getElem_toArray, List.getElem_cons_zero, List.getElem_cons_succ, List.setIfInBounds_toArray, List.set_cons_zero, List.set_cons_succ])
        refine wpAnyF_take (i := 45) (v := ?_) (by kernel_rfl) (by kernel_rfl) rfl (by kernel_rfl) (by kernel_rfl) (by kernel_rfl) (fun _ _ _ h => h) (Or.inl ⟨by rfl, ?_⟩) (by assumption) ?_
        rotate_left
        · intro w' hSw; (try dsimp only at hSw); have h0 := hSw.1.cell 0; have h1 := hSw.1.cell 1; have h2 := hSw.1.cell 2; have h3 := hSw.1.cell 3; have h4 := hSw.1.cell 4; have h5 := hSw.1.cell 5; have h6 := hSw.1.cell 6; have h7 := hSw.1.cell 7; have f0 := hSw.2.cell 0; have f1 := hSw.2.cell 1; have f2 := hSw.2.cell 2; have f3 := hSw.2.cell 3; have f4 := hSw.2.cell 4; have f5 := hSw.2.cell 5; have f6 := hSw.2.cell 6; have f7 := hSw.2.cell 7; go_simp; (try with_reducible rfl)
        (try simp only [Act.put, List.getElem_toArray, List.getElem_cons_zero, List.getElem_cons_succ, List.setIfInBounds_toArray, List.set_cons_zero, List.set_cons_succ])
        refine wpAnyF_take (i := 46) (v := ?_) (by kernel_rfl) (by kernel_rfl) rfl (by kernel_rfl) (by kernel_rfl) (by kernel_rfl) (fun _ _ _ h => h) (Or.inl ⟨by rfl, ?_⟩) (by assumption) ?_
        rotate_left
        · intro w' hSw; (try dsimp only at hSw); have h0 := hSw.1.cell 0; have h1 := hSw.1.cell 1; have h2 := hSw.1.cell 2; have h3 := hSw.1.cell 3; have h4 := hSw.1.cell 4; have h5 := hSw.1.cell 5; have h6 := hSw.1.cell 6; have h7 := hSw.1.cell 7; have f0 := hSw.2.cell 0; have f1 := hSw.2.cell 1; have f2 := hSw.2.cell 2; have f3 := hSw.2.cell 3; have f4 := hSw.2.cell 4; have f5 := hSw.2.cell 5; have f6 := hSw.2.cell 6; have f7 := hSw.2.cell 7; go_simp; (try with_reducible rfl)
        (try simp only [Act.put, List.getElem_toArray, List.getElem_cons_zero, List.getElem_cons_succ, List.setIfInBounds_toArray, List.set_cons_zero, List.set_cons_succ])
        refine wpAnyF_take (i := 47) (v := ?_) (by kernel_rfl) (by kernel_rfl) rfl (by kernel_rfl) (by kernel_rfl) (by kernel_rfl) (fun _ _ _ h => h) (Or.inl ⟨by rfl, ?_⟩) (by assumption) ?_
        rotate_left
        · intro w' hSw; (try dsimp only at hSw); have h0 := hSw.1.cell 0; have h1 := hSw.1.cell 1; have h2 := hSw.1.cell 2; have h3 := hSw.1.cell 3; have h4 := hSw.1.cell 4; have h5 := hSw.1.cell 5; have h6 := hSw.1.cell 6; have h7 := hSw.1.cell 7; have f0 := hSw.2.cell 0; have f1 := hSw.2.cell 1; have f2 := hSw.2.cell 2; have f3 := hSw.2.cell 3; have f4 := hSw.2.cell 4; have f5 := hSw.2.cell 5; have f6 := hSw.2.cell 6; have f7 := hSw.2.cell 7; go_simp; (try with_reducible rfl)
        (try simp only [Act.put, List.getElem_toArray, List.getElem_cons_zero, List.getElem_cons_succ, List.setIfInBounds_toArray, List.set_cons_zero, List.set_cons_succ])
        refine wpAnyF_take (i := 48) (v := ?_) (by kernel_rfl) (by kernel_rfl) rfl (by kernel_rfl) (by kernel_rfl) (by kernel_rfl) (fun _ _ _ h => h) (Or.inl ⟨by rfl, ?_⟩) (by assumption) ?_
        rotate_left
        · intro w' hSw; (try dsimp only at hSw); have h0 := hSw.1.cell 0; have h1 := hSw.1.cell 1; have h2 := hSw.1.cell 2; have h3 := hSw.1.cell 3; have h4 := hSw.1.cell 4; have h5 := hSw.1.cell 5; have h6 := hSw.1.cell 6; have h7 := hSw.1.cell 7; have f0 := hSw.2.cell 0; have f1 := hSw.2.cell 1; have f2 := hSw.2.cell 2; have f3 := hSw.2.cell 3; have f4 := hSw.2.cell 4; have f5 := hSw.2.cell 5; have f6 := hSw.2.cell 6; have f7 := hSw.2.cell 7; go_simp; (try with_reducible rfl)
        (try simp only [Act.put, List.getElem_toArray, List.getElem_cons_zero, List.getElem_cons_succ, List.setIfInBounds_toArray, List.set_cons_zero, List.set_cons_succ])
        refine wpAnyF_take (i := 49) (v := ?_) (by kernel_rfl) (by kernel_rfl) rfl (by kernel_rfl) (by kernel_rfl) (by kernel_rfl) (fun _ _ _ h => h) (Or.inl ⟨by rfl, ?_⟩) (by assumption) ?_
        rotate_left
        · intro w' hSw; (try dsimp only at hSw); have h0 := hSw.1.cell 0; have h1 := hSw.1.cell 1; have h2 := hSw.1.cell 2; have h3 := hSw.1.cell 3; have h4 := hSw.1.cell 4; have h5 := hSw.1.cell 5; have h6 := hSw.1.cell 6; have h7 := hSw.1.cell 7; have f0 := hSw.2.cell 0; have f1 := hSw.2.cell 1; have f2 := hSw.2.cell 2; have f3 := hSw.2.cell 3; have f4 := hSw.2.cell 4; have f5 := hSw.2.cell 5; have f6 := hSw.2.cell 6; have f7 := hSw.2.cell 7; go_simp; (try with_reducible rfl)
        (try simp only [Act.put, List.getElem_toArray, List.getElem_cons_zero, List.getElem_cons_succ, List.setIfInBounds_toArray, List.set_cons_zero, List.set_cons_succ])
        refine wpAnyF_done (by kernel_rfl) ?_ _
        refine NoPanic.normal ?_
        go_wp2
        go_ret
        exact ⟨rfl, B8d.out⟩

end Go.Proofs.Ytnfbljadhhcclaa
