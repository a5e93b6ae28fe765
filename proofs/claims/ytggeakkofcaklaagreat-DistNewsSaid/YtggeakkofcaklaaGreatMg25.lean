import Derived.Test.YtggeakkofcaklaaGreatMg24
namespace Go.Proofs.YtggeakkofcaklaaGreat
open Go.ChangeShapes Go.WideShapes Go.ChangeAt Go.RowKit Go.Shelf
set_option linter.unusedVariables false
attribute [local go_sem] Oper.semAt_some
section
variable {w : World} {lo hi' : Nat} {b c : Nat → Nat} {D : Ds}
theorem rone_at (x : Bool) (n m : Nat) (i : Int) (hm : (if x then n else 0) = m) (hi' : (n : Int) = i) (w : World) : Calls Tryz.prog 100 #[.bool x, .int .u64 i] w fun e w' => e = .returned (.int .u64 (m : Int)) ∧ w = w' := by
  rw [← hm, ← hi']
  exact rone_any x n w
set_option maxRecDepth 100000 in
set_option maxHeartbeats 2000000 in
theorem rread_ctlr (h : RdAt w lo hi' b c D) {off wd : Int} (f n : Int)
    (HF : Hi (Calls Tryz.prog 89 #[.int .i64 off, .int .i64 wd] w (Finds w (⟨1, f, n⟩, 0)))) :
    Calls Tryz.prog 59 #[.pointer (some ⟨b 0, 0, none⟩), .int .i64 off, .int .i64 wd] w fun e w' => e = .returned (.tuple #[.int .u64 (ctlrN D : Nat), .int .i64 0]) ∧ Below w.heap.size w w' := by
  unfold Finds at HF
  dsimp only [Pl.v] at HF
  have HD := hi h
  have hlt := h.box.lt
  obtain ⟨x0, hx0⟩ : ∃ x, (if D.g0 then 1 else 0) = x := ⟨_, rfl⟩
  obtain ⟨x1, hx1⟩ : ∃ x, (if D.g1 then 2 else 0) = x := ⟨_, rfl⟩
  have l0 : x0 ≤ 1 := by rw [← hx0]; split <;> omega
  have l1 : x1 ≤ 2 := by rw [← hx1]; split <;> omega
  have hV : ctlrN D = 80 + x0 + x1 := by rw [← hx0, ← hx1]; cases h0 : D.g0 <;> cases h1 : D.g1 <;> simp [ctlrN, h0, h1]
  have HO0 := hi (fun W => rone_at D.g0 1 x0 1 hx0 rfl W)
  have HO1 := hi (fun W => rone_at D.g1 2 x1 2 hx1 rfl W)
  rw [hV]
  have w0 : IntKind.u64.wrap (80 + (x0 : Int)) = ((80 + x0 : Nat) : Int) := by rw [IntKind.wrap_u64]; omega
  obtain ⟨y0, hy0⟩ : ∃ y, 80 + x0 = y := ⟨_, rfl⟩
  rw [hy0] at w0 ⊢
  have w1 : IntKind.u64.wrap ((y0 : Int) + (x1 : Int)) = ((y0 + x1 : Nat) : Int) := by rw [IntKind.wrap_u64]; omega
  obtain ⟨y1, hy1⟩ : ∃ y, y0 + x1 = y := ⟨_, rfl⟩
  rw [hy1] at w1 ⊢
  clear h hx0 hx1 l0 l1 hV hy0 hy1
  go_enter Tryz.func59, Tryz.ntmps59
  go_wp2_with (first
    | (go_at_call 89; ((with_reducible refine HF.out.mono ?_); rintro e' wF ⟨rfl, hb⟩; have HB := hi (hb.alloc hb.size (.cells #[.int .i64 1, .int .i64 f, .int .i64 n] 70)); have HPB := hi (CB.new wF 70 #[.int .i64 1, .int .i64 f, .int .i64 n]); have hsz := hb.size; clear hb)))
  obtain ⟨W1, hW1⟩ : ∃ W1, wF.alloc (.cells #[.int .i64 1, .int .i64 f, .int .i64 n] 70) = W1 := ⟨_, rfl⟩
  obtain ⟨N, hN⟩ : ∃ N, wF.heap.size = N := ⟨_, rfl⟩
  rw [hW1] at HB HPB ⊢
  rw [hN] at HPB hsz ⊢
  have HB1 := hi (show Below w.heap.size w W1.drew from Below.drewN (m := 1) HB.out)
  have HD1 := hi (HD.out.below HB1.out)
  have HPB1 := hi HPB.out.drew
  clear hW1 hN HPB
  refine wp_region_noPanic ?_
  refine wp_region_last_drew (S := (fun W' => CB W' (b 0) 105 #[.bool D.g0, .bool D.g1, .pointer (some ⟨b 5, 0, none⟩), .slice (some ⟨b 1, 0, none⟩) D.sh.length (c 0), .slice (some ⟨b 2, 0, none⟩) D.sh.length (c 1), .slice (some ⟨b 3, 0, none⟩) D.cs.length (c 2), .slice (some ⟨b 4, 0, none⟩) D.cs.length (c 3)])) [] (by kernel_rfl) HD1.out.box (fun hHeld => ?_)
  (try simp only [Array.replicate_succ, Array.replicate_zero, List.push_toArray, List.nil_append, List.cons_append])
  obtain ⟨Wd, hWd⟩ : ∃ Wd, W1.drew = Wd := ⟨_, rfl⟩
  rw [hWd] at HD1 HB1 HPB1 hHeld ⊢
  clear hWd
  refine wpAnyF_take (i := 0) (v := ?_) (by kernel_rfl) (by kernel_rfl) rfl (by kernel_rfl) (by kernel_rfl) (by kernel_rfl) (fun _ _ _ h => h) (Or.inl ⟨by rfl, ?_⟩) (by assumption) ?_
  rotate_left
  · intro w' hSw; (try dsimp only at hSw); have k0 := hSw.cell 0; have k1 := hSw.cell 1; (try rw [run_index_two]); go_simp; (try with_reducible rfl)
  (try simp only [Act.put, List.getElem_toArray, List.getElem_cons_zero, List.setIfInBounds_toArray, List.set_cons_zero, List.set_cons_succ])
  refine wpAnyF_take (i := 1) (v := ?_) (by kernel_rfl) (by kernel_rfl) rfl (by kernel_rfl) (by kernel_rfl) (by kernel_rfl) (fun _ _ _ h => h) (Or.inl ⟨by rfl, ?_⟩) (by assumption) ?_
  rotate_left
  · intro w' hSw; (try dsimp only at hSw); have k0 := hSw.cell 0; have k1 := hSw.cell 1; (try rw [run_index_two]); go_simp; (try with_reducible rfl)
  (try simp only [Act.put, List.getElem_toArray, List.getElem_cons_zero, List.getElem_cons_succ, List.setIfInBounds_toArray, List.set_cons_zero, List.set_cons_succ])
  refine wpAnyF_take (i := 2) (v := ?_) (by kernel_rfl) (by kernel_rfl) rfl (by kernel_rfl) (by kernel_rfl) (by kernel_rfl) (fun _ _ _ h => h) (Or.inl ⟨by rfl, ?_⟩) (by assumption) ?_
  rotate_left
  · intro w' hSw; (try dsimp only at hSw); have k0 := hSw.cell 0; have k1 := hSw.cell 1; (try rw [run_index_two]); go_simp; (try with_reducible rfl)
  (try simp only [Act.put, List.getElem_toArray, List.getElem_cons_zero, List.getElem_cons_succ, List.setIfInBounds_toArray, List.set_cons_zero, List.set_cons_succ])
  refine wpAnyF_take (i := 3) (v := ?_) (by kernel_rfl) (by kernel_rfl) rfl (by kernel_rfl) (by kernel_rfl) (by kernel_rfl) (fun _ _ _ h => h) (Or.inl ⟨by rfl, ?_⟩) (by assumption) ?_
  rotate_left
  · intro w' hSw; (try dsimp only at hSw); have k0 := hSw.cell 0; have k1 := hSw.cell 1; (try rw [run_index_two]); go_simp; (try with_reducible rfl)
  (try simp only [Act.put, List.getElem_toArray, List.getElem_cons_zero, List.getElem_cons_succ, List.setIfInBounds_toArray, List.set_cons_zero, List.set_cons_succ])
  refine wpAnyF_take (i := 4) (v := ?_) (by kernel_rfl) (by kernel_rfl) rfl (by kernel_rfl) (by kernel_rfl) (by kernel_rfl) (fun _ _ _ h => h) (Or.inl ⟨by rfl, ?_⟩) (by assumption) ?_
  rotate_left
  · intro w' hSw; (try dsimp only at hSw); have k0 := hSw.cell 0; have k1 := hSw.cell 1; (try rw [run_index_two]); go_simp; (try with_reducible rfl)
  (try simp only [Act.put, List.getElem_toArray, List.getElem_cons_zero, List.getElem_cons_succ, List.setIfInBounds_toArray, List.set_cons_zero, List.set_cons_succ])
  refine wpAnyF_take (i := 7) (v := ?_) (by kernel_rfl) (by kernel_rfl) rfl (by kernel_rfl) (by kernel_rfl) (by kernel_rfl) (fun _ _ _ h => h) (Or.inl ⟨by rfl, ?_⟩) (by assumption) ?_
  rotate_left
  · intro w' hSw; (try dsimp only at hSw); have k0 := hSw.cell 0; have k1 := hSw.cell 1; (try rw [run_index_two]); go_simp; (try with_reducible rfl)
  (try simp only [Act.put, List.getElem_toArray, List.getElem_cons_zero, List.getElem_cons_succ, List.setIfInBounds_toArray, List.set_cons_zero, List.set_cons_succ])
  refine wpAnyF_take (i := 8) (v := ?_) (by kernel_rfl) (by kernel_rfl) rfl (by kernel_rfl) (by kernel_rfl) (by kernel_rfl) (fun _ _ _ h => h) (Or.inl ⟨by rfl, ?_⟩) (by assumption) ?_
  rotate_left
  · intro w' hSw; (try dsimp only at hSw); have k0 := hSw.cell 0; have k1 := hSw.cell 1; (try rw [run_index_two]); go_simp; (try with_reducible rfl)
  (try simp only [Act.put, List.getElem_toArray, List.getElem_cons_zero, List.getElem_cons_succ, List.setIfInBounds_toArray, List.set_cons_zero, List.set_cons_succ])
  refine wpAnyF_take (i := 9) (v := ?_) (by kernel_rfl) (by kernel_rfl) rfl (by kernel_rfl) (by kernel_rfl) (by kernel_rfl) (fun _ _ _ h => h) (Or.inl ⟨by rfl, ?_⟩) (by assumption) ?_
  rotate_left
  · intro w' hSw; (try dsimp only at hSw); have k0 := hSw.cell 0; have k1 := hSw.cell 1; (try rw [run_index_two]); go_simp; (try with_reducible rfl)
  (try simp only [Act.put, List.getElem_toArray, List.getElem_cons_zero, List.getElem_cons_succ, List.setIfInBounds_toArray, List.set_cons_zero, List.set_cons_succ])
  refine wpAnyF_take (i := 10) (v := ?_) (by kernel_rfl) (by kernel_rfl) rfl (by kernel_rfl) (by kernel_rfl) (by kernel_rfl) (fun _ _ _ h => h) (Or.inl ⟨by rfl, ?_⟩) (by assumption) ?_
  rotate_left
  · intro w' hSw; (try dsimp only at hSw); have k0 := hSw.cell 0; have k1 := hSw.cell 1; (try rw [run_index_two]); go_simp; (try with_reducible rfl)
  (try simp only [Act.put, List.getElem_toArray, List.getElem_cons_zero, List.getElem_cons_succ, List.setIfInBounds_toArray, List.set_cons_zero, List.set_cons_succ])
  refine wpAnyF_take (i := 11) (v := ?_) (by kernel_rfl) (by kernel_rfl) rfl (by kernel_rfl) (by kernel_rfl) (by kernel_rfl) (fun _ _ _ h => h) (Or.inl ⟨by rfl, ?_⟩) (by assumption) ?_
  rotate_left
  · intro w' hSw; (try dsimp only at hSw); have k0 := hSw.cell 0; have k1 := hSw.cell 1; (try rw [run_index_two]); go_simp; (try with_reducible rfl)
  (try simp only [Act.put, List.getElem_toArray, List.getElem_cons_zero, List.getElem_cons_succ, List.setIfInBounds_toArray, List.set_cons_zero, List.set_cons_succ])
  refine wpAnyF_ready (rs := [5]) (by kernel_rfl) (by simp) ?_
  refine AllReadyF.cons rfl (fun KK hKK => ?_) AllReadyF.nil
  go_simp
  ((with_reducible refine (HO0.out _).mono ?_); rintro e' w4 ⟨rfl, rfl⟩)
  (try go_simp)
  refine hKK.out _ _ hHeld (fun hHeld => ?_)
  clear hKK KK
  (try simp only [Act.put, List.getElem_toArray, List.getElem_cons_zero, List.getElem_cons_succ, List.setIfInBounds_toArray, List.set_cons_zero, List.set_cons_succ])
  refine wpAnyF_take (i := 6) (v := ?_) (by kernel_rfl) (by kernel_rfl) rfl (by kernel_rfl) (by kernel_rfl) (by kernel_rfl) (fun _ _ _ h => h) (Or.inl ⟨by rfl, ?_⟩) (by assumption) ?_
  rotate_left
  · intro w' hSw; (try dsimp only at hSw); have k0 := hSw.cell 0; have k1 := hSw.cell 1; (try rw [run_index_two]); go_simp; (try with_reducible rfl)
  (try simp only [Act.put, List.getElem_toArray, List.getElem_cons_zero, List.getElem_cons_succ, List.setIfInBounds_toArray, List.set_cons_zero, List.set_cons_succ])
  refine wpAnyF_ready (rs := [12]) (by kernel_rfl) (by simp) ?_
  refine AllReadyF.cons rfl (fun KK hKK => ?_) AllReadyF.nil
  go_simp
  ((with_reducible refine (HO1.out _).mono ?_); rintro e' w4 ⟨rfl, rfl⟩)
  (try go_simp)
  refine hKK.out _ _ hHeld (fun hHeld => ?_)
  clear hKK KK
  (try simp only [Act.put, List.getElem_toArray, List.getElem_cons_zero, List.getElem_cons_succ, List.setIfInBounds_toArray, List.set_cons_zero, List.set_cons_succ])
  refine wpAnyF_take (i := 13) (v := ?_) (by kernel_rfl) (by kernel_rfl) rfl (by kernel_rfl) (by kernel_rfl) (by kernel_rfl) (fun _ _ _ h => h) (Or.inl ⟨by rfl, ?_⟩) (by assumption) ?_
  rotate_left
  · intro w' hSw; (try dsimp only at hSw); have k0 := hSw.cell 0; have k1 := hSw.cell 1; (try rw [run_index_two]); go_simp; (try with_reducible rfl)
  (try simp only [Act.put, List.getElem_toArray, List.getElem_cons_zero, List.getElem_cons_succ, List.setIfInBounds_toArray, List.set_cons_zero, List.set_cons_succ])
  refine wpAnyF_take (i := 14) (v := ?_) (by kernel_rfl) (by kernel_rfl) rfl (by kernel_rfl) (by kernel_rfl) (by kernel_rfl) (fun _ _ _ h => h) (Or.inl ⟨by rfl, ?_⟩) (by assumption) ?_
  rotate_left
  · intro w' hSw; (try dsimp only at hSw); have k0 := hSw.cell 0; have k1 := hSw.cell 1; (try rw [run_index_two]); go_simp; (try with_reducible rfl)
  (try simp only [Act.put, List.getElem_toArray, List.getElem_cons_zero, List.getElem_cons_succ, List.setIfInBounds_toArray, List.set_cons_zero, List.set_cons_succ])
  refine wpAnyF_take (i := 15) (v := ?_) (by kernel_rfl) (by kernel_rfl) rfl (by kernel_rfl) (by kernel_rfl) (by kernel_rfl) (fun _ _ _ h => h) (Or.inl ⟨by rfl, ?_⟩) (by assumption) ?_
  rotate_left
  · intro w' hSw; (try dsimp only at hSw); have k0 := hSw.cell 0; have k1 := hSw.cell 1; (try rw [run_index_two]); go_simp; (try with_reducible rfl)
  (try simp only [Act.put, List.getElem_toArray, List.getElem_cons_zero, List.getElem_cons_succ, List.setIfInBounds_toArray, List.set_cons_zero, List.set_cons_succ])
  refine wpAnyF_done (by kernel_rfl) ?_ _
  refine NoPanic.normal ?_
  go_wp2
  go_ret2
  exact ⟨rfl, HB1.out⟩
set_option maxRecDepth 100000 in
set_option maxHeartbeats 2000000 in
theorem rread_typer (h : RdAt w lo hi' b c D) (ok : D.Ok) {off wd : Int} (f n : Int)
    (HF : Hi (Calls Tryz.prog 89 #[.int .i64 off, .int .i64 wd] w (Finds w (⟨2, f, n⟩, 0)))) :
    Calls Tryz.prog 59 #[.pointer (some ⟨b 0, 0, none⟩), .int .i64 off, .int .i64 wd] w fun e w' => e = .returned (.tuple #[.int .u64 (typerN D : Nat), .int .i64 0]) ∧ Below w.heap.size w w' := by
  unfold Finds at HF
  dsimp only [Pl.v] at HF
  have HD := hi h
  have hlt := h.box.lt
  have hm := ok.m
  have hn1 := ok.n1
  have hn8 := ok.n8
  have HK := hi (fun W (q : RdAt W lo hi' b c D) => q.box)
  unfold typerN
  obtain ⟨m, hm'⟩ : ∃ m, D.sh.length = m := ⟨_, rfl⟩
  obtain ⟨k, hk'⟩ : ∃ k, D.cs.length = k := ⟨_, rfl⟩
  rw [hm', hk'] at HK
  rw [hm'] at hm ⊢
  rw [hk'] at hn1 hn8 ⊢
  have w2 : IntKind.i64.wrap ((m : Int) + 31) = ((m + 31 : Nat) : Int) := by rw [IntKind.wrap_i64]; omega
  have w3 : ((m + 31 : Nat) : Int).tdiv 32 = (((m + 31) / 32 : Nat) : Int) := by rw [Int.tdiv_eq_ediv_of_nonneg (by omega)]; omega
  obtain ⟨r, hr⟩ : ∃ r, (m + 31) / 32 = r := ⟨_, rfl⟩
  have hr3 : r ≤ 3 := by omega
  rw [hr] at w3 ⊢
  obtain ⟨x, hx⟩ : ∃ x, m + 31 = x := ⟨_, rfl⟩
  rw [hx] at w2 w3
  have w4 : IntKind.i64.wrap (r : Int) = r := by rw [IntKind.wrap_i64]; omega
  obtain ⟨t, ht⟩ : ∃ t, k - 1 = t := ⟨_, rfl⟩
  have w5 : IntKind.i64.wrap ((k : Int) - 1) = t := by rw [IntKind.wrap_i64]; omega
  have w6 : IntKind.i64.wrap (32 * (t : Int)) = ((t * 32 : Nat) : Int) := by rw [IntKind.wrap_i64]; omega
  rw [ht]
  obtain ⟨y, hy⟩ : ∃ y, t * 32 = y := ⟨_, rfl⟩
  rw [hy] at w6 ⊢
  have w7 : IntKind.i64.wrap ((r : Int) + (y : Int)) = ((r + y : Nat) : Int) := by rw [IntKind.wrap_i64]; omega
  obtain ⟨z, hz⟩ : ∃ z, r + y = z := ⟨_, rfl⟩
  rw [hz] at w7 ⊢
  have w8 : IntKind.i64.wrap ((z : Int) + 131072) = ((z + 131072 : Nat) : Int) := by rw [IntKind.wrap_i64]; omega
  obtain ⟨q, hq⟩ : ∃ q, z + 131072 = q := ⟨_, rfl⟩
  rw [hq] at w8 ⊢
  have w9 : IntKind.u64.wrap (q : Int) = q := by rw [IntKind.wrap_u64]; omega
  clear h ok hm' hk' hr hx ht hy hz hq
  go_enter Tryz.func59, Tryz.ntmps59
  go_wp2_with (first
    | (go_at_call 89; ((with_reducible refine HF.out.mono ?_); rintro e' wF ⟨rfl, hb⟩; have HB := hi (hb.alloc hb.size (.cells #[.int .i64 2, .int .i64 f, .int .i64 n] 70)); have HPB := hi (CB.new wF 70 #[.int .i64 2, .int .i64 f, .int .i64 n]); have hsz := hb.size; clear hb)))
  obtain ⟨W1, hW1⟩ : ∃ W1, wF.alloc (.cells #[.int .i64 2, .int .i64 f, .int .i64 n] 70) = W1 := ⟨_, rfl⟩
  obtain ⟨N, hN⟩ : ∃ N, wF.heap.size = N := ⟨_, rfl⟩
  rw [hW1] at HB HPB ⊢
  rw [hN] at HPB hsz ⊢
  have HB1 := hi (show Below w.heap.size w W1.drew from Below.drewN (m := 1) HB.out)
  have HD1 := hi (HD.out.below HB1.out)
  have HPB1 := hi HPB.out.drew
  clear hW1 hN HPB
  refine wp_region_noPanic ?_
  refine wp_region_last_drew (S := (fun W' => CB W' (b 0) 105 #[.bool D.g0, .bool D.g1, .pointer (some ⟨b 5, 0, none⟩), .slice (some ⟨b 1, 0, none⟩) m (c 0), .slice (some ⟨b 2, 0, none⟩) m (c 1), .slice (some ⟨b 3, 0, none⟩) k (c 2), .slice (some ⟨b 4, 0, none⟩) k (c 3)])) [] (by kernel_rfl) (HK.out _ HD1.out) (fun hHeld => ?_)
  (try simp only [Array.replicate_succ, Array.replicate_zero, List.push_toArray, List.nil_append, List.cons_append])
  obtain ⟨Wd, hWd⟩ : ∃ Wd, W1.drew = Wd := ⟨_, rfl⟩
  rw [hWd] at HD1 HB1 HPB1 hHeld ⊢
  clear hWd
  refine wpAnyF_take (i := 0) (v := ?_) (by kernel_rfl) (by kernel_rfl) rfl (by kernel_rfl) (by kernel_rfl) (by kernel_rfl) (fun _ _ _ h => h) (Or.inl ⟨by rfl, ?_⟩) (by assumption) ?_
  rotate_left
  · intro w' hSw; (try dsimp only at hSw); have k3 := hSw.cell 3; have k5 := hSw.cell 5; go_simp; (try with_reducible rfl)
  (try simp only [Act.put, List.getElem_toArray, List.getElem_cons_zero, List.setIfInBounds_toArray, List.set_cons_zero, List.set_cons_succ])
  refine wpAnyF_take (i := 1) (v := ?_) (by kernel_rfl) (by kernel_rfl) rfl (by kernel_rfl) (by kernel_rfl) (by kernel_rfl) (fun _ _ _ h => h) (Or.inl ⟨by rfl, ?_⟩) (by assumption) ?_
  rotate_left
  · intro w' hSw; (try dsimp only at hSw); have k3 := hSw.cell 3; have k5 := hSw.cell 5; go_simp; (try with_reducible rfl)
  (try simp only [Act.put, List.getElem_toArray, List.getElem_cons_zero, List.getElem_cons_succ, List.setIfInBounds_toArray, List.set_cons_zero, List.set_cons_succ])
  refine wpAnyF_take (i := 2) (v := ?_) (by kernel_rfl) (by kernel_rfl) rfl (by kernel_rfl) (by kernel_rfl) (by kernel_rfl) (fun _ _ _ h => h) (Or.inl ⟨by rfl, ?_⟩) (by assumption) ?_
  rotate_left
  · intro w' hSw; (try dsimp only at hSw); have k3 := hSw.cell 3; have k5 := hSw.cell 5; go_simp; (try with_reducible rfl)
  (try simp only [Act.put, List.getElem_toArray, List.getElem_cons_zero, List.getElem_cons_succ, List.setIfInBounds_toArray, List.set_cons_zero, List.set_cons_succ])
  refine wpAnyF_take (i := 3) (v := ?_) (by kernel_rfl) (by kernel_rfl) rfl (by kernel_rfl) (by kernel_rfl) (by kernel_rfl) (fun _ _ _ h => h) (Or.inl ⟨by rfl, ?_⟩) (by assumption) ?_
  rotate_left
  · intro w' hSw; (try dsimp only at hSw); have k3 := hSw.cell 3; have k5 := hSw.cell 5; go_simp; (try with_reducible rfl)
  (try simp only [Act.put, List.getElem_toArray, List.getElem_cons_zero, List.getElem_cons_succ, List.setIfInBounds_toArray, List.set_cons_zero, List.set_cons_succ])
  refine wpAnyF_take (i := 4) (v := ?_) (by kernel_rfl) (by kernel_rfl) rfl (by kernel_rfl) (by kernel_rfl) (by kernel_rfl) (fun _ _ _ h => h) (Or.inl ⟨by rfl, ?_⟩) (by assumption) ?_
  rotate_left
  · intro w' hSw; (try dsimp only at hSw); have k3 := hSw.cell 3; have k5 := hSw.cell 5; go_simp; (try with_reducible rfl)
  (try simp only [Act.put, List.getElem_toArray, List.getElem_cons_zero, List.getElem_cons_succ, List.setIfInBounds_toArray, List.set_cons_zero, List.set_cons_succ])
  refine wpAnyF_take (i := 5) (v := ?_) (by kernel_rfl) (by kernel_rfl) rfl (by kernel_rfl) (by kernel_rfl) (by kernel_rfl) (fun _ _ _ h => h) (Or.inl ⟨by rfl, ?_⟩) (by assumption) ?_
  rotate_left
  · intro w' hSw; (try dsimp only at hSw); have k3 := hSw.cell 3; have k5 := hSw.cell 5; go_simp; (try with_reducible rfl)
  (try simp only [Act.put, List.getElem_toArray, List.getElem_cons_zero, List.getElem_cons_succ, List.setIfInBounds_toArray, List.set_cons_zero, List.set_cons_succ])
  refine wpAnyF_take (i := 6) (v := ?_) (by kernel_rfl) (by kernel_rfl) rfl (by kernel_rfl) (by kernel_rfl) (by kernel_rfl) (fun _ _ _ h => h) (Or.inl ⟨by rfl, ?_⟩) (by assumption) ?_
  rotate_left
  · intro w' hSw; (try dsimp only at hSw); have k3 := hSw.cell 3; have k5 := hSw.cell 5; go_simp; (try with_reducible rfl)
  (try simp only [Act.put, List.getElem_toArray, List.getElem_cons_zero, List.getElem_cons_succ, List.setIfInBounds_toArray, List.set_cons_zero, List.set_cons_succ])
  refine wpAnyF_take (i := 7) (v := ?_) (by kernel_rfl) (by kernel_rfl) rfl (by kernel_rfl) (by kernel_rfl) (by kernel_rfl) (fun _ _ _ h => h) (Or.inl ⟨by rfl, ?_⟩) (by assumption) ?_
  rotate_left
  · intro w' hSw; (try dsimp only at hSw); have k3 := hSw.cell 3; have k5 := hSw.cell 5; go_simp; (try with_reducible rfl)
  (try simp only [Act.put, List.getElem_toArray, List.getElem_cons_zero, List.getElem_cons_succ, List.setIfInBounds_toArray, List.set_cons_zero, List.set_cons_succ])
  refine wpAnyF_take (i := 8) (v := ?_) (by kernel_rfl) (by kernel_rfl) rfl (by kernel_rfl) (by kernel_rfl) (by kernel_rfl) (fun _ _ _ h => h) (Or.inl ⟨by rfl, ?_⟩) (by assumption) ?_
  rotate_left
  · intro w' hSw; (try dsimp only at hSw); have k3 := hSw.cell 3; have k5 := hSw.cell 5; go_simp; (try with_reducible rfl)
  (try simp only [Act.put, List.getElem_toArray, List.getElem_cons_zero, List.getElem_cons_succ, List.setIfInBounds_toArray, List.set_cons_zero, List.set_cons_succ])
  refine wpAnyF_take (i := 9) (v := ?_) (by kernel_rfl) (by kernel_rfl) rfl (by kernel_rfl) (by kernel_rfl) (by kernel_rfl) (fun _ _ _ h => h) (Or.inl ⟨by rfl, ?_⟩) (by assumption) ?_
  rotate_left
  · intro w' hSw; (try dsimp only at hSw); have k3 := hSw.cell 3; have k5 := hSw.cell 5; go_simp; (try with_reducible rfl)
  (try simp only [Act.put, List.getElem_toArray, List.getElem_cons_zero, List.getElem_cons_succ, List.setIfInBounds_toArray, List.set_cons_zero, List.set_cons_succ])
  refine wpAnyF_take (i := 10) (v := ?_) (by kernel_rfl) (by kernel_rfl) rfl (by kernel_rfl) (by kernel_rfl) (by kernel_rfl) (fun _ _ _ h => h) (Or.inl ⟨by rfl, ?_⟩) (by assumption) ?_
  rotate_left
  · intro w' hSw; (try dsimp only at hSw); have k3 := hSw.cell 3; have k5 := hSw.cell 5; go_simp; (try with_reducible rfl)
  (try simp only [Act.put, List.getElem_toArray, List.getElem_cons_zero, List.getElem_cons_succ, List.setIfInBounds_toArray, List.set_cons_zero, List.set_cons_succ])
  refine wpAnyF_take (i := 11) (v := ?_) (by kernel_rfl) (by kernel_rfl) rfl (by kernel_rfl) (by kernel_rfl) (by kernel_rfl) (fun _ _ _ h => h) (Or.inl ⟨by rfl, ?_⟩) (by assumption) ?_
  rotate_left
  · intro w' hSw; (try dsimp only at hSw); have k3 := hSw.cell 3; have k5 := hSw.cell 5; go_simp; (try with_reducible rfl)
  (try simp only [Act.put, List.getElem_toArray, List.getElem_cons_zero, List.getElem_cons_succ, List.setIfInBounds_toArray, List.set_cons_zero, List.set_cons_succ])
  refine wpAnyF_take (i := 12) (v := ?_) (by kernel_rfl) (by kernel_rfl) rfl (by kernel_rfl) (by kernel_rfl) (by kernel_rfl) (fun _ _ _ h => h) (Or.inl ⟨by rfl, ?_⟩) (by assumption) ?_
  rotate_left
  · intro w' hSw; (try dsimp only at hSw); have k3 := hSw.cell 3; have k5 := hSw.cell 5; go_simp; (try with_reducible rfl)
  (try simp only [Act.put, List.getElem_toArray, List.getElem_cons_zero, List.getElem_cons_succ, List.setIfInBounds_toArray, List.set_cons_zero, List.set_cons_succ])
  refine wpAnyF_take (i := 13) (v := ?_) (by kernel_rfl) (by kernel_rfl) rfl (by kernel_rfl) (by kernel_rfl) (by kernel_rfl) (fun _ _ _ h => h) (Or.inl ⟨by rfl, ?_⟩) (by assumption) ?_
  rotate_left
  · intro w' hSw; (try dsimp only at hSw); have k3 := hSw.cell 3; have k5 := hSw.cell 5; go_simp; (try with_reducible rfl)
  (try simp only [Act.put, List.getElem_toArray, List.getElem_cons_zero, List.getElem_cons_succ, List.setIfInBounds_toArray, List.set_cons_zero, List.set_cons_succ])
  refine wpAnyF_take (i := 14) (v := ?_) (by kernel_rfl) (by kernel_rfl) rfl (by kernel_rfl) (by kernel_rfl) (by kernel_rfl) (fun _ _ _ h => h) (Or.inl ⟨by rfl, ?_⟩) (by assumption) ?_
  rotate_left
  · intro w' hSw; (try dsimp only at hSw); have k3 := hSw.cell 3; have k5 := hSw.cell 5; go_simp; (try with_reducible rfl)
  (try simp only [Act.put, List.getElem_toArray, List.getElem_cons_zero, List.getElem_cons_succ, List.setIfInBounds_toArray, List.set_cons_zero, List.set_cons_succ])
  refine wpAnyF_take (i := 15) (v := ?_) (by kernel_rfl) (by kernel_rfl) rfl (by kernel_rfl) (by kernel_rfl) (by kernel_rfl) (fun _ _ _ h => h) (Or.inl ⟨by rfl, ?_⟩) (by assumption) ?_
  rotate_left
  · intro w' hSw; (try dsimp only at hSw); have k3 := hSw.cell 3; have k5 := hSw.cell 5; go_simp; (try with_reducible rfl)
  (try simp only [Act.put, List.getElem_toArray, List.getElem_cons_zero, List.getElem_cons_succ, List.setIfInBounds_toArray, List.set_cons_zero, List.set_cons_succ])
  refine wpAnyF_take (i := 16) (v := ?_) (by kernel_rfl) (by kernel_rfl) rfl (by kernel_rfl) (by kernel_rfl) (by kernel_rfl) (fun _ _ _ h => h) (Or.inl ⟨by rfl, ?_⟩) (by assumption) ?_
  rotate_left
  · intro w' hSw; (try dsimp only at hSw); have k3 := hSw.cell 3; have k5 := hSw.cell 5; go_simp; (try with_reducible rfl)
  (try simp only [Act.put, List.getElem_toArray, List.getElem_cons_zero, List.getElem_cons_succ, List.setIfInBounds_toArray, List.set_cons_zero, List.set_cons_succ])
  refine wpAnyF_take (i := 17) (v := ?_) (by kernel_rfl) (by kernel_rfl) rfl (by kernel_rfl) (by kernel_rfl) (by kernel_rfl) (fun _ _ _ h => h) (Or.inl ⟨by rfl, ?_⟩) (by assumption) ?_
  rotate_left
  · intro w' hSw; (try dsimp only at hSw); have k3 := hSw.cell 3; have k5 := hSw.cell 5; go_simp; (try with_reducible rfl)
  (try simp only [Act.put, List.getElem_toArray, List.getElem_cons_zero, List.getElem_cons_succ, List.setIfInBounds_toArray, List.set_cons_zero, List.set_cons_succ])
  refine wpAnyF_take (i := 18) (v := ?_) (by kernel_rfl) (by kernel_rfl) rfl (by kernel_rfl) (by kernel_rfl) (by kernel_rfl) (fun _ _ _ h => h) (Or.inl ⟨by rfl, ?_⟩) (by assumption) ?_
  rotate_left
  · intro w' hSw; (try dsimp only at hSw); have k3 := hSw.cell 3; have k5 := hSw.cell 5; go_simp; (try with_reducible rfl)
  (try simp only [Act.put, List.getElem_toArray, List.getElem_cons_zero, List.getElem_cons_succ, List.setIfInBounds_toArray, List.set_cons_zero, List.set_cons_succ])
  refine wpAnyF_done (by kernel_rfl) ?_ _
  refine NoPanic.normal ?_
  go_wp2
  go_ret2
  exact ⟨rfl, HB1.out⟩
set_option maxRecDepth 100000 in
set_option maxHeartbeats 2000000 in
theorem rread_rout (h : RdAt w lo hi' b c D) (ok : D.Ok) {off wd : Int} (f n : Int)
    (HF : Hi (Calls Tryz.prog 89 #[.int .i64 off, .int .i64 wd] w (Finds w (⟨13, f, n⟩, 0)))) :
    Calls Tryz.prog 59 #[.pointer (some ⟨b 0, 0, none⟩), .int .i64 off, .int .i64 wd] w fun e w' => e = .returned (.tuple #[.int .u64 (routN D f : Nat), .int .i64 0]) ∧ Below w.heap.size w w' := by
  unfold Finds at HF
  dsimp only [Pl.v] at HF
  have HD := hi h
  have hlt := h.box.lt
  have HA := hi (fun W (q : Below w.heap.size w W) => rfb_at f (h.below q).shr ok.fitS)
  unfold routN
  cases hb : hasB 32 D.sh.length f
  · simp only [Bool.false_eq_true, if_false]
    rw [atI_no hb] at HA
    clear h ok hb
    go_enter Tryz.func59, Tryz.ntmps59
    go_wp2_with (first
      | (go_at_call 89; ((with_reducible refine HF.out.mono ?_); rintro e' wF ⟨rfl, hb⟩; have HB := hi (hb.alloc hb.size (.cells #[.int .i64 13, .int .i64 f, .int .i64 n] 70)); have HPB := hi (CB.new wF 70 #[.int .i64 13, .int .i64 f, .int .i64 n]); have hsz := hb.size; clear hb)))
    obtain ⟨W1, hW1⟩ : ∃ W1, wF.alloc (.cells #[.int .i64 13, .int .i64 f, .int .i64 n] 70) = W1 := ⟨_, rfl⟩
    obtain ⟨N, hN⟩ : ∃ N, wF.heap.size = N := ⟨_, rfl⟩
    rw [hW1] at HB HPB ⊢
    rw [hN] at HPB hsz ⊢
    have HB1 := hi (show Below w.heap.size w W1.drew from Below.drewN (m := 1) HB.out)
    have HD1 := hi (HD.out.below HB1.out)
    have HPB1 := hi HPB.out.drew
    clear hW1 hN HPB
    refine wp_region_noPanic ?_
    refine wp_region_last_drew (S := (fun W' => CB W' (b 0) 105 #[.bool D.g0, .bool D.g1, .pointer (some ⟨b 5, 0, none⟩), .slice (some ⟨b 1, 0, none⟩) D.sh.length (c 0), .slice (some ⟨b 2, 0, none⟩) D.sh.length (c 1), .slice (some ⟨b 3, 0, none⟩) D.cs.length (c 2), .slice (some ⟨b 4, 0, none⟩) D.cs.length (c 3)] ∧ CB W' N 70 #[.int .i64 13, .int .i64 f, .int .i64 n])) [] (by kernel_rfl) ⟨HD1.out.box, HPB1.out⟩ (fun hHeld => ?_)
    (try simp only [Array.replicate_succ, Array.replicate_zero, List.push_toArray, List.nil_append, List.cons_append])
    obtain ⟨Wd, hWd⟩ : ∃ Wd, W1.drew = Wd := ⟨_, rfl⟩
    rw [hWd] at HD1 HB1 HPB1 hHeld ⊢
    clear hWd
    refine wpAnyF_take (i := 0) (v := ?_) (by kernel_rfl) (by kernel_rfl) rfl (by kernel_rfl) (by kernel_rfl) (by kernel_rfl) (fun _ _ _ h => h) (Or.inl ⟨by rfl, ?_⟩) (by assumption) ?_
    rotate_left
    · intro w' hSw; (try dsimp only at hSw); have k2 := hSw.1.cell 2; have p1 := hSw.2.cell 1; go_simp; (try with_reducible rfl)
    (try simp only [Act.put, List.getElem_toArray, List.getElem_cons_zero, List.setIfInBounds_toArray, List.set_cons_zero, List.set_cons_succ])
    refine wpAnyF_take (i := 1) (v := ?_) (by kernel_rfl) (by kernel_rfl) rfl (by kernel_rfl) (by kernel_rfl) (by kernel_rfl) (fun _ _ _ h => h) (Or.inl ⟨by rfl, ?_⟩) (by assumption) ?_
    rotate_left
    · intro w' hSw; (try dsimp only at hSw); have k2 := hSw.1.cell 2; have p1 := hSw.2.cell 1; go_simp; (try with_reducible rfl)
    (try simp only [Act.put, List.getElem_toArray, List.getElem_cons_zero, List.getElem_cons_succ, List.setIfInBounds_toArray, List.set_cons_zero, List.set_cons_succ])
    refine wpAnyF_take (i := 2) (v := ?_) (by kernel_rfl) (by kernel_rfl) rfl (by kernel_rfl) (by kernel_rfl) (by kernel_rfl) (fun _ _ _ h => h) (Or.inl ⟨by rfl, ?_⟩) (by assumption) ?_
    rotate_left
    · intro w' hSw; (try dsimp only at hSw); have k2 := hSw.1.cell 2; have p1 := hSw.2.cell 1; go_simp; (try with_reducible rfl)
    (try simp only [Act.put, List.getElem_toArray, List.getElem_cons_zero, List.getElem_cons_succ, List.setIfInBounds_toArray, List.set_cons_zero, List.set_cons_succ])
    refine wpAnyF_take (i := 3) (v := ?_) (by kernel_rfl) (by kernel_rfl) rfl (by kernel_rfl) (by kernel_rfl) (by kernel_rfl) (fun _ _ _ h => h) (Or.inl ⟨by rfl, ?_⟩) (by assumption) ?_
    rotate_left
    · intro w' hSw; (try dsimp only at hSw); have k2 := hSw.1.cell 2; have p1 := hSw.2.cell 1; go_simp; (try with_reducible rfl)
    (try simp only [Act.put, List.getElem_toArray, List.getElem_cons_zero, List.getElem_cons_succ, List.setIfInBounds_toArray, List.set_cons_zero, List.set_cons_succ])
    refine wpAnyF_take (i := 4) (v := ?_) (by kernel_rfl) (by kernel_rfl) rfl (by kernel_rfl) (by kernel_rfl) (by kernel_rfl) (fun _ _ _ h => h) (Or.inl ⟨by rfl, ?_⟩) (by assumption) ?_
    rotate_left
    · intro w' hSw; (try dsimp only at hSw); have k2 := hSw.1.cell 2; have p1 := hSw.2.cell 1; go_simp; (try with_reducible rfl)
    (try simp only [Act.put, List.getElem_toArray, List.getElem_cons_zero, List.getElem_cons_succ, List.setIfInBounds_toArray, List.set_cons_zero, List.set_cons_succ])
    refine wpAnyF_take (i := 5) (v := ?_) (by kernel_rfl) (by kernel_rfl) rfl (by kernel_rfl) (by kernel_rfl) (by kernel_rfl) (fun _ _ _ h => h) (Or.inl ⟨by rfl, ?_⟩) (by assumption) ?_
    rotate_left
    · intro w' hSw; (try dsimp only at hSw); have k2 := hSw.1.cell 2; have p1 := hSw.2.cell 1; go_simp; (try with_reducible rfl)
    (try simp only [Act.put, List.getElem_toArray, List.getElem_cons_zero, List.getElem_cons_succ, List.setIfInBounds_toArray, List.set_cons_zero, List.set_cons_succ])
    refine wpAnyF_ready (rs := [6]) (by kernel_rfl) (by simp) ?_
    refine AllReadyF.cons rfl (fun KK hKK => ?_) AllReadyF.nil
    go_simp
    ((with_reducible refine (HA.out _ HB1.out).mono ?_); rintro e' w4 ⟨rfl, rfl⟩)
    (try go_simp)
    refine hKK.out _ _ hHeld (fun hHeld => ?_)
    clear hKK KK
    (try simp only [Act.put, List.getElem_toArray, List.getElem_cons_zero, List.getElem_cons_succ, List.setIfInBounds_toArray, List.set_cons_zero, List.set_cons_succ])
    refine wpAnyF_take (i := 7) (v := ?_) (by kernel_rfl) (by kernel_rfl) rfl (by kernel_rfl) (by kernel_rfl) (by kernel_rfl) (fun _ _ _ h => h) (Or.inl ⟨by rfl, ?_⟩) (by assumption) ?_
    rotate_left
    · intro w' hSw; (try dsimp only at hSw); have k2 := hSw.1.cell 2; have p1 := hSw.2.cell 1; go_simp; (try with_reducible rfl)
    (try simp only [Act.put, List.getElem_toArray, List.getElem_cons_zero, List.getElem_cons_succ, List.setIfInBounds_toArray, List.set_cons_zero, List.set_cons_succ])
    refine wpAnyF_done (by kernel_rfl) ?_ _
    refine NoPanic.normal ?_
    go_wp2
    go_ret2
    exact ⟨rfl, HB1.out⟩
  · simp only [if_true]
    obtain ⟨j, rfl, hj, e1⟩ := has_at hb
    rw [e1]
    rw [atI_at hj] at HA
    have hc := ok.rt j hj
    have HM0 := hi (fun W (q : RdAt W lo hi' b c D) => And.intro q.box (And.intro (q.corec hj) (q.anyc hj)))
    obtain ⟨m, hm⟩ : ∃ m, D.sh.length = m := ⟨_, rfl⟩
    rw [hm] at hj HM0
    have hm64 : m ≤ 64 := by rw [← hm]; exact ok.m
    obtain ⟨⟨sc, sy⟩, hs⟩ : ∃ s, (nthE D.sh j).s = s := ⟨_, rfl⟩
    rw [hs] at hc HM0 ⊢
    obtain ⟨a, rfl⟩ : ∃ a : Nat, sc = a := ⟨sc.toNat, by have := hc.1; dsimp only at this; omega⟩
    have ha : a ≤ 255 := by have := hc.2; dsimp only at this; omega
    have w0 : IntKind.u64.wrap (a : Int) = a := by rw [IntKind.wrap_u64]; omega
    unfold rtN
    simp only [Int.toNat_natCast]
    obtain ⟨x, hx⟩ : ∃ x, (if sy then 2147483648 else 0) = x := ⟨_, rfl⟩
    have hx1 : x ≤ 2147483648 := by rw [← hx]; split <;> omega
    have HO := hi (fun W => rone_at sy 2147483648 x 2147483648 hx rfl W)
    rw [hx]
    have w1 : IntKind.u64.wrap ((a : Int) + (x : Int)) = ((a + x : Nat) : Int) := by rw [IntKind.wrap_u64]; omega
    obtain ⟨y, hy⟩ : ∃ y, a + x = y := ⟨_, rfl⟩
    rw [hy] at w1 ⊢
    clear h ok hb e1 hm hs hc hx hy
    go_enter Tryz.func59, Tryz.ntmps59
    go_wp2_with (first
      | (go_at_call 89; ((with_reducible refine HF.out.mono ?_); rintro e' wF ⟨rfl, hb⟩; have HB := hi (hb.alloc hb.size (.cells #[.int .i64 13, .int .i64 (32 + j), .int .i64 n] 70)); have HPB := hi (CB.new wF 70 #[.int .i64 13, .int .i64 (32 + j), .int .i64 n]); have hsz := hb.size; clear hb)))
    obtain ⟨W1, hW1⟩ : ∃ W1, wF.alloc (.cells #[.int .i64 13, .int .i64 (32 + j), .int .i64 n] 70) = W1 := ⟨_, rfl⟩
    obtain ⟨N, hN⟩ : ∃ N, wF.heap.size = N := ⟨_, rfl⟩
    rw [hW1] at HB HPB ⊢
    rw [hN] at HPB hsz ⊢
    have HB1 := hi (show Below w.heap.size w W1.drew from Below.drewN (m := 1) HB.out)
    have HD1 := hi (HD.out.below HB1.out)
    have HPB1 := hi HPB.out.drew
    clear hW1 hN HPB
    refine wp_region_noPanic ?_
    refine wp_region_last_drew (S := (fun W' => CB W' (b 0) 105 #[.bool D.g0, .bool D.g1, .pointer (some ⟨b 5, 0, none⟩), .slice (some ⟨b 1, 0, none⟩) D.sh.length (c 0), .slice (some ⟨b 2, 0, none⟩) D.sh.length (c 1), .slice (some ⟨b 3, 0, none⟩) D.cs.length (c 2), .slice (some ⟨b 4, 0, none⟩) D.cs.length (c 3)] ∧ CB W' N 70 #[.int .i64 13, .int .i64 (32 + j), .int .i64 n])) [] (by kernel_rfl) ⟨HD1.out.box, HPB1.out⟩ (fun hHeld => ?_)
    (try simp only [Array.replicate_succ, Array.replicate_zero, List.push_toArray, List.nil_append, List.cons_append])
    obtain ⟨Wd, hWd⟩ : ∃ Wd, W1.drew = Wd := ⟨_, rfl⟩
    rw [hWd] at HD1 HB1 HPB1 hHeld ⊢
    clear hWd
    refine wpAnyF_take (i := 0) (v := ?_) (by kernel_rfl) (by kernel_rfl) rfl (by kernel_rfl) (by kernel_rfl) (by kernel_rfl) (fun _ _ _ h => h) (Or.inl ⟨by rfl, ?_⟩) (by assumption) ?_
    rotate_left
    · intro w' hSw; (try dsimp only at hSw); have k2 := hSw.1.cell 2; have p1 := hSw.2.cell 1; go_simp; (try with_reducible rfl)
    (try simp only [Act.put, List.getElem_toArray, List.getElem_cons_zero, List.setIfInBounds_toArray, List.set_cons_zero, List.set_cons_succ])
    refine wpAnyF_take (i := 1) (v := ?_) (by kernel_rfl) (by kernel_rfl) rfl (by kernel_rfl) (by kernel_rfl) (by kernel_rfl) (fun _ _ _ h => h) (Or.inl ⟨by rfl, ?_⟩) (by assumption) ?_
    rotate_left
    · intro w' hSw; (try dsimp only at hSw); have k2 := hSw.1.cell 2; have p1 := hSw.2.cell 1; go_simp; (try with_reducible rfl)
    (try simp only [Act.put, List.getElem_toArray, List.getElem_cons_zero, List.getElem_cons_succ, List.setIfInBounds_toArray, List.set_cons_zero, List.set_cons_succ])
    refine wpAnyF_take (i := 2) (v := ?_) (by kernel_rfl) (by kernel_rfl) rfl (by kernel_rfl) (by kernel_rfl) (by kernel_rfl) (fun _ _ _ h => h) (Or.inl ⟨by rfl, ?_⟩) (by assumption) ?_
    rotate_left
    · intro w' hSw; (try dsimp only at hSw); have k2 := hSw.1.cell 2; have p1 := hSw.2.cell 1; go_simp; (try with_reducible rfl)
    (try simp only [Act.put, List.getElem_toArray, List.getElem_cons_zero, List.getElem_cons_succ, List.setIfInBounds_toArray, List.set_cons_zero, List.set_cons_succ])
    refine wpAnyF_take (i := 3) (v := ?_) (by kernel_rfl) (by kernel_rfl) rfl (by kernel_rfl) (by kernel_rfl) (by kernel_rfl) (fun _ _ _ h => h) (Or.inl ⟨by rfl, ?_⟩) (by assumption) ?_
    rotate_left
    · intro w' hSw; (try dsimp only at hSw); have k2 := hSw.1.cell 2; have p1 := hSw.2.cell 1; go_simp; (try with_reducible rfl)
    (try simp only [Act.put, List.getElem_toArray, List.getElem_cons_zero, List.getElem_cons_succ, List.setIfInBounds_toArray, List.set_cons_zero, List.set_cons_succ])
    refine wpAnyF_take (i := 4) (v := ?_) (by kernel_rfl) (by kernel_rfl) rfl (by kernel_rfl) (by kernel_rfl) (by kernel_rfl) (fun _ _ _ h => h) (Or.inl ⟨by rfl, ?_⟩) (by assumption) ?_
    rotate_left
    · intro w' hSw; (try dsimp only at hSw); have k2 := hSw.1.cell 2; have p1 := hSw.2.cell 1; go_simp; (try with_reducible rfl)
    (try simp only [Act.put, List.getElem_toArray, List.getElem_cons_zero, List.getElem_cons_succ, List.setIfInBounds_toArray, List.set_cons_zero, List.set_cons_succ])
    refine wpAnyF_take (i := 5) (v := ?_) (by kernel_rfl) (by kernel_rfl) rfl (by kernel_rfl) (by kernel_rfl) (by kernel_rfl) (fun _ _ _ h => h) (Or.inl ⟨by rfl, ?_⟩) (by assumption) ?_
    rotate_left
    · intro w' hSw; (try dsimp only at hSw); have k2 := hSw.1.cell 2; have p1 := hSw.2.cell 1; go_simp; (try with_reducible rfl)
    (try simp only [Act.put, List.getElem_toArray, List.getElem_cons_zero, List.getElem_cons_succ, List.setIfInBounds_toArray, List.set_cons_zero, List.set_cons_succ])
    refine wpAnyF_ready (rs := [6]) (by kernel_rfl) (by simp) ?_
    refine AllReadyF.cons rfl (fun KK hKK => ?_) AllReadyF.nil
    go_simp
    ((with_reducible refine (HA.out _ HB1.out).mono ?_); rintro e' w4 ⟨rfl, rfl⟩)
    (try go_simp)
    refine hKK.out _ _ hHeld (fun hHeld => ?_)
    clear hKK KK
    (try simp only [Act.put, List.getElem_toArray, List.getElem_cons_zero, List.getElem_cons_succ, List.setIfInBounds_toArray, List.set_cons_zero, List.set_cons_succ])
    refine wpAnyF_take (i := 7) (v := ?_) (by kernel_rfl) (by kernel_rfl) rfl (by kernel_rfl) (by kernel_rfl) (by kernel_rfl) (fun _ _ _ h => h) (Or.inl ⟨by rfl, ?_⟩) (by assumption) ?_
    rotate_left
    · intro w' hSw; (try dsimp only at hSw); have k2 := hSw.1.cell 2; have p1 := hSw.2.cell 1; go_simp; (try with_reducible rfl)
    (try simp only [Act.put, List.getElem_toArray, List.getElem_cons_zero, List.getElem_cons_succ, List.setIfInBounds_toArray, List.set_cons_zero, List.set_cons_succ])
    refine wpAnyF_done (by kernel_rfl) ?_ _
    refine NoPanic.normal ?_
    clear hHeld HPB1
    have HB2 := hi (show Below w.heap.size w Wd.drew from Below.drewN (m := 1) HB1.out)
    have HD2 := hi (HM0.out _ HD1.out.drew)
    go_wp2
    refine wp_region_noPanic ?_
    refine wp_region_last_drew (S := (fun W' => CB W' (b 0) 105 #[.bool D.g0, .bool D.g1, .pointer (some ⟨b 5, 0, none⟩), .slice (some ⟨b 1, 0, none⟩) m (c 0), .slice (some ⟨b 2, 0, none⟩) m (c 1), .slice (some ⟨b 3, 0, none⟩) D.cs.length (c 2), .slice (some ⟨b 4, 0, none⟩) D.cs.length (c 3)] ∧ W'.cell? ⟨b 1, j, none⟩ = some (.int .i64 a) ∧ W'.cell? ⟨b 2, j, none⟩ = some (.bool sy))) [] (by kernel_rfl) HD2.out (fun hHeld => ?_)
    (try simp only [Array.replicate_succ, Array.replicate_zero, List.push_toArray, List.nil_append, List.cons_append])
    refine wpAnyF_take (i := 0) (v := ?_) (by kernel_rfl) (by kernel_rfl) rfl (by kernel_rfl) (by kernel_rfl) (by kernel_rfl) (fun _ _ _ h => h) (Or.inl ⟨by rfl, ?_⟩) (by assumption) ?_
    rotate_left
    · intro w' hSw; (try dsimp only at hSw); have k3 := hSw.1.cell 3; have k4 := hSw.1.cell 4; have q1 := hSw.2.1; have q2 := hSw.2.2; go_simp; (try with_reducible rfl)
    (try simp only [Act.put, List.getElem_toArray, List.getElem_cons_zero, List.setIfInBounds_toArray, List.set_cons_zero, List.set_cons_succ])
    refine wpAnyF_take (i := 1) (v := ?_) (by kernel_rfl) (by kernel_rfl) rfl (by kernel_rfl) (by kernel_rfl) (by kernel_rfl) (fun _ _ _ h => h) (Or.inl ⟨by rfl, ?_⟩) (by assumption) ?_
    rotate_left
    · intro w' hSw; (try dsimp only at hSw); have k3 := hSw.1.cell 3; have k4 := hSw.1.cell 4; have q1 := hSw.2.1; have q2 := hSw.2.2; go_simp; (try with_reducible rfl)
    (try simp only [Act.put, List.getElem_toArray, List.getElem_cons_zero, List.getElem_cons_succ, List.setIfInBounds_toArray, List.set_cons_zero, List.set_cons_succ])
    refine wpAnyF_take (i := 2) (v := ?_) (by kernel_rfl) (by kernel_rfl) rfl (by kernel_rfl) (by kernel_rfl) (by kernel_rfl) (fun _ _ _ h => h) (Or.inl ⟨by rfl, ?_⟩) (by assumption) ?_
    rotate_left
    · intro w' hSw; (try dsimp only at hSw); have k3 := hSw.1.cell 3; have k4 := hSw.1.cell 4; have q1 := hSw.2.1; have q2 := hSw.2.2; go_simp; (try with_reducible rfl)
    (try simp only [Act.put, List.getElem_toArray, List.getElem_cons_zero, List.getElem_cons_succ, List.setIfInBounds_toArray, List.set_cons_zero, List.set_cons_succ])
    refine wpAnyF_take (i := 3) (v := ?_) (by kernel_rfl) (by kernel_rfl) rfl (by kernel_rfl) (by kernel_rfl) (by kernel_rfl) (fun _ _ _ h => h) (Or.inl ⟨by rfl, ?_⟩) (by assumption) ?_
    rotate_left
    · intro w' hSw; (try dsimp only at hSw); have k3 := hSw.1.cell 3; have k4 := hSw.1.cell 4; have q1 := hSw.2.1; have q2 := hSw.2.2; go_simp; (try with_reducible rfl)
    (try simp only [Act.put, List.getElem_toArray, List.getElem_cons_zero, List.getElem_cons_succ, List.setIfInBounds_toArray, List.set_cons_zero, List.set_cons_succ])
    refine wpAnyF_take (i := 4) (v := ?_) (by kernel_rfl) (by kernel_rfl) rfl (by kernel_rfl) (by kernel_rfl) (by kernel_rfl) (fun _ _ _ h => h) (Or.inl ⟨by rfl, ?_⟩) (by assumption) ?_
    rotate_left
    · intro w' hSw; (try dsimp only at hSw); have k3 := hSw.1.cell 3; have k4 := hSw.1.cell 4; have q1 := hSw.2.1; have q2 := hSw.2.2; go_simp; (try with_reducible rfl)
    (try simp only [Act.put, List.getElem_toArray, List.getElem_cons_zero, List.getElem_cons_succ, List.setIfInBounds_toArray, List.set_cons_zero, List.set_cons_succ])
    refine wpAnyF_take (i := 5) (v := ?_) (by kernel_rfl) (by kernel_rfl) rfl (by kernel_rfl) (by kernel_rfl) (by kernel_rfl) (fun _ _ _ h => h) (Or.inl ⟨by rfl, ?_⟩) (by assumption) ?_
    rotate_left
    · intro w' hSw; (try dsimp only at hSw); have k3 := hSw.1.cell 3; have k4 := hSw.1.cell 4; have q1 := hSw.2.1; have q2 := hSw.2.2; go_simp; (try with_reducible rfl)
    (try simp only [Act.put, List.getElem_toArray, List.getElem_cons_zero, List.getElem_cons_succ, List.setIfInBounds_toArray, List.set_cons_zero, List.set_cons_succ])
    refine wpAnyF_take (i := 6) (v := ?_) (by kernel_rfl) (by kernel_rfl) rfl (by kernel_rfl) (by kernel_rfl) (by kernel_rfl) (fun _ _ _ h => h) (Or.inl ⟨by rfl, ?_⟩) (by assumption) ?_
    rotate_left
    · intro w' hSw; (try dsimp only at hSw); have k3 := hSw.1.cell 3; have k4 := hSw.1.cell 4; have q1 := hSw.2.1; have q2 := hSw.2.2; go_simp; (try with_reducible rfl)
    (try simp only [Act.put, List.getElem_toArray, List.getElem_cons_zero, List.getElem_cons_succ, List.setIfInBounds_toArray, List.set_cons_zero, List.set_cons_succ])
    refine wpAnyF_take (i := 7) (v := ?_) (by kernel_rfl) (by kernel_rfl) rfl (by kernel_rfl) (by kernel_rfl) (by kernel_rfl) (fun _ _ _ h => h) (Or.inl ⟨by rfl, ?_⟩) (by assumption) ?_
    rotate_left
    · intro w' hSw; (try dsimp only at hSw); have k3 := hSw.1.cell 3; have k4 := hSw.1.cell 4; have q1 := hSw.2.1; have q2 := hSw.2.2; go_simp; (try with_reducible rfl)
    (try simp only [Act.put, List.getElem_toArray, List.getElem_cons_zero, List.getElem_cons_succ, List.setIfInBounds_toArray, List.set_cons_zero, List.set_cons_succ])
    refine wpAnyF_take (i := 8) (v := ?_) (by kernel_rfl) (by kernel_rfl) rfl (by kernel_rfl) (by kernel_rfl) (by kernel_rfl) (fun _ _ _ h => h) (Or.inl ⟨by rfl, ?_⟩) (by assumption) ?_
    rotate_left
    · intro w' hSw; (try dsimp only at hSw); have k3 := hSw.1.cell 3; have k4 := hSw.1.cell 4; have q1 := hSw.2.1; have q2 := hSw.2.2; go_simp; (try with_reducible rfl)
    (try simp only [Act.put, List.getElem_toArray, List.getElem_cons_zero, List.getElem_cons_succ, List.setIfInBounds_toArray, List.set_cons_zero, List.set_cons_succ])
    refine wpAnyF_take (i := 9) (v := ?_) (by kernel_rfl) (by kernel_rfl) rfl (by kernel_rfl) (by kernel_rfl) (by kernel_rfl) (fun _ _ _ h => h) (Or.inl ⟨by rfl, ?_⟩) (by assumption) ?_
    rotate_left
    · intro w' hSw; (try dsimp only at hSw); have k3 := hSw.1.cell 3; have k4 := hSw.1.cell 4; have q1 := hSw.2.1; have q2 := hSw.2.2; go_simp; (try with_reducible rfl)
    (try simp only [Act.put, List.getElem_toArray, List.getElem_cons_zero, List.getElem_cons_succ, List.setIfInBounds_toArray, List.set_cons_zero, List.set_cons_succ])
    refine wpAnyF_take (i := 10) (v := ?_) (by kernel_rfl) (by kernel_rfl) rfl (by kernel_rfl) (by kernel_rfl) (by kernel_rfl) (fun _ _ _ h => h) (Or.inl ⟨by rfl, ?_⟩) (by assumption) ?_
    rotate_left
    · intro w' hSw; (try dsimp only at hSw); have k3 := hSw.1.cell 3; have k4 := hSw.1.cell 4; have q1 := hSw.2.1; have q2 := hSw.2.2; go_simp; (try with_reducible rfl)
    (try simp only [Act.put, List.getElem_toArray, List.getElem_cons_zero, List.getElem_cons_succ, List.setIfInBounds_toArray, List.set_cons_zero, List.set_cons_succ])
    refine wpAnyF_take (i := 11) (v := ?_) (by kernel_rfl) (by kernel_rfl) rfl (by kernel_rfl) (by kernel_rfl) (by kernel_rfl) (fun _ _ _ h => h) (Or.inl ⟨by rfl, ?_⟩) (by assumption) ?_
    rotate_left
    · intro w' hSw; (try dsimp only at hSw); have k3 := hSw.1.cell 3; have k4 := hSw.1.cell 4; have q1 := hSw.2.1; have q2 := hSw.2.2; go_simp; (try with_reducible rfl)
    (try simp only [Act.put, List.getElem_toArray, List.getElem_cons_zero, List.getElem_cons_succ, List.setIfInBounds_toArray, List.set_cons_zero, List.set_cons_succ])
    refine wpAnyF_take (i := 12) (v := ?_) (by kernel_rfl) (by kernel_rfl) rfl (by kernel_rfl) (by kernel_rfl) (by kernel_rfl) (fun _ _ _ h => h) (Or.inl ⟨by rfl, ?_⟩) (by assumption) ?_
    rotate_left
    · intro w' hSw; (try dsimp only at hSw); have k3 := hSw.1.cell 3; have k4 := hSw.1.cell 4; have q1 := hSw.2.1; have q2 := hSw.2.2; go_simp; (try with_reducible rfl)
    (try simp only [Act.put, List.getElem_toArray, List.getElem_cons_zero, List.getElem_cons_succ, List.setIfInBounds_toArray, List.set_cons_zero, List.set_cons_succ])
    refine wpAnyF_take (i := 13) (v := ?_) (by kernel_rfl) (by kernel_rfl) rfl (by kernel_rfl) (by kernel_rfl) (by kernel_rfl) (fun _ _ _ h => h) (Or.inl ⟨by rfl, ?_⟩) (by assumption) ?_
    rotate_left
    · intro w' hSw; (try dsimp only at hSw); have k3 := hSw.1.cell 3; have k4 := hSw.1.cell 4; have q1 := hSw.2.1; have q2 := hSw.2.2; go_simp; (try with_reducible rfl)
    (try simp only [Act.put, List.getElem_toArray, List.getElem_cons_zero, List.getElem_cons_succ, List.setIfInBounds_toArray, List.set_cons_zero, List.set_cons_succ])
    refine wpAnyF_take (i := 14) (v := ?_) (by kernel_rfl) (by kernel_rfl) rfl (by kernel_rfl) (by kernel_rfl) (by kernel_rfl) (fun _ _ _ h => h) (Or.inl ⟨by rfl, ?_⟩) (by assumption) ?_
    rotate_left
    · intro w' hSw; (try dsimp only at hSw); have k3 := hSw.1.cell 3; have k4 := hSw.1.cell 4; have q1 := hSw.2.1; have q2 := hSw.2.2; go_simp; (try with_reducible rfl)
    (try simp only [Act.put, List.getElem_toArray, List.getElem_cons_zero, List.getElem_cons_succ, List.setIfInBounds_toArray, List.set_cons_zero, List.set_cons_succ])
    refine wpAnyF_ready (rs := [15]) (by kernel_rfl) (by simp) ?_
    refine AllReadyF.cons rfl (fun KK hKK => ?_) AllReadyF.nil
    go_simp
    ((with_reducible refine (HO.out _).mono ?_); rintro e' w4 ⟨rfl, rfl⟩)
    (try go_simp)
    refine hKK.out _ _ hHeld (fun hHeld => ?_)
    clear hKK KK
    (try simp only [Act.put, List.getElem_toArray, List.getElem_cons_zero, List.getElem_cons_succ, List.setIfInBounds_toArray, List.set_cons_zero, List.set_cons_succ])
    refine wpAnyF_take (i := 16) (v := ?_) (by kernel_rfl) (by kernel_rfl) rfl (by kernel_rfl) (by kernel_rfl) (by kernel_rfl) (fun _ _ _ h => h) (Or.inl ⟨by rfl, ?_⟩) (by assumption) ?_
    rotate_left
    · intro w' hSw; (try dsimp only at hSw); have k3 := hSw.1.cell 3; have k4 := hSw.1.cell 4; have q1 := hSw.2.1; have q2 := hSw.2.2; go_simp; (try with_reducible rfl)
    (try simp only [Act.put, List.getElem_toArray, List.getElem_cons_zero, List.getElem_cons_succ, List.setIfInBounds_toArray, List.set_cons_zero, List.set_cons_succ])
    refine wpAnyF_take (i := 17) (v := ?_) (by kernel_rfl) (by kernel_rfl) rfl (by kernel_rfl) (by kernel_rfl) (by kernel_rfl) (fun _ _ _ h => h) (Or.inl ⟨by rfl, ?_⟩) (by assumption) ?_
    rotate_left
    · intro w' hSw; (try dsimp only at hSw); have k3 := hSw.1.cell 3; have k4 := hSw.1.cell 4; have q1 := hSw.2.1; have q2 := hSw.2.2; go_simp; (try with_reducible rfl)
    (try simp only [Act.put, List.getElem_toArray, List.getElem_cons_zero, List.getElem_cons_succ, List.setIfInBounds_toArray, List.set_cons_zero, List.set_cons_succ])
    refine wpAnyF_take (i := 18) (v := ?_) (by kernel_rfl) (by kernel_rfl) rfl (by kernel_rfl) (by kernel_rfl) (by kernel_rfl) (fun _ _ _ h => h) (Or.inl ⟨by rfl, ?_⟩) (by assumption) ?_
    rotate_left
    · intro w' hSw; (try dsimp only at hSw); have k3 := hSw.1.cell 3; have k4 := hSw.1.cell 4; have q1 := hSw.2.1; have q2 := hSw.2.2; go_simp; (try with_reducible rfl)
    (try simp only [Act.put, List.getElem_toArray, List.getElem_cons_zero, List.getElem_cons_succ, List.setIfInBounds_toArray, List.set_cons_zero, List.set_cons_succ])
    refine wpAnyF_done (by kernel_rfl) ?_ _
    refine NoPanic.normal ?_
    go_wp2
    go_ret2
    exact ⟨rfl, HB2.out⟩
set_option maxRecDepth 100000 in
set_option maxHeartbeats 2000000 in
theorem rread_rest (h : RdAt w lo hi' b c D) (ok : D.Ok) {off wd : Int} (r f n : Int) (hp : PlOk ⟨r, f, n⟩ n.toNat) (h1 : r ≠ 1) (h2 : r ≠ 2) (h13 : r ≠ 13)
    (HF : Hi (Calls Tryz.prog 89 #[.int .i64 off, .int .i64 wd] w (Finds w (⟨r, f, n⟩, 0)))) :
    Calls Tryz.prog 59 #[.pointer (some ⟨b 0, 0, none⟩), .int .i64 off, .int .i64 wd] w fun e w' => e = .returned (.tuple #[.int .u64 (readV ⟨r, f, n⟩ n.toNat 32 D.sh : Nat), .int .i64 0]) ∧ Below w.heap.size w w' := by
  unfold Finds at HF
  dsimp only [Pl.v] at HF
  have HD := hi h
  have hlt := h.box.lt
  have q1 : (r == 1) = false := by simpa using h1
  have q2 : (r == 2) = false := by simpa using h2
  have q3 : (r == 13) = false := by simpa using h13
  have HRD := hi (fun W (q : Below w.heap.size w W) => rfb_read (h.below q).shr ok.fitS ok.fsh hp)
  obtain ⟨V, hV⟩ : ∃ V, readV ⟨r, f, n⟩ n.toNat 32 D.sh = V := ⟨_, rfl⟩
  rw [hV] at HRD ⊢
  clear h ok hp hV h1 h2 h13
  dsimp only [Pl.v] at HRD
  go_enter Tryz.func59, Tryz.ntmps59
  go_wp2_with (first
    | (go_at_call 89; ((with_reducible refine HF.out.mono ?_); rintro e' wF ⟨rfl, hb⟩; have HB := hi (hb.alloc hb.size (.cells #[.int .i64 r, .int .i64 f, .int .i64 n] 70)); have HPB := hi (CB.new wF 70 #[.int .i64 r, .int .i64 f, .int .i64 n]); have hsz := hb.size; clear hb)))
  obtain ⟨W1, hW1⟩ : ∃ W1, wF.alloc (.cells #[.int .i64 r, .int .i64 f, .int .i64 n] 70) = W1 := ⟨_, rfl⟩
  obtain ⟨N, hN⟩ : ∃ N, wF.heap.size = N := ⟨_, rfl⟩
  rw [hW1] at HB HPB ⊢
  rw [hN] at HPB hsz ⊢
  have HB1 := hi (show Below w.heap.size w W1.drew from Below.drewN (m := 1) HB.out)
  have HD1 := hi (HD.out.below HB1.out)
  have HPB1 := hi HPB.out.drew
  clear hW1 hN HPB
  refine wp_region_noPanic ?_
  refine wp_region_last_drew (S := (fun W' => CB W' (b 0) 105 #[.bool D.g0, .bool D.g1, .pointer (some ⟨b 5, 0, none⟩), .slice (some ⟨b 1, 0, none⟩) D.sh.length (c 0), .slice (some ⟨b 2, 0, none⟩) D.sh.length (c 1), .slice (some ⟨b 3, 0, none⟩) D.cs.length (c 2), .slice (some ⟨b 4, 0, none⟩) D.cs.length (c 3)] ∧ CB W' N 70 #[.int .i64 r, .int .i64 f, .int .i64 n])) [] (by kernel_rfl) ⟨HD1.out.box, HPB1.out⟩ (fun hHeld => ?_)
  (try simp only [Array.replicate_succ, Array.replicate_zero, List.push_toArray, List.nil_append, List.cons_append])
  obtain ⟨Wd, hWd⟩ : ∃ Wd, W1.drew = Wd := ⟨_, rfl⟩
  rw [hWd] at HD1 HB1 HPB1 hHeld ⊢
  clear hWd
  refine wpAnyF_take (i := 0) (v := ?_) (by kernel_rfl) (by kernel_rfl) rfl (by kernel_rfl) (by kernel_rfl) (by kernel_rfl) (fun _ _ _ h => h) (Or.inl ⟨by rfl, ?_⟩) (by assumption) ?_
  rotate_left
  · intro w' hSw; (try dsimp only at hSw); have k2 := hSw.1.cell 2; have p0 := hSw.2.cell 0; have p1 := hSw.2.cell 1; have p2 := hSw.2.cell 2; go_simp; (try with_reducible rfl)
  (try simp only [Act.put, List.getElem_toArray, List.getElem_cons_zero, List.setIfInBounds_toArray, List.set_cons_zero, List.set_cons_succ])
  refine wpAnyF_take (i := 1) (v := ?_) (by kernel_rfl) (by kernel_rfl) rfl (by kernel_rfl) (by kernel_rfl) (by kernel_rfl) (fun _ _ _ h => h) (Or.inl ⟨by rfl, ?_⟩) (by assumption) ?_
  rotate_left
  · intro w' hSw; (try dsimp only at hSw); have k2 := hSw.1.cell 2; have p0 := hSw.2.cell 0; have p1 := hSw.2.cell 1; have p2 := hSw.2.cell 2; go_simp; (try with_reducible rfl)
  (try simp only [Act.put, List.getElem_toArray, List.getElem_cons_zero, List.getElem_cons_succ, List.setIfInBounds_toArray, List.set_cons_zero, List.set_cons_succ])
  refine wpAnyF_take (i := 2) (v := ?_) (by kernel_rfl) (by kernel_rfl) rfl (by kernel_rfl) (by kernel_rfl) (by kernel_rfl) (fun _ _ _ h => h) (Or.inl ⟨by rfl, ?_⟩) (by assumption) ?_
  rotate_left
  · intro w' hSw; (try dsimp only at hSw); have k2 := hSw.1.cell 2; have p0 := hSw.2.cell 0; have p1 := hSw.2.cell 1; have p2 := hSw.2.cell 2; go_simp; (try with_reducible rfl)
  (try simp only [Act.put, List.getElem_toArray, List.getElem_cons_zero, List.getElem_cons_succ, List.setIfInBounds_toArray, List.set_cons_zero, List.set_cons_succ])
  refine wpAnyF_take (i := 3) (v := ?_) (by kernel_rfl) (by kernel_rfl) rfl (by kernel_rfl) (by kernel_rfl) (by kernel_rfl) (fun _ _ _ h => h) (Or.inl ⟨by rfl, ?_⟩) (by assumption) ?_
  rotate_left
  · intro w' hSw; (try dsimp only at hSw); have k2 := hSw.1.cell 2; have p0 := hSw.2.cell 0; have p1 := hSw.2.cell 1; have p2 := hSw.2.cell 2; go_simp; (try with_reducible rfl)
  (try simp only [Act.put, List.getElem_toArray, List.getElem_cons_zero, List.getElem_cons_succ, List.setIfInBounds_toArray, List.set_cons_zero, List.set_cons_succ])
  refine wpAnyF_take (i := 4) (v := ?_) (by kernel_rfl) (by kernel_rfl) rfl (by kernel_rfl) (by kernel_rfl) (by kernel_rfl) (fun _ _ _ h => h) (Or.inl ⟨by rfl, ?_⟩) (by assumption) ?_
  rotate_left
  · intro w' hSw; (try dsimp only at hSw); have k2 := hSw.1.cell 2; have p0 := hSw.2.cell 0; have p1 := hSw.2.cell 1; have p2 := hSw.2.cell 2; go_simp; (try with_reducible rfl)
  (try simp only [Act.put, List.getElem_toArray, List.getElem_cons_zero, List.getElem_cons_succ, List.setIfInBounds_toArray, List.set_cons_zero, List.set_cons_succ])
  refine wpAnyF_ready (rs := [5]) (by kernel_rfl) (by simp) ?_
  refine AllReadyF.cons rfl (fun KK hKK => ?_) AllReadyF.nil
  go_simp
  ((with_reducible refine (HRD.out _ HB1.out).mono ?_); rintro e' w4 ⟨rfl, hb⟩; have HB4 := hi (HB1.out.trans (hb.mono HB1.out.size)); have hSS := And.intro (hHeld.1.below hb) (hHeld.2.below hb); clear hb)
  (try go_simp)
  refine hKK.out _ _ hSS (fun hHeld => ?_)
  clear hKK KK
  (try simp only [Act.put, List.getElem_toArray, List.getElem_cons_zero, List.getElem_cons_succ, List.setIfInBounds_toArray, List.set_cons_zero, List.set_cons_succ])
  refine wpAnyF_take (i := 6) (v := ?_) (by kernel_rfl) (by kernel_rfl) rfl (by kernel_rfl) (by kernel_rfl) (by kernel_rfl) (fun _ _ _ h => h) (Or.inl ⟨by rfl, ?_⟩) (by assumption) ?_
  rotate_left
  · intro w' hSw; (try dsimp only at hSw); have k2 := hSw.1.cell 2; have p0 := hSw.2.cell 0; have p1 := hSw.2.cell 1; have p2 := hSw.2.cell 2; go_simp; (try with_reducible rfl)
  (try simp only [Act.put, List.getElem_toArray, List.getElem_cons_zero, List.getElem_cons_succ, List.setIfInBounds_toArray, List.set_cons_zero, List.set_cons_succ])
  refine wpAnyF_take (i := 7) (v := ?_) (by kernel_rfl) (by kernel_rfl) rfl (by kernel_rfl) (by kernel_rfl) (by kernel_rfl) (fun _ _ _ h => h) (Or.inl ⟨by rfl, ?_⟩) (by assumption) ?_
  rotate_left
  · intro w' hSw; (try dsimp only at hSw); have k2 := hSw.1.cell 2; have p0 := hSw.2.cell 0; have p1 := hSw.2.cell 1; have p2 := hSw.2.cell 2; go_simp; (try with_reducible rfl)
  (try simp only [Act.put, List.getElem_toArray, List.getElem_cons_zero, List.getElem_cons_succ, List.setIfInBounds_toArray, List.set_cons_zero, List.set_cons_succ])
  refine wpAnyF_done (by kernel_rfl) ?_ _
  refine NoPanic.normal ?_
  go_wp2
  go_ret2
  exact ⟨rfl, HB4.out⟩
set_option maxHeartbeats 1000000 in
theorem rread_no (h : RdAt w lo hi' b c D) {off wd : Int} (p : Pl) (er : Int) (he : er ≠ 0)
    (HF : Hi (Calls Tryz.prog 89 #[.int .i64 off, .int .i64 wd] w (Finds w (p, er)))) :
    Calls Tryz.prog 59 #[.pointer (some ⟨b 0, 0, none⟩), .int .i64 off, .int .i64 wd] w fun e w' => e = .returned (.tuple #[.int .u64 (0 : Nat), .int .i64 er]) ∧ Below w.heap.size w w' := by
  obtain ⟨r, f, n⟩ := p
  unfold Finds at HF
  dsimp only [Pl.v] at HF
  have he2 : (er != 0) = true := by simpa using he
  clear h he
  go_enter Tryz.func59, Tryz.ntmps59
  go_wp2_with (first
    | (go_at_call 89; ((with_reducible refine HF.out.mono ?_); rintro e' wF ⟨rfl, hb⟩; have HB := hi hb; clear hb)))
  go_ret2
  exact ⟨rfl, HB.out.alloc HB.out.size _⟩
theorem rread_dist (h : RdAt w lo hi' b c D) (ok : D.Ok) {off wd : Int} (hoff : Int64 off) :
    Calls Tryz.prog 59 #[.pointer (some ⟨b 0, 0, none⟩), .int .i64 off, .int .i64 wd] w fun e w' => e = .returned (.tuple #[.int .u64 (readDV D off wd).1, .int .i64 (readDV D off wd).2]) ∧ Below w.heap.size w w' := by
  obtain ⟨p, er, hf⟩ : ∃ p er, fdV off wd = (p, er) := ⟨_, _, rfl⟩
  have HF := refDist_any off wd w hoff
  rw [show findV distRows 65536 off wd = (p, er) from hf] at HF
  have hp : ∃ c, PlOk p c := by have := fd_few off wd; rwa [hf] at this
  obtain ⟨n0, hp⟩ := hp
  have hp := hp.cn
  unfold readDV
  rw [hf]
  dsimp only
  by_cases he : er = 0
  · subst he
    rw [if_pos rfl]
    obtain ⟨r, f, n⟩ := p
    unfold readPl
    dsimp only
    by_cases h1 : r = 1
    · subst h1
      rw [if_pos rfl]
      exact rread_ctlr h f n (hi HF)
    rw [if_neg h1]
    by_cases h2 : r = 2
    · subst h2
      rw [if_pos rfl]
      exact rread_typer h ok f n (hi HF)
    rw [if_neg h2]
    by_cases h13 : r = 13
    · subst h13
      rw [if_pos rfl]
      exact rread_rout h ok f n (hi HF)
    rw [if_neg h13]
    exact rread_rest h ok r f n hp h1 h2 h13 (hi HF)
  · rw [if_neg he]
    exact rread_no h p er he (hi HF)
end
end Go.Proofs.YtggeakkofcaklaaGreat
