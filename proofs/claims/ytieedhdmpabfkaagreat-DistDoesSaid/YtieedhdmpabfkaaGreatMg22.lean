import Derived.Test.YtieedhdmpabfkaaGreatMg02
import Derived.Test.YtieedhdmpabfkaaGreatMg21
import Derived.Test.YtieedhdmpabfkaaGreatMg15
set_option linter.unusedSimpArgs false
namespace Go.Proofs.YtieedhdmpabfkaaGreat
open Go.ChangeShapes Go.WideShapes Go.ChangeAt Go.RowKit Go.Shelf
set_option linter.unusedVariables false
attribute [local go_sem] Oper.semAt_some
section
variable {w : World} {lo hi' : Nat} {b c : Nat → Nat} {D : Ds}
theorem rone_at (x : Bool) (n m : Nat) (i : Int) (hm : (if x then n else 0) = m) (hi' : (n : Int) = i) (w : World) : Calls Tryz.prog 100 #[.bool x, .int .u64 i] w fun e w' => e = .returned (.int .u64 (m : Int)) ∧ w = w' := by
 rw [← hm, ← hi']
 exact rone_any x n w
set_option maxRecDepth 100000 in
set_option maxHeartbeats 2000000 in
theorem rread_ctlr (h : RdAt w lo hi' b c D) {off wd : Int} (f n : Int)
  (HF : Hi (Calls Tryz.prog 89 #[.int .i64 off, .int .i64 wd] w (Finds w (⟨1, f, n⟩, 0)))) :
  Calls Tryz.prog 59 #[.pointer (some ⟨b 0, 0, none⟩), .int .i64 off, .int .i64 wd] w fun e w' => e = .returned (.tuple #[.int .u64 (ctlrN D : Nat), .int .i64 0]) ∧ Below w.heap.size w w' := by
 unfold Finds at HF
 dsimp only [Pl.v] at HF
 have HD := hi h
 have hlt := h.box.lt
 obtain ⟨x0, hx0⟩ : ∃ x, (if D.g0 then 1 else 0) = x := ⟨_, rfl⟩
 obtain ⟨x1, hx1⟩ : ∃ x, (if D.g1 then 2 else 0) = x := ⟨_, rfl⟩
 have l0 : x0 ≤ 1 := by rw [← hx0]; split <;> omega
 have l1 : x1 ≤ 2 := by rw [← hx1]; split <;> omega
 have hV : ctlrN D = 80 + x0 + x1 := by rw [← hx0, ← hx1]; cases h0 : D.g0 <;> cases h1 : D.g1 <;> simp [ctlrN, h0, h1]
 have HO0 := hi (fun W => rone_at D.g0 1 x0 1 hx0 rfl W)
 have HO1 := hi (fun W => rone_at D.g1 2 x1 2 hx1 rfl W)
 rw [hV]
 have w0 : IntKind.u64.wrap (80 + (x0 : Int)) = ((80 + x0 : Nat) : Int) := by rw [IntKind.wrap_u64]; omega
 obtain ⟨y0, hy0⟩ : ∃ y, 80 + x0 = y := ⟨_, rfl⟩
 rw [hy0] at w0 ⊢
 have w1 : IntKind.u64.wrap ((y0 : Int) + (x1 : Int)) = ((y0 + x1 : Nat) : Int) := by rw [IntKind.wrap_u64]; omega
 obtain ⟨y1, hy1⟩ : ∃ y, y0 + x1 = y := ⟨_, rfl⟩
 rw [hy1] at w1 ⊢
 clear h hx0 hx1 l0 l1 hV hy0 hy1
 go_enter Tryz.func59, Tryz.ntmps59
 go_wp2_with (first
  | (go_at_call 89; ((with_reducible refine HF.out.mono ?_); rintro e' wF ⟨rfl, hb⟩; have HB := hi (hb.alloc hb.size (.cells #[.int .i64 1, .int .i64 f, .int .i64 n] 70)); have HPB := hi (CB.new wF 70 #[.int .i64 1, .int .i64 f, .int .i64 n]); have hsz := hb.size; clear hb)))
 obtain ⟨W1, hW1⟩ : ∃ W1, wF.alloc (.cells #[.int .i64 1, .int .i64 f, .int .i64 n] 70) = W1 := ⟨_, rfl⟩
 obtain ⟨N, hN⟩ : ∃ N, wF.heap.size = N := ⟨_, rfl⟩
 rw [hW1] at HB HPB ⊢
 rw [hN] at HPB hsz ⊢
 have HB1 := hi (show Below w.heap.size w W1.drew from Below.drewN (m := 1) HB.out)
 have HD1 := hi (HD.out.below HB1.out)
 have HPB1 := hi HPB.out.drew
 clear hW1 hN HPB
 refine wp_region_noPanic ?_
 refine wp_region_last_drew (S := (fun W' => CB W' (b 0) 105 #[.bool D.g0, .bool D.g1, .pointer (some ⟨b 5, 0, none⟩), .slice (some ⟨b 1, 0, none⟩) D.sh.length (c 0), .slice (some ⟨b 2, 0, none⟩) D.sh.length (c 1), .slice (some ⟨b 3, 0, none⟩) D.cs.length (c 2), .slice (some ⟨b 4, 0, none⟩) D.cs.length (c 3)])) [] (by kernel_rfl) HD1.out.box (fun hHeld => ?_)
 (try simp only [r1, r2, r3, r4, r5])
 obtain ⟨Wd, hWd⟩ : ∃ Wd, W1.drew = Wd := ⟨_, rfl⟩
 rw [hWd] at HD1 HB1 HPB1 hHeld ⊢
 clear hWd
 refine tk 0 (v := ?_) rfl (Or.inl ⟨by rfl, ?_⟩) ?_
 rotate_left
 ·intro w' hSw; (try dsimp only at hSw); have k0 := hSw.cell 0; have k1 := hSw.cell 1; (try rw [run_index_two]); go_simp; (try with_reducible rfl)
 (try simp only [Act.put, n1, n2, n4, n5, n6])
 refine tk 1 (v := ?_) rfl (Or.inl ⟨by rfl, ?_⟩) ?_
 rotate_left
 ·intro w' hSw; (try dsimp only at hSw); have k0 := hSw.cell 0; have k1 := hSw.cell 1; (try rw [run_index_two]); go_simp; (try with_reducible rfl)
 (try simp only [Act.put, n1, n2, n3, n4, n5, n6])
 refine tk 2 (v := ?_) rfl (Or.inl ⟨by rfl, ?_⟩) ?_
 rotate_left
 ·intro w' hSw; (try dsimp only at hSw); have k0 := hSw.cell 0; have k1 := hSw.cell 1; (try rw [run_index_two]); go_simp; (try with_reducible rfl)
 (try simp only [Act.put, n1, n2, n3, n4, n5, n6])
 refine tk 3 (v := ?_) rfl (Or.inl ⟨by rfl, ?_⟩) ?_
 rotate_left
 ·intro w' hSw; (try dsimp only at hSw); have k0 := hSw.cell 0; have k1 := hSw.cell 1; (try rw [run_index_two]); go_simp; (try with_reducible rfl)
 (try simp only [Act.put, n1, n2, n3, n4, n5, n6])
 refine tk 4 (v := ?_) rfl (Or.inl ⟨by rfl, ?_⟩) ?_
 rotate_left
 ·intro w' hSw; (try dsimp only at hSw); have k0 := hSw.cell 0; have k1 := hSw.cell 1; (try rw [run_index_two]); go_simp; (try with_reducible rfl)
 (try simp only [Act.put, n1, n2, n3, n4, n5, n6])
 refine tk 7 (v := ?_) rfl (Or.inl ⟨by rfl, ?_⟩) ?_
 rotate_left
 ·intro w' hSw; (try dsimp only at hSw); have k0 := hSw.cell 0; have k1 := hSw.cell 1; (try rw [run_index_two]); go_simp; (try with_reducible rfl)
 (try simp only [Act.put, n1, n2, n3, n4, n5, n6])
 refine tk 8 (v := ?_) rfl (Or.inl ⟨by rfl, ?_⟩) ?_
 rotate_left
 ·intro w' hSw; (try dsimp only at hSw); have k0 := hSw.cell 0; have k1 := hSw.cell 1; (try rw [run_index_two]); go_simp; (try with_reducible rfl)
 (try simp only [Act.put, n1, n2, n3, n4, n5, n6])
 refine tk 9 (v := ?_) rfl (Or.inl ⟨by rfl, ?_⟩) ?_
 rotate_left
 ·intro w' hSw; (try dsimp only at hSw); have k0 := hSw.cell 0; have k1 := hSw.cell 1; (try rw [run_index_two]); go_simp; (try with_reducible rfl)
 (try simp only [Act.put, n1, n2, n3, n4, n5, n6])
 refine tk 10 (v := ?_) rfl (Or.inl ⟨by rfl, ?_⟩) ?_
 rotate_left
 ·intro w' hSw; (try dsimp only at hSw); have k0 := hSw.cell 0; have k1 := hSw.cell 1; (try rw [run_index_two]); go_simp; (try with_reducible rfl)
 (try simp only [Act.put, n1, n2, n3, n4, n5, n6])
 refine tk 11 (v := ?_) rfl (Or.inl ⟨by rfl, ?_⟩) ?_
 rotate_left
 ·intro w' hSw; (try dsimp only at hSw); have k0 := hSw.cell 0; have k1 := hSw.cell 1; (try rw [run_index_two]); go_simp; (try with_reducible rfl)
 (try simp only [Act.put, n1, n2, n3, n4, n5, n6])
 refine wpAnyF_ready (rs := [5]) (by kernel_rfl) (by simp) ?_
 refine AllReadyF.cons rfl (fun KK hKK => ?_) AllReadyF.nil
 go_simp
 ((with_reducible refine (HO0.out _).mono ?_); rintro e' w4 ⟨rfl, rfl⟩)
 (try go_simp)
 refine hKK.out _ _ hHeld (fun hHeld => ?_)
 clear hKK KK
 (try simp only [Act.put, n1, n2, n3, n4, n5, n6])
 refine tk 6 (v := ?_) rfl (Or.inl ⟨by rfl, ?_⟩) ?_
 rotate_left
 ·intro w' hSw; (try dsimp only at hSw); have k0 := hSw.cell 0; have k1 := hSw.cell 1; (try rw [run_index_two]); go_simp; (try with_reducible rfl)
 (try simp only [Act.put, n1, n2, n3, n4, n5, n6])
 refine wpAnyF_ready (rs := [12]) (by kernel_rfl) (by simp) ?_
 refine AllReadyF.cons rfl (fun KK hKK => ?_) AllReadyF.nil
 go_simp
 ((with_reducible refine (HO1.out _).mono ?_); rintro e' w4 ⟨rfl, rfl⟩)
 (try go_simp)
 refine hKK.out _ _ hHeld (fun hHeld => ?_)
 clear hKK KK
 (try simp only [Act.put, n1, n2, n3, n4, n5, n6])
 refine tk 13 (v := ?_) rfl (Or.inl ⟨by rfl, ?_⟩) ?_
 rotate_left
 ·intro w' hSw; (try dsimp only at hSw); have k0 := hSw.cell 0; have k1 := hSw.cell 1; (try rw [run_index_two]); go_simp; (try with_reducible rfl)
 (try simp only [Act.put, n1, n2, n3, n4, n5, n6])
 refine tk 14 (v := ?_) rfl (Or.inl ⟨by rfl, ?_⟩) ?_
 rotate_left
 ·intro w' hSw; (try dsimp only at hSw); have k0 := hSw.cell 0; have k1 := hSw.cell 1; (try rw [run_index_two]); go_simp; (try with_reducible rfl)
 (try simp only [Act.put, n1, n2, n3, n4, n5, n6])
 refine tk 15 (v := ?_) rfl (Or.inl ⟨by rfl, ?_⟩) ?_
 rotate_left
 ·intro w' hSw; (try dsimp only at hSw); have k0 := hSw.cell 0; have k1 := hSw.cell 1; (try rw [run_index_two]); go_simp; (try with_reducible rfl)
 (try simp only [Act.put, n1, n2, n3, n4, n5, n6])
 refine wpAnyF_done (by kernel_rfl) ?_ _
 refine NoPanic.normal ?_
 go_wp2
 go_ret2
 exact ⟨rfl, HB1.out⟩
set_option maxRecDepth 100000 in
set_option maxHeartbeats 2000000 in
theorem rread_typer (h : RdAt w lo hi' b c D) (ok : D.Ok) {off wd : Int} (f n : Int)
  (HF : Hi (Calls Tryz.prog 89 #[.int .i64 off, .int .i64 wd] w (Finds w (⟨2, f, n⟩, 0)))) :
  Calls Tryz.prog 59 #[.pointer (some ⟨b 0, 0, none⟩), .int .i64 off, .int .i64 wd] w fun e w' => e = .returned (.tuple #[.int .u64 (typerN D : Nat), .int .i64 0]) ∧ Below w.heap.size w w' := by
 unfold Finds at HF
 dsimp only [Pl.v] at HF
 have HD := hi h
 have hlt := h.box.lt
 have hm := ok.m
 have hn1 := ok.n1
 have hn8 := ok.n8
 have HK := hi (fun W (q : RdAt W lo hi' b c D) => q.box)
 unfold typerN
 obtain ⟨m, hm'⟩ : ∃ m, D.sh.length = m := ⟨_, rfl⟩
 obtain ⟨k, hk'⟩ : ∃ k, D.cs.length = k := ⟨_, rfl⟩
 rw [hm', hk'] at HK
 rw [hm'] at hm ⊢
 rw [hk'] at hn1 hn8 ⊢
 have w2 : IntKind.i64.wrap ((m : Int) + 31) = ((m + 31 : Nat) : Int) := by rw [IntKind.wrap_i64]; omega
 have w3 : ((m + 31 : Nat) : Int).tdiv 32 = (((m + 31) / 32 : Nat) : Int) := by rw [Int.tdiv_eq_ediv_of_nonneg (by omega)]; omega
 obtain ⟨r, hr⟩ : ∃ r, (m + 31) / 32 = r := ⟨_, rfl⟩
 have hr3 : r ≤ 3 := by omega
 rw [hr] at w3 ⊢
 obtain ⟨x, hx⟩ : ∃ x, m + 31 = x := ⟨_, rfl⟩
 rw [hx] at w2 w3
 have w4 : IntKind.i64.wrap (r : Int) = r := by rw [IntKind.wrap_i64]; omega
 obtain ⟨t, ht⟩ : ∃ t, k - 1 = t := ⟨_, rfl⟩
 have w5 : IntKind.i64.wrap ((k : Int) - 1) = t := by rw [IntKind.wrap_i64]; omega
 have w6 : IntKind.i64.wrap (32 * (t : Int)) = ((t * 32 : Nat) : Int) := by rw [IntKind.wrap_i64]; omega
 rw [ht]
 obtain ⟨y, hy⟩ : ∃ y, t * 32 = y := ⟨_, rfl⟩
 rw [hy] at w6 ⊢
 have w7 : IntKind.i64.wrap ((r : Int) + (y : Int)) = ((r + y : Nat) : Int) := by rw [IntKind.wrap_i64]; omega
 obtain ⟨z, hz⟩ : ∃ z, r + y = z := ⟨_, rfl⟩
 rw [hz] at w7 ⊢
 have w8 : IntKind.i64.wrap ((z : Int) + 131072) = ((z + 131072 : Nat) : Int) := by rw [IntKind.wrap_i64]; omega
 obtain ⟨q, hq⟩ : ∃ q, z + 131072 = q := ⟨_, rfl⟩
 rw [hq] at w8 ⊢
 have w9 : IntKind.u64.wrap (q : Int) = q := by rw [IntKind.wrap_u64]; omega
 clear h ok hm' hk' hr hx ht hy hz hq
 go_enter Tryz.func59, Tryz.ntmps59
 go_wp2_with (first
  | (go_at_call 89; ((with_reducible refine HF.out.mono ?_); rintro e' wF ⟨rfl, hb⟩; have HB := hi (hb.alloc hb.size (.cells #[.int .i64 2, .int .i64 f, .int .i64 n] 70)); have HPB := hi (CB.new wF 70 #[.int .i64 2, .int .i64 f, .int .i64 n]); have hsz := hb.size; clear hb)))
 obtain ⟨W1, hW1⟩ : ∃ W1, wF.alloc (.cells #[.int .i64 2, .int .i64 f, .int .i64 n] 70) = W1 := ⟨_, rfl⟩
 obtain ⟨N, hN⟩ : ∃ N, wF.heap.size = N := ⟨_, rfl⟩
 rw [hW1] at HB HPB ⊢
 rw [hN] at HPB hsz ⊢
 have HB1 := hi (show Below w.heap.size w W1.drew from Below.drewN (m := 1) HB.out)
 have HD1 := hi (HD.out.below HB1.out)
 have HPB1 := hi HPB.out.drew
 clear hW1 hN HPB
 refine wp_region_noPanic ?_
 refine wp_region_last_drew (S := (fun W' => CB W' (b 0) 105 #[.bool D.g0, .bool D.g1, .pointer (some ⟨b 5, 0, none⟩), .slice (some ⟨b 1, 0, none⟩) m (c 0), .slice (some ⟨b 2, 0, none⟩) m (c 1), .slice (some ⟨b 3, 0, none⟩) k (c 2), .slice (some ⟨b 4, 0, none⟩) k (c 3)])) [] (by kernel_rfl) (HK.out _ HD1.out) (fun hHeld => ?_)
 (try simp only [r1, r2, r3, r4, r5])
 obtain ⟨Wd, hWd⟩ : ∃ Wd, W1.drew = Wd := ⟨_, rfl⟩
 rw [hWd] at HD1 HB1 HPB1 hHeld ⊢
 clear hWd
 refine tk 0 (v := ?_) rfl (Or.inl ⟨by rfl, ?_⟩) ?_
 rotate_left
 ·intro w' hSw; (try dsimp only at hSw); have k3 := hSw.cell 3; have k5 := hSw.cell 5; go_simp; (try with_reducible rfl)
 (try simp only [Act.put, n1, n2, n4, n5, n6])
 refine tk 1 (v := ?_) rfl (Or.inl ⟨by rfl, ?_⟩) ?_
 rotate_left
 ·intro w' hSw; (try dsimp only at hSw); have k3 := hSw.cell 3; have k5 := hSw.cell 5; go_simp; (try with_reducible rfl)
 (try simp only [Act.put, n1, n2, n3, n4, n5, n6])
 refine tk 2 (v := ?_) rfl (Or.inl ⟨by rfl, ?_⟩) ?_
 rotate_left
 ·intro w' hSw; (try dsimp only at hSw); have k3 := hSw.cell 3; have k5 := hSw.cell 5; go_simp; (try with_reducible rfl)
 (try simp only [Act.put, n1, n2, n3, n4, n5, n6])
 refine tk 3 (v := ?_) rfl (Or.inl ⟨by rfl, ?_⟩) ?_
 rotate_left
 ·intro w' hSw; (try dsimp only at hSw); have k3 := hSw.cell 3; have k5 := hSw.cell 5; go_simp; (try with_reducible rfl)
 (try simp only [Act.put, n1, n2, n3, n4, n5, n6])
 refine tk 4 (v := ?_) rfl (Or.inl ⟨by rfl, ?_⟩) ?_
 rotate_left
 ·intro w' hSw; (try dsimp only at hSw); have k3 := hSw.cell 3; have k5 := hSw.cell 5; go_simp; (try with_reducible rfl)
 (try simp only [Act.put, n1, n2, n3, n4, n5, n6])
 refine tk 5 (v := ?_) rfl (Or.inl ⟨by rfl, ?_⟩) ?_
 rotate_left
 ·intro w' hSw; (try dsimp only at hSw); have k3 := hSw.cell 3; have k5 := hSw.cell 5; go_simp; (try with_reducible rfl)
 (try simp only [Act.put, n1, n2, n3, n4, n5, n6])
 refine tk 6 (v := ?_) rfl (Or.inl ⟨by rfl, ?_⟩) ?_
 rotate_left
 ·intro w' hSw; (try dsimp only at hSw); have k3 := hSw.cell 3; have k5 := hSw.cell 5; go_simp; (try with_reducible rfl)
 (try simp only [Act.put, n1, n2, n3, n4, n5, n6])
 refine tk 7 (v := ?_) rfl (Or.inl ⟨by rfl, ?_⟩) ?_
 rotate_left
 ·intro w' hSw; (try dsimp only at hSw); have k3 := hSw.cell 3; have k5 := hSw.cell 5; go_simp; (try with_reducible rfl)
 (try simp only [Act.put, n1, n2, n3, n4, n5, n6])
 refine tk 8 (v := ?_) rfl (Or.inl ⟨by rfl, ?_⟩) ?_
 rotate_left
 ·intro w' hSw; (try dsimp only at hSw); have k3 := hSw.cell 3; have k5 := hSw.cell 5; go_simp; (try with_reducible rfl)
 (try simp only [Act.put, n1, n2, n3, n4, n5, n6])
 refine tk 9 (v := ?_) rfl (Or.inl ⟨by rfl, ?_⟩) ?_
 rotate_left
 ·intro w' hSw; (try dsimp only at hSw); have k3 := hSw.cell 3; have k5 := hSw.cell 5; go_simp; (try with_reducible rfl)
 (try simp only [Act.put, n1, n2, n3, n4, n5, n6])
 refine tk 10 (v := ?_) rfl (Or.inl ⟨by rfl, ?_⟩) ?_
 rotate_left
 ·intro w' hSw; (try dsimp only at hSw); have k3 := hSw.cell 3; have k5 := hSw.cell 5; go_simp; (try with_reducible rfl)
 (try simp only [Act.put, n1, n2, n3, n4, n5, n6])
 refine tk 11 (v := ?_) rfl (Or.inl ⟨by rfl, ?_⟩) ?_
 rotate_left
 ·intro w' hSw; (try dsimp only at hSw); have k3 := hSw.cell 3; have k5 := hSw.cell 5; go_simp; (try with_reducible rfl)
 (try simp only [Act.put, n1, n2, n3, n4, n5, n6])
 refine tk 12 (v := ?_) rfl (Or.inl ⟨by rfl, ?_⟩) ?_
 rotate_left
 ·intro w' hSw; (try dsimp only at hSw); have k3 := hSw.cell 3; have k5 := hSw.cell 5; go_simp; (try with_reducible rfl)
 (try simp only [Act.put, n1, n2, n3, n4, n5, n6])
 refine tk 13 (v := ?_) rfl (Or.inl ⟨by rfl, ?_⟩) ?_
 rotate_left
 ·intro w' hSw; (try dsimp only at hSw); have k3 := hSw.cell 3; have k5 := hSw.cell 5; go_simp; (try with_reducible rfl)
 (try simp only [Act.put, n1, n2, n3, n4, n5, n6])
 refine tk 14 (v := ?_) rfl (Or.inl ⟨by rfl, ?_⟩) ?_
 rotate_left
 ·intro w' hSw; (try dsimp only at hSw); have k3 := hSw.cell 3; have k5 := hSw.cell 5; go_simp; (try with_reducible rfl)
 (try simp only [Act.put, n1, n2, n3, n4, n5, n6])
 refine tk 15 (v := ?_) rfl (Or.inl ⟨by rfl, ?_⟩) ?_
 rotate_left
 ·intro w' hSw; (try dsimp only at hSw); have k3 := hSw.cell 3; have k5 := hSw.cell 5; go_simp; (try with_reducible rfl)
 (try simp only [Act.put, n1, n2, n3, n4, n5, n6])
 refine tk 16 (v := ?_) rfl (Or.inl ⟨by rfl, ?_⟩) ?_
 rotate_left
 ·intro w' hSw; (try dsimp only at hSw); have k3 := hSw.cell 3; have k5 := hSw.cell 5; go_simp; (try with_reducible rfl)
 (try simp only [Act.put, n1, n2, n3, n4, n5, n6])
 refine tk 17 (v := ?_) rfl (Or.inl ⟨by rfl, ?_⟩) ?_
 rotate_left
 ·intro w' hSw; (try dsimp only at hSw); have k3 := hSw.cell 3; have k5 := hSw.cell 5; go_simp; (try with_reducible rfl)
 (try simp only [Act.put, n1, n2, n3, n4, n5, n6])
 refine tk 18 (v := ?_) rfl (Or.inl ⟨by rfl, ?_⟩) ?_
 rotate_left
 ·intro w' hSw; (try dsimp only at hSw); have k3 := hSw.cell 3; have k5 := hSw.cell 5; go_simp; (try with_reducible rfl)
 (try simp only [Act.put, n1, n2, n3, n4, n5, n6])
 refine wpAnyF_done (by kernel_rfl) ?_ _
 refine NoPanic.normal ?_
 go_wp2
 go_ret2
 exact ⟨rfl, HB1.out⟩
set_option maxRecDepth 100000 in
set_option maxHeartbeats 2000000 in
theorem rread_rout (h : RdAt w lo hi' b c D) (ok : D.Ok) {off wd : Int} (f n : Int)
  (HF : Hi (Calls Tryz.prog 89 #[.int .i64 off, .int .i64 wd] w (Finds w (⟨13, f, n⟩, 0)))) :
  Calls Tryz.prog 59 #[.pointer (some ⟨b 0, 0, none⟩), .int .i64 off, .int .i64 wd] w fun e w' => e = .returned (.tuple #[.int .u64 (routN D f : Nat), .int .i64 0]) ∧ Below w.heap.size w w' := by
 unfold Finds at HF
 dsimp only [Pl.v] at HF
 have HD := hi h
 have hlt := h.box.lt
 have HA := hi (fun W (q : Below w.heap.size w W) => rfb_at f (h.below q).shr ok.fitS)
 unfold routN
 cases hb : hasB 32 D.sh.length f
 ·simp only [Bool.false_eq_true, if_false]
  rw [atI_no hb] at HA
  clear h ok hb
  go_enter Tryz.func59, Tryz.ntmps59
  go_wp2_with (first
   | (go_at_call 89; ((with_reducible refine HF.out.mono ?_); rintro e' wF ⟨rfl, hb⟩; have HB := hi (hb.alloc hb.size (.cells #[.int .i64 13, .int .i64 f, .int .i64 n] 70)); have HPB := hi (CB.new wF 70 #[.int .i64 13, .int .i64 f, .int .i64 n]); have hsz := hb.size; clear hb)))
  obtain ⟨W1, hW1⟩ : ∃ W1, wF.alloc (.cells #[.int .i64 13, .int .i64 f, .int .i64 n] 70) = W1 := ⟨_, rfl⟩
  obtain ⟨N, hN⟩ : ∃ N, wF.heap.size = N := ⟨_, rfl⟩
  rw [hW1] at HB HPB ⊢
  rw [hN] at HPB hsz ⊢
  have HB1 := hi (show Below w.heap.size w W1.drew from Below.drewN (m := 1) HB.out)
  have HD1 := hi (HD.out.below HB1.out)
  have HPB1 := hi HPB.out.drew
  clear hW1 hN HPB
  refine wp_region_noPanic ?_
  refine wp_region_last_drew (S := (fun W' => CB W' (b 0) 105 #[.bool D.g0, .bool D.g1, .pointer (some ⟨b 5, 0, none⟩), .slice (some ⟨b 1, 0, none⟩) D.sh.length (c 0), .slice (some ⟨b 2, 0, none⟩) D.sh.length (c 1), .slice (some ⟨b 3, 0, none⟩) D.cs.length (c 2), .slice (some ⟨b 4, 0, none⟩) D.cs.length (c 3)] ∧ CB W' N 70 #[.int .i64 13, .int .i64 f, .int .i64 n])) [] (by kernel_rfl) ⟨HD1.out.box, HPB1.out⟩ (fun hHeld => ?_)
  (try simp only [r1, r2, r3, r4, r5])
  obtain ⟨Wd, hWd⟩ : ∃ Wd, W1.drew = Wd := ⟨_, rfl⟩
  rw [hWd] at HD1 HB1 HPB1 hHeld ⊢
  clear hWd
  refine tk 0 (v := ?_) rfl (Or.inl ⟨by rfl, ?_⟩) ?_
  rotate_left
  ·intro w' hSw; (try dsimp only at hSw); have k2 := hSw.1.cell 2; have p1 := hSw.2.cell 1; go_simp; (try with_reducible rfl)
  (try simp only [Act.put, n1, n2, n4, n5, n6])
  refine tk 1 (v := ?_) rfl (Or.inl ⟨by rfl, ?_⟩) ?_
  rotate_left
  ·intro w' hSw; (try dsimp only at hSw); have k2 := hSw.1.cell 2; have p1 := hSw.2.cell 1; go_simp; (try with_reducible rfl)
  (try simp only [Act.put, n1, n2, n3, n4, n5, n6])
  refine tk 2 (v := ?_) rfl (Or.inl ⟨by rfl, ?_⟩) ?_
  rotate_left
  ·intro w' hSw; (try dsimp only at hSw); have k2 := hSw.1.cell 2; have p1 := hSw.2.cell 1; go_simp; (try with_reducible rfl)
  (try simp only [Act.put, n1, n2, n3, n4, n5, n6])
  refine tk 3 (v := ?_) rfl (Or.inl ⟨by rfl, ?_⟩) ?_
  rotate_left
  ·intro w' hSw; (try dsimp only at hSw); have k2 := hSw.1.cell 2; have p1 := hSw.2.cell 1; go_simp; (try with_reducible rfl)
  (try simp only [Act.put, n1, n2, n3, n4, n5, n6])
  refine tk 4 (v := ?_) rfl (Or.inl ⟨by rfl, ?_⟩) ?_
  rotate_left
  ·intro w' hSw; (try dsimp only at hSw); have k2 := hSw.1.cell 2; have p1 := hSw.2.cell 1; go_simp; (try with_reducible rfl)
  (try simp only [Act.put, n1, n2, n3, n4, n5, n6])
  refine tk 5 (v := ?_) rfl (Or.inl ⟨by rfl, ?_⟩) ?_
  rotate_left
  ·intro w' hSw; (try dsimp only at hSw); have k2 := hSw.1.cell 2; have p1 := hSw.2.cell 1; go_simp; (try with_reducible rfl)
  (try simp only [Act.put, n1, n2, n3, n4, n5, n6])
  refine wpAnyF_ready (rs := [6]) (by kernel_rfl) (by simp) ?_
  refine AllReadyF.cons rfl (fun KK hKK => ?_) AllReadyF.nil
  go_simp
  ((with_reducible refine (HA.out _ HB1.out).mono ?_); rintro e' w4 ⟨rfl, rfl⟩)
  (try go_simp)
  refine hKK.out _ _ hHeld (fun hHeld => ?_)
  clear hKK KK
  (try simp only [Act.put, n1, n2, n3, n4, n5, n6])
  refine tk 7 (v := ?_) rfl (Or.inl ⟨by rfl, ?_⟩) ?_
  rotate_left
  ·intro w' hSw; (try dsimp only at hSw); have k2 := hSw.1.cell 2; have p1 := hSw.2.cell 1; go_simp; (try with_reducible rfl)
  (try simp only [Act.put, n1, n2, n3, n4, n5, n6])
  refine wpAnyF_done (by kernel_rfl) ?_ _
  refine NoPanic.normal ?_
  go_wp2
  go_ret2
  exact ⟨rfl, HB1.out⟩
 ·simp only [if_true]
  obtain ⟨j, rfl, hj, e1⟩ := has_at hb
  rw [e1]
  rw [atI_at hj] at HA
  have hc := ok.rt j hj
  have HM0 := hi (fun W (q : RdAt W lo hi' b c D) => And.intro q.box (And.intro (q.corec hj) (q.anyc hj)))
  obtain ⟨m, hm⟩ : ∃ m, D.sh.length = m := ⟨_, rfl⟩
  rw [hm] at hj HM0
  have hm64 : m ≤ 64 := by rw [← hm]; exact ok.m
  obtain ⟨⟨sc, sy⟩, hs⟩ : ∃ s, (nthE D.sh j).s = s := ⟨_, rfl⟩
  rw [hs] at hc HM0 ⊢
  obtain ⟨a, rfl⟩ : ∃ a : Nat, sc = a := ⟨sc.toNat, by have := hc.1; dsimp only at this; omega⟩
  have ha : a ≤ 255 := by have := hc.2; dsimp only at this; omega
  have w0 : IntKind.u64.wrap (a : Int) = a := by rw [IntKind.wrap_u64]; omega
  unfold rtN
  simp only [Int.toNat_natCast]
  obtain ⟨x, hx⟩ : ∃ x, (if sy then 2147483648 else 0) = x := ⟨_, rfl⟩
  have hx1 : x ≤ 2147483648 := by rw [← hx]; split <;> omega
  have HO := hi (fun W => rone_at sy 2147483648 x 2147483648 hx rfl W)
  rw [hx]
  have w1 : IntKind.u64.wrap ((a : Int) + (x : Int)) = ((a + x : Nat) : Int) := by rw [IntKind.wrap_u64]; omega
  obtain ⟨y, hy⟩ : ∃ y, a + x = y := ⟨_, rfl⟩
  rw [hy] at w1 ⊢
  clear h ok hb e1 hm hs hc hx hy
  go_enter Tryz.func59, Tryz.ntmps59
  go_wp2_with (first
   | (go_at_call 89; ((with_reducible refine HF.out.mono ?_); rintro e' wF ⟨rfl, hb⟩; have HB := hi (hb.alloc hb.size (.cells #[.int .i64 13, .int .i64 (32 + j), .int .i64 n] 70)); have HPB := hi (CB.new wF 70 #[.int .i64 13, .int .i64 (32 + j), .int .i64 n]); have hsz := hb.size; clear hb)))
  obtain ⟨W1, hW1⟩ : ∃ W1, wF.alloc (.cells #[.int .i64 13, .int .i64 (32 + j), .int .i64 n] 70) = W1 := ⟨_, rfl⟩
  obtain ⟨N, hN⟩ : ∃ N, wF.heap.size = N := ⟨_, rfl⟩
  rw [hW1] at HB HPB ⊢
  rw [hN] at HPB hsz ⊢
  have HB1 := hi (show Below w.heap.size w W1.drew from Below.drewN (m := 1) HB.out)
  have HD1 := hi (HD.out.below HB1.out)
  have HPB1 := hi HPB.out.drew
  clear hW1 hN HPB
  refine wp_region_noPanic ?_
  refine wp_region_last_drew (S := (fun W' => CB W' (b 0) 105 #[.bool D.g0, .bool D.g1, .pointer (some ⟨b 5, 0, none⟩), .slice (some ⟨b 1, 0, none⟩) D.sh.length (c 0), .slice (some ⟨b 2, 0, none⟩) D.sh.length (c 1), .slice (some ⟨b 3, 0, none⟩) D.cs.length (c 2), .slice (some ⟨b 4, 0, none⟩) D.cs.length (c 3)] ∧ CB W' N 70 #[.int .i64 13, .int .i64 (32 + j), .int .i64 n])) [] (by kernel_rfl) ⟨HD1.out.box, HPB1.out⟩ (fun hHeld => ?_)
  (try simp only [r1, r2, r3, r4, r5])
  obtain ⟨Wd, hWd⟩ : ∃ Wd, W1.drew = Wd := ⟨_, rfl⟩
  rw [hWd] at HD1 HB1 HPB1 hHeld ⊢
  clear hWd
  refine tk 0 (v := ?_) rfl (Or.inl ⟨by rfl, ?_⟩) ?_
  rotate_left
  ·intro w' hSw; (try dsimp only at hSw); have k2 := hSw.1.cell 2; have p1 := hSw.2.cell 1; go_simp; (try with_reducible rfl)
  (try simp only [Act.put, n1, n2, n4, n5, n6])
  refine tk 1 (v := ?_) rfl (Or.inl ⟨by rfl, ?_⟩) ?_
  rotate_left
  ·intro w' hSw; (try dsimp only at hSw); have k2 := hSw.1.cell 2; have p1 := hSw.2.cell 1; go_simp; (try with_reducible rfl)
  (try simp only [Act.put, n1, n2, n3, n4, n5, n6])
  refine tk 2 (v := ?_) rfl (Or.inl ⟨by rfl, ?_⟩) ?_
  rotate_left
  ·intro w' hSw; (try dsimp only at hSw); have k2 := hSw.1.cell 2; have p1 := hSw.2.cell 1; go_simp; (try with_reducible rfl)
  (try simp only [Act.put, n1, n2, n3, n4, n5, n6])
  refine tk 3 (v := ?_) rfl (Or.inl ⟨by rfl, ?_⟩) ?_
  rotate_left
  ·intro w' hSw; (try dsimp only at hSw); have k2 := hSw.1.cell 2; have p1 := hSw.2.cell 1; go_simp; (try with_reducible rfl)
  (try simp only [Act.put, n1, n2, n3, n4, n5, n6])
  refine tk 4 (v := ?_) rfl (Or.inl ⟨by rfl, ?_⟩) ?_
  rotate_left
  ·intro w' hSw; (try dsimp only at hSw); have k2 := hSw.1.cell 2; have p1 := hSw.2.cell 1; go_simp; (try with_reducible rfl)
  (try simp only [Act.put, n1, n2, n3, n4, n5, n6])
  refine tk 5 (v := ?_) rfl (Or.inl ⟨by rfl, ?_⟩) ?_
  rotate_left
  ·intro w' hSw; (try dsimp only at hSw); have k2 := hSw.1.cell 2; have p1 := hSw.2.cell 1; go_simp; (try with_reducible rfl)
  (try simp only [Act.put, n1, n2, n3, n4, n5, n6])
  refine wpAnyF_ready (rs := [6]) (by kernel_rfl) (by simp) ?_
  refine AllReadyF.cons rfl (fun KK hKK => ?_) AllReadyF.nil
  go_simp
  ((with_reducible refine (HA.out _ HB1.out).mono ?_); rintro e' w4 ⟨rfl, rfl⟩)
  (try go_simp)
  refine hKK.out _ _ hHeld (fun hHeld => ?_)
  clear hKK KK
  (try simp only [Act.put, n1, n2, n3, n4, n5, n6])
  refine tk 7 (v := ?_) rfl (Or.inl ⟨by rfl, ?_⟩) ?_
  rotate_left
  ·intro w' hSw; (try dsimp only at hSw); have k2 := hSw.1.cell 2; have p1 := hSw.2.cell 1; go_simp; (try with_reducible rfl)
  (try simp only [Act.put, n1, n2, n3, n4, n5, n6])
  refine wpAnyF_done (by kernel_rfl) ?_ _
  refine NoPanic.normal ?_
  clear hHeld HPB1
  have HB2 := hi (show Below w.heap.size w Wd.drew from Below.drewN (m := 1) HB1.out)
  have HD2 := hi (HM0.out _ HD1.out.drew)
  go_wp2
  refine wp_region_noPanic ?_
  refine wp_region_last_drew (S := (fun W' => CB W' (b 0) 105 #[.bool D.g0, .bool D.g1, .pointer (some ⟨b 5, 0, none⟩), .slice (some ⟨b 1, 0, none⟩) m (c 0), .slice (some ⟨b 2, 0, none⟩) m (c 1), .slice (some ⟨b 3, 0, none⟩) D.cs.length (c 2), .slice (some ⟨b 4, 0, none⟩) D.cs.length (c 3)] ∧ W'.cell? ⟨b 1, j, none⟩ = some (.int .i64 a) ∧ W'.cell? ⟨b 2, j, none⟩ = some (.bool sy))) [] (by kernel_rfl) HD2.out (fun hHeld => ?_)
  (try simp only [r1, r2, r3, r4, r5])
  refine tk 0 (v := ?_) rfl (Or.inl ⟨by rfl, ?_⟩) ?_
  rotate_left
  ·intro w' hSw; (try dsimp only at hSw); have k3 := hSw.1.cell 3; have k4 := hSw.1.cell 4; have q1 := hSw.2.1; have q2 := hSw.2.2; go_simp; (try with_reducible rfl)
  (try simp only [Act.put, n1, n2, n4, n5, n6])
  refine tk 1 (v := ?_) rfl (Or.inl ⟨by rfl, ?_⟩) ?_
  rotate_left
  ·intro w' hSw; (try dsimp only at hSw); have k3 := hSw.1.cell 3; have k4 := hSw.1.cell 4; have q1 := hSw.2.1; have q2 := hSw.2.2; go_simp; (try with_reducible rfl)
  (try simp only [Act.put, n1, n2, n3, n4, n5, n6])
  refine tk 2 (v := ?_) rfl (Or.inl ⟨by rfl, ?_⟩) ?_
  rotate_left
  ·intro w' hSw; (try dsimp only at hSw); have k3 := hSw.1.cell 3; have k4 := hSw.1.cell 4; have q1 := hSw.2.1; have q2 := hSw.2.2; go_simp; (try with_reducible rfl)
  (try simp only [Act.put, n1, n2, n3, n4, n5, n6])
  refine tk 3 (v := ?_) rfl (Or.inl ⟨by rfl, ?_⟩) ?_
  rotate_left
  ·intro w' hSw; (try dsimp only at hSw); have k3 := hSw.1.cell 3; have k4 := hSw.1.cell 4; have q1 := hSw.2.1; have q2 := hSw.2.2; go_simp; (try with_reducible rfl)
  (try simp only [Act.put, n1, n2, n3, n4, n5, n6])
  refine tk 4 (v := ?_) rfl (Or.inl ⟨by rfl, ?_⟩) ?_
  rotate_left
  ·intro w' hSw; (try dsimp only at hSw); have k3 := hSw.1.cell 3; have k4 := hSw.1.cell 4; have q1 := hSw.2.1; have q2 := hSw.2.2; go_simp; (try with_reducible rfl)
  (try simp only [Act.put, n1, n2, n3, n4, n5, n6])
  refine tk 5 (v := ?_) rfl (Or.inl ⟨by rfl, ?_⟩) ?_
  rotate_left
  ·intro w' hSw; (try dsimp only at hSw); have k3 := hSw.1.cell 3; have k4 := hSw.1.cell 4; have q1 := hSw.2.1; have q2 := hSw.2.2; go_simp; (try with_reducible rfl)
  (try simp only [Act.put, n1, n2, n3, n4, n5, n6])
  refine tk 6 (v := ?_) rfl (Or.inl ⟨by rfl, ?_⟩) ?_
  rotate_left
  ·intro w' hSw; (try dsimp only at hSw); have k3 := hSw.1.cell 3; have k4 := hSw.1.cell 4; have q1 := hSw.2.1; have q2 := hSw.2.2; go_simp; (try with_reducible rfl)
  (try simp only [Act.put, n1, n2, n3, n4, n5, n6])
  refine tk 7 (v := ?_) rfl (Or.inl ⟨by rfl, ?_⟩) ?_
  rotate_left
  ·intro w' hSw; (try dsimp only at hSw); have k3 := hSw.1.cell 3; have k4 := hSw.1.cell 4; have q1 := hSw.2.1; have q2 := hSw.2.2; go_simp; (try with_reducible rfl)
  (try simp only [Act.put, n1, n2, n3, n4, n5, n6])
  refine tk 8 (v := ?_) rfl (Or.inl ⟨by rfl, ?_⟩) ?_
  rotate_left
  ·intro w' hSw; (try dsimp only at hSw); have k3 := hSw.1.cell 3; have k4 := hSw.1.cell 4; have q1 := hSw.2.1; have q2 := hSw.2.2; go_simp; (try with_reducible rfl)
  (try simp only [Act.put, n1, n2, n3, n4, n5, n6])
  refine tk 9 (v := ?_) rfl (Or.inl ⟨by rfl, ?_⟩) ?_
  rotate_left
  ·intro w' hSw; (try dsimp only at hSw); have k3 := hSw.1.cell 3; have k4 := hSw.1.cell 4; have q1 := hSw.2.1; have q2 := hSw.2.2; go_simp; (try with_reducible rfl)
  (try simp only [Act.put, n1, n2, n3, n4, n5, n6])
  refine tk 10 (v := ?_) rfl (Or.inl ⟨by rfl, ?_⟩) ?_
  rotate_left
  ·intro w' hSw; (try dsimp only at hSw); have k3 := hSw.1.cell 3; have k4 := hSw.1.cell 4; have q1 := hSw.2.1; have q2 := hSw.2.2; go_simp; (try with_reducible rfl)
  (try simp only [Act.put, n1, n2, n3, n4, n5, n6])
  refine tk 11 (v := ?_) rfl (Or.inl ⟨by rfl, ?_⟩) ?_
  rotate_left
  ·intro w' hSw; (try dsimp only at hSw); have k3 := hSw.1.cell 3; have k4 := hSw.1.cell 4; have q1 := hSw.2.1; have q2 := hSw.2.2; go_simp; (try with_reducible rfl)
  (try simp only [Act.put, n1, n2, n3, n4, n5, n6])
  refine tk 12 (v := ?_) rfl (Or.inl ⟨by rfl, ?_⟩) ?_
  rotate_left
  ·intro w' hSw; (try dsimp only at hSw); have k3 := hSw.1.cell 3; have k4 := hSw.1.cell 4; have q1 := hSw.2.1; have q2 := hSw.2.2; go_simp; (try with_reducible rfl)
  (try simp only [Act.put, n1, n2, n3, n4, n5, n6])
  refine tk 13 (v := ?_) rfl (Or.inl ⟨by rfl, ?_⟩) ?_
  rotate_left
  ·intro w' hSw; (try dsimp only at hSw); have k3 := hSw.1.cell 3; have k4 := hSw.1.cell 4; have q1 := hSw.2.1; have q2 := hSw.2.2; go_simp; (try with_reducible rfl)
  (try simp only [Act.put, n1, n2, n3, n4, n5, n6])
  refine tk 14 (v := ?_) rfl (Or.inl ⟨by rfl, ?_⟩) ?_
  rotate_left
  ·intro w' hSw; (try dsimp only at hSw); have k3 := hSw.1.cell 3; have k4 := hSw.1.cell 4; have q1 := hSw.2.1; have q2 := hSw.2.2; go_simp; (try with_reducible rfl)
  (try simp only [Act.put, n1, n2, n3, n4, n5, n6])
  refine wpAnyF_ready (rs := [15]) (by kernel_rfl) (by simp) ?_
  refine AllReadyF.cons rfl (fun KK hKK => ?_) AllReadyF.nil
  go_simp
  ((with_reducible refine (HO.out _).mono ?_); rintro e' w4 ⟨rfl, rfl⟩)
  (try go_simp)
  refine hKK.out _ _ hHeld (fun hHeld => ?_)
  clear hKK KK
  (try simp only [Act.put, n1, n2, n3, n4, n5, n6])
  refine tk 16 (v := ?_) rfl (Or.inl ⟨by rfl, ?_⟩) ?_
  rotate_left
  ·intro w' hSw; (try dsimp only at hSw); have k3 := hSw.1.cell 3; have k4 := hSw.1.cell 4; have q1 := hSw.2.1; have q2 := hSw.2.2; go_simp; (try with_reducible rfl)
  (try simp only [Act.put, n1, n2, n3, n4, n5, n6])
  refine tk 17 (v := ?_) rfl (Or.inl ⟨by rfl, ?_⟩) ?_
  rotate_left
  ·intro w' hSw; (try dsimp only at hSw); have k3 := hSw.1.cell 3; have k4 := hSw.1.cell 4; have q1 := hSw.2.1; have q2 := hSw.2.2; go_simp; (try with_reducible rfl)
  (try simp only [Act.put, n1, n2, n3, n4, n5, n6])
  refine tk 18 (v := ?_) rfl (Or.inl ⟨by rfl, ?_⟩) ?_
  rotate_left
  ·intro w' hSw; (try dsimp only at hSw); have k3 := hSw.1.cell 3; have k4 := hSw.1.cell 4; have q1 := hSw.2.1; have q2 := hSw.2.2; go_simp; (try with_reducible rfl)
  (try simp only [Act.put, n1, n2, n3, n4, n5, n6])
  refine wpAnyF_done (by kernel_rfl) ?_ _
  refine NoPanic.normal ?_
  go_wp2
  go_ret2
  exact ⟨rfl, HB2.out⟩
set_option maxRecDepth 100000 in
set_option maxHeartbeats 2000000 in
theorem rread_rest (h : RdAt w lo hi' b c D) (ok : D.Ok) {off wd : Int} (r f n : Int) (hp : PlOk ⟨r, f, n⟩ n.toNat) (h1 : r ≠ 1) (h2 : r ≠ 2) (h13 : r ≠ 13)
  (HF : Hi (Calls Tryz.prog 89 #[.int .i64 off, .int .i64 wd] w (Finds w (⟨r, f, n⟩, 0)))) :
  Calls Tryz.prog 59 #[.pointer (some ⟨b 0, 0, none⟩), .int .i64 off, .int .i64 wd] w fun e w' => e = .returned (.tuple #[.int .u64 (readV ⟨r, f, n⟩ n.toNat 32 D.sh : Nat), .int .i64 0]) ∧ Below w.heap.size w w' := by
 unfold Finds at HF
 dsimp only [Pl.v] at HF
 have HD := hi h
 have hlt := h.box.lt
 have q1 : (r == 1) = false := by simpa using h1
 have q2 : (r == 2) = false := by simpa using h2
 have q3 : (r == 13) = false := by simpa using h13
 have HRD := hi (fun W (q : Below w.heap.size w W) => rfb_read (h.below q).shr ok.fitS ok.fsh hp)
 obtain ⟨V, hV⟩ : ∃ V, readV ⟨r, f, n⟩ n.toNat 32 D.sh = V := ⟨_, rfl⟩
 rw [hV] at HRD ⊢
 clear h ok hp hV h1 h2 h13
 dsimp only [Pl.v] at HRD
 go_enter Tryz.func59, Tryz.ntmps59
 go_wp2_with (first
  | (go_at_call 89; ((with_reducible refine HF.out.mono ?_); rintro e' wF ⟨rfl, hb⟩; have HB := hi (hb.alloc hb.size (.cells #[.int .i64 r, .int .i64 f, .int .i64 n] 70)); have HPB := hi (CB.new wF 70 #[.int .i64 r, .int .i64 f, .int .i64 n]); have hsz := hb.size; clear hb)))
 obtain ⟨W1, hW1⟩ : ∃ W1, wF.alloc (.cells #[.int .i64 r, .int .i64 f, .int .i64 n] 70) = W1 := ⟨_, rfl⟩
 obtain ⟨N, hN⟩ : ∃ N, wF.heap.size = N := ⟨_, rfl⟩
 rw [hW1] at HB HPB ⊢
 rw [hN] at HPB hsz ⊢
 have HB1 := hi (show Below w.heap.size w W1.drew from Below.drewN (m := 1) HB.out)
 have HD1 := hi (HD.out.below HB1.out)
 have HPB1 := hi HPB.out.drew
 clear hW1 hN HPB
 refine wp_region_noPanic ?_
 refine wp_region_last_drew (S := (fun W' => CB W' (b 0) 105 #[.bool D.g0, .bool D.g1, .pointer (some ⟨b 5, 0, none⟩), .slice (some ⟨b 1, 0, none⟩) D.sh.length (c 0), .slice (some ⟨b 2, 0, none⟩) D.sh.length (c 1), .slice (some ⟨b 3, 0, none⟩) D.cs.length (c 2), .slice (some ⟨b 4, 0, none⟩) D.cs.length (c 3)] ∧ CB W' N 70 #[.int .i64 r, .int .i64 f, .int .i64 n])) [] (by kernel_rfl) ⟨HD1.out.box, HPB1.out⟩ (fun hHeld => ?_)
 (try simp only [r1, r2, r3, r4, r5])
 obtain ⟨Wd, hWd⟩ : ∃ Wd, W1.drew = Wd := ⟨_, rfl⟩
 rw [hWd] at HD1 HB1 HPB1 hHeld ⊢
 clear hWd
 refine tk 0 (v := ?_) rfl (Or.inl ⟨by rfl, ?_⟩) ?_
 rotate_left
 ·intro w' hSw; (try dsimp only at hSw); have k2 := hSw.1.cell 2; have p0 := hSw.2.cell 0; have p1 := hSw.2.cell 1; have p2 := hSw.2.cell 2; go_simp; (try with_reducible rfl)
 (try simp only [Act.put, n1, n2, n4, n5, n6])
 refine tk 1 (v := ?_) rfl (Or.inl ⟨by rfl, ?_⟩) ?_
 rotate_left
 ·intro w' hSw; (try dsimp only at hSw); have k2 := hSw.1.cell 2; have p0 := hSw.2.cell 0; have p1 := hSw.2.cell 1; have p2 := hSw.2.cell 2; go_simp; (try with_reducible rfl)
 (try simp only [Act.put, n1, n2, n3, n4, n5, n6])
 refine tk 2 (v := ?_) rfl (Or.inl ⟨by rfl, ?_⟩) ?_
 rotate_left
 ·intro w' hSw; (try dsimp only at hSw); have k2 := hSw.1.cell 2; have p0 := hSw.2.cell 0; have p1 := hSw.2.cell 1; have p2 := hSw.2.cell 2; go_simp; (try with_reducible rfl)
 (try simp only [Act.put, n1, n2, n3, n4, n5, n6])
 refine tk 3 (v := ?_) rfl (Or.inl ⟨by rfl, ?_⟩) ?_
 rotate_left
 ·intro w' hSw; (try dsimp only at hSw); have k2 := hSw.1.cell 2; have p0 := hSw.2.cell 0; have p1 := hSw.2.cell 1; have p2 := hSw.2.cell 2; go_simp; (try with_reducible rfl)
 (try simp only [Act.put, n1, n2, n3, n4, n5, n6])
 refine tk 4 (v := ?_) rfl (Or.inl ⟨by rfl, ?_⟩) ?_
 rotate_left
 ·intro w' hSw; (try dsimp only at hSw); have k2 := hSw.1.cell 2; have p0 := hSw.2.cell 0; have p1 := hSw.2.cell 1; have p2 := hSw.2.cell 2; go_simp; (try with_reducible rfl)
 (try simp only [Act.put, n1, n2, n3, n4, n5, n6])
 refine wpAnyF_ready (rs := [5]) (by kernel_rfl) (by simp) ?_
 refine AllReadyF.cons rfl (fun KK hKK => ?_) AllReadyF.nil
 go_simp
 ((with_reducible refine (HRD.out _ HB1.out).mono ?_); rintro e' w4 ⟨rfl, hb⟩; have HB4 := hi (HB1.out.trans (hb.mono HB1.out.size)); have hSS := And.intro (hHeld.1.below hb) (hHeld.2.below hb); clear hb)
 (try go_simp)
 refine hKK.out _ _ hSS (fun hHeld => ?_)
 clear hKK KK
 (try simp only [Act.put, n1, n2, n3, n4, n5, n6])
 refine tk 6 (v := ?_) rfl (Or.inl ⟨by rfl, ?_⟩) ?_
 rotate_left
 ·intro w' hSw; (try dsimp only at hSw); have k2 := hSw.1.cell 2; have p0 := hSw.2.cell 0; have p1 := hSw.2.cell 1; have p2 := hSw.2.cell 2; go_simp; (try with_reducible rfl)
 (try simp only [Act.put, n1, n2, n3, n4, n5, n6])
 refine tk 7 (v := ?_) rfl (Or.inl ⟨by rfl, ?_⟩) ?_
 rotate_left
 ·intro w' hSw; (try dsimp only at hSw); have k2 := hSw.1.cell 2; have p0 := hSw.2.cell 0; have p1 := hSw.2.cell 1; have p2 := hSw.2.cell 2; go_simp; (try with_reducible rfl)
 (try simp only [Act.put, n1, n2, n3, n4, n5, n6])
 refine wpAnyF_done (by kernel_rfl) ?_ _
 refine NoPanic.normal ?_
 go_wp2
 go_ret2
 exact ⟨rfl, HB4.out⟩
set_option maxHeartbeats 1000000 in
theorem rread_no (h : RdAt w lo hi' b c D) {off wd : Int} (p : Pl) (er : Int) (he : er ≠ 0)
  (HF : Hi (Calls Tryz.prog 89 #[.int .i64 off, .int .i64 wd] w (Finds w (p, er)))) :
  Calls Tryz.prog 59 #[.pointer (some ⟨b 0, 0, none⟩), .int .i64 off, .int .i64 wd] w fun e w' => e = .returned (.tuple #[.int .u64 (0 : Nat), .int .i64 er]) ∧ Below w.heap.size w w' := by
 obtain ⟨r, f, n⟩ := p
 unfold Finds at HF
 dsimp only [Pl.v] at HF
 have he2 : (er != 0) = true := by simpa using he
 clear h he
 go_enter Tryz.func59, Tryz.ntmps59
 go_wp2_with (first
  | (go_at_call 89; ((with_reducible refine HF.out.mono ?_); rintro e' wF ⟨rfl, hb⟩; have HB := hi hb; clear hb)))
 go_ret2
 exact ⟨rfl, HB.out.alloc HB.out.size _⟩
theorem rread_dist (h : RdAt w lo hi' b c D) (ok : D.Ok) {off wd : Int} (hoff : Int64 off) :
  Calls Tryz.prog 59 #[.pointer (some ⟨b 0, 0, none⟩), .int .i64 off, .int .i64 wd] w fun e w' => e = .returned (.tuple #[.int .u64 (readDV D off wd).1, .int .i64 (readDV D off wd).2]) ∧ Below w.heap.size w w' := by
 obtain ⟨p, er, hf⟩ : ∃ p er, fdV off wd = (p, er) := ⟨_, _, rfl⟩
 have HF := refDist_any off wd w hoff
 rw [show findV distRows 65536 off wd = (p, er) from hf] at HF
 have hp : ∃ c, PlOk p c := by have := fd_few off wd; rwa [hf] at this
 obtain ⟨n0, hp⟩ := hp
 have hp := hp.cn
 unfold readDV
 rw [hf]
 dsimp only
 by_cases he : er = 0
 ·subst he
  rw [if_pos rfl]
  obtain ⟨r, f, n⟩ := p
  unfold readPl
  dsimp only
  by_cases h1 : r = 1
  ·subst h1
   rw [if_pos rfl]
   exact rread_ctlr h f n (hi HF)
  rw [if_neg h1]
  by_cases h2 : r = 2
  ·subst h2
   rw [if_pos rfl]
   exact rread_typer h ok f n (hi HF)
  rw [if_neg h2]
  by_cases h13 : r = 13
  ·subst h13
   rw [if_pos rfl]
   exact rread_rout h ok f n (hi HF)
  rw [if_neg h13]
  exact rread_rest h ok r f n hp h1 h2 h13 (hi HF)
 ·rw [if_neg he]
  exact rread_no h p er he (hi HF)
end
end Go.Proofs.YtieedhdmpabfkaaGreat
namespace Go.Proofs.YtieedhdmpabfkaaGreat
open Go.ChangeShapes Go.WideShapes Go.ChangeAt Go.RowKit Go.Shelf
set_option linter.unusedVariables false
structure Col (w : World) (o : Value) (xs : List Int) (W : World) : Prop where
 own : W.ownsRow w.heap.size 3 1 o xs.length (xs.map (Value.int .i64))
 below : Below w.heap.size w W
theorem Col.sz {w W : World} {o : Value} {xs : List Int} (h : Col w o xs W) : w.heap.size ≤ W.heap.size := h.below.size
theorem Col.nil (w W : World) (h : Below w.heap.size w W) : Col w (.slice none 0 0) [] W := ⟨World.ownsRow_nil _ _ _ _, h⟩
theorem Col.app {w W w1 : World} {o v' : Value} {xs : List Int} {x : Int} {tmp : Obj} (h : Col w o xs W)
  (hown : w1.ownsRow w.heap.size 3 1 v' (xs.length + 1) (xs.map (Value.int .i64) ++ [.int .i64 x])) (hg : (W.alloc tmp).grownBy w1 o.ownBlock) :
  Col w v' (xs ++ [x]) w1 ∧ ∃ g cap, v' = .slice (some ⟨g, 0, none⟩) (xs.length + 1) cap := by
 refine ⟨⟨by simpa using hown, ?_⟩, ownsRow_succ hown⟩
 refine Below.grown (h.below.alloc h.sz _) hg (by have := h.sz; simp; omega) (fun k e => (h.own.lt k e).1)
theorem Col.some {w W : World} {o : Value} {xs : List Int} (h : Col w o xs W) : SomeInts w xs (.returned o) W := someInts_of (base := w.heap.size) h.own h.below
def refL (all odd : Bool) (tg fr cores : Int) : List Nat := toL ⟨0, all, tg, odd⟩ fr cores
theorem refL_eq (c : Cl) (fr cores : Int) : refL c.all c.odd c.tg fr cores = toL c fr cores := rfl
set_option maxRecDepth 100000 in
set_option maxHeartbeats 4000000 in
theorem refTo_any (all odd : Bool) (tg fr cores : Int) (w : World) : Calls Tryz.prog 96 #[.bool all, .bool odd, .int .i64 tg, .int .i64 fr, .int .i64 cores] w (fun e W => ∃ o, e = .returned o ∧ Col w o (nums (refL all odd tg fr cores)) W) := by
 obtain ⟨i0, hi', hz0, hz1, hz2⟩ := info_parts info_i
 have hcap : capN cores = (min cores 8).toNat := rfl
 obtain ⟨f, hf⟩ : ∃ f, callV ⟨0, all, tg, odd⟩ fr = f := ⟨_, rfl⟩
 have hr : refL all odd tg fr cores = upto f (capN cores) := by rw [← hf]; rfl
 rw [hr]
 have HF := hi (fun k => congrFun hf k)
 clear hr hf
 go_enter Tryz.func96, Tryz.ntmps96
 go_wp2
 go_loopw [11, 12] (fun o i wr => ∃ k : Nat, i = .int .i64 k ∧ Hi (k ≤ capN cores ∧ Col w o (nums (upto f k)) wr)) (fun _ i _ => 8 - (intOf i).toNat)
 case atStart => exact ⟨0, rfl, hi ⟨Nat.zero_le _, Col.nil _ _ (Below.refl _ _)⟩⟩
 case round =>
  obtain ⟨k, rfl, HH⟩ := hrel
  obtain ⟨hk, hC⟩ := HH.out
  by_cases hlt : k < capN cores
  ·have x1 : (k : Int) < cores := by omega
   have x2 : (k : Int) < 8 := by omega
   have hfk := HF.out k
   obtain ⟨q, eq⟩ : ∃ q, nums (upto f k) = q := ⟨_, rfl⟩
   have hq8 : q.length ≤ 8 := by rw [← eq, nums_len]; have := upto_len f k; omega
   rw [eq] at hC
   have HC := hi hC
   have HLT := hi hlt
   have HQ := hi eq
   have hb := bit_eq tg k (by omega)
   obtain ⟨ao, co, rfl⟩ := own_slice HC.out.own
   clear hC hlt hk HH hcap eq
   cases all
   ·cases odd
    ·cases hbt : bt tg k
     ·rw [hbt] at hb
      replace hfk : f k = false := by rw [← hfk]; simp [callV, hbt]
      clear hbt
      have HE := hi (upto_neg hfk)
      clear hfk HF
      go_wp2
      go_roundw
      case rel => exact ⟨k + 1, by go_num, hi ⟨HLT.out, by rw [HE.out, HQ.out]; exact HC.out⟩⟩
      case measure => have := HLT.out; simp only [intOf]; omega
     ·rw [hbt] at hb
      replace hfk : f k = true := by rw [← hfk]; simp [callV, hbt]
      clear hbt
      have HE := hi (upto_pos hfk)
      clear hfk HF
      go_wp2_with (first
       | (at_builtin; refine wpList_append_own _ rfl _ _ 47 rfl w.heap.size 3 i0 (.int .i64 0) 1 8 Tryz.underlying47 hi' hz0 hz1 hz2 rfl (by decide) _ _ _ rfl (HC.out.own.alloc _) ⟨wr.heap.size, 0, none⟩ 1 1 [.int .i64 k] rfl rfl (cell_one_new _ _ _) (by simp [Value.oneCell']) (by unfold maxLen; omega) (by omega) (by have := HC.out.sz; simp; omega) ?_; intro v' w1 hown' hgrow _; obtain ⟨hc1, g', cap', rfl⟩ := HC.out.app hown' hgrow; replace HC := hi hc1; clear hown' hgrow hc1))
      go_roundw
      case rel => exact ⟨k + 1, by go_num, hi ⟨HLT.out, by rw [HE.out, nums_append, nums_one, HQ.out]; exact HC.out⟩⟩
      case measure => have := HLT.out; simp only [intOf]; omega
    ·replace hfk : f k = false := by rw [← hfk]; simp [callV]
     clear hb
     have HE := hi (upto_neg hfk)
     clear hfk HF
     go_wp2
     go_roundw
     case rel => exact ⟨k + 1, by go_num, hi ⟨HLT.out, by rw [HE.out, HQ.out]; exact HC.out⟩⟩
     case measure => have := HLT.out; simp only [intOf]; omega
   ·by_cases hkf : (k : Int) = fr
    ·have ht : ((k : Int) != fr) = false := by simp [hkf]
     replace hfk : f k = false := by rw [← hfk]; simp [callV, hkf]
     clear hb hkf
     have HE := hi (upto_neg hfk)
     clear hfk HF
     go_wp2
     go_roundw
     case rel => exact ⟨k + 1, by go_num, hi ⟨HLT.out, by rw [HE.out, HQ.out]; exact HC.out⟩⟩
     case measure => have := HLT.out; simp only [intOf]; omega
    ·have ht : ((k : Int) != fr) = true := by simp [hkf]
     replace hfk : f k = true := by rw [← hfk]; simp [callV, hkf]
     clear hb hkf
     have HE := hi (upto_pos hfk)
     clear hfk HF
     go_wp2_with (first
      | (at_builtin; refine wpList_append_own _ rfl _ _ 47 rfl w.heap.size 3 i0 (.int .i64 0) 1 8 Tryz.underlying47 hi' hz0 hz1 hz2 rfl (by decide) _ _ _ rfl (HC.out.own.alloc _) ⟨wr.heap.size, 0, none⟩ 1 1 [.int .i64 k] rfl rfl (cell_one_new _ _ _) (by simp [Value.oneCell']) (by unfold maxLen; omega) (by omega) (by have := HC.out.sz; simp; omega) ?_; intro v' w1 hown' hgrow _; obtain ⟨hc1, g', cap', rfl⟩ := HC.out.app hown' hgrow; replace HC := hi hc1; clear hown' hgrow hc1))
     go_roundw
     case rel => exact ⟨k + 1, by go_num, hi ⟨HLT.out, by rw [HE.out, nums_append, nums_one, HQ.out]; exact HC.out⟩⟩
     case measure => have := HLT.out; simp only [intOf]; omega
  ·have ek : k = capN cores := by omega
   have hx : ¬ (k : Int) < cores ∨ ((k : Int) < cores ∧ ¬ (k : Int) < 8) := by omega
   rw [ek] at hC
   have HC := hi hC
   obtain ⟨ao, co, rfl⟩ := own_slice HC.out.own
   clear hC hlt hk HH hcap ek HF
   rcases hx with hx | ⟨hx, hx2⟩
   all_goals
    go_wp2
    go_ret
    exact ⟨_, rfl, HC.out⟩
def NotUpto (xs : List Int) (x : Int) (k : Nat) : Prop := ∀ j, j < k → xs[j]?.getD 0 ≠ x
theorem NotUpto.zero (xs : List Int) (x : Int) : NotUpto xs x 0 := fun j h => by omega
theorem NotUpto.succ {xs : List Int} {x : Int} {k : Nat} (h : NotUpto xs x k) (e : xs[k]?.getD 0 ≠ x) : NotUpto xs x (k + 1) := fun j hj => by
 by_cases y : j = k
 ·subst y; exact e
 ·exact h j (by omega)
end Go.Proofs.YtieedhdmpabfkaaGreat
