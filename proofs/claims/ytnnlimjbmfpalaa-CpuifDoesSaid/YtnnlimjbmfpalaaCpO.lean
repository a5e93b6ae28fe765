/-
  The document's interface: Read, Write.
-/
import Derived.Test.YtnnlimjbmfpalaaCpM
namespace Go.Proofs.Ytnnlimjbmfpalaa
open Go.ChangeShapes Go.WideShapes Go.ChangeAt Go.RowKit Go.Shelf
set_option linter.unusedVariables false
attribute [local go_sem] Oper.semAt_some

set_option maxHeartbeats 4000000 in
theorem rread_if (x : Fc) (rg : Int) (w : World) : Calls Try.prog 13 #[rfv x, .int .i64 rg] w fun e w' => e = .returned (.tuple #[.int .u64 (readC x rg).1, .bool (readC x rg).2]) ∧ Below w.heap.size w w' := by
  obtain ⟨m, p0, p1, o0, o1, sp, r⟩ := x
  have HRU := hi (fun W => show Calls Try.prog 37 #[.agg (bsL r).toArray] W fun e w' => e = .returned (.tuple #[.int .i64 (runV r).1, .int .i64 (runV r).2]) ∧ Below W.heap.size W w' from rrunning_any r W)
  have HZ := hi (size_ref r)
  obtain ⟨A, hA⟩ : ∃ A, rifA ⟨m, p0, p1, o0, o1, sp, r⟩ = A := ⟨_, rfl⟩
  have h := CB.new w 36 A
  have HB0 := hi (bal w (.cells A 36))
  have HS := hi (show World.rangeAt (w.alloc (.cells A 36)) w.heap.size 6 (bsL r) from (show CB (w.alloc (.cells A 36)) w.heap.size 36 (rifA ⟨m, p0, p1, o0, o1, sp, r⟩) from by rw [hA]; exact h).runs)
  have f0 : (w.alloc (.cells A 36)).cell? ⟨w.heap.size, 0, none⟩ = some (.int .i64 m) := (h.cell 0).trans (by rw [← hA]; rfl)
  have f1 : (w.alloc (.cells A 36)).cell? ⟨w.heap.size, 1, none⟩ = some (.int .i64 p0) := (h.cell 1).trans (by rw [← hA]; rfl)
  have f2 : (w.alloc (.cells A 36)).cell? ⟨w.heap.size, 2, none⟩ = some (.int .i64 p1) := (h.cell 2).trans (by rw [← hA]; rfl)
  have f3 : (w.alloc (.cells A 36)).cell? ⟨w.heap.size, 3, none⟩ = some (.bool o0) := (h.cell 3).trans (by rw [← hA]; rfl)
  have f4 : (w.alloc (.cells A 36)).cell? ⟨w.heap.size, 4, none⟩ = some (.bool o1) := (h.cell 4).trans (by rw [← hA]; rfl)
  have f5 : (w.alloc (.cells A 36)).cell? ⟨w.heap.size, 5, none⟩ = some (.bool sp) := (h.cell 5).trans (by rw [← hA]; rfl)
  unfold readC
  show Calls Try.prog 13 #[.agg (rifA ⟨m, p0, p1, o0, o1, sp, r⟩), .int .i64 rg] w _
  rw [hA]
  dsimp only
  clear h hA
  rcases regs_cases rg with rfl | rfl | rfl | rfl | rfl | rfl | rfl | hn
  · rw [if_pos rfl]
    go_enter Try.func13, Try.ntmps13
    go_wp2
    go_ret2
    exact ⟨rfl, HB0.out⟩
  · rw [if_neg (by decide), if_pos rfl]
    go_enter Try.func13, Try.ntmps13
    go_wp2
    go_ret2
    exact ⟨rfl, HB0.out⟩
  · rw [if_neg (by decide), if_neg (by decide), if_pos rfl]
    by_cases h1 : p1 < 1
    · have hx : max1 p1 = 1 := by unfold max1; rw [if_pos h1]
      rw [hx]
      go_enter Try.func13, Try.ntmps13
      go_wp2
      go_ret2
      exact ⟨rfl, HB0.out⟩
    · have hx : max1 p1 = p1 := by unfold max1; rw [if_neg h1]
      rw [hx]
      go_enter Try.func13, Try.ntmps13
      go_wp2
      go_ret2
      exact ⟨rfl, HB0.out⟩
  · rw [if_neg (by decide), if_neg (by decide), if_neg (by decide), if_pos rfl]
    have HG := hi (fun W => show Calls Try.prog 36 #[.bool sp, .int .u64 2] W fun e w' => e = .returned (.int .u64 (flagN sp 2 : Nat)) ∧ W = w' from one_any sp 2 W)
    go_enter Try.func13, Try.ntmps13
    go_wp2_with (go_at_call 36; ((with_reducible refine (HG.out _).mono ?_); rintro e w1 ⟨rfl, rfl⟩))
    go_ret2
    exact ⟨rfl, HB0.out⟩
  · rw [if_neg (by decide), if_neg (by decide), if_neg (by decide), if_neg (by decide), if_pos rfl]
    have HG := hi (fun W => show Calls Try.prog 36 #[.bool o0, .int .u64 1] W fun e w' => e = .returned (.int .u64 (flagN o0 1 : Nat)) ∧ W = w' from one_any o0 1 W)
    go_enter Try.func13, Try.ntmps13
    go_wp2_with (go_at_call 36; ((with_reducible refine (HG.out _).mono ?_); rintro e w1 ⟨rfl, rfl⟩))
    go_ret2
    exact ⟨rfl, HB0.out⟩
  · rw [if_neg (by decide), if_neg (by decide), if_neg (by decide), if_neg (by decide), if_neg (by decide), if_pos rfl]
    have HG := hi (fun W => show Calls Try.prog 36 #[.bool o1, .int .u64 1] W fun e w' => e = .returned (.int .u64 (flagN o1 1 : Nat)) ∧ W = w' from one_any o1 1 W)
    go_enter Try.func13, Try.ntmps13
    go_wp2_with (go_at_call 36; ((with_reducible refine (HG.out _).mono ?_); rintro e w1 ⟨rfl, rfl⟩))
    go_ret2
    exact ⟨rfl, HB0.out⟩
  · rw [if_neg (by decide), if_neg (by decide), if_neg (by decide), if_neg (by decide), if_neg (by decide), if_neg (by decide), if_pos rfl]
    go_enter Try.func13, Try.ntmps13
    go_wp2_with (first
      | (refine wpList_load_mid rfl 34 (.tmp 49) rfl w.heap.size 6 rfl (bsL r) _ HS.out Try.underlying34 rfl HZ.out ?_)
      | (go_at_call 37; ((with_reducible refine (HRU.out _).mono ?_); rintro e w1 ⟨rfl, hb⟩; have HB1 := hi (HB0.out.trans (hb.mono HB0.out.size)); clear hb)))
    go_ret2
    exact ⟨rfl, HB1.out⟩
  · obtain ⟨n6, n7, n8, n9, n10, n11, n12⟩ := hn
    rw [if_neg n6, if_neg n7, if_neg n8, if_neg n9, if_neg n10, if_neg n11, if_neg n12]
    have e6 : (rg == 6) = false := by simpa using n6
    have e7 : (rg == 7) = false := by simpa using n7
    have e8 : (rg == 8) = false := by simpa using n8
    have e9 : (rg == 9) = false := by simpa using n9
    have e10 : (rg == 10) = false := by simpa using n10
    have e11 : (rg == 11) = false := by simpa using n11
    have e12 : (rg == 12) = false := by simpa using n12
    go_enter Try.func13, Try.ntmps13
    go_wp2
    go_ret2
    exact ⟨rfl, HB0.out⟩
set_option maxRecDepth 100000 in
set_option maxHeartbeats 8000000 in
theorem rwrite_if (x : Fc) (rg : Int) (v : Nat) (hv : v < 18446744073709551616) (w : World) : Calls Try.prog 34 #[rfv x, .int .i64 rg, .int .u64 v] w fun e w' => e = .returned (.tuple #[rfv (writeC x rg v).1, .bool (writeC x rg v).2]) ∧ Below w.heap.size w w' := by
  obtain ⟨m, p0, p1, o0, o1, sp, r⟩ := x
  have HR := hi (fun p W => refReal_any p W)
  have HZ := hi (size_rif ⟨m, p0, p1, o0, o1, sp, r⟩)
  have HZA := hi (size_rifA ⟨m, p0, p1, o0, o1, sp, r⟩)
  have H1 := hi (rifA_one ⟨m, p0, p1, o0, o1, sp, r⟩)
  have hf := ((CB.new w 36 (rifA ⟨m, p0, p1, o0, o1, sp, r⟩)).alloc (.cells (rifA Fc.zero) 36))
  have hz := cb_second (w := w) (o := .cells (rifA ⟨m, p0, p1, o0, o1, sp, r⟩) 36) (cs := rifA Fc.zero) (t := 36)
  have HS0 := hi hf.rif
  have b2 := bal_two w (.cells (rifA ⟨m, p0, p1, o0, o1, sp, r⟩) 36) (.cells (rifA Fc.zero) 36)
  have b3 := b2.alloc b2.size (.cells (rifA Fc.zero) 36)
  have hg : CB (((w.alloc (.cells (rifA ⟨m, p0, p1, o0, o1, sp, r⟩) 36)).alloc (.cells (rifA Fc.zero) 36)).alloc (.cells (rifA Fc.zero) 36)) (w.heap.size + 1 + 1) 36 (rifA Fc.zero) := by
    have := CB.new ((w.alloc (.cells (rifA ⟨m, p0, p1, o0, o1, sp, r⟩) 36)).alloc (.cells (rifA Fc.zero) 36)) 36 (rifA Fc.zero)
    simpa using this
  have HT0 := hi (show World.there (((w.alloc (.cells (rifA ⟨m, p0, p1, o0, o1, sp, r⟩) 36)).alloc (.cells (rifA Fc.zero) 36)).alloc (.cells (rifA Fc.zero) 36)) (w.heap.size + 1 + 1) 0 (rifA ⟨m, p0, p1, o0, o1, sp, r⟩).size by rw [rifA_size]; exact hg.thereR (rifA_size _))
  obtain ⟨W4, hW4, F4, Z4, G4, B4⟩ : ∃ W, (((w.alloc (.cells (rifA ⟨m, p0, p1, o0, o1, sp, r⟩) 36)).alloc (.cells (rifA Fc.zero) 36)).alloc (.cells (rifA Fc.zero) 36)).setCells (w.heap.size + 1 + 1) 0 (rifL ⟨m, p0, p1, o0, o1, sp, r⟩) = W ∧ CB W w.heap.size 36 (rifA ⟨m, p0, p1, o0, o1, sp, r⟩) ∧ CB W (w.heap.size + 1) 36 (rifA Fc.zero) ∧ CB W (w.heap.size + 1 + 1) 36 (rifA ⟨m, p0, p1, o0, o1, sp, r⟩) ∧ Below w.heap.size w W :=
    ⟨_, rfl, CB.otherCells (by omega) _ _ _ (hf.alloc _), CB.otherCells (by omega) _ _ _ (hz.alloc _), hg.wholeR (rifA_size _) ⟨m, p0, p1, o0, o1, sp, r⟩, below_cells (by omega) _ _ _ b3⟩
  have HW4 := hi hW4
  have HS4 := hi F4.rif
  have HT4 := hi (show World.there W4 (w.heap.size + 1) 0 (rifA ⟨m, p0, p1, o0, o1, sp, r⟩).size by rw [rifA_size]; exact Z4.thereR (rifA_size _))
  have HN := hi (show CB (W4.setCells (w.heap.size + 1) 0 (rifA ⟨m, p0, p1, o0, o1, sp, r⟩).toList) (w.heap.size + 1) 36 (rifA ⟨m, p0, p1, o0, o1, sp, r⟩) ∧ Below w.heap.size w (W4.setCells (w.heap.size + 1) 0 (rifA ⟨m, p0, p1, o0, o1, sp, r⟩).toList) from ⟨Z4.wholeR (rifA_size _) ⟨m, p0, p1, o0, o1, sp, r⟩, below_cells (by omega) _ _ _ B4⟩)
  have HA := hi (fun (o : Nat) (u : Value) (y : Fc) (e : (rifA ⟨m, p0, p1, o0, o1, sp, r⟩).setIfInBounds o u = rifA y) => show World.rangeAt (W4.setCell ⟨w.heap.size + 1 + 1, o, none⟩ u) (w.heap.size + 1 + 1) 0 (rifL y) ∧ World.there (W4.setCell ⟨w.heap.size + 1 + 1, o, none⟩ u) (w.heap.size + 1) 0 (rifA y).size ∧ CB ((W4.setCell ⟨w.heap.size + 1 + 1, o, none⟩ u).setCells (w.heap.size + 1) 0 (rifA y).toList) (w.heap.size + 1) 36 (rifA y) ∧ Below w.heap.size w ((W4.setCell ⟨w.heap.size + 1 + 1, o, none⟩ u).setCells (w.heap.size + 1) 0 (rifA y).toList) from by
    have k1 := G4.set o u
    rw [e] at k1
    have k2 := Z4.other (w.heap.size + 1 + 1) o u (by omega)
    exact ⟨k1.rif, by rw [rifA_size]; exact k2.thereR (rifA_size _), k2.wholeR (rifA_size _) y, below_cells (by omega) _ _ _ (below_set B4 (by omega) _)⟩)
  have HA2 := hi (fun (y : Fc) (e : ((rifA ⟨m, p0, p1, o0, o1, sp, r⟩).setIfInBounds 2 (.int .i64 0)).setIfInBounds 2 (.int .i64 1) = rifA y) => show World.rangeAt ((W4.setCell ⟨w.heap.size + 1 + 1, 2, none⟩ (.int .i64 0)).setCell ⟨w.heap.size + 1 + 1, 2, none⟩ (.int .i64 1)) (w.heap.size + 1 + 1) 0 (rifL y) ∧ World.there ((W4.setCell ⟨w.heap.size + 1 + 1, 2, none⟩ (.int .i64 0)).setCell ⟨w.heap.size + 1 + 1, 2, none⟩ (.int .i64 1)) (w.heap.size + 1) 0 (rifA y).size ∧ CB (((W4.setCell ⟨w.heap.size + 1 + 1, 2, none⟩ (.int .i64 0)).setCell ⟨w.heap.size + 1 + 1, 2, none⟩ (.int .i64 1)).setCells (w.heap.size + 1) 0 (rifA y).toList) (w.heap.size + 1) 36 (rifA y) ∧ Below w.heap.size w (((W4.setCell ⟨w.heap.size + 1 + 1, 2, none⟩ (.int .i64 0)).setCell ⟨w.heap.size + 1 + 1, 2, none⟩ (.int .i64 1)).setCells (w.heap.size + 1) 0 (rifA y).toList) from by
    have k1 := (G4.set 2 (.int .i64 0)).set 2 (.int .i64 1)
    rw [e] at k1
    have k2 := (Z4.other (w.heap.size + 1 + 1) 2 (.int .i64 0) (by omega)).other (w.heap.size + 1 + 1) 2 (.int .i64 1) (by omega)
    exact ⟨k1.rif, by rw [rifA_size]; exact k2.thereR (rifA_size _), k2.wholeR (rifA_size _) y, below_cells (by omega) _ _ _ (below_set (below_set B4 (by omega) _) (by omega) _)⟩)
  have g0 : W4.cell? ⟨w.heap.size + 1 + 1, 0, none⟩ = some (.int .i64 m) := G4.cell 0
  have g1 : W4.cell? ⟨w.heap.size + 1 + 1, 1, none⟩ = some (.int .i64 p0) := G4.cell 1
  have g2 : W4.cell? ⟨w.heap.size + 1 + 1, 2, none⟩ = some (.int .i64 p1) := G4.cell 2
  have g3 : W4.cell? ⟨w.heap.size + 1 + 1, 3, none⟩ = some (.bool o0) := G4.cell 3
  have g4 : W4.cell? ⟨w.heap.size + 1 + 1, 4, none⟩ = some (.bool o1) := G4.cell 4
  have g5 : W4.cell? ⟨w.heap.size + 1 + 1, 5, none⟩ = some (.bool sp) := G4.cell 5
  have gf := G4.frozen
  have m8 : IntKind.i64.wrap ((v : Int) % 256) = ((v % 256 : Nat) : Int) := by rw [IntKind.wrap_i64]; omega
  have m3 : IntKind.i64.wrap ((v : Int) % 8) = ((v % 8 : Nat) : Int) := by rw [IntKind.wrap_i64]; omega
  have m1 : ((v : Int) % 2 == 1) = decide (v % 2 = 1) := by
    rcases Nat.mod_two_eq_zero_or_one v with q | q
    · have : (v : Int) % 2 = 0 := by omega
      rw [this, q]; rfl
    · have : (v : Int) % 2 = 1 := by omega
      rw [this, q]; rfl
  have m2 : ((v : Int) / 2 % 2 == 1) = decide (v / 2 % 2 = 1) := by
    rcases Nat.mod_two_eq_zero_or_one (v / 2) with q | q
    · have : (v : Int) / 2 % 2 = 0 := by omega
      rw [this, q]; rfl
    · have : (v : Int) / 2 % 2 = 1 := by omega
      rw [this, q]; rfl
  unfold writeC
  dsimp only
  clear hf hz b2 b3 hg hW4 F4 Z4 G4 B4
  rcases regs_cases rg with rfl | rfl | rfl | rfl | rfl | rfl | rfl | hn
  · rw [if_pos rfl]
    obtain ⟨h5, t5, g6, b6⟩ := HA.out 0 (.int .i64 (realV ((v % 256 : Nat) : Int))) ⟨realV ((v % 256 : Nat) : Int), p0, p1, o0, o1, sp, r⟩ (by simp [rifA, rifL])
    have HS5 := hi h5
    have HT5 := hi t5
    have G6 := hi g6
    have B6 := hi b6
    have HZy := hi (size_rif ⟨realV ((v % 256 : Nat) : Int), p0, p1, o0, o1, sp, r⟩)
    have HZAy := hi (size_rifA ⟨realV ((v % 256 : Nat) : Int), p0, p1, o0, o1, sp, r⟩)
    have H1y := hi (rifA_one ⟨realV ((v % 256 : Nat) : Int), p0, p1, o0, o1, sp, r⟩)
    clear h5 t5 g6 b6 m3 m1 m2
    go_enter Try.func34, Try.ntmps34
    go_wp2_with (first
      | (refine wpList_alloc_rif rfl rfl ?_; try simp only [World.size_alloc])
      | (refine wpList_load_mid rfl 36 (.tmp 3) rfl w.heap.size 0 rfl (rifL ⟨m, p0, p1, o0, o1, sp, r⟩) _ HS0.out Try.underlying36 rfl HZ.out ?_)
      | (refine wpList_store_mid rfl 36 (.tmp 8) (.tmp 9) rfl (w.heap.size + 1 + 1) 0 (rifA ⟨m, p0, p1, o0, o1, sp, r⟩) rfl rfl HT0.out HZA.out H1.out ?_; rw [show (rifA ⟨m, p0, p1, o0, o1, sp, r⟩).toList = rifL ⟨m, p0, p1, o0, o1, sp, r⟩ from rfl, HW4.out])
      | (refine wpList_load_mid rfl 36 (.tmp 8) rfl (w.heap.size + 1 + 1) 0 rfl (rifL ⟨realV ((v % 256 : Nat) : Int), p0, p1, o0, o1, sp, r⟩) _ HS5.out Try.underlying36 rfl HZy.out ?_)
      | (refine wpList_store_mid rfl 36 (.tmp 6) (.tmp 59) rfl (w.heap.size + 1) 0 (rifA ⟨realV ((v % 256 : Nat) : Int), p0, p1, o0, o1, sp, r⟩) rfl rfl HT5.out HZAy.out H1y.out ?_)
      | (go_at_call 53; ((with_reducible refine (HR.out _ _).mono ?_); rintro e w1 ⟨rfl, rfl⟩)))
    exact bodyPost_ret (results_rif rfl _ _ (w.heap.size + 1) ⟨realV ((v % 256 : Nat) : Int), p0, p1, o0, o1, sp, r⟩ (.bool true) rfl rfl G6.out) rfl ⟨rfl, B6.out⟩
  · rw [if_neg (by decide), if_pos rfl]
    obtain ⟨h5, t5, g6, b6⟩ := HA.out 1 (.int .i64 ((v % 8 : Nat) : Int)) ⟨m, ((v % 8 : Nat) : Int), p1, o0, o1, sp, r⟩ (by simp [rifA, rifL])
    have HS5 := hi h5
    have HT5 := hi t5
    have G6 := hi g6
    have B6 := hi b6
    have HZy := hi (size_rif ⟨m, ((v % 8 : Nat) : Int), p1, o0, o1, sp, r⟩)
    have HZAy := hi (size_rifA ⟨m, ((v % 8 : Nat) : Int), p1, o0, o1, sp, r⟩)
    have H1y := hi (rifA_one ⟨m, ((v % 8 : Nat) : Int), p1, o0, o1, sp, r⟩)
    clear h5 t5 g6 b6 m8 m1 m2
    go_enter Try.func34, Try.ntmps34
    go_wp2_with (first
      | (refine wpList_alloc_rif rfl rfl ?_; try simp only [World.size_alloc])
      | (refine wpList_load_mid rfl 36 (.tmp 3) rfl w.heap.size 0 rfl (rifL ⟨m, p0, p1, o0, o1, sp, r⟩) _ HS0.out Try.underlying36 rfl HZ.out ?_)
      | (refine wpList_store_mid rfl 36 (.tmp 8) (.tmp 9) rfl (w.heap.size + 1 + 1) 0 (rifA ⟨m, p0, p1, o0, o1, sp, r⟩) rfl rfl HT0.out HZA.out H1.out ?_; rw [show (rifA ⟨m, p0, p1, o0, o1, sp, r⟩).toList = rifL ⟨m, p0, p1, o0, o1, sp, r⟩ from rfl, HW4.out])
      | (refine wpList_load_mid rfl 36 (.tmp 8) rfl (w.heap.size + 1 + 1) 0 rfl (rifL ⟨m, ((v % 8 : Nat) : Int), p1, o0, o1, sp, r⟩) _ HS5.out Try.underlying36 rfl HZy.out ?_)
      | (refine wpList_store_mid rfl 36 (.tmp 6) (.tmp 59) rfl (w.heap.size + 1) 0 (rifA ⟨m, ((v % 8 : Nat) : Int), p1, o0, o1, sp, r⟩) rfl rfl HT5.out HZAy.out H1y.out ?_))
    exact bodyPost_ret (results_rif rfl _ _ (w.heap.size + 1) ⟨m, ((v % 8 : Nat) : Int), p1, o0, o1, sp, r⟩ (.bool true) rfl rfl G6.out) rfl ⟨rfl, B6.out⟩
  · rw [if_neg (by decide), if_neg (by decide), if_pos rfl]
    clear m8 m1 m2
    by_cases hz : v % 8 = 0
    · have hx : max1 ((v % 8 : Nat) : Int) = 1 := by rw [hz]; rfl
      rw [hx]
      have hz' : (v : Int) % 8 = 0 := by omega
      have m3 : IntKind.i64.wrap 0 = 0 := by rw [IntKind.wrap_i64]; rfl
      obtain ⟨h5, t5, g6, b6⟩ := HA2.out ⟨m, p0, 1, o0, o1, sp, r⟩ (by simp [rifA, rifL])
      have HS5 := hi h5
      have HT5 := hi t5
      have G6 := hi g6
      have B6 := hi b6
      have HZy := hi (size_rif ⟨m, p0, 1, o0, o1, sp, r⟩)
      have HZAy := hi (size_rifA ⟨m, p0, 1, o0, o1, sp, r⟩)
      have H1y := hi (rifA_one ⟨m, p0, 1, o0, o1, sp, r⟩)
      clear h5 t5 g6 b6
      go_enter Try.func34, Try.ntmps34
      go_wp2_with (first
        | (refine wpList_alloc_rif rfl rfl ?_; try simp only [World.size_alloc])
        | (refine wpList_load_mid rfl 36 (.tmp 3) rfl w.heap.size 0 rfl (rifL ⟨m, p0, p1, o0, o1, sp, r⟩) _ HS0.out Try.underlying36 rfl HZ.out ?_)
        | (refine wpList_store_mid rfl 36 (.tmp 8) (.tmp 9) rfl (w.heap.size + 1 + 1) 0 (rifA ⟨m, p0, p1, o0, o1, sp, r⟩) rfl rfl HT0.out HZA.out H1.out ?_; rw [show (rifA ⟨m, p0, p1, o0, o1, sp, r⟩).toList = rifL ⟨m, p0, p1, o0, o1, sp, r⟩ from rfl, HW4.out])
        | (refine wpList_load_mid rfl 36 (.tmp 8) rfl (w.heap.size + 1 + 1) 0 rfl (rifL ⟨m, p0, 1, o0, o1, sp, r⟩) _ HS5.out Try.underlying36 rfl HZy.out ?_)
        | (refine wpList_store_mid rfl 36 (.tmp 6) (.tmp 59) rfl (w.heap.size + 1) 0 (rifA ⟨m, p0, 1, o0, o1, sp, r⟩) rfl rfl HT5.out HZAy.out H1y.out ?_))
      exact bodyPost_ret (results_rif rfl _ _ (w.heap.size + 1) ⟨m, p0, 1, o0, o1, sp, r⟩ (.bool true) rfl rfl G6.out) rfl ⟨rfl, B6.out⟩
    · have hx : max1 ((v % 8 : Nat) : Int) = ((v % 8 : Nat) : Int) := by unfold max1; rw [if_neg (by omega)]
      rw [hx]
      obtain ⟨h5, t5, g6, b6⟩ := HA.out 2 (.int .i64 ((v % 8 : Nat) : Int)) ⟨m, p0, ((v % 8 : Nat) : Int), o0, o1, sp, r⟩ (by simp [rifA, rifL])
      have HS5 := hi h5
      have HT5 := hi t5
      have G6 := hi g6
      have B6 := hi b6
      have HZy := hi (size_rif ⟨m, p0, ((v % 8 : Nat) : Int), o0, o1, sp, r⟩)
      have HZAy := hi (size_rifA ⟨m, p0, ((v % 8 : Nat) : Int), o0, o1, sp, r⟩)
      have H1y := hi (rifA_one ⟨m, p0, ((v % 8 : Nat) : Int), o0, o1, sp, r⟩)
      clear h5 t5 g6 b6
      go_enter Try.func34, Try.ntmps34
      go_wp2_with (first
        | (refine wpList_alloc_rif rfl rfl ?_; try simp only [World.size_alloc])
        | (refine wpList_load_mid rfl 36 (.tmp 3) rfl w.heap.size 0 rfl (rifL ⟨m, p0, p1, o0, o1, sp, r⟩) _ HS0.out Try.underlying36 rfl HZ.out ?_)
        | (refine wpList_store_mid rfl 36 (.tmp 8) (.tmp 9) rfl (w.heap.size + 1 + 1) 0 (rifA ⟨m, p0, p1, o0, o1, sp, r⟩) rfl rfl HT0.out HZA.out H1.out ?_; rw [show (rifA ⟨m, p0, p1, o0, o1, sp, r⟩).toList = rifL ⟨m, p0, p1, o0, o1, sp, r⟩ from rfl, HW4.out])
        | (refine wpList_load_mid rfl 36 (.tmp 8) rfl (w.heap.size + 1 + 1) 0 rfl (rifL ⟨m, p0, ((v % 8 : Nat) : Int), o0, o1, sp, r⟩) _ HS5.out Try.underlying36 rfl HZy.out ?_)
        | (refine wpList_store_mid rfl 36 (.tmp 6) (.tmp 59) rfl (w.heap.size + 1) 0 (rifA ⟨m, p0, ((v % 8 : Nat) : Int), o0, o1, sp, r⟩) rfl rfl HT5.out HZAy.out H1y.out ?_))
      exact bodyPost_ret (results_rif rfl _ _ (w.heap.size + 1) ⟨m, p0, ((v % 8 : Nat) : Int), o0, o1, sp, r⟩ (.bool true) rfl rfl G6.out) rfl ⟨rfl, B6.out⟩
  · rw [if_neg (by decide), if_neg (by decide), if_neg (by decide), if_pos rfl]
    obtain ⟨h5, t5, g6, b6⟩ := HA.out 5 (.bool (decide (v / 2 % 2 = 1))) ⟨m, p0, p1, o0, o1, decide (v / 2 % 2 = 1), r⟩ (by simp [rifA, rifL])
    have HS5 := hi h5
    have HT5 := hi t5
    have G6 := hi g6
    have B6 := hi b6
    have HZy := hi (size_rif ⟨m, p0, p1, o0, o1, decide (v / 2 % 2 = 1), r⟩)
    have HZAy := hi (size_rifA ⟨m, p0, p1, o0, o1, decide (v / 2 % 2 = 1), r⟩)
    have H1y := hi (rifA_one ⟨m, p0, p1, o0, o1, decide (v / 2 % 2 = 1), r⟩)
    clear h5 t5 g6 b6 m8 m1 m3
    go_enter Try.func34, Try.ntmps34
    go_wp2_with (first
      | (refine wpList_alloc_rif rfl rfl ?_; try simp only [World.size_alloc])
      | (refine wpList_load_mid rfl 36 (.tmp 3) rfl w.heap.size 0 rfl (rifL ⟨m, p0, p1, o0, o1, sp, r⟩) _ HS0.out Try.underlying36 rfl HZ.out ?_)
      | (refine wpList_store_mid rfl 36 (.tmp 8) (.tmp 9) rfl (w.heap.size + 1 + 1) 0 (rifA ⟨m, p0, p1, o0, o1, sp, r⟩) rfl rfl HT0.out HZA.out H1.out ?_; rw [show (rifA ⟨m, p0, p1, o0, o1, sp, r⟩).toList = rifL ⟨m, p0, p1, o0, o1, sp, r⟩ from rfl, HW4.out])
      | (refine wpList_load_mid rfl 36 (.tmp 8) rfl (w.heap.size + 1 + 1) 0 rfl (rifL ⟨m, p0, p1, o0, o1, decide (v / 2 % 2 = 1), r⟩) _ HS5.out Try.underlying36 rfl HZy.out ?_)
      | (refine wpList_store_mid rfl 36 (.tmp 6) (.tmp 59) rfl (w.heap.size + 1) 0 (rifA ⟨m, p0, p1, o0, o1, decide (v / 2 % 2 = 1), r⟩) rfl rfl HT5.out HZAy.out H1y.out ?_))
    exact bodyPost_ret (results_rif rfl _ _ (w.heap.size + 1) ⟨m, p0, p1, o0, o1, decide (v / 2 % 2 = 1), r⟩ (.bool true) rfl rfl G6.out) rfl ⟨rfl, B6.out⟩
  · rw [if_neg (by decide), if_neg (by decide), if_neg (by decide), if_neg (by decide), if_pos rfl]
    obtain ⟨h5, t5, g6, b6⟩ := HA.out 3 (.bool (decide (v % 2 = 1))) ⟨m, p0, p1, decide (v % 2 = 1), o1, sp, r⟩ (by simp [rifA, rifL])
    have HS5 := hi h5
    have HT5 := hi t5
    have G6 := hi g6
    have B6 := hi b6
    have HZy := hi (size_rif ⟨m, p0, p1, decide (v % 2 = 1), o1, sp, r⟩)
    have HZAy := hi (size_rifA ⟨m, p0, p1, decide (v % 2 = 1), o1, sp, r⟩)
    have H1y := hi (rifA_one ⟨m, p0, p1, decide (v % 2 = 1), o1, sp, r⟩)
    clear h5 t5 g6 b6 m8 m3 m2
    go_enter Try.func34, Try.ntmps34
    go_wp2_with (first
      | (refine wpList_alloc_rif rfl rfl ?_; try simp only [World.size_alloc])
      | (refine wpList_load_mid rfl 36 (.tmp 3) rfl w.heap.size 0 rfl (rifL ⟨m, p0, p1, o0, o1, sp, r⟩) _ HS0.out Try.underlying36 rfl HZ.out ?_)
      | (refine wpList_store_mid rfl 36 (.tmp 8) (.tmp 9) rfl (w.heap.size + 1 + 1) 0 (rifA ⟨m, p0, p1, o0, o1, sp, r⟩) rfl rfl HT0.out HZA.out H1.out ?_; rw [show (rifA ⟨m, p0, p1, o0, o1, sp, r⟩).toList = rifL ⟨m, p0, p1, o0, o1, sp, r⟩ from rfl, HW4.out])
      | (refine wpList_load_mid rfl 36 (.tmp 8) rfl (w.heap.size + 1 + 1) 0 rfl (rifL ⟨m, p0, p1, decide (v % 2 = 1), o1, sp, r⟩) _ HS5.out Try.underlying36 rfl HZy.out ?_)
      | (refine wpList_store_mid rfl 36 (.tmp 6) (.tmp 59) rfl (w.heap.size + 1) 0 (rifA ⟨m, p0, p1, decide (v % 2 = 1), o1, sp, r⟩) rfl rfl HT5.out HZAy.out H1y.out ?_))
    exact bodyPost_ret (results_rif rfl _ _ (w.heap.size + 1) ⟨m, p0, p1, decide (v % 2 = 1), o1, sp, r⟩ (.bool true) rfl rfl G6.out) rfl ⟨rfl, B6.out⟩
  · rw [if_neg (by decide), if_neg (by decide), if_neg (by decide), if_neg (by decide), if_neg (by decide), if_pos rfl]
    obtain ⟨h5, t5, g6, b6⟩ := HA.out 4 (.bool (decide (v % 2 = 1))) ⟨m, p0, p1, o0, decide (v % 2 = 1), sp, r⟩ (by simp [rifA, rifL])
    have HS5 := hi h5
    have HT5 := hi t5
    have G6 := hi g6
    have B6 := hi b6
    have HZy := hi (size_rif ⟨m, p0, p1, o0, decide (v % 2 = 1), sp, r⟩)
    have HZAy := hi (size_rifA ⟨m, p0, p1, o0, decide (v % 2 = 1), sp, r⟩)
    have H1y := hi (rifA_one ⟨m, p0, p1, o0, decide (v % 2 = 1), sp, r⟩)
    clear h5 t5 g6 b6 m8 m3 m2
    go_enter Try.func34, Try.ntmps34
    go_wp2_with (first
      | (refine wpList_alloc_rif rfl rfl ?_; try simp only [World.size_alloc])
      | (refine wpList_load_mid rfl 36 (.tmp 3) rfl w.heap.size 0 rfl (rifL ⟨m, p0, p1, o0, o1, sp, r⟩) _ HS0.out Try.underlying36 rfl HZ.out ?_)
      | (refine wpList_store_mid rfl 36 (.tmp 8) (.tmp 9) rfl (w.heap.size + 1 + 1) 0 (rifA ⟨m, p0, p1, o0, o1, sp, r⟩) rfl rfl HT0.out HZA.out H1.out ?_; rw [show (rifA ⟨m, p0, p1, o0, o1, sp, r⟩).toList = rifL ⟨m, p0, p1, o0, o1, sp, r⟩ from rfl, HW4.out])
      | (refine wpList_load_mid rfl 36 (.tmp 8) rfl (w.heap.size + 1 + 1) 0 rfl (rifL ⟨m, p0, p1, o0, decide (v % 2 = 1), sp, r⟩) _ HS5.out Try.underlying36 rfl HZy.out ?_)
      | (refine wpList_store_mid rfl 36 (.tmp 6) (.tmp 59) rfl (w.heap.size + 1) 0 (rifA ⟨m, p0, p1, o0, decide (v % 2 = 1), sp, r⟩) rfl rfl HT5.out HZAy.out H1y.out ?_))
    exact bodyPost_ret (results_rif rfl _ _ (w.heap.size + 1) ⟨m, p0, p1, o0, decide (v % 2 = 1), sp, r⟩ (.bool true) rfl rfl G6.out) rfl ⟨rfl, B6.out⟩
  · rw [if_neg (by decide), if_neg (by decide), if_neg (by decide), if_neg (by decide), if_neg (by decide), if_neg (by decide)]
    go_enter Try.func34, Try.ntmps34
    go_wp2_with (first
      | (refine wpList_alloc_rif rfl rfl ?_; try simp only [World.size_alloc])
      | (refine wpList_load_mid rfl 36 (.tmp 3) rfl w.heap.size 0 rfl (rifL ⟨m, p0, p1, o0, o1, sp, r⟩) _ HS0.out Try.underlying36 rfl HZ.out ?_)
      | (refine wpList_store_mid rfl 36 (.tmp 8) (.tmp 9) rfl (w.heap.size + 1 + 1) 0 (rifA ⟨m, p0, p1, o0, o1, sp, r⟩) rfl rfl HT0.out HZA.out H1.out ?_; rw [show (rifA ⟨m, p0, p1, o0, o1, sp, r⟩).toList = rifL ⟨m, p0, p1, o0, o1, sp, r⟩ from rfl, HW4.out])
      | (refine wpList_load_mid rfl 36 (.tmp 3) rfl w.heap.size 0 rfl (rifL ⟨m, p0, p1, o0, o1, sp, r⟩) _ HS4.out Try.underlying36 rfl HZ.out ?_)
      | (refine wpList_store_mid rfl 36 (.tmp 6) (.tmp 11) rfl (w.heap.size + 1) 0 (rifA ⟨m, p0, p1, o0, o1, sp, r⟩) rfl rfl HT4.out HZA.out H1.out ?_))
    exact bodyPost_ret (results_rif rfl _ _ (w.heap.size + 1) ⟨m, p0, p1, o0, o1, sp, r⟩ (.bool false) rfl rfl HN.out.1) rfl ⟨rfl, HN.out.2⟩
  · obtain ⟨n6, n7, n8, n9, n10, n11, n12⟩ := hn
    rw [if_neg n6, if_neg n7, if_neg n8, if_neg n9, if_neg n10, if_neg n11]
    have e6 : (rg == 6) = false := by simpa using n6
    have e7 : (rg == 7) = false := by simpa using n7
    have e8 : (rg == 8) = false := by simpa using n8
    have e9 : (rg == 9) = false := by simpa using n9
    have e10 : (rg == 10) = false := by simpa using n10
    have e11 : (rg == 11) = false := by simpa using n11
    go_enter Try.func34, Try.ntmps34
    go_wp2_with (first
      | (refine wpList_alloc_rif rfl rfl ?_; try simp only [World.size_alloc])
      | (refine wpList_load_mid rfl 36 (.tmp 3) rfl w.heap.size 0 rfl (rifL ⟨m, p0, p1, o0, o1, sp, r⟩) _ HS0.out Try.underlying36 rfl HZ.out ?_)
      | (refine wpList_store_mid rfl 36 (.tmp 8) (.tmp 9) rfl (w.heap.size + 1 + 1) 0 (rifA ⟨m, p0, p1, o0, o1, sp, r⟩) rfl rfl HT0.out HZA.out H1.out ?_; rw [show (rifA ⟨m, p0, p1, o0, o1, sp, r⟩).toList = rifL ⟨m, p0, p1, o0, o1, sp, r⟩ from rfl, HW4.out])
      | (refine wpList_load_mid rfl 36 (.tmp 3) rfl w.heap.size 0 rfl (rifL ⟨m, p0, p1, o0, o1, sp, r⟩) _ HS4.out Try.underlying36 rfl HZ.out ?_)
      | (refine wpList_store_mid rfl 36 (.tmp 6) (.tmp 11) rfl (w.heap.size + 1) 0 (rifA ⟨m, p0, p1, o0, o1, sp, r⟩) rfl rfl HT4.out HZA.out H1.out ?_))
    exact bodyPost_ret (results_rif rfl _ _ (w.heap.size + 1) ⟨m, p0, p1, o0, o1, sp, r⟩ (.bool false) rfl rfl HN.out.1) rfl ⟨rfl, HN.out.2⟩

end Go.Proofs.Ytnnlimjbmfpalaa
