/-
  The document's interface: Drop.
-/
import Derived.Test.YtnnlimjbmfpalaaCpM
namespace Go.Proofs.Ytnnlimjbmfpalaa
open Go.ChangeShapes Go.WideShapes Go.ChangeAt Go.RowKit Go.Shelf
set_option linter.unusedVariables false
attribute [local go_sem] Oper.semAt_some

theorem runs_two (r : Rg) : (top r = none ∧ runV r = (255, 0) ∧ dropB r = false) ∨ (∃ i, i < 64 ∧ r i = true ∧ top r = some i ∧ runV r = (8 * ((i : Int) / 2), (i : Int) % 2) ∧ dropB r = true ∧ dropR r = put r i false ∧ (rungs r).length = (rungs (put r i false)).length + 1) := by
  cases h : top r with
  | none => exact .inl ⟨rfl, runV_none h, dropB_none h⟩
  | some i =>
    obtain ⟨h1, h2⟩ := top_lt h
    exact .inr ⟨i, h1, h2, rfl, runV_some h, dropB_some h, dropR_some h, by rw [rungs_drop h]; rfl⟩
set_option maxRecDepth 100000 in
set_option maxHeartbeats 8000000 in
theorem rdrop_if (x : Fc) (g : Int) (w : World) : Calls Try.prog 33 #[rfv x, .int .i64 g] w fun e w' => e = .returned (.tuple #[rfv (dropV x g).1, .bool (dropV x g).2]) ∧ Below w.heap.size w w' := by
  have HRU := hi (fun W => show Calls Try.prog 37 #[.agg (bsL x.r).toArray] W fun e w' => e = .returned (.tuple #[.int .i64 (runV x.r).1, .int .i64 (runV x.r).2]) ∧ Below W.heap.size W w' from rrunning_any x.r W)
  have HDR := hi (fun W => show Calls Try.prog 52 #[.agg (bsL x.r).toArray] W fun e w' => e = .returned (.tuple #[.agg (bsA (dropR x.r)), .bool (dropB x.r)]) ∧ Below W.heap.size W w' from rdrop_any x.r W)
  have hf := (CB.new w 36 (rifA x)).alloc (.cells (rifA Fc.zero) 36)
  have hz := cb_second (w := w) (o := .cells (rifA x) 36) (cs := rifA Fc.zero) (t := 36)
  have HB0 := hi (bal_two w (.cells (rifA x) 36) (.cells (rifA Fc.zero) 36))
  have HF0 := hi hf
  have HC0 := hi hz
  have HS0 := hi hf.runs
  have HZ := hi (size_ref x.r)
  have HZ2 := hi (size_rif x)
  have HZA := hi (size_rifA x)
  have H1 := hi (rifA_one x)
  clear hf hz
  have e0 : w.heap.size ≤ w.heap.size + 1 := by omega
  unfold dropV
  rcases runs_two x.r with ⟨_, hR, hD⟩ | ⟨i, hi64, hri, _, hR, hD, hDR, hlen⟩
  · rw [hR] at HRU ⊢
    rw [hD]
    dsimp only at HRU
    simp only [Bool.false_and, Bool.false_eq_true, if_false]
    clear hR hD HDR
    go_enter Try.func33, Try.ntmps33
    go_wp2_with (first
      | (refine wpList_alloc_rif rfl rfl ?_)
      | (refine wpList_load_mid rfl 34 (.tmp 12) rfl w.heap.size 6 rfl (bsL x.r) _ HS0.out Try.underlying34 rfl HZ.out ?_)
      | (go_at_call 37; ((with_reducible refine (HRU.out _).mono ?_); rintro e w1 ⟨rfl, hb⟩; have HS1 := hi (HF0.out.below hb).rif; have Z1 := HC0.out.below hb; have HT1 := hi (show World.there w1 (w.heap.size + 1) 0 (rifA x).size by rw [rifA_size]; exact Z1.thereR (rifA_size _)); have R1 := hi (Z1.wholeR (rifA_size _) x); have B1 := hi (below_cells e0 (rifL x) 0 _ (HB0.out.trans (hb.mono HB0.out.size))); clear hb Z1))
      | (refine wpList_load_mid rfl 36 (.tmp 2) rfl w.heap.size 0 rfl (rifL x) _ HS1.out Try.underlying36 rfl HZ2.out ?_)
      | (refine wpList_store_mid rfl 36 (.tmp 4) (.tmp 24) rfl (w.heap.size + 1) 0 (rifA x) rfl rfl HT1.out HZA.out H1.out ?_))
    exact bodyPost_ret (results_rif rfl _ _ (w.heap.size + 1) x (.bool false) rfl rfl R1.out) rfl ⟨rfl, B1.out⟩
  · rw [hR] at HRU ⊢
    rw [hD] at HDR ⊢
    dsimp only at HRU
    obtain ⟨j, hj⟩ : ∃ j, 8 * ((i : Int) / 2) = j := ⟨_, rfl⟩
    have hj1 : (j == 255) = false := by
      have : j ≠ 255 := by omega
      simpa using this
    rw [hj] at HRU
    obtain ⟨q, hq⟩ : ∃ q, dropR x.r = q := ⟨_, rfl⟩
    rw [hq] at HDR ⊢
    obtain ⟨k, hk⟩ : ∃ k, (i : Int) % 2 = k := ⟨_, rfl⟩
    rw [hk] at HRU ⊢
    clear hR hD hj hq hk hDR hlen hri hi64
    by_cases hg : k = g
    · subst hg
      simp only [decide_true, Bool.true_and, if_true]
      have HZq := hi (size_ref q)
      have HZAq := hi (size_refA q)
      have H1q := hi (bsA_one q)
      have HZ2x := hi (size_rif { x with r := q })
      have HZAx := hi (size_rifA { x with r := q })
      have H1x := hi (rifA_one { x with r := q })
      go_enter Try.func33, Try.ntmps33
      go_wp2_with (first
        | (refine wpList_load_mid rfl 34 (.tmp 12) rfl w.heap.size 6 rfl (bsL x.r) _ HS0.out Try.underlying34 rfl HZ.out ?_)
        | (go_at_call 37; ((with_reducible refine (HRU.out _).mono ?_); rintro e w1 ⟨rfl, hb⟩; have F1 := HF0.out.below hb; have Z1 := HC0.out.below hb; have HS1 := hi F1.rif; have hlt := Z1.lt; have hal := bal w1 (.cells (rifA Fc.zero) 36); have G1 := CB.new w1 36 (rifA Fc.zero); have HT1 := hi (show World.there (w1.alloc (.cells (rifA Fc.zero) 36)) w1.heap.size 0 (rifA x).size by rw [rifA_size]; exact G1.thereR (rifA_size _)); have b1 := HB0.out.trans (hb.mono HB0.out.size); obtain ⟨wA, hA, G2, F2, Z2, B2⟩ : ∃ W, (w1.alloc (.cells (rifA Fc.zero) 36)).setCells w1.heap.size 0 (rifL x) = W ∧ CB W w1.heap.size 36 (rifA x) ∧ CB W w.heap.size 36 (rifA x) ∧ CB W (w.heap.size + 1) 36 (rifA Fc.zero) ∧ Below w.heap.size w W := ⟨_, rfl, G1.wholeR (rifA_size _) x, CB.otherCells (B := w.heap.size) (b := w1.heap.size) (by omega) (rifL x) 0 _ (F1.below hal), CB.otherCells (B := w.heap.size + 1) (b := w1.heap.size) (by omega) (rifL x) 0 _ (Z1.below hal), below_cells (b := w1.heap.size) (by omega) (rifL x) 0 _ (b1.trans (hal.mono b1.size))⟩; have HA := hi hA; have G2 := hi G2; have HS2 := hi F2.runs; have Z2 := hi Z2; have B2 := hi B2; have L1 := hi hlt; clear hb F1 Z1 hlt hal G1 b1 hA F2))
        | (refine wpList_load_mid rfl 36 (.tmp 2) rfl w.heap.size 0 rfl (rifL x) _ HS1.out Try.underlying36 rfl HZ2.out ?_)
        | (refine wpList_store_mid rfl 36 (.tmp 8) (.tmp 25) rfl w1.heap.size 0 (rifA x) rfl rfl HT1.out HZA.out H1.out ?_; rw [show (rifA x).toList = rifL x from rfl, HA.out])
        | (refine wpList_load_mid rfl 34 (.tmp 27) rfl w.heap.size 6 rfl (bsL x.r) _ HS2.out Try.underlying34 rfl HZ.out ?_)
        | (go_at_call 52; ((with_reducible refine (HDR.out _).mono ?_); rintro e w3 ⟨rfl, hb⟩; have hal := bal w3 (.cells (bsA f0) 34); have G3 := G2.out.below hb; have Z3 := Z2.out.below hb; have l1 := L1.out; have l3 := G3.lt; have N3 := CB.new w3 34 (bsA f0); have HT3 := hi (show World.there (w3.alloc (.cells (bsA f0) 34)) w3.heap.size 0 (bsA q).size by rw [bsA_size]; exact N3.thereB (bsA_size _)); have b3 := B2.out.trans (hb.mono B2.out.size); obtain ⟨wB, hB, N4, G4, Z4, b4⟩ : ∃ W, (w3.alloc (.cells (bsA f0) 34)).setCells w3.heap.size 0 (bsL q) = W ∧ CB W w3.heap.size 34 (bsA q) ∧ CB W w1.heap.size 36 (rifA x) ∧ CB W (w.heap.size + 1) 36 (rifA Fc.zero) ∧ Below w.heap.size w W := ⟨_, rfl, N3.whole (bsA_size _) q, CB.otherCells (B := w1.heap.size) (b := w3.heap.size) (by omega) (bsL q) 0 _ (G3.below hal), CB.otherCells (B := w.heap.size + 1) (b := w3.heap.size) (by omega) (bsL q) 0 _ (Z3.below hal), below_cells (n := w.heap.size) (b := w3.heap.size) (by omega) (bsL q) 0 _ (b3.trans (hal.mono b3.size))⟩; have HB := hi hB; have HS4 := hi N4.rangeB; have HT4 := hi (show World.there wB w1.heap.size 6 (bsA q).size by rw [bsA_size]; exact G4.thereRuns (rifA_size _)); obtain ⟨wC, hC, G5, Z5, b5⟩ : ∃ W, wB.setCells w1.heap.size 6 (bsL q) = W ∧ CB W w1.heap.size 36 (rifA { x with r := q }) ∧ CB W (w.heap.size + 1) 36 (rifA Fc.zero) ∧ Below w.heap.size w W := ⟨_, rfl, G4.runsSet q, CB.otherCells (B := w.heap.size + 1) (b := w1.heap.size) (by omega) (bsL q) 6 _ Z4, below_cells (n := w.heap.size) (b := w1.heap.size) (by omega) (bsL q) 6 _ b4⟩; have HC := hi hC; have HS5 := hi G5.rif; have HT5 := hi (show World.there wC (w.heap.size + 1) 0 (rifA { x with r := q }).size by rw [rifA_size]; exact Z5.thereR (rifA_size _)); obtain ⟨wD, hD, Z6, B6⟩ : ∃ W, wC.setCells (w.heap.size + 1) 0 (rifL { x with r := q }) = W ∧ CB W (w.heap.size + 1) 36 (rifA { x with r := q }) ∧ Below w.heap.size w W := ⟨_, rfl, Z5.wholeR (rifA_size _) { x with r := q }, below_cells e0 (rifL { x with r := q }) 0 _ b5⟩; have HD := hi hD; have Z6 := hi Z6; have B6 := hi B6; clear hb hal G3 Z3 N3 N4 G4 Z4 G5 Z5 b3 b4 b5 l1 l3 hB hC hD))
        | (refine wpList_store_mid rfl 34 (.tmp 9) (.tmp 30) rfl w3.heap.size 0 (bsA q) rfl rfl HT3.out HZAq.out H1q.out ?_; rw [show (bsA q).toList = bsL q from rfl, HB.out])
        | (refine wpList_load_mid rfl 34 (.tmp 9) rfl w3.heap.size 0 rfl (bsL q) _ HS4.out Try.underlying34 rfl HZq.out ?_)
        | (refine wpList_store_mid rfl 34 (.tmp 33) (.tmp 32) rfl w1.heap.size 6 (bsA q) rfl rfl HT4.out HZAq.out H1q.out ?_; rw [show (bsA q).toList = bsL q from rfl, HC.out])
        | (refine wpList_load_mid rfl 36 (.tmp 8) rfl w1.heap.size 0 rfl (rifL { x with r := q }) _ HS5.out Try.underlying36 rfl HZ2x.out ?_)
        | (refine wpList_store_mid rfl 36 (.tmp 4) (.tmp 34) rfl (w.heap.size + 1) 0 (rifA { x with r := q }) rfl rfl HT5.out HZAx.out H1x.out ?_; rw [show (rifA { x with r := q }).toList = rifL { x with r := q } from rfl, HD.out])
        | (refine wpList_alloc_rif rfl rfl ?_)
        | (refine wpList_alloc_ref rfl rfl ?_))
      exact bodyPost_ret (results_rif rfl _ _ (w.heap.size + 1) { x with r := q } (.bool true) rfl rfl Z6.out) rfl ⟨rfl, B6.out⟩
    · have hd : decide (k = g) = false := by simp [hg]
      have hd2 : (k != g) = true := by simp [hg]
      rw [hd]
      simp only [Bool.and_false, Bool.false_eq_true, if_false]
      clear HDR
      go_enter Try.func33, Try.ntmps33
      go_wp2_with (first
        | (refine wpList_alloc_rif rfl rfl ?_)
        | (refine wpList_load_mid rfl 34 (.tmp 12) rfl w.heap.size 6 rfl (bsL x.r) _ HS0.out Try.underlying34 rfl HZ.out ?_)
        | (go_at_call 37; ((with_reducible refine (HRU.out _).mono ?_); rintro e w1 ⟨rfl, hb⟩; have HS1 := hi (HF0.out.below hb).rif; have Z1 := HC0.out.below hb; have HT1 := hi (show World.there w1 (w.heap.size + 1) 0 (rifA x).size by rw [rifA_size]; exact Z1.thereR (rifA_size _)); have R1 := hi (Z1.wholeR (rifA_size _) x); have B1 := hi (below_cells e0 (rifL x) 0 _ (HB0.out.trans (hb.mono HB0.out.size))); clear hb Z1))
        | (refine wpList_load_mid rfl 36 (.tmp 2) rfl w.heap.size 0 rfl (rifL x) _ HS1.out Try.underlying36 rfl HZ2.out ?_)
        | (refine wpList_store_mid rfl 36 (.tmp 4) (.tmp 24) rfl (w.heap.size + 1) 0 (rifA x) rfl rfl HT1.out HZA.out H1.out ?_))
      exact bodyPost_ret (results_rif rfl _ _ (w.heap.size + 1) x (.bool false) rfl rfl R1.out) rfl ⟨rfl, B1.out⟩

end Go.Proofs.Ytnnlimjbmfpalaa
