/-
  The document's interface: Shows, May.
-/
import Derived.Test.YtnnlimjbmfpalaaCpK
namespace Go.Proofs.Ytnnlimjbmfpalaa
open Go.ChangeShapes Go.WideShapes Go.ChangeAt Go.RowKit Go.Shelf
set_option linter.unusedVariables false
attribute [local go_sem] Oper.semAt_some

set_option maxHeartbeats 4000000 in
theorem rshows_if (x : Fc) (c : Cd) (g : Int) (w : World) : Calls Try.prog 18 #[rfv x, c.v, .int .i64 g] w fun e w' => e = .returned (.int .i64 (showsV x c g)) ∧ Below w.heap.size w w' := by
  obtain ⟨ci, cp, cg, cis⟩ := c
  have HB0 := hi (bal_two w (.cells (rifA x) 36) (.cells #[.int .i64 ci, .int .i64 cp, .int .i64 cg, .bool cis] 39))
  have hf := (CB.new w 36 (rifA x)).alloc (.cells #[.int .i64 ci, .int .i64 cp, .int .i64 cg, .bool cis] 39)
  have hc := cb_second (w := w) (o := .cells (rifA x) 36) (cs := #[.int .i64 ci, .int .i64 cp, .int .i64 cg, .bool cis]) (t := 39)
  obtain ⟨b0, h0⟩ : ∃ b, x.o0 = b := ⟨_, rfl⟩
  obtain ⟨b1, h1⟩ : ∃ b, x.o1 = b := ⟨_, rfl⟩
  have f3 : ((w.alloc (.cells (rifA x) 36)).alloc (.cells #[.int .i64 ci, .int .i64 cp, .int .i64 cg, .bool cis] 39)).cell? ⟨w.heap.size, 3, none⟩ = some (.bool b0) := by rw [← h0]; exact hf.cell 3
  have f4 : ((w.alloc (.cells (rifA x) 36)).alloc (.cells #[.int .i64 ci, .int .i64 cp, .int .i64 cg, .bool cis] 39)).cell? ⟨w.heap.size, 4, none⟩ = some (.bool b1) := by rw [← h1]; exact hf.cell 4
  have c0 := hc.cell 0
  have c2 := hc.cell 2
  have c3 := hc.cell 3
  have ha := i64_and1 g
  unfold showsV
  clear hf hc
  dsimp only
  cases cis
  · simp only [Bool.false_and, Bool.false_eq_true, if_false]
    go_enter Try.func18, Try.ntmps18
    go_wp2
    go_ret
    exact ⟨rfl, HB0.out⟩
  · by_cases hcg : cg = g
    · subst hcg
      rcases gO_two cg with hG | hG
      · have hz : bits .and .i64 cg 1 = 0 := by rw [ha, ← gO_int, hG]; rfl
        have ho : x.on cg = b0 := by unfold Fc.on; rw [hG, ← h0]; rfl
        rw [ho]
        clear ha hG ho h0 h1 f4
        cases b0
        all_goals
          simp only [decide_true, Bool.true_and, if_true, Bool.false_eq_true, if_false]
          go_enter Try.func18, Try.ntmps18
          go_wp2
          go_ret
          exact ⟨rfl, HB0.out⟩
      · have hz : bits .and .i64 cg 1 = 1 := by rw [ha, ← gO_int, hG]; rfl
        have ho : x.on cg = b1 := by unfold Fc.on; rw [hG, ← h1]; rfl
        rw [ho]
        clear ha hG ho h0 h1 f3
        cases b1
        all_goals
          simp only [decide_true, Bool.true_and, if_true, Bool.false_eq_true, if_false]
          go_enter Try.func18, Try.ntmps18
          go_wp2
          go_ret
          exact ⟨rfl, HB0.out⟩
    · have hd2 : (cg != g) = true := by simp [hcg]
      rw [decide_eq_false hcg]
      simp only [Bool.false_and, Bool.and_false, Bool.false_eq_true, if_false]
      go_enter Try.func18, Try.ntmps18
      go_wp2
      go_ret
      exact ⟨rfl, HB0.out⟩
set_option maxRecDepth 100000 in
set_option maxHeartbeats 8000000 in
theorem rmay_if (x : Fc) (c : Cd) (w : World) : Calls Try.prog 16 #[rfv x, c.v] w fun e w' => e = .returned (.bool (mayV x c)) ∧ Below w.heap.size w w' := by
  obtain ⟨ci, cp, cg, cis⟩ := c
  have HRU := hi (fun W => show Calls Try.prog 37 #[.agg (bsL x.r).toArray] W fun e w' => e = .returned (.tuple #[.int .i64 (runV x.r).1, .int .i64 (runV x.r).2]) ∧ Below W.heap.size W w' from rrunning_any x.r W)
  have HBI := hi (fun W => show Calls Try.prog 43 #[.agg (rifL x).toArray, .int .i64 cg] W fun e w' => e = .returned (.int .i64 (levV x cg)) ∧ Below W.heap.size W w' from rbits_if x cg W)
  have HZ := hi (size_ref x.r)
  have HZ2 := hi (size_rif x)
  obtain ⟨b0, h0⟩ : ∃ b, x.o0 = b := ⟨_, rfl⟩
  obtain ⟨b1, h1⟩ : ∃ b, x.o1 = b := ⟨_, rfl⟩
  obtain ⟨m0, hm0⟩ : ∃ m0, x.m = m0 := ⟨_, rfl⟩
  have ha := i64_and1 cg
  unfold mayV
  dsimp only
  rw [hm0]
  cases cis
  · simp only [Bool.false_and]
    have HB0 := hi (bal_two w (.cells (rifA x) 36) (.cells #[.int .i64 ci, .int .i64 cp, .int .i64 cg, .bool false] 39))
    have HF0 := hi ((CB.new w 36 (rifA x)).alloc (.cells #[.int .i64 ci, .int .i64 cp, .int .i64 cg, .bool false] 39))
    have HC0 := hi (cb_second (w := w) (o := .cells (rifA x) 36) (cs := #[.int .i64 ci, .int .i64 cp, .int .i64 cg, .bool false]) (t := 39))
    have HS := hi HF0.out.runs
    have f0 : ((w.alloc (.cells (rifA x) 36)).alloc (.cells #[.int .i64 ci, .int .i64 cp, .int .i64 cg, .bool false] 39)).cell? ⟨w.heap.size, 0, none⟩ = some (.int .i64 m0) := by rw [← hm0]; exact HF0.out.cell 0
    have f3 : ((w.alloc (.cells (rifA x) 36)).alloc (.cells #[.int .i64 ci, .int .i64 cp, .int .i64 cg, .bool false] 39)).cell? ⟨w.heap.size, 3, none⟩ = some (.bool b0) := by rw [← h0]; exact HF0.out.cell 3
    have f4 : ((w.alloc (.cells (rifA x) 36)).alloc (.cells #[.int .i64 ci, .int .i64 cp, .int .i64 cg, .bool false] 39)).cell? ⟨w.heap.size, 4, none⟩ = some (.bool b1) := by rw [← h1]; exact HF0.out.cell 4
    have c1 := HC0.out.cell 1
    have c2 := HC0.out.cell 2
    have c3 := HC0.out.cell 3
    go_enter Try.func16, Try.ntmps16
    go_wp2
    go_ret
    exact ⟨rfl, HB0.out⟩
  · simp only [Bool.true_and]
    have HB0 := hi (bal_two w (.cells (rifA x) 36) (.cells #[.int .i64 ci, .int .i64 cp, .int .i64 cg, .bool true] 39))
    have HF0 := hi ((CB.new w 36 (rifA x)).alloc (.cells #[.int .i64 ci, .int .i64 cp, .int .i64 cg, .bool true] 39))
    have HC0 := hi (cb_second (w := w) (o := .cells (rifA x) 36) (cs := #[.int .i64 ci, .int .i64 cp, .int .i64 cg, .bool true]) (t := 39))
    have HS := hi HF0.out.runs
    have f0 : ((w.alloc (.cells (rifA x) 36)).alloc (.cells #[.int .i64 ci, .int .i64 cp, .int .i64 cg, .bool true] 39)).cell? ⟨w.heap.size, 0, none⟩ = some (.int .i64 m0) := by rw [← hm0]; exact HF0.out.cell 0
    have f3 : ((w.alloc (.cells (rifA x) 36)).alloc (.cells #[.int .i64 ci, .int .i64 cp, .int .i64 cg, .bool true] 39)).cell? ⟨w.heap.size, 3, none⟩ = some (.bool b0) := by rw [← h0]; exact HF0.out.cell 3
    have f4 : ((w.alloc (.cells (rifA x) 36)).alloc (.cells #[.int .i64 ci, .int .i64 cp, .int .i64 cg, .bool true] 39)).cell? ⟨w.heap.size, 4, none⟩ = some (.bool b1) := by rw [← h1]; exact HF0.out.cell 4
    have c1 := HC0.out.cell 1
    have c2 := HC0.out.cell 2
    have c3 := HC0.out.cell 3
    clear hm0
    rcases gO_two cg with hG | hG
    · have hz : bits .and .i64 cg 1 = 0 := by rw [ha, ← gO_int, hG]; rfl
      have ho : x.on cg = b0 := by unfold Fc.on; rw [hG, ← h0]; rfl
      rw [ho]
      clear ha hG ho h0 h1 f4
      cases b0
      · simp only [Bool.false_and]
        go_enter Try.func16, Try.ntmps16
        go_wp2
        go_ret
        exact ⟨rfl, HB0.out⟩
      · by_cases hlt : cp < m0
        · have t1 : ¬ m0 ≤ cp := by omega
          have t2 : decide (m0 ≤ cp) = false := decide_eq_false t1
          rw [decide_eq_true hlt]
          simp only [Bool.true_and]
          go_enter Try.func16, Try.ntmps16
          go_wp2_with (first
            | (refine wpList_load_mid rfl 34 (.tmp 27) rfl w.heap.size 6 rfl (bsL x.r) _ HS.out Try.underlying34 rfl HZ.out ?_)
            | (go_at_call 37; ((with_reducible refine (HRU.out _).mono ?_); rintro e w1 ⟨rfl, hb⟩; have F1 := hi (HF0.out.below hb); have D1 := hi (HC0.out.below hb); have B1 := hi (HB0.out.trans (hb.mono HB0.out.size)); clear hb)))
          refine wp_region_noPanic ?_
          refine wp_region_last_drew (S := (fun W' => CB W' w.heap.size 36 (rifA x) ∧ CB W' (w.heap.size + 1) 39 #[.int .i64 ci, .int .i64 cp, .int .i64 cg, .bool true])) [9] (by kernel_rfl) ⟨F1.out.drew, D1.out.drew⟩ (fun hHeld => ?_)
          (try simp only [Array.replicate_succ, Array.replicate_zero, List.push_toArray, List.nil_append, List.cons_append])
          refine wpAnyF_take (i := 0) (v := ?_) (by kernel_rfl) (by kernel_rfl) rfl (by kernel_rfl) (by kernel_rfl) (by kernel_rfl) (fun _ _ _ h => h) (Or.inl ⟨by rfl, ?_⟩) (by assumption) ?_
          rotate_left
          · intro w' hSw; (try dsimp only at hSw); have c0 := hSw.2.cell 0; have c1 := hSw.2.cell 1; have c2 := hSw.2.cell 2; have c3 := hSw.2.cell 3; go_simp; (try with_reducible rfl)
          (try simp only [Act.put, List.getElem_toArray, List.getElem_cons_zero, List.setIfInBounds_toArray, List.set_cons_zero, List.set_cons_succ])
          refine wpAnyF_take (i := 1) (v := ?_) (by kernel_rfl) (by kernel_rfl) rfl (by kernel_rfl) (by kernel_rfl) (by kernel_rfl) (fun _ _ _ h => h) (Or.inl ⟨by rfl, ?_⟩) (by assumption) ?_
          rotate_left
          · intro w' hSw; (try dsimp only at hSw); have c0 := hSw.2.cell 0; have c1 := hSw.2.cell 1; have c2 := hSw.2.cell 2; have c3 := hSw.2.cell 3; go_simp; (try with_reducible rfl)
          (try simp only [Act.put, List.getElem_toArray, List.getElem_cons_zero, List.getElem_cons_succ, List.setIfInBounds_toArray, List.set_cons_zero, List.set_cons_succ])
          refine wpAnyF_take (i := 2) (v := _) (by kernel_rfl) (by kernel_rfl) rfl (by kernel_rfl) (by kernel_rfl) (by kernel_rfl) (fun _ _ _ h => h) (yieldsIf_load_mid (by rfl) 36 (.tmp 2) rfl w.heap.size 0 rfl (rifL x) _ (fun w' h => h.1.rif) Try.underlying36 rfl HZ2.out) (by assumption) ?_
          (try simp only [Act.put, List.getElem_toArray, List.getElem_cons_zero, List.getElem_cons_succ, List.setIfInBounds_toArray, List.set_cons_zero, List.set_cons_succ])
          refine wpAnyF_take (i := 3) (v := ?_) (by kernel_rfl) (by kernel_rfl) rfl (by kernel_rfl) (by kernel_rfl) (by kernel_rfl) (fun _ _ _ h => h) (Or.inl ⟨by rfl, ?_⟩) (by assumption) ?_
          rotate_left
          · intro w' hSw; (try dsimp only at hSw); have c0 := hSw.2.cell 0; have c1 := hSw.2.cell 1; have c2 := hSw.2.cell 2; have c3 := hSw.2.cell 3; go_simp; (try with_reducible rfl)
          (try simp only [Act.put, List.getElem_toArray, List.getElem_cons_zero, List.getElem_cons_succ, List.setIfInBounds_toArray, List.set_cons_zero, List.set_cons_succ])
          refine wpAnyF_take (i := 4) (v := ?_) (by kernel_rfl) (by kernel_rfl) rfl (by kernel_rfl) (by kernel_rfl) (by kernel_rfl) (fun _ _ _ h => h) (Or.inl ⟨by rfl, ?_⟩) (by assumption) ?_
          rotate_left
          · intro w' hSw; (try dsimp only at hSw); have c0 := hSw.2.cell 0; have c1 := hSw.2.cell 1; have c2 := hSw.2.cell 2; have c3 := hSw.2.cell 3; go_simp; (try with_reducible rfl)
          (try simp only [Act.put, List.getElem_toArray, List.getElem_cons_zero, List.getElem_cons_succ, List.setIfInBounds_toArray, List.set_cons_zero, List.set_cons_succ])
          refine wpAnyF_take (i := 7) (v := ?_) (by kernel_rfl) (by kernel_rfl) rfl (by kernel_rfl) (by kernel_rfl) (by kernel_rfl) (fun _ _ _ h => h) (Or.inl ⟨by rfl, ?_⟩) (by assumption) ?_
          rotate_left
          · intro w' hSw; (try dsimp only at hSw); have c0 := hSw.2.cell 0; have c1 := hSw.2.cell 1; have c2 := hSw.2.cell 2; have c3 := hSw.2.cell 3; go_simp; (try with_reducible rfl)
          (try simp only [Act.put, List.getElem_toArray, List.getElem_cons_zero, List.getElem_cons_succ, List.setIfInBounds_toArray, List.set_cons_zero, List.set_cons_succ])
          refine wpAnyF_ready (rs := [5]) (by kernel_rfl) (by simp) ?_
          refine AllReadyF.cons rfl (fun KK hKK => ?_) AllReadyF.nil
          go_simp
          ((with_reducible refine (HBI.out _).mono ?_); rintro e' w2 ⟨rfl, hb⟩; have hSS := And.intro (hHeld.1.below hb) (hHeld.2.below hb); have B2 := hi ((Below.drewN (m := 1) B1.out).trans (hb.mono (Below.drewN (m := 1) B1.out).size)); clear hb)
          (try go_simp)
          refine hKK.out _ _ hSS (fun hHeld => ?_)
          clear hKK KK
          (try simp only [Act.put, List.getElem_toArray, List.getElem_cons_zero, List.getElem_cons_succ, List.setIfInBounds_toArray, List.set_cons_zero, List.set_cons_succ])
          refine wpAnyF_take (i := 6) (v := ?_) (by kernel_rfl) (by kernel_rfl) rfl (by kernel_rfl) (by kernel_rfl) (by kernel_rfl) (fun _ _ _ h => h) (Or.inl ⟨by rfl, ?_⟩) (by assumption) ?_
          rotate_left
          · intro w' hSw; (try dsimp only at hSw); have c0 := hSw.2.cell 0; have c1 := hSw.2.cell 1; have c2 := hSw.2.cell 2; have c3 := hSw.2.cell 3; go_simp; (try with_reducible rfl)
          (try simp only [Act.put, List.getElem_toArray, List.getElem_cons_zero, List.getElem_cons_succ, List.setIfInBounds_toArray, List.set_cons_zero, List.set_cons_succ])
          refine wpAnyF_take (i := 8) (v := ?_) (by kernel_rfl) (by kernel_rfl) rfl (by kernel_rfl) (by kernel_rfl) (by kernel_rfl) (fun _ _ _ h => h) (Or.inl ⟨by rfl, ?_⟩) (by assumption) ?_
          rotate_left
          · intro w' hSw; (try dsimp only at hSw); have c0 := hSw.2.cell 0; have c1 := hSw.2.cell 1; have c2 := hSw.2.cell 2; have c3 := hSw.2.cell 3; go_simp; (try with_reducible rfl)
          (try simp only [Act.put, List.getElem_toArray, List.getElem_cons_zero, List.getElem_cons_succ, List.setIfInBounds_toArray, List.set_cons_zero, List.set_cons_succ])
          refine wpAnyF_ready (rs := [9]) (by kernel_rfl) (by simp) ?_
          refine AllReadyF.last (by kernel_rfl) rfl (fun KK hKK => ?_) AllReadyF.nil
          go_simp
          refine hKK.out _ _ ?_
          clear hKK KK
          (try simp only [Act.put, List.getElem_toArray, List.getElem_cons_zero, List.getElem_cons_succ, List.setIfInBounds_toArray, List.set_cons_zero, List.set_cons_succ])
          refine wpAnyF_done (by kernel_rfl) ?_ _
          refine NoPanic.normal ?_
          go_wp2
          go_ret
          exact ⟨rfl, B2.out⟩
        · have t1 : m0 ≤ cp := by omega
          have t2 : decide (m0 ≤ cp) = true := decide_eq_true t1
          rw [decide_eq_false hlt]
          simp only [Bool.true_and, Bool.false_and]
          go_enter Try.func16, Try.ntmps16
          go_wp2
          go_ret
          exact ⟨rfl, HB0.out⟩
    · have hz : bits .and .i64 cg 1 = 1 := by rw [ha, ← gO_int, hG]; rfl
      have ho : x.on cg = b1 := by unfold Fc.on; rw [hG, ← h1]; rfl
      rw [ho]
      clear ha hG ho h0 h1 f3
      cases b1
      · simp only [Bool.false_and]
        go_enter Try.func16, Try.ntmps16
        go_wp2
        go_ret
        exact ⟨rfl, HB0.out⟩
      · by_cases hlt : cp < m0
        · have t1 : ¬ m0 ≤ cp := by omega
          have t2 : decide (m0 ≤ cp) = false := decide_eq_false t1
          rw [decide_eq_true hlt]
          simp only [Bool.true_and]
          go_enter Try.func16, Try.ntmps16
          go_wp2_with (first
            | (refine wpList_load_mid rfl 34 (.tmp 27) rfl w.heap.size 6 rfl (bsL x.r) _ HS.out Try.underlying34 rfl HZ.out ?_)
            | (go_at_call 37; ((with_reducible refine (HRU.out _).mono ?_); rintro e w1 ⟨rfl, hb⟩; have F1 := hi (HF0.out.below hb); have D1 := hi (HC0.out.below hb); have B1 := hi (HB0.out.trans (hb.mono HB0.out.size)); clear hb)))
          refine wp_region_noPanic ?_
          refine wp_region_last_drew (S := (fun W' => CB W' w.heap.size 36 (rifA x) ∧ CB W' (w.heap.size + 1) 39 #[.int .i64 ci, .int .i64 cp, .int .i64 cg, .bool true])) [9] (by kernel_rfl) ⟨F1.out.drew, D1.out.drew⟩ (fun hHeld => ?_)
          (try simp only [Array.replicate_succ, Array.replicate_zero, List.push_toArray, List.nil_append, List.cons_append])
          refine wpAnyF_take (i := 0) (v := ?_) (by kernel_rfl) (by kernel_rfl) rfl (by kernel_rfl) (by kernel_rfl) (by kernel_rfl) (fun _ _ _ h => h) (Or.inl ⟨by rfl, ?_⟩) (by assumption) ?_
          rotate_left
          · intro w' hSw; (try dsimp only at hSw); have c0 := hSw.2.cell 0; have c1 := hSw.2.cell 1; have c2 := hSw.2.cell 2; have c3 := hSw.2.cell 3; go_simp; (try with_reducible rfl)
          (try simp only [Act.put, List.getElem_toArray, List.getElem_cons_zero, List.setIfInBounds_toArray, List.set_cons_zero, List.set_cons_succ])
          refine wpAnyF_take (i := 1) (v := ?_) (by kernel_rfl) (by kernel_rfl) rfl (by kernel_rfl) (by kernel_rfl) (by kernel_rfl) (fun _ _ _ h => h) (Or.inl ⟨by rfl, ?_⟩) (by assumption) ?_
          rotate_left
          · intro w' hSw; (try dsimp only at hSw); have c0 := hSw.2.cell 0; have c1 := hSw.2.cell 1; have c2 := hSw.2.cell 2; have c3 := hSw.2.cell 3; go_simp; (try with_reducible rfl)
          (try simp only [Act.put, List.getElem_toArray, List.getElem_cons_zero, List.getElem_cons_succ, List.setIfInBounds_toArray, List.set_cons_zero, List.set_cons_succ])
          refine wpAnyF_take (i := 2) (v := _) (by kernel_rfl) (by kernel_rfl) rfl (by kernel_rfl) (by kernel_rfl) (by kernel_rfl) (fun _ _ _ h => h) (yieldsIf_load_mid (by rfl) 36 (.tmp 2) rfl w.heap.size 0 rfl (rifL x) _ (fun w' h => h.1.rif) Try.underlying36 rfl HZ2.out) (by assumption) ?_
          (try simp only [Act.put, List.getElem_toArray, List.getElem_cons_zero, List.getElem_cons_succ, List.setIfInBounds_toArray, List.set_cons_zero, List.set_cons_succ])
          refine wpAnyF_take (i := 3) (v := ?_) (by kernel_rfl) (by kernel_rfl) rfl (by kernel_rfl) (by kernel_rfl) (by kernel_rfl) (fun _ _ _ h => h) (Or.inl ⟨by rfl, ?_⟩) (by assumption) ?_
          rotate_left
          · intro w' hSw; (try dsimp only at hSw); have c0 := hSw.2.cell 0; have c1 := hSw.2.cell 1; have c2 := hSw.2.cell 2; have c3 := hSw.2.cell 3; go_simp; (try with_reducible rfl)
          (try simp only [Act.put, List.getElem_toArray, List.getElem_cons_zero, List.getElem_cons_succ, List.setIfInBounds_toArray, List.set_cons_zero, List.set_cons_succ])
          refine wpAnyF_take (i := 4) (v := ?_) (by kernel_rfl) (by kernel_rfl) rfl (by kernel_rfl) (by kernel_rfl) (by kernel_rfl) (fun _ _ _ h => h) (Or.inl ⟨by rfl, ?_⟩) (by assumption) ?_
          rotate_left
          · intro w' hSw; (try dsimp only at hSw); have c0 := hSw.2.cell 0; have c1 := hSw.2.cell 1; have c2 := hSw.2.cell 2; have c3 := hSw.2.cell 3; go_simp; (try with_reducible rfl)
          (try simp only [Act.put, List.getElem_toArray, List.getElem_cons_zero, List.getElem_cons_succ, List.setIfInBounds_toArray, List.set_cons_zero, List.set_cons_succ])
          refine wpAnyF_take (i := 7) (v := ?_) (by kernel_rfl) (by kernel_rfl) rfl (by kernel_rfl) (by kernel_rfl) (by kernel_rfl) (fun _ _ _ h => h) (Or.inl ⟨by rfl, ?_⟩) (by assumption) ?_
          rotate_left
          · intro w' hSw; (try dsimp only at hSw); have c0 := hSw.2.cell 0; have c1 := hSw.2.cell 1; have c2 := hSw.2.cell 2; have c3 := hSw.2.cell 3; go_simp; (try with_reducible rfl)
          (try simp only [Act.put, List.getElem_toArray, List.getElem_cons_zero, List.getElem_cons_succ, List.setIfInBounds_toArray, List.set_cons_zero, List.set_cons_succ])
          refine wpAnyF_ready (rs := [5]) (by kernel_rfl) (by simp) ?_
          refine AllReadyF.cons rfl (fun KK hKK => ?_) AllReadyF.nil
          go_simp
          ((with_reducible refine (HBI.out _).mono ?_); rintro e' w2 ⟨rfl, hb⟩; have hSS := And.intro (hHeld.1.below hb) (hHeld.2.below hb); have B2 := hi ((Below.drewN (m := 1) B1.out).trans (hb.mono (Below.drewN (m := 1) B1.out).size)); clear hb)
          (try go_simp)
          refine hKK.out _ _ hSS (fun hHeld => ?_)
          clear hKK KK
          (try simp only [Act.put, List.getElem_toArray, List.getElem_cons_zero, List.getElem_cons_succ, List.setIfInBounds_toArray, List.set_cons_zero, List.set_cons_succ])
          refine wpAnyF_take (i := 6) (v := ?_) (by kernel_rfl) (by kernel_rfl) rfl (by kernel_rfl) (by kernel_rfl) (by kernel_rfl) (fun _ _ _ h => h) (Or.inl ⟨by rfl, ?_⟩) (by assumption) ?_
          rotate_left
          · intro w' hSw; (try dsimp only at hSw); have c0 := hSw.2.cell 0; have c1 := hSw.2.cell 1; have c2 := hSw.2.cell 2; have c3 := hSw.2.cell 3; go_simp; (try with_reducible rfl)
          (try simp only [Act.put, List.getElem_toArray, List.getElem_cons_zero, List.getElem_cons_succ, List.setIfInBounds_toArray, List.set_cons_zero, List.set_cons_succ])
          refine wpAnyF_take (i := 8) (v := ?_) (by kernel_rfl) (by kernel_rfl) rfl (by kernel_rfl) (by kernel_rfl) (by kernel_rfl) (fun _ _ _ h => h) (Or.inl ⟨by rfl, ?_⟩) (by assumption) ?_
          rotate_left
          · intro w' hSw; (try dsimp only at hSw); have c0 := hSw.2.cell 0; have c1 := hSw.2.cell 1; have c2 := hSw.2.cell 2; have c3 := hSw.2.cell 3; go_simp; (try with_reducible rfl)
          (try simp only [Act.put, List.getElem_toArray, List.getElem_cons_zero, List.getElem_cons_succ, List.setIfInBounds_toArray, List.set_cons_zero, List.set_cons_succ])
          refine wpAnyF_ready (rs := [9]) (by kernel_rfl) (by simp) ?_
          refine AllReadyF.last (by kernel_rfl) rfl (fun KK hKK => ?_) AllReadyF.nil
          go_simp
          refine hKK.out _ _ ?_
          clear hKK KK
          (try simp only [Act.put, List.getElem_toArray, List.getElem_cons_zero, List.getElem_cons_succ, List.setIfInBounds_toArray, List.set_cons_zero, List.set_cons_succ])
          refine wpAnyF_done (by kernel_rfl) ?_ _
          refine NoPanic.normal ?_
          go_wp2
          go_ret
          exact ⟨rfl, B2.out⟩
        · have t1 : m0 ≤ cp := by omega
          have t2 : decide (m0 ≤ cp) = true := decide_eq_true t1
          rw [decide_eq_false hlt]
          simp only [Bool.true_and, Bool.false_and]
          go_enter Try.func16, Try.ntmps16
          go_wp2
          go_ret
          exact ⟨rfl, HB0.out⟩


end Go.Proofs.Ytnnlimjbmfpalaa
