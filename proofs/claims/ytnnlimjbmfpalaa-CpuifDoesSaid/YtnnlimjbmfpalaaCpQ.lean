/-
  The law's Told (an interface as the document has it) and Alike.
-/
import Derived.Test.YtnnlimjbmfpalaaCpO
import Derived.Test.YtnnlimjbmfpalaaCpN
import Derived.Test.YtnnlimjbmfpalaaCpP
namespace Go.Proofs.Ytnnlimjbmfpalaa
open Go.ChangeShapes Go.WideShapes Go.ChangeAt Go.RowKit Go.Shelf
set_option linter.unusedVariables false
attribute [local go_sem] Oper.semAt_some

theorem eql2i (a b : Int) (w : World) : (binOp .eql 22 (.agg #[.int .i64 a, .int .i64 b]) (.agg #[.int .i64 a, .int .i64 b])).run Try.prog w = .ok (.bool true) w := by
  rw [run_eql_struct, show (10000 : Nat) = 9998 + 2 from rfl, self_2i]; rfl
theorem eql2b (a b : Bool) (w : World) : (binOp .eql 23 (.agg #[.bool a, .bool b]) (.agg #[.bool a, .bool b])).run Try.prog w = .ok (.bool true) w := by
  rw [run_eql_struct, show (10000 : Nat) = 9998 + 2 from rfl, self_2b]; rfl
theorem guard2i (op : BinOp) (x y : Operand) (xs ys : Array Value) (w : World) : (eqGuard op 22 x y (.agg xs) (.agg ys)).run Try.prog w = .ok () w := run_eqGuard_agg w op _ _ _ _ _ (by kernel_rfl)
theorem guard2b (op : BinOp) (x y : Operand) (xs ys : Array Value) (w : World) : (eqGuard op 23 x y (.agg xs) (.agg ys)).run Try.prog w = .ok () w := run_eqGuard_agg w op _ _ _ _ _ (by kernel_rfl)
attribute [local go_sem high] eql2i eql2b guard2i guard2b
theorem results_rif1 {fn : Func} {c : Tmp} (h : fn.results = #[.cell c 36]) (tmps : Array Value) (w : World) (b : Nat) (x : Fc) (hp : tmps.getD c undef = .pointer (some ⟨b, 0, none⟩)) (hb : CB w b 36 (rifA x)) :
    (results fn tmps).run Try.prog w = .ok (rfv x) w := by
  have hp' : tmps[c]?.getD undef = .pointer (some ⟨b, 0, none⟩) := by simpa using hp
  have hl := run_loadVar_mid (P := Try.prog) w b 0 36 (rifL x) _ hb.rif Try.underlying36 rfl (size_rif x)
  simp [results, h, asAddr, hp', hl]
  rfl
theorem ofW_same (r : Rg) : bsA (ofW (wd r 0) (wd r 1)) = bsA r := bsA_congr (fun i hi => by
  unfold ofW
  rcases Nat.mod_two_eq_zero_or_one i with h | h
  · rw [if_pos h, wd_bit r 0 _ (by omega), show 2 * (i / 2) + 0 = i by omega]
  · rw [if_neg (by omega), wd_bit r 1 _ (by omega), show 2 * (i / 2) + 1 = i by omega])
set_option maxRecDepth 100000 in
set_option maxHeartbeats 8000000 in
theorem told_any (x : Fc) (w : World) : Calls Try.prog 10 #[x.v] w fun e w' => e = .returned (rfv x) ∧ Below w.heap.size w w' := by
  obtain ⟨m, p0, p1, o0, o1, sp, r⟩ := x
  have CR := hi (fun W => show Calls Try.prog 31 #[.int .u32 (wd r 0 : Int), .int .u32 (wd r 1 : Int)] W fun e w' => e = .returned (.agg (bsL r).toArray) ∧ Below W.heap.size W w' from (rof_any (wd r 0) (wd r 1) W (wd_lt r 0) (wd_lt r 1)).mono (fun e w' z => ⟨z.1.trans (by unfold rv; rw [ofW_same]; rfl), z.2⟩))
  have HZA := hi (size_rifA ⟨m, p0, p1, o0, o1, sp, r⟩)
  have H1 := hi (rifA_one ⟨m, p0, p1, o0, o1, sp, r⟩)
  dsimp only [Fc.v, Fc.cs]
  obtain ⟨a, ha⟩ : ∃ a : Int, (wd r 0 : Int) = a := ⟨_, rfl⟩
  obtain ⟨b, hb⟩ : ∃ b : Int, (wd r 1 : Int) = b := ⟨_, rfl⟩
  rw [ha, hb] at CR ⊢
  clear ha hb
  have HF := hi ((CB.new w 29 #[.int .i64 m, .int .i64 p0, .int .i64 p1, .bool o0, .bool o1, .bool sp, .int .u32 a, .int .u32 b]).alloc (.cells (rifA Fc.zero) 36))
  have HZ0 := hi (cb_second (w := w) (o := .cells #[.int .i64 m, .int .i64 p0, .int .i64 p1, .bool o0, .bool o1, .bool sp, .int .u32 a, .int .u32 b] 29) (cs := rifA Fc.zero) (t := 36))
  have HB0 := hi (bal_two w (.cells #[.int .i64 m, .int .i64 p0, .int .i64 p1, .bool o0, .bool o1, .bool sp, .int .u32 a, .int .u32 b] 29) (.cells (rifA Fc.zero) 36))
  go_enter Try.func10, Try.ntmps10
  go_wp2_with (refine wpList_alloc_rif rfl rfl ?_; try simp only [World.size_alloc])
  refine wp_region_noPanic ?_
  refine wp_region_last_drew (S := (fun W' => CB W' w.heap.size 29 #[.int .i64 m, .int .i64 p0, .int .i64 p1, .bool o0, .bool o1, .bool sp, .int .u32 a, .int .u32 b] ∧ CB W' (w.heap.size + 1) 36 (rifA Fc.zero) ∧ Below w.heap.size w W')) [18] (by kernel_rfl) ⟨HF.out.drew, HZ0.out.drew, Below.drewN (m := 1) HB0.out⟩ (fun hHeld => ?_)
  (try simp only [Array.replicate_succ, Array.replicate_zero, List.push_toArray, List.nil_append, List.cons_append])
  refine wpAnyF_take (i := 0) (v := ?_) (by kernel_rfl) (by kernel_rfl) rfl (by kernel_rfl) (by kernel_rfl) (by kernel_rfl) (fun _ _ _ h => h) (Or.inl ⟨by rfl, ?_⟩) (by assumption) ?_
  rotate_left
  · intro w' hSw; (try dsimp only at hSw); have c0 := hSw.1.cell 0; have c1 := hSw.1.cell 1; have c2 := hSw.1.cell 2; have c3 := hSw.1.cell 3; have c4 := hSw.1.cell 4; have c5 := hSw.1.cell 5; have c6 := hSw.1.cell 6; have c7 := hSw.1.cell 7; go_simp; (try with_reducible rfl)
  (try simp only [Act.put, List.getElem_toArray, List.getElem_cons_zero, List.setIfInBounds_toArray, List.set_cons_zero, List.set_cons_succ])
  refine wpAnyF_take (i := 1) (v := ?_) (by kernel_rfl) (by kernel_rfl) rfl (by kernel_rfl) (by kernel_rfl) (by kernel_rfl) (fun _ _ _ h => h) (Or.inl ⟨by rfl, ?_⟩) (by assumption) ?_
  rotate_left
  · intro w' hSw; (try dsimp only at hSw); have c0 := hSw.1.cell 0; have c1 := hSw.1.cell 1; have c2 := hSw.1.cell 2; have c3 := hSw.1.cell 3; have c4 := hSw.1.cell 4; have c5 := hSw.1.cell 5; have c6 := hSw.1.cell 6; have c7 := hSw.1.cell 7; go_simp; (try with_reducible rfl)
  (try simp only [Act.put, List.getElem_toArray, List.getElem_cons_zero, List.getElem_cons_succ, List.setIfInBounds_toArray, List.set_cons_zero, List.set_cons_succ])
  refine wpAnyF_take (i := 2) (v := ?_) (by kernel_rfl) (by kernel_rfl) rfl (by kernel_rfl) (by kernel_rfl) (by kernel_rfl) (fun _ _ _ h => h) (Or.inl ⟨by rfl, ?_⟩) (by assumption) ?_
  rotate_left
  · intro w' hSw; (try dsimp only at hSw); have c0 := hSw.1.cell 0; have c1 := hSw.1.cell 1; have c2 := hSw.1.cell 2; have c3 := hSw.1.cell 3; have c4 := hSw.1.cell 4; have c5 := hSw.1.cell 5; have c6 := hSw.1.cell 6; have c7 := hSw.1.cell 7; go_simp; (try with_reducible rfl)
  (try simp only [Act.put, List.getElem_toArray, List.getElem_cons_zero, List.getElem_cons_succ, List.setIfInBounds_toArray, List.set_cons_zero, List.set_cons_succ])
  refine wpAnyF_take (i := 3) (v := ?_) (by kernel_rfl) (by kernel_rfl) rfl (by kernel_rfl) (by kernel_rfl) (by kernel_rfl) (fun _ _ _ h => h) (Or.inl ⟨by rfl, ?_⟩) (by assumption) ?_
  rotate_left
  · intro w' hSw; (try dsimp only at hSw); have c0 := hSw.1.cell 0; have c1 := hSw.1.cell 1; have c2 := hSw.1.cell 2; have c3 := hSw.1.cell 3; have c4 := hSw.1.cell 4; have c5 := hSw.1.cell 5; have c6 := hSw.1.cell 6; have c7 := hSw.1.cell 7; go_simp; (try with_reducible rfl)
  (try simp only [Act.put, List.getElem_toArray, List.getElem_cons_zero, List.getElem_cons_succ, List.setIfInBounds_toArray, List.set_cons_zero, List.set_cons_succ])
  refine wpAnyF_take (i := 4) (v := ?_) (by kernel_rfl) (by kernel_rfl) rfl (by kernel_rfl) (by kernel_rfl) (by kernel_rfl) (fun _ _ _ h => h) (Or.inl ⟨by rfl, ?_⟩) (by assumption) ?_
  rotate_left
  · intro w' hSw; (try dsimp only at hSw); have c0 := hSw.1.cell 0; have c1 := hSw.1.cell 1; have c2 := hSw.1.cell 2; have c3 := hSw.1.cell 3; have c4 := hSw.1.cell 4; have c5 := hSw.1.cell 5; have c6 := hSw.1.cell 6; have c7 := hSw.1.cell 7; go_simp; (try with_reducible rfl)
  (try simp only [Act.put, List.getElem_toArray, List.getElem_cons_zero, List.getElem_cons_succ, List.setIfInBounds_toArray, List.set_cons_zero, List.set_cons_succ])
  refine wpAnyF_take (i := 5) (v := ?_) (by kernel_rfl) (by kernel_rfl) rfl (by kernel_rfl) (by kernel_rfl) (by kernel_rfl) (fun _ _ _ h => h) (Or.inl ⟨by rfl, ?_⟩) (by assumption) ?_
  rotate_left
  · intro w' hSw; (try dsimp only at hSw); have c0 := hSw.1.cell 0; have c1 := hSw.1.cell 1; have c2 := hSw.1.cell 2; have c3 := hSw.1.cell 3; have c4 := hSw.1.cell 4; have c5 := hSw.1.cell 5; have c6 := hSw.1.cell 6; have c7 := hSw.1.cell 7; go_simp; (try with_reducible rfl)
  (try simp only [Act.put, List.getElem_toArray, List.getElem_cons_zero, List.getElem_cons_succ, List.setIfInBounds_toArray, List.set_cons_zero, List.set_cons_succ])
  refine wpAnyF_take (i := 6) (v := ?_) (by kernel_rfl) (by kernel_rfl) rfl (by kernel_rfl) (by kernel_rfl) (by kernel_rfl) (fun _ _ _ h => h) (Or.inl ⟨by rfl, ?_⟩) (by assumption) ?_
  rotate_left
  · intro w' hSw; (try dsimp only at hSw); have c0 := hSw.1.cell 0; have c1 := hSw.1.cell 1; have c2 := hSw.1.cell 2; have c3 := hSw.1.cell 3; have c4 := hSw.1.cell 4; have c5 := hSw.1.cell 5; have c6 := hSw.1.cell 6; have c7 := hSw.1.cell 7; go_simp; (try with_reducible rfl)
  (try simp only [Act.put, List.getElem_toArray, List.getElem_cons_zero, List.getElem_cons_succ, List.setIfInBounds_toArray, List.set_cons_zero, List.set_cons_succ])
  refine wpAnyF_take (i := 7) (v := ?_) (by kernel_rfl) (by kernel_rfl) rfl (by kernel_rfl) (by kernel_rfl) (by kernel_rfl) (fun _ _ _ h => h) (Or.inl ⟨by rfl, ?_⟩) (by assumption) ?_
  rotate_left
  · intro w' hSw; (try dsimp only at hSw); have c0 := hSw.1.cell 0; have c1 := hSw.1.cell 1; have c2 := hSw.1.cell 2; have c3 := hSw.1.cell 3; have c4 := hSw.1.cell 4; have c5 := hSw.1.cell 5; have c6 := hSw.1.cell 6; have c7 := hSw.1.cell 7; go_simp; (try with_reducible rfl)
  (try simp only [Act.put, List.getElem_toArray, List.getElem_cons_zero, List.getElem_cons_succ, List.setIfInBounds_toArray, List.set_cons_zero, List.set_cons_succ])
  refine wpAnyF_take (i := 8) (v := ?_) (by kernel_rfl) (by kernel_rfl) rfl (by kernel_rfl) (by kernel_rfl) (by kernel_rfl) (fun _ _ _ h => h) (Or.inl ⟨by rfl, ?_⟩) (by assumption) ?_
  rotate_left
  · intro w' hSw; (try dsimp only at hSw); have c0 := hSw.1.cell 0; have c1 := hSw.1.cell 1; have c2 := hSw.1.cell 2; have c3 := hSw.1.cell 3; have c4 := hSw.1.cell 4; have c5 := hSw.1.cell 5; have c6 := hSw.1.cell 6; have c7 := hSw.1.cell 7; go_simp; (try with_reducible rfl)
  (try simp only [Act.put, List.getElem_toArray, List.getElem_cons_zero, List.getElem_cons_succ, List.setIfInBounds_toArray, List.set_cons_zero, List.set_cons_succ])
  refine wpAnyF_take (i := 9) (v := ?_) (by kernel_rfl) (by kernel_rfl) rfl (by kernel_rfl) (by kernel_rfl) (by kernel_rfl) (fun _ _ _ h => h) (Or.inl ⟨by rfl, ?_⟩) (by assumption) ?_
  rotate_left
  · intro w' hSw; (try dsimp only at hSw); have c0 := hSw.1.cell 0; have c1 := hSw.1.cell 1; have c2 := hSw.1.cell 2; have c3 := hSw.1.cell 3; have c4 := hSw.1.cell 4; have c5 := hSw.1.cell 5; have c6 := hSw.1.cell 6; have c7 := hSw.1.cell 7; go_simp; (try with_reducible rfl)
  (try simp only [Act.put, List.getElem_toArray, List.getElem_cons_zero, List.getElem_cons_succ, List.setIfInBounds_toArray, List.set_cons_zero, List.set_cons_succ])
  refine wpAnyF_take (i := 10) (v := ?_) (by kernel_rfl) (by kernel_rfl) rfl (by kernel_rfl) (by kernel_rfl) (by kernel_rfl) (fun _ _ _ h => h) (Or.inl ⟨by rfl, ?_⟩) (by assumption) ?_
  rotate_left
  · intro w' hSw; (try dsimp only at hSw); have c0 := hSw.1.cell 0; have c1 := hSw.1.cell 1; have c2 := hSw.1.cell 2; have c3 := hSw.1.cell 3; have c4 := hSw.1.cell 4; have c5 := hSw.1.cell 5; have c6 := hSw.1.cell 6; have c7 := hSw.1.cell 7; go_simp; (try with_reducible rfl)
  (try simp only [Act.put, List.getElem_toArray, List.getElem_cons_zero, List.getElem_cons_succ, List.setIfInBounds_toArray, List.set_cons_zero, List.set_cons_succ])
  refine wpAnyF_take (i := 11) (v := ?_) (by kernel_rfl) (by kernel_rfl) rfl (by kernel_rfl) (by kernel_rfl) (by kernel_rfl) (fun _ _ _ h => h) (Or.inl ⟨by rfl, ?_⟩) (by assumption) ?_
  rotate_left
  · intro w' hSw; (try dsimp only at hSw); have c0 := hSw.1.cell 0; have c1 := hSw.1.cell 1; have c2 := hSw.1.cell 2; have c3 := hSw.1.cell 3; have c4 := hSw.1.cell 4; have c5 := hSw.1.cell 5; have c6 := hSw.1.cell 6; have c7 := hSw.1.cell 7; go_simp; (try with_reducible rfl)
  (try simp only [Act.put, List.getElem_toArray, List.getElem_cons_zero, List.getElem_cons_succ, List.setIfInBounds_toArray, List.set_cons_zero, List.set_cons_succ])
  refine wpAnyF_take (i := 12) (v := ?_) (by kernel_rfl) (by kernel_rfl) rfl (by kernel_rfl) (by kernel_rfl) (by kernel_rfl) (fun _ _ _ h => h) (Or.inl ⟨by rfl, ?_⟩) (by assumption) ?_
  rotate_left
  · intro w' hSw; (try dsimp only at hSw); have c0 := hSw.1.cell 0; have c1 := hSw.1.cell 1; have c2 := hSw.1.cell 2; have c3 := hSw.1.cell 3; have c4 := hSw.1.cell 4; have c5 := hSw.1.cell 5; have c6 := hSw.1.cell 6; have c7 := hSw.1.cell 7; go_simp; (try with_reducible rfl)
  (try simp only [Act.put, List.getElem_toArray, List.getElem_cons_zero, List.getElem_cons_succ, List.setIfInBounds_toArray, List.set_cons_zero, List.set_cons_succ])
  refine wpAnyF_take (i := 13) (v := ?_) (by kernel_rfl) (by kernel_rfl) rfl (by kernel_rfl) (by kernel_rfl) (by kernel_rfl) (fun _ _ _ h => h) (Or.inl ⟨by rfl, ?_⟩) (by assumption) ?_
  rotate_left
  · intro w' hSw; (try dsimp only at hSw); have c0 := hSw.1.cell 0; have c1 := hSw.1.cell 1; have c2 := hSw.1.cell 2; have c3 := hSw.1.cell 3; have c4 := hSw.1.cell 4; have c5 := hSw.1.cell 5; have c6 := hSw.1.cell 6; have c7 := hSw.1.cell 7; go_simp; (try with_reducible rfl)
  (try simp only [Act.put, List.getElem_toArray, List.getElem_cons_zero, List.getElem_cons_succ, List.setIfInBounds_toArray, List.set_cons_zero, List.set_cons_succ])
  refine wpAnyF_take (i := 14) (v := ?_) (by kernel_rfl) (by kernel_rfl) rfl (by kernel_rfl) (by kernel_rfl) (by kernel_rfl) (fun _ _ _ h => h) (Or.inl ⟨by rfl, ?_⟩) (by assumption) ?_
  rotate_left
  · intro w' hSw; (try dsimp only at hSw); have c0 := hSw.1.cell 0; have c1 := hSw.1.cell 1; have c2 := hSw.1.cell 2; have c3 := hSw.1.cell 3; have c4 := hSw.1.cell 4; have c5 := hSw.1.cell 5; have c6 := hSw.1.cell 6; have c7 := hSw.1.cell 7; go_simp; (try with_reducible rfl)
  (try simp only [Act.put, List.getElem_toArray, List.getElem_cons_zero, List.getElem_cons_succ, List.setIfInBounds_toArray, List.set_cons_zero, List.set_cons_succ])
  refine wpAnyF_take (i := 15) (v := ?_) (by kernel_rfl) (by kernel_rfl) rfl (by kernel_rfl) (by kernel_rfl) (by kernel_rfl) (fun _ _ _ h => h) (Or.inl ⟨by rfl, ?_⟩) (by assumption) ?_
  rotate_left
  · intro w' hSw; (try dsimp only at hSw); have c0 := hSw.1.cell 0; have c1 := hSw.1.cell 1; have c2 := hSw.1.cell 2; have c3 := hSw.1.cell 3; have c4 := hSw.1.cell 4; have c5 := hSw.1.cell 5; have c6 := hSw.1.cell 6; have c7 := hSw.1.cell 7; go_simp; (try with_reducible rfl)
  (try simp only [Act.put, List.getElem_toArray, List.getElem_cons_zero, List.getElem_cons_succ, List.setIfInBounds_toArray, List.set_cons_zero, List.set_cons_succ])
  refine wpAnyF_ready (rs := [16]) (by kernel_rfl) (by simp) ?_
  refine AllReadyF.cons rfl (fun KK hKK => ?_) AllReadyF.nil
  go_simp
  ((with_reducible refine (CR.out _).mono ?_); rintro e' w2 ⟨rfl, hb⟩; have hSS := And.intro (hHeld.1.below hb) (And.intro (hHeld.2.1.below hb) (hHeld.2.2.trans (hb.mono hHeld.2.2.size))); clear hb)
  (try go_simp)
  refine hKK.out _ _ hSS (fun hHeld => ?_)
  clear hKK KK
  (try simp only [Act.put, List.getElem_toArray, List.getElem_cons_zero, List.getElem_cons_succ, List.setIfInBounds_toArray, List.set_cons_zero, List.set_cons_succ])
  refine wpAnyF_take (i := 17) (v := (rfv ⟨m, p0, p1, o0, o1, sp, r⟩)) (by kernel_rfl) (by kernel_rfl) rfl (by kernel_rfl) (by kernel_rfl) (by kernel_rfl) (fun _ _ _ h => h) (Or.inl ⟨by rfl, ?_⟩) (by assumption) ?_
  · intro w' hSw
    kernel_rfl
  (try simp only [Act.put, List.getElem_toArray, List.getElem_cons_zero, List.getElem_cons_succ, List.setIfInBounds_toArray, List.set_cons_zero, List.set_cons_succ])
  refine wpAnyF_ready (rs := [18]) (by kernel_rfl) (by simp) ?_
  refine AllReadyF.last (by kernel_rfl) rfl (fun KK hKK => ?_) AllReadyF.nil
  obtain ⟨h1, h2, h3⟩ := hHeld
  have hth := hi (show World.there _ (w.heap.size + 1) 0 (rifA ⟨m, p0, p1, o0, o1, sp, r⟩).size by rw [rifA_size]; exact h2.thereR (rifA_size _))
  have R5 := hi (h2.wholeR (rifA_size _) ⟨m, p0, p1, o0, o1, sp, r⟩)
  have B5 := hi (below_cells (n := w.heap.size) (b := w.heap.size + 1) (by omega) (rifL ⟨m, p0, p1, o0, o1, sp, r⟩) 0 _ h3)
  clear h1 h2 h3
  refine wp_store_mid 36 (.tmp 2) (.tmp 20) rfl (w.heap.size + 1) 0 (rifA ⟨m, p0, p1, o0, o1, sp, r⟩) rfl rfl hth.out HZA.out H1.out ?_
  refine hKK.out _ _ ?_
  clear hKK KK
  (try simp only [Act.put, List.getElem_toArray, List.getElem_cons_zero, List.getElem_cons_succ])
  refine wpAnyF_done (by kernel_rfl) ?_ _
  refine NoPanic.normal ?_
  go_wp2
  exact bodyPost_ret (results_rif1 rfl _ _ (w.heap.size + 1) ⟨m, p0, p1, o0, o1, sp, r⟩ rfl R5.out) rfl ⟨rfl, B5.out⟩
set_option maxRecDepth 100000 in
set_option maxHeartbeats 8000000 in
theorem alike_if (x : Fc) (w : World) : Calls Try.prog 14 #[x.v, rfv x] w fun e w' => e = .returned (.bool true) ∧ Below w.heap.size w w' := by
  obtain ⟨m, p0, p1, o0, o1, sp, r⟩ := x
  have CB0 := hi (fun W => show Calls Try.prog 38 #[.agg (bsL r).toArray, .int .i64 0] W fun e w' => e = .returned (.int .u32 (wd r 0 : Int)) ∧ Below W.heap.size W w' from rbits_any r 0 (by decide) W)
  have CB1 := hi (fun W => show Calls Try.prog 38 #[.agg (bsL r).toArray, .int .i64 1] W fun e w' => e = .returned (.int .u32 (wd r 1 : Int)) ∧ Below W.heap.size W w' from rbits_any r 1 (by decide) W)
  have HZ := hi (size_ref r)
  dsimp only [Fc.v, Fc.cs]
  obtain ⟨a, ha⟩ : ∃ a : Int, (wd r 0 : Int) = a := ⟨_, rfl⟩
  obtain ⟨b, hb⟩ : ∃ b : Int, (wd r 1 : Int) = b := ⟨_, rfl⟩
  rw [ha] at CB0 ⊢
  rw [hb] at CB1 ⊢
  clear ha hb
  have rf0 : (rifA ⟨m, p0, p1, o0, o1, sp, r⟩)[0]? = some (.int .i64 m) := rfl
  have rf1 : (rifA ⟨m, p0, p1, o0, o1, sp, r⟩)[1]? = some (.int .i64 p0) := rfl
  have rf2 : (rifA ⟨m, p0, p1, o0, o1, sp, r⟩)[2]? = some (.int .i64 p1) := rfl
  have rf3 : (rifA ⟨m, p0, p1, o0, o1, sp, r⟩)[3]? = some (.bool o0) := rfl
  have rf4 : (rifA ⟨m, p0, p1, o0, o1, sp, r⟩)[4]? = some (.bool o1) := rfl
  have rf5 : (rifA ⟨m, p0, p1, o0, o1, sp, r⟩)[5]? = some (.bool sp) := rfl
  have HF := hi ((CB.new w 29 #[.int .i64 m, .int .i64 p0, .int .i64 p1, .bool o0, .bool o1, .bool sp, .int .u32 a, .int .u32 b]).alloc (.cells (rifA ⟨m, p0, p1, o0, o1, sp, r⟩) 36))
  have HR0 := hi (cb_second (w := w) (o := .cells #[.int .i64 m, .int .i64 p0, .int .i64 p1, .bool o0, .bool o1, .bool sp, .int .u32 a, .int .u32 b] 29) (cs := rifA ⟨m, p0, p1, o0, o1, sp, r⟩) (t := 36))
  have HB0 := hi (bal_two w (.cells #[.int .i64 m, .int .i64 p0, .int .i64 p1, .bool o0, .bool o1, .bool sp, .int .u32 a, .int .u32 b] 29) (.cells (rifA ⟨m, p0, p1, o0, o1, sp, r⟩) 36))
  go_enter Try.func14, Try.ntmps14
  go_wp2
  refine wp_region_noPanic ?_
  refine wp_region_last_drew (S := (fun W' => CB W' w.heap.size 29 #[.int .i64 m, .int .i64 p0, .int .i64 p1, .bool o0, .bool o1, .bool sp, .int .u32 a, .int .u32 b] ∧ CB W' (w.heap.size + 1) 36 (rifA ⟨m, p0, p1, o0, o1, sp, r⟩) ∧ Below w.heap.size w W')) [] (by kernel_rfl) ⟨HF.out.drew, HR0.out.drew, Below.drewN (m := 1) HB0.out⟩ (fun hHeld => ?_)
  (try simp only [Array.replicate_succ, Array.replicate_zero, List.push_toArray, List.nil_append, List.cons_append])
  refine wpAnyF_take (i := 0) (v := ?_) (by kernel_rfl) (by kernel_rfl) rfl (by kernel_rfl) (by kernel_rfl) (by kernel_rfl) (fun _ _ _ h => h) (Or.inl ⟨by rfl, ?_⟩) (by assumption) ?_
  rotate_left
  · intro w' hSw; (try dsimp only at hSw); have c0 := hSw.1.cell 0; have c1 := hSw.1.cell 1; have c2 := hSw.1.cell 2; have c3 := hSw.1.cell 3; have c4 := hSw.1.cell 4; have c5 := hSw.1.cell 5; have c6 := hSw.1.cell 6; have c7 := hSw.1.cell 7; have d0 := (hSw.2.1.cell 0).trans rf0; have d1 := (hSw.2.1.cell 1).trans rf1; have d2 := (hSw.2.1.cell 2).trans rf2; have d3 := (hSw.2.1.cell 3).trans rf3; have d4 := (hSw.2.1.cell 4).trans rf4; have d5 := (hSw.2.1.cell 5).trans rf5; go_simp; (try with_reducible rfl)
  (try simp only [Act.put, List.getElem_toArray, List.getElem_cons_zero, List.setIfInBounds_toArray, List.set_cons_zero, List.set_cons_succ])
  refine wpAnyF_take (i := 1) (v := ?_) (by kernel_rfl) (by kernel_rfl) rfl (by kernel_rfl) (by kernel_rfl) (by kernel_rfl) (fun _ _ _ h => h) (Or.inl ⟨by rfl, ?_⟩) (by assumption) ?_
  rotate_left
  · intro w' hSw; (try dsimp only at hSw); have c0 := hSw.1.cell 0; have c1 := hSw.1.cell 1; have c2 := hSw.1.cell 2; have c3 := hSw.1.cell 3; have c4 := hSw.1.cell 4; have c5 := hSw.1.cell 5; have c6 := hSw.1.cell 6; have c7 := hSw.1.cell 7; have d0 := (hSw.2.1.cell 0).trans rf0; have d1 := (hSw.2.1.cell 1).trans rf1; have d2 := (hSw.2.1.cell 2).trans rf2; have d3 := (hSw.2.1.cell 3).trans rf3; have d4 := (hSw.2.1.cell 4).trans rf4; have d5 := (hSw.2.1.cell 5).trans rf5; go_simp; (try with_reducible rfl)
  (try simp only [Act.put, List.getElem_toArray, List.getElem_cons_zero, List.getElem_cons_succ, List.setIfInBounds_toArray, List.set_cons_zero, List.set_cons_succ])
  refine wpAnyF_take (i := 2) (v := ?_) (by kernel_rfl) (by kernel_rfl) rfl (by kernel_rfl) (by kernel_rfl) (by kernel_rfl) (fun _ _ _ h => h) (Or.inl ⟨by rfl, ?_⟩) (by assumption) ?_
  rotate_left
  · intro w' hSw; (try dsimp only at hSw); have c0 := hSw.1.cell 0; have c1 := hSw.1.cell 1; have c2 := hSw.1.cell 2; have c3 := hSw.1.cell 3; have c4 := hSw.1.cell 4; have c5 := hSw.1.cell 5; have c6 := hSw.1.cell 6; have c7 := hSw.1.cell 7; have d0 := (hSw.2.1.cell 0).trans rf0; have d1 := (hSw.2.1.cell 1).trans rf1; have d2 := (hSw.2.1.cell 2).trans rf2; have d3 := (hSw.2.1.cell 3).trans rf3; have d4 := (hSw.2.1.cell 4).trans rf4; have d5 := (hSw.2.1.cell 5).trans rf5; go_simp; (try with_reducible rfl)
  (try simp only [Act.put, List.getElem_toArray, List.getElem_cons_zero, List.getElem_cons_succ, List.setIfInBounds_toArray, List.set_cons_zero, List.set_cons_succ])
  refine wpAnyF_take (i := 3) (v := ?_) (by kernel_rfl) (by kernel_rfl) rfl (by kernel_rfl) (by kernel_rfl) (by kernel_rfl) (fun _ _ _ h => h) (Or.inl ⟨by rfl, ?_⟩) (by assumption) ?_
  rotate_left
  · intro w' hSw; (try dsimp only at hSw); have c0 := hSw.1.cell 0; have c1 := hSw.1.cell 1; have c2 := hSw.1.cell 2; have c3 := hSw.1.cell 3; have c4 := hSw.1.cell 4; have c5 := hSw.1.cell 5; have c6 := hSw.1.cell 6; have c7 := hSw.1.cell 7; have d0 := (hSw.2.1.cell 0).trans rf0; have d1 := (hSw.2.1.cell 1).trans rf1; have d2 := (hSw.2.1.cell 2).trans rf2; have d3 := (hSw.2.1.cell 3).trans rf3; have d4 := (hSw.2.1.cell 4).trans rf4; have d5 := (hSw.2.1.cell 5).trans rf5; go_simp; (try with_reducible rfl)
  (try simp only [Act.put, List.getElem_toArray, List.getElem_cons_zero, List.getElem_cons_succ, List.setIfInBounds_toArray, List.set_cons_zero, List.set_cons_succ])
  refine wpAnyF_take (i := 4) (v := ?_) (by kernel_rfl) (by kernel_rfl) rfl (by kernel_rfl) (by kernel_rfl) (by kernel_rfl) (fun _ _ _ h => h) (Or.inl ⟨by rfl, ?_⟩) (by assumption) ?_
  rotate_left
  · intro w' hSw; (try dsimp only at hSw); have c0 := hSw.1.cell 0; have c1 := hSw.1.cell 1; have c2 := hSw.1.cell 2; have c3 := hSw.1.cell 3; have c4 := hSw.1.cell 4; have c5 := hSw.1.cell 5; have c6 := hSw.1.cell 6; have c7 := hSw.1.cell 7; have d0 := (hSw.2.1.cell 0).trans rf0; have d1 := (hSw.2.1.cell 1).trans rf1; have d2 := (hSw.2.1.cell 2).trans rf2; have d3 := (hSw.2.1.cell 3).trans rf3; have d4 := (hSw.2.1.cell 4).trans rf4; have d5 := (hSw.2.1.cell 5).trans rf5; go_simp; (try with_reducible rfl)
  (try simp only [Act.put, List.getElem_toArray, List.getElem_cons_zero, List.getElem_cons_succ, List.setIfInBounds_toArray, List.set_cons_zero, List.set_cons_succ])
  refine wpAnyF_take (i := 5) (v := ?_) (by kernel_rfl) (by kernel_rfl) rfl (by kernel_rfl) (by kernel_rfl) (by kernel_rfl) (fun _ _ _ h => h) (Or.inl ⟨by rfl, ?_⟩) (by assumption) ?_
  rotate_left
  · intro w' hSw; (try dsimp only at hSw); have c0 := hSw.1.cell 0; have c1 := hSw.1.cell 1; have c2 := hSw.1.cell 2; have c3 := hSw.1.cell 3; have c4 := hSw.1.cell 4; have c5 := hSw.1.cell 5; have c6 := hSw.1.cell 6; have c7 := hSw.1.cell 7; have d0 := (hSw.2.1.cell 0).trans rf0; have d1 := (hSw.2.1.cell 1).trans rf1; have d2 := (hSw.2.1.cell 2).trans rf2; have d3 := (hSw.2.1.cell 3).trans rf3; have d4 := (hSw.2.1.cell 4).trans rf4; have d5 := (hSw.2.1.cell 5).trans rf5; go_simp; (try with_reducible rfl)
  (try simp only [Act.put, List.getElem_toArray, List.getElem_cons_zero, List.getElem_cons_succ, List.setIfInBounds_toArray, List.set_cons_zero, List.set_cons_succ])
  refine wpAnyF_take (i := 6) (v := ?_) (by kernel_rfl) (by kernel_rfl) rfl (by kernel_rfl) (by kernel_rfl) (by kernel_rfl) (fun _ _ _ h => h) (Or.inl ⟨by rfl, ?_⟩) (by assumption) ?_
  rotate_left
  · intro w' hSw; (try dsimp only at hSw); have c0 := hSw.1.cell 0; have c1 := hSw.1.cell 1; have c2 := hSw.1.cell 2; have c3 := hSw.1.cell 3; have c4 := hSw.1.cell 4; have c5 := hSw.1.cell 5; have c6 := hSw.1.cell 6; have c7 := hSw.1.cell 7; have d0 := (hSw.2.1.cell 0).trans rf0; have d1 := (hSw.2.1.cell 1).trans rf1; have d2 := (hSw.2.1.cell 2).trans rf2; have d3 := (hSw.2.1.cell 3).trans rf3; have d4 := (hSw.2.1.cell 4).trans rf4; have d5 := (hSw.2.1.cell 5).trans rf5; go_simp; (try with_reducible rfl)
  (try simp only [Act.put, List.getElem_toArray, List.getElem_cons_zero, List.getElem_cons_succ, List.setIfInBounds_toArray, List.set_cons_zero, List.set_cons_succ])
  refine wpAnyF_take (i := 7) (v := ?_) (by kernel_rfl) (by kernel_rfl) rfl (by kernel_rfl) (by kernel_rfl) (by kernel_rfl) (fun _ _ _ h => h) (Or.inl ⟨by rfl, ?_⟩) (by assumption) ?_
  rotate_left
  · intro w' hSw; (try dsimp only at hSw); have c0 := hSw.1.cell 0; have c1 := hSw.1.cell 1; have c2 := hSw.1.cell 2; have c3 := hSw.1.cell 3; have c4 := hSw.1.cell 4; have c5 := hSw.1.cell 5; have c6 := hSw.1.cell 6; have c7 := hSw.1.cell 7; have d0 := (hSw.2.1.cell 0).trans rf0; have d1 := (hSw.2.1.cell 1).trans rf1; have d2 := (hSw.2.1.cell 2).trans rf2; have d3 := (hSw.2.1.cell 3).trans rf3; have d4 := (hSw.2.1.cell 4).trans rf4; have d5 := (hSw.2.1.cell 5).trans rf5; go_simp; (try with_reducible rfl)
  (try simp only [Act.put, List.getElem_toArray, List.getElem_cons_zero, List.getElem_cons_succ, List.setIfInBounds_toArray, List.set_cons_zero, List.set_cons_succ])
  refine wpAnyF_take (i := 8) (v := ?_) (by kernel_rfl) (by kernel_rfl) rfl (by kernel_rfl) (by kernel_rfl) (by kernel_rfl) (fun _ _ _ h => h) (Or.inl ⟨by rfl, ?_⟩) (by assumption) ?_
  rotate_left
  · intro w' hSw; (try dsimp only at hSw); have c0 := hSw.1.cell 0; have c1 := hSw.1.cell 1; have c2 := hSw.1.cell 2; have c3 := hSw.1.cell 3; have c4 := hSw.1.cell 4; have c5 := hSw.1.cell 5; have c6 := hSw.1.cell 6; have c7 := hSw.1.cell 7; have d0 := (hSw.2.1.cell 0).trans rf0; have d1 := (hSw.2.1.cell 1).trans rf1; have d2 := (hSw.2.1.cell 2).trans rf2; have d3 := (hSw.2.1.cell 3).trans rf3; have d4 := (hSw.2.1.cell 4).trans rf4; have d5 := (hSw.2.1.cell 5).trans rf5; go_simp; (try with_reducible rfl)
  (try simp only [Act.put, List.getElem_toArray, List.getElem_cons_zero, List.getElem_cons_succ, List.setIfInBounds_toArray, List.set_cons_zero, List.set_cons_succ])
  refine wpAnyF_take (i := 9) (v := ?_) (by kernel_rfl) (by kernel_rfl) rfl (by kernel_rfl) (by kernel_rfl) (by kernel_rfl) (fun _ _ _ h => h) (Or.inl ⟨by rfl, ?_⟩) (by assumption) ?_
  rotate_left
  · intro w' hSw; (try dsimp only at hSw); have c0 := hSw.1.cell 0; have c1 := hSw.1.cell 1; have c2 := hSw.1.cell 2; have c3 := hSw.1.cell 3; have c4 := hSw.1.cell 4; have c5 := hSw.1.cell 5; have c6 := hSw.1.cell 6; have c7 := hSw.1.cell 7; have d0 := (hSw.2.1.cell 0).trans rf0; have d1 := (hSw.2.1.cell 1).trans rf1; have d2 := (hSw.2.1.cell 2).trans rf2; have d3 := (hSw.2.1.cell 3).trans rf3; have d4 := (hSw.2.1.cell 4).trans rf4; have d5 := (hSw.2.1.cell 5).trans rf5; go_simp; (try with_reducible rfl)
  (try simp only [Act.put, List.getElem_toArray, List.getElem_cons_zero, List.getElem_cons_succ, List.setIfInBounds_toArray, List.set_cons_zero, List.set_cons_succ])
  refine wpAnyF_take (i := 10) (v := ?_) (by kernel_rfl) (by kernel_rfl) rfl (by kernel_rfl) (by kernel_rfl) (by kernel_rfl) (fun _ _ _ h => h) (Or.inl ⟨by rfl, ?_⟩) (by assumption) ?_
  rotate_left
  · intro w' hSw; (try dsimp only at hSw); have c0 := hSw.1.cell 0; have c1 := hSw.1.cell 1; have c2 := hSw.1.cell 2; have c3 := hSw.1.cell 3; have c4 := hSw.1.cell 4; have c5 := hSw.1.cell 5; have c6 := hSw.1.cell 6; have c7 := hSw.1.cell 7; have d0 := (hSw.2.1.cell 0).trans rf0; have d1 := (hSw.2.1.cell 1).trans rf1; have d2 := (hSw.2.1.cell 2).trans rf2; have d3 := (hSw.2.1.cell 3).trans rf3; have d4 := (hSw.2.1.cell 4).trans rf4; have d5 := (hSw.2.1.cell 5).trans rf5; go_simp; (try with_reducible rfl)
  (try simp only [Act.put, List.getElem_toArray, List.getElem_cons_zero, List.getElem_cons_succ, List.setIfInBounds_toArray, List.set_cons_zero, List.set_cons_succ])
  refine wpAnyF_take (i := 11) (v := ?_) (by kernel_rfl) (by kernel_rfl) rfl (by kernel_rfl) (by kernel_rfl) (by kernel_rfl) (fun _ _ _ h => h) (Or.inl ⟨by rfl, ?_⟩) (by assumption) ?_
  rotate_left
  · intro w' hSw; (try dsimp only at hSw); have c0 := hSw.1.cell 0; have c1 := hSw.1.cell 1; have c2 := hSw.1.cell 2; have c3 := hSw.1.cell 3; have c4 := hSw.1.cell 4; have c5 := hSw.1.cell 5; have c6 := hSw.1.cell 6; have c7 := hSw.1.cell 7; have d0 := (hSw.2.1.cell 0).trans rf0; have d1 := (hSw.2.1.cell 1).trans rf1; have d2 := (hSw.2.1.cell 2).trans rf2; have d3 := (hSw.2.1.cell 3).trans rf3; have d4 := (hSw.2.1.cell 4).trans rf4; have d5 := (hSw.2.1.cell 5).trans rf5; go_simp; (try with_reducible rfl)
  (try simp only [Act.put, List.getElem_toArray, List.getElem_cons_zero, List.getElem_cons_succ, List.setIfInBounds_toArray, List.set_cons_zero, List.set_cons_succ])
  refine wpAnyF_take (i := 12) (v := ?_) (by kernel_rfl) (by kernel_rfl) rfl (by kernel_rfl) (by kernel_rfl) (by kernel_rfl) (fun _ _ _ h => h) (Or.inl ⟨by rfl, ?_⟩) (by assumption) ?_
  rotate_left
  · intro w' hSw; (try dsimp only at hSw); have c0 := hSw.1.cell 0; have c1 := hSw.1.cell 1; have c2 := hSw.1.cell 2; have c3 := hSw.1.cell 3; have c4 := hSw.1.cell 4; have c5 := hSw.1.cell 5; have c6 := hSw.1.cell 6; have c7 := hSw.1.cell 7; have d0 := (hSw.2.1.cell 0).trans rf0; have d1 := (hSw.2.1.cell 1).trans rf1; have d2 := (hSw.2.1.cell 2).trans rf2; have d3 := (hSw.2.1.cell 3).trans rf3; have d4 := (hSw.2.1.cell 4).trans rf4; have d5 := (hSw.2.1.cell 5).trans rf5; go_simp; (try with_reducible rfl)
  (try simp only [Act.put, List.getElem_toArray, List.getElem_cons_zero, List.getElem_cons_succ, List.setIfInBounds_toArray, List.set_cons_zero, List.set_cons_succ])
  refine wpAnyF_take (i := 13) (v := ?_) (by kernel_rfl) (by kernel_rfl) rfl (by kernel_rfl) (by kernel_rfl) (by kernel_rfl) (fun _ _ _ h => h) (Or.inl ⟨by rfl, ?_⟩) (by assumption) ?_
  rotate_left
  · intro w' hSw; (try dsimp only at hSw); have c0 := hSw.1.cell 0; have c1 := hSw.1.cell 1; have c2 := hSw.1.cell 2; have c3 := hSw.1.cell 3; have c4 := hSw.1.cell 4; have c5 := hSw.1.cell 5; have c6 := hSw.1.cell 6; have c7 := hSw.1.cell 7; have d0 := (hSw.2.1.cell 0).trans rf0; have d1 := (hSw.2.1.cell 1).trans rf1; have d2 := (hSw.2.1.cell 2).trans rf2; have d3 := (hSw.2.1.cell 3).trans rf3; have d4 := (hSw.2.1.cell 4).trans rf4; have d5 := (hSw.2.1.cell 5).trans rf5; go_simp; (try with_reducible rfl)
  (try simp only [Act.put, List.getElem_toArray, List.getElem_cons_zero, List.getElem_cons_succ, List.setIfInBounds_toArray, List.set_cons_zero, List.set_cons_succ])
  refine wpAnyF_take (i := 14) (v := ?_) (by kernel_rfl) (by kernel_rfl) rfl (by kernel_rfl) (by kernel_rfl) (by kernel_rfl) (fun _ _ _ h => h) (Or.inl ⟨by rfl, ?_⟩) (by assumption) ?_
  rotate_left
  · intro w' hSw; (try dsimp only at hSw); have c0 := hSw.1.cell 0; have c1 := hSw.1.cell 1; have c2 := hSw.1.cell 2; have c3 := hSw.1.cell 3; have c4 := hSw.1.cell 4; have c5 := hSw.1.cell 5; have c6 := hSw.1.cell 6; have c7 := hSw.1.cell 7; have d0 := (hSw.2.1.cell 0).trans rf0; have d1 := (hSw.2.1.cell 1).trans rf1; have d2 := (hSw.2.1.cell 2).trans rf2; have d3 := (hSw.2.1.cell 3).trans rf3; have d4 := (hSw.2.1.cell 4).trans rf4; have d5 := (hSw.2.1.cell 5).trans rf5; go_simp; (try with_reducible rfl)
  (try simp only [Act.put, List.getElem_toArray, List.getElem_cons_zero, List.getElem_cons_succ, List.setIfInBounds_toArray, List.set_cons_zero, List.set_cons_succ])
  refine wpAnyF_take (i := 15) (v := ?_) (by kernel_rfl) (by kernel_rfl) rfl (by kernel_rfl) (by kernel_rfl) (by kernel_rfl) (fun _ _ _ h => h) (Or.inl ⟨by rfl, ?_⟩) (by assumption) ?_
  rotate_left
  · intro w' hSw; (try dsimp only at hSw); have c0 := hSw.1.cell 0; have c1 := hSw.1.cell 1; have c2 := hSw.1.cell 2; have c3 := hSw.1.cell 3; have c4 := hSw.1.cell 4; have c5 := hSw.1.cell 5; have c6 := hSw.1.cell 6; have c7 := hSw.1.cell 7; have d0 := (hSw.2.1.cell 0).trans rf0; have d1 := (hSw.2.1.cell 1).trans rf1; have d2 := (hSw.2.1.cell 2).trans rf2; have d3 := (hSw.2.1.cell 3).trans rf3; have d4 := (hSw.2.1.cell 4).trans rf4; have d5 := (hSw.2.1.cell 5).trans rf5; go_simp; (try with_reducible rfl)
  (try simp only [Act.put, List.getElem_toArray, List.getElem_cons_zero, List.getElem_cons_succ, List.setIfInBounds_toArray, List.set_cons_zero, List.set_cons_succ])
  refine wpAnyF_take (i := 16) (v := ?_) (by kernel_rfl) (by kernel_rfl) rfl (by kernel_rfl) (by kernel_rfl) (by kernel_rfl) (fun _ _ _ h => h) (Or.inl ⟨by rfl, ?_⟩) (by assumption) ?_
  rotate_left
  · intro w' hSw; (try dsimp only at hSw); have c0 := hSw.1.cell 0; have c1 := hSw.1.cell 1; have c2 := hSw.1.cell 2; have c3 := hSw.1.cell 3; have c4 := hSw.1.cell 4; have c5 := hSw.1.cell 5; have c6 := hSw.1.cell 6; have c7 := hSw.1.cell 7; have d0 := (hSw.2.1.cell 0).trans rf0; have d1 := (hSw.2.1.cell 1).trans rf1; have d2 := (hSw.2.1.cell 2).trans rf2; have d3 := (hSw.2.1.cell 3).trans rf3; have d4 := (hSw.2.1.cell 4).trans rf4; have d5 := (hSw.2.1.cell 5).trans rf5; go_simp; (try with_reducible rfl)
  (try simp only [Act.put, List.getElem_toArray, List.getElem_cons_zero, List.getElem_cons_succ, List.setIfInBounds_toArray, List.set_cons_zero, List.set_cons_succ])
  refine wpAnyF_take (i := 17) (v := ?_) (by kernel_rfl) (by kernel_rfl) rfl (by kernel_rfl) (by kernel_rfl) (by kernel_rfl) (fun _ _ _ h => h) (Or.inl ⟨by rfl, ?_⟩) (by assumption) ?_
  rotate_left
  · intro w' hSw; (try dsimp only at hSw); have c0 := hSw.1.cell 0; have c1 := hSw.1.cell 1; have c2 := hSw.1.cell 2; have c3 := hSw.1.cell 3; have c4 := hSw.1.cell 4; have c5 := hSw.1.cell 5; have c6 := hSw.1.cell 6; have c7 := hSw.1.cell 7; have d0 := (hSw.2.1.cell 0).trans rf0; have d1 := (hSw.2.1.cell 1).trans rf1; have d2 := (hSw.2.1.cell 2).trans rf2; have d3 := (hSw.2.1.cell 3).trans rf3; have d4 := (hSw.2.1.cell 4).trans rf4; have d5 := (hSw.2.1.cell 5).trans rf5; go_simp; (try with_reducible rfl)
  (try simp only [Act.put, List.getElem_toArray, List.getElem_cons_zero, List.getElem_cons_succ, List.setIfInBounds_toArray, List.set_cons_zero, List.set_cons_succ])
  refine wpAnyF_take (i := 18) (v := ?_) (by kernel_rfl) (by kernel_rfl) rfl (by kernel_rfl) (by kernel_rfl) (by kernel_rfl) (fun _ _ _ h => h) (Or.inl ⟨by rfl, ?_⟩) (by assumption) ?_
  rotate_left
  · intro w' hSw; (try dsimp only at hSw); have c0 := hSw.1.cell 0; have c1 := hSw.1.cell 1; have c2 := hSw.1.cell 2; have c3 := hSw.1.cell 3; have c4 := hSw.1.cell 4; have c5 := hSw.1.cell 5; have c6 := hSw.1.cell 6; have c7 := hSw.1.cell 7; have d0 := (hSw.2.1.cell 0).trans rf0; have d1 := (hSw.2.1.cell 1).trans rf1; have d2 := (hSw.2.1.cell 2).trans rf2; have d3 := (hSw.2.1.cell 3).trans rf3; have d4 := (hSw.2.1.cell 4).trans rf4; have d5 := (hSw.2.1.cell 5).trans rf5; go_simp; (try with_reducible rfl)
  (try simp only [Act.put, List.getElem_toArray, List.getElem_cons_zero, List.getElem_cons_succ, List.setIfInBounds_toArray, List.set_cons_zero, List.set_cons_succ])
  refine wpAnyF_take (i := 19) (v := ?_) (by kernel_rfl) (by kernel_rfl) rfl (by kernel_rfl) (by kernel_rfl) (by kernel_rfl) (fun _ _ _ h => h) (Or.inl ⟨by rfl, ?_⟩) (by assumption) ?_
  rotate_left
  · intro w' hSw; (try dsimp only at hSw); have c0 := hSw.1.cell 0; have c1 := hSw.1.cell 1; have c2 := hSw.1.cell 2; have c3 := hSw.1.cell 3; have c4 := hSw.1.cell 4; have c5 := hSw.1.cell 5; have c6 := hSw.1.cell 6; have c7 := hSw.1.cell 7; have d0 := (hSw.2.1.cell 0).trans rf0; have d1 := (hSw.2.1.cell 1).trans rf1; have d2 := (hSw.2.1.cell 2).trans rf2; have d3 := (hSw.2.1.cell 3).trans rf3; have d4 := (hSw.2.1.cell 4).trans rf4; have d5 := (hSw.2.1.cell 5).trans rf5; go_simp; (try with_reducible rfl)
  (try simp only [Act.put, List.getElem_toArray, List.getElem_cons_zero, List.getElem_cons_succ, List.setIfInBounds_toArray, List.set_cons_zero, List.set_cons_succ])
  refine wpAnyF_take (i := 20) (v := ?_) (by kernel_rfl) (by kernel_rfl) rfl (by kernel_rfl) (by kernel_rfl) (by kernel_rfl) (fun _ _ _ h => h) (Or.inl ⟨by rfl, ?_⟩) (by assumption) ?_
  rotate_left
  · intro w' hSw; (try dsimp only at hSw); have c0 := hSw.1.cell 0; have c1 := hSw.1.cell 1; have c2 := hSw.1.cell 2; have c3 := hSw.1.cell 3; have c4 := hSw.1.cell 4; have c5 := hSw.1.cell 5; have c6 := hSw.1.cell 6; have c7 := hSw.1.cell 7; have d0 := (hSw.2.1.cell 0).trans rf0; have d1 := (hSw.2.1.cell 1).trans rf1; have d2 := (hSw.2.1.cell 2).trans rf2; have d3 := (hSw.2.1.cell 3).trans rf3; have d4 := (hSw.2.1.cell 4).trans rf4; have d5 := (hSw.2.1.cell 5).trans rf5; go_simp; (try with_reducible rfl)
  (try simp only [Act.put, List.getElem_toArray, List.getElem_cons_zero, List.getElem_cons_succ, List.setIfInBounds_toArray, List.set_cons_zero, List.set_cons_succ])
  refine wpAnyF_take (i := 21) (v := ?_) (by kernel_rfl) (by kernel_rfl) rfl (by kernel_rfl) (by kernel_rfl) (by kernel_rfl) (fun _ _ _ h => h) (Or.inl ⟨by rfl, ?_⟩) (by assumption) ?_
  rotate_left
  · intro w' hSw; (try dsimp only at hSw); have c0 := hSw.1.cell 0; have c1 := hSw.1.cell 1; have c2 := hSw.1.cell 2; have c3 := hSw.1.cell 3; have c4 := hSw.1.cell 4; have c5 := hSw.1.cell 5; have c6 := hSw.1.cell 6; have c7 := hSw.1.cell 7; have d0 := (hSw.2.1.cell 0).trans rf0; have d1 := (hSw.2.1.cell 1).trans rf1; have d2 := (hSw.2.1.cell 2).trans rf2; have d3 := (hSw.2.1.cell 3).trans rf3; have d4 := (hSw.2.1.cell 4).trans rf4; have d5 := (hSw.2.1.cell 5).trans rf5; go_simp; (try with_reducible rfl)
  (try simp only [Act.put, List.getElem_toArray, List.getElem_cons_zero, List.getElem_cons_succ, List.setIfInBounds_toArray, List.set_cons_zero, List.set_cons_succ])
  refine wpAnyF_take (i := 22) (v := ?_) (by kernel_rfl) (by kernel_rfl) rfl (by kernel_rfl) (by kernel_rfl) (by kernel_rfl) (fun _ _ _ h => h) (Or.inl ⟨by rfl, ?_⟩) (by assumption) ?_
  rotate_left
  · intro w' hSw; (try dsimp only at hSw); have c0 := hSw.1.cell 0; have c1 := hSw.1.cell 1; have c2 := hSw.1.cell 2; have c3 := hSw.1.cell 3; have c4 := hSw.1.cell 4; have c5 := hSw.1.cell 5; have c6 := hSw.1.cell 6; have c7 := hSw.1.cell 7; have d0 := (hSw.2.1.cell 0).trans rf0; have d1 := (hSw.2.1.cell 1).trans rf1; have d2 := (hSw.2.1.cell 2).trans rf2; have d3 := (hSw.2.1.cell 3).trans rf3; have d4 := (hSw.2.1.cell 4).trans rf4; have d5 := (hSw.2.1.cell 5).trans rf5; go_simp; (try with_reducible rfl)
  (try simp only [Act.put, List.getElem_toArray, List.getElem_cons_zero, List.getElem_cons_succ, List.setIfInBounds_toArray, List.set_cons_zero, List.set_cons_succ])
  refine wpAnyF_take (i := 23) (v := ?_) (by kernel_rfl) (by kernel_rfl) rfl (by kernel_rfl) (by kernel_rfl) (by kernel_rfl) (fun _ _ _ h => h) (Or.inl ⟨by rfl, ?_⟩) (by assumption) ?_
  rotate_left
  · intro w' hSw; (try dsimp only at hSw); have c0 := hSw.1.cell 0; have c1 := hSw.1.cell 1; have c2 := hSw.1.cell 2; have c3 := hSw.1.cell 3; have c4 := hSw.1.cell 4; have c5 := hSw.1.cell 5; have c6 := hSw.1.cell 6; have c7 := hSw.1.cell 7; have d0 := (hSw.2.1.cell 0).trans rf0; have d1 := (hSw.2.1.cell 1).trans rf1; have d2 := (hSw.2.1.cell 2).trans rf2; have d3 := (hSw.2.1.cell 3).trans rf3; have d4 := (hSw.2.1.cell 4).trans rf4; have d5 := (hSw.2.1.cell 5).trans rf5; go_simp; (try with_reducible rfl)
  (try simp only [Act.put, List.getElem_toArray, List.getElem_cons_zero, List.getElem_cons_succ, List.setIfInBounds_toArray, List.set_cons_zero, List.set_cons_succ])
  refine wpAnyF_take (i := 24) (v := ?_) (by kernel_rfl) (by kernel_rfl) rfl (by kernel_rfl) (by kernel_rfl) (by kernel_rfl) (fun _ _ _ h => h) (Or.inl ⟨by rfl, ?_⟩) (by assumption) ?_
  rotate_left
  · intro w' hSw; (try dsimp only at hSw); have c0 := hSw.1.cell 0; have c1 := hSw.1.cell 1; have c2 := hSw.1.cell 2; have c3 := hSw.1.cell 3; have c4 := hSw.1.cell 4; have c5 := hSw.1.cell 5; have c6 := hSw.1.cell 6; have c7 := hSw.1.cell 7; have d0 := (hSw.2.1.cell 0).trans rf0; have d1 := (hSw.2.1.cell 1).trans rf1; have d2 := (hSw.2.1.cell 2).trans rf2; have d3 := (hSw.2.1.cell 3).trans rf3; have d4 := (hSw.2.1.cell 4).trans rf4; have d5 := (hSw.2.1.cell 5).trans rf5; go_simp; (try with_reducible rfl)
  (try simp only [Act.put, List.getElem_toArray, List.getElem_cons_zero, List.getElem_cons_succ, List.setIfInBounds_toArray, List.set_cons_zero, List.set_cons_succ])
  refine wpAnyF_take (i := 25) (v := ?_) (by kernel_rfl) (by kernel_rfl) rfl (by kernel_rfl) (by kernel_rfl) (by kernel_rfl) (fun _ _ _ h => h) (Or.inl ⟨by rfl, ?_⟩) (by assumption) ?_
  rotate_left
  · intro w' hSw; (try dsimp only at hSw); have c0 := hSw.1.cell 0; have c1 := hSw.1.cell 1; have c2 := hSw.1.cell 2; have c3 := hSw.1.cell 3; have c4 := hSw.1.cell 4; have c5 := hSw.1.cell 5; have c6 := hSw.1.cell 6; have c7 := hSw.1.cell 7; have d0 := (hSw.2.1.cell 0).trans rf0; have d1 := (hSw.2.1.cell 1).trans rf1; have d2 := (hSw.2.1.cell 2).trans rf2; have d3 := (hSw.2.1.cell 3).trans rf3; have d4 := (hSw.2.1.cell 4).trans rf4; have d5 := (hSw.2.1.cell 5).trans rf5; go_simp; (try with_reducible rfl)
  (try simp only [Act.put, List.getElem_toArray, List.getElem_cons_zero, List.getElem_cons_succ, List.setIfInBounds_toArray, List.set_cons_zero, List.set_cons_succ])
  refine wpAnyF_take (i := 26) (v := ?_) (by kernel_rfl) (by kernel_rfl) rfl (by kernel_rfl) (by kernel_rfl) (by kernel_rfl) (fun _ _ _ h => h) (Or.inl ⟨by rfl, ?_⟩) (by assumption) ?_
  rotate_left
  · intro w' hSw; (try dsimp only at hSw); have c0 := hSw.1.cell 0; have c1 := hSw.1.cell 1; have c2 := hSw.1.cell 2; have c3 := hSw.1.cell 3; have c4 := hSw.1.cell 4; have c5 := hSw.1.cell 5; have c6 := hSw.1.cell 6; have c7 := hSw.1.cell 7; have d0 := (hSw.2.1.cell 0).trans rf0; have d1 := (hSw.2.1.cell 1).trans rf1; have d2 := (hSw.2.1.cell 2).trans rf2; have d3 := (hSw.2.1.cell 3).trans rf3; have d4 := (hSw.2.1.cell 4).trans rf4; have d5 := (hSw.2.1.cell 5).trans rf5; go_simp; (try with_reducible rfl)
  (try simp only [Act.put, List.getElem_toArray, List.getElem_cons_zero, List.getElem_cons_succ, List.setIfInBounds_toArray, List.set_cons_zero, List.set_cons_succ])
  refine wpAnyF_take (i := 27) (v := ?_) (by kernel_rfl) (by kernel_rfl) rfl (by kernel_rfl) (by kernel_rfl) (by kernel_rfl) (fun _ _ _ h => h) (Or.inl ⟨by rfl, ?_⟩) (by assumption) ?_
  rotate_left
  · intro w' hSw; (try dsimp only at hSw); have c0 := hSw.1.cell 0; have c1 := hSw.1.cell 1; have c2 := hSw.1.cell 2; have c3 := hSw.1.cell 3; have c4 := hSw.1.cell 4; have c5 := hSw.1.cell 5; have c6 := hSw.1.cell 6; have c7 := hSw.1.cell 7; have d0 := (hSw.2.1.cell 0).trans rf0; have d1 := (hSw.2.1.cell 1).trans rf1; have d2 := (hSw.2.1.cell 2).trans rf2; have d3 := (hSw.2.1.cell 3).trans rf3; have d4 := (hSw.2.1.cell 4).trans rf4; have d5 := (hSw.2.1.cell 5).trans rf5; go_simp; (try with_reducible rfl)
  (try simp only [Act.put, List.getElem_toArray, List.getElem_cons_zero, List.getElem_cons_succ, List.setIfInBounds_toArray, List.set_cons_zero, List.set_cons_succ])
  refine wpAnyF_take (i := 28) (v := ?_) (by kernel_rfl) (by kernel_rfl) rfl (by kernel_rfl) (by kernel_rfl) (by kernel_rfl) (fun _ _ _ h => h) (Or.inl ⟨by rfl, ?_⟩) (by assumption) ?_
  rotate_left
  · intro w' hSw; (try dsimp only at hSw); have c0 := hSw.1.cell 0; have c1 := hSw.1.cell 1; have c2 := hSw.1.cell 2; have c3 := hSw.1.cell 3; have c4 := hSw.1.cell 4; have c5 := hSw.1.cell 5; have c6 := hSw.1.cell 6; have c7 := hSw.1.cell 7; have d0 := (hSw.2.1.cell 0).trans rf0; have d1 := (hSw.2.1.cell 1).trans rf1; have d2 := (hSw.2.1.cell 2).trans rf2; have d3 := (hSw.2.1.cell 3).trans rf3; have d4 := (hSw.2.1.cell 4).trans rf4; have d5 := (hSw.2.1.cell 5).trans rf5; go_simp; (try with_reducible rfl)
  (try simp only [Act.put, List.getElem_toArray, List.getElem_cons_zero, List.getElem_cons_succ, List.setIfInBounds_toArray, List.set_cons_zero, List.set_cons_succ])
  refine wpAnyF_take (i := 29) (v := ?_) (by kernel_rfl) (by kernel_rfl) rfl (by kernel_rfl) (by kernel_rfl) (by kernel_rfl) (fun _ _ _ h => h) (Or.inl ⟨by rfl, ?_⟩) (by assumption) ?_
  rotate_left
  · intro w' hSw; (try dsimp only at hSw); have c0 := hSw.1.cell 0; have c1 := hSw.1.cell 1; have c2 := hSw.1.cell 2; have c3 := hSw.1.cell 3; have c4 := hSw.1.cell 4; have c5 := hSw.1.cell 5; have c6 := hSw.1.cell 6; have c7 := hSw.1.cell 7; have d0 := (hSw.2.1.cell 0).trans rf0; have d1 := (hSw.2.1.cell 1).trans rf1; have d2 := (hSw.2.1.cell 2).trans rf2; have d3 := (hSw.2.1.cell 3).trans rf3; have d4 := (hSw.2.1.cell 4).trans rf4; have d5 := (hSw.2.1.cell 5).trans rf5; go_simp; (try with_reducible rfl)
  (try simp only [Act.put, List.getElem_toArray, List.getElem_cons_zero, List.getElem_cons_succ, List.setIfInBounds_toArray, List.set_cons_zero, List.set_cons_succ])
  refine wpAnyF_take (i := 30) (v := ?_) (by kernel_rfl) (by kernel_rfl) rfl (by kernel_rfl) (by kernel_rfl) (by kernel_rfl) (fun _ _ _ h => h) (Or.inl ⟨by rfl, ?_⟩) (by assumption) ?_
  rotate_left
  · intro w' hSw; (try dsimp only at hSw); have c0 := hSw.1.cell 0; have c1 := hSw.1.cell 1; have c2 := hSw.1.cell 2; have c3 := hSw.1.cell 3; have c4 := hSw.1.cell 4; have c5 := hSw.1.cell 5; have c6 := hSw.1.cell 6; have c7 := hSw.1.cell 7; have d0 := (hSw.2.1.cell 0).trans rf0; have d1 := (hSw.2.1.cell 1).trans rf1; have d2 := (hSw.2.1.cell 2).trans rf2; have d3 := (hSw.2.1.cell 3).trans rf3; have d4 := (hSw.2.1.cell 4).trans rf4; have d5 := (hSw.2.1.cell 5).trans rf5; go_simp; (try with_reducible rfl)
  (try simp only [Act.put, List.getElem_toArray, List.getElem_cons_zero, List.getElem_cons_succ, List.setIfInBounds_toArray, List.set_cons_zero, List.set_cons_succ])
  refine wpAnyF_take (i := 31) (v := ?_) (by kernel_rfl) (by kernel_rfl) rfl (by kernel_rfl) (by kernel_rfl) (by kernel_rfl) (fun _ _ _ h => h) (Or.inl ⟨by rfl, ?_⟩) (by assumption) ?_
  rotate_left
  · intro w' hSw; (try dsimp only at hSw); have c0 := hSw.1.cell 0; have c1 := hSw.1.cell 1; have c2 := hSw.1.cell 2; have c3 := hSw.1.cell 3; have c4 := hSw.1.cell 4; have c5 := hSw.1.cell 5; have c6 := hSw.1.cell 6; have c7 := hSw.1.cell 7; have d0 := (hSw.2.1.cell 0).trans rf0; have d1 := (hSw.2.1.cell 1).trans rf1; have d2 := (hSw.2.1.cell 2).trans rf2; have d3 := (hSw.2.1.cell 3).trans rf3; have d4 := (hSw.2.1.cell 4).trans rf4; have d5 := (hSw.2.1.cell 5).trans rf5; go_simp; (try with_reducible rfl)
  (try simp only [Act.put, List.getElem_toArray, List.getElem_cons_zero, List.getElem_cons_succ, List.setIfInBounds_toArray, List.set_cons_zero, List.set_cons_succ])
  refine wpAnyF_take (i := 32) (v := _) (by kernel_rfl) (by kernel_rfl) rfl (by kernel_rfl) (by kernel_rfl) (by kernel_rfl) (fun _ _ _ h => h) (yieldsIf_load_mid (by rfl) 34 (.tmp 36) rfl (w.heap.size + 1) 6 rfl (bsL r) _ (fun w' h => h.2.1.runs) Try.underlying34 rfl HZ.out) (by assumption) ?_
  (try simp only [Act.put, List.getElem_toArray, List.getElem_cons_zero, List.getElem_cons_succ, List.setIfInBounds_toArray, List.set_cons_zero, List.set_cons_succ])
  refine wpAnyF_ready (rs := [33]) (by kernel_rfl) (by simp) ?_
  refine AllReadyF.cons rfl (fun KK hKK => ?_) AllReadyF.nil
  go_simp
  ((with_reducible refine (CB0.out _).mono ?_); rintro e' w2 ⟨rfl, hb⟩; have hSS := And.intro (hHeld.1.below hb) (And.intro (hHeld.2.1.below hb) (hHeld.2.2.trans (hb.mono hHeld.2.2.size))); clear hb)
  (try go_simp)
  refine hKK.out _ _ hSS (fun hHeld => ?_)
  clear hKK KK
  (try simp only [Act.put, List.getElem_toArray, List.getElem_cons_zero, List.getElem_cons_succ, List.setIfInBounds_toArray, List.set_cons_zero, List.set_cons_succ])
  refine wpAnyF_take (i := 34) (v := ?_) (by kernel_rfl) (by kernel_rfl) rfl (by kernel_rfl) (by kernel_rfl) (by kernel_rfl) (fun _ _ _ h => h) (Or.inl ⟨by rfl, ?_⟩) (by assumption) ?_
  rotate_left
  · intro w' hSw; (try dsimp only at hSw); have c0 := hSw.1.cell 0; have c1 := hSw.1.cell 1; have c2 := hSw.1.cell 2; have c3 := hSw.1.cell 3; have c4 := hSw.1.cell 4; have c5 := hSw.1.cell 5; have c6 := hSw.1.cell 6; have c7 := hSw.1.cell 7; have d0 := (hSw.2.1.cell 0).trans rf0; have d1 := (hSw.2.1.cell 1).trans rf1; have d2 := (hSw.2.1.cell 2).trans rf2; have d3 := (hSw.2.1.cell 3).trans rf3; have d4 := (hSw.2.1.cell 4).trans rf4; have d5 := (hSw.2.1.cell 5).trans rf5; go_simp; (try with_reducible rfl)
  (try simp only [Act.put, List.getElem_toArray, List.getElem_cons_zero, List.getElem_cons_succ, List.setIfInBounds_toArray, List.set_cons_zero, List.set_cons_succ])
  refine wpAnyF_take (i := 35) (v := ?_) (by kernel_rfl) (by kernel_rfl) rfl (by kernel_rfl) (by kernel_rfl) (by kernel_rfl) (fun _ _ _ h => h) (Or.inl ⟨by rfl, ?_⟩) (by assumption) ?_
  rotate_left
  · intro w' hSw; (try dsimp only at hSw); have c0 := hSw.1.cell 0; have c1 := hSw.1.cell 1; have c2 := hSw.1.cell 2; have c3 := hSw.1.cell 3; have c4 := hSw.1.cell 4; have c5 := hSw.1.cell 5; have c6 := hSw.1.cell 6; have c7 := hSw.1.cell 7; have d0 := (hSw.2.1.cell 0).trans rf0; have d1 := (hSw.2.1.cell 1).trans rf1; have d2 := (hSw.2.1.cell 2).trans rf2; have d3 := (hSw.2.1.cell 3).trans rf3; have d4 := (hSw.2.1.cell 4).trans rf4; have d5 := (hSw.2.1.cell 5).trans rf5; go_simp; (try with_reducible rfl)
  (try simp only [Act.put, List.getElem_toArray, List.getElem_cons_zero, List.getElem_cons_succ, List.setIfInBounds_toArray, List.set_cons_zero, List.set_cons_succ])
  refine wpAnyF_take (i := 36) (v := ?_) (by kernel_rfl) (by kernel_rfl) rfl (by kernel_rfl) (by kernel_rfl) (by kernel_rfl) (fun _ _ _ h => h) (Or.inl ⟨by rfl, ?_⟩) (by assumption) ?_
  rotate_left
  · intro w' hSw; (try dsimp only at hSw); have c0 := hSw.1.cell 0; have c1 := hSw.1.cell 1; have c2 := hSw.1.cell 2; have c3 := hSw.1.cell 3; have c4 := hSw.1.cell 4; have c5 := hSw.1.cell 5; have c6 := hSw.1.cell 6; have c7 := hSw.1.cell 7; have d0 := (hSw.2.1.cell 0).trans rf0; have d1 := (hSw.2.1.cell 1).trans rf1; have d2 := (hSw.2.1.cell 2).trans rf2; have d3 := (hSw.2.1.cell 3).trans rf3; have d4 := (hSw.2.1.cell 4).trans rf4; have d5 := (hSw.2.1.cell 5).trans rf5; go_simp; (try with_reducible rfl)
  (try simp only [Act.put, List.getElem_toArray, List.getElem_cons_zero, List.getElem_cons_succ, List.setIfInBounds_toArray, List.set_cons_zero, List.set_cons_succ])
  refine wpAnyF_take (i := 37) (v := ?_) (by kernel_rfl) (by kernel_rfl) rfl (by kernel_rfl) (by kernel_rfl) (by kernel_rfl) (fun _ _ _ h => h) (Or.inl ⟨by rfl, ?_⟩) (by assumption) ?_
  rotate_left
  · intro w' hSw; (try dsimp only at hSw); have c0 := hSw.1.cell 0; have c1 := hSw.1.cell 1; have c2 := hSw.1.cell 2; have c3 := hSw.1.cell 3; have c4 := hSw.1.cell 4; have c5 := hSw.1.cell 5; have c6 := hSw.1.cell 6; have c7 := hSw.1.cell 7; have d0 := (hSw.2.1.cell 0).trans rf0; have d1 := (hSw.2.1.cell 1).trans rf1; have d2 := (hSw.2.1.cell 2).trans rf2; have d3 := (hSw.2.1.cell 3).trans rf3; have d4 := (hSw.2.1.cell 4).trans rf4; have d5 := (hSw.2.1.cell 5).trans rf5; go_simp; (try with_reducible rfl)
  (try simp only [Act.put, List.getElem_toArray, List.getElem_cons_zero, List.getElem_cons_succ, List.setIfInBounds_toArray, List.set_cons_zero, List.set_cons_succ])
  refine wpAnyF_take (i := 38) (v := ?_) (by kernel_rfl) (by kernel_rfl) rfl (by kernel_rfl) (by kernel_rfl) (by kernel_rfl) (fun _ _ _ h => h) (Or.inl ⟨by rfl, ?_⟩) (by assumption) ?_
  rotate_left
  · intro w' hSw; (try dsimp only at hSw); have c0 := hSw.1.cell 0; have c1 := hSw.1.cell 1; have c2 := hSw.1.cell 2; have c3 := hSw.1.cell 3; have c4 := hSw.1.cell 4; have c5 := hSw.1.cell 5; have c6 := hSw.1.cell 6; have c7 := hSw.1.cell 7; have d0 := (hSw.2.1.cell 0).trans rf0; have d1 := (hSw.2.1.cell 1).trans rf1; have d2 := (hSw.2.1.cell 2).trans rf2; have d3 := (hSw.2.1.cell 3).trans rf3; have d4 := (hSw.2.1.cell 4).trans rf4; have d5 := (hSw.2.1.cell 5).trans rf5; go_simp; (try with_reducible rfl)
  (try simp only [Act.put, List.getElem_toArray, List.getElem_cons_zero, List.getElem_cons_succ, List.setIfInBounds_toArray, List.set_cons_zero, List.set_cons_succ])
  refine wpAnyF_take (i := 39) (v := ?_) (by kernel_rfl) (by kernel_rfl) rfl (by kernel_rfl) (by kernel_rfl) (by kernel_rfl) (fun _ _ _ h => h) (Or.inl ⟨by rfl, ?_⟩) (by assumption) ?_
  rotate_left
  · intro w' hSw; (try dsimp only at hSw); have c0 := hSw.1.cell 0; have c1 := hSw.1.cell 1; have c2 := hSw.1.cell 2; have c3 := hSw.1.cell 3; have c4 := hSw.1.cell 4; have c5 := hSw.1.cell 5; have c6 := hSw.1.cell 6; have c7 := hSw.1.cell 7; have d0 := (hSw.2.1.cell 0).trans rf0; have d1 := (hSw.2.1.cell 1).trans rf1; have d2 := (hSw.2.1.cell 2).trans rf2; have d3 := (hSw.2.1.cell 3).trans rf3; have d4 := (hSw.2.1.cell 4).trans rf4; have d5 := (hSw.2.1.cell 5).trans rf5; go_simp; (try with_reducible rfl)
  (try simp only [Act.put, List.getElem_toArray, List.getElem_cons_zero, List.getElem_cons_succ, List.setIfInBounds_toArray, List.set_cons_zero, List.set_cons_succ])
  refine wpAnyF_take (i := 40) (v := ?_) (by kernel_rfl) (by kernel_rfl) rfl (by kernel_rfl) (by kernel_rfl) (by kernel_rfl) (fun _ _ _ h => h) (Or.inl ⟨by rfl, ?_⟩) (by assumption) ?_
  rotate_left
  · intro w' hSw; (try dsimp only at hSw); have c0 := hSw.1.cell 0; have c1 := hSw.1.cell 1; have c2 := hSw.1.cell 2; have c3 := hSw.1.cell 3; have c4 := hSw.1.cell 4; have c5 := hSw.1.cell 5; have c6 := hSw.1.cell 6; have c7 := hSw.1.cell 7; have d0 := (hSw.2.1.cell 0).trans rf0; have d1 := (hSw.2.1.cell 1).trans rf1; have d2 := (hSw.2.1.cell 2).trans rf2; have d3 := (hSw.2.1.cell 3).trans rf3; have d4 := (hSw.2.1.cell 4).trans rf4; have d5 := (hSw.2.1.cell 5).trans rf5; go_simp; (try with_reducible rfl)
  (try simp only [Act.put, List.getElem_toArray, List.getElem_cons_zero, List.getElem_cons_succ, List.setIfInBounds_toArray, List.set_cons_zero, List.set_cons_succ])
  refine wpAnyF_take (i := 41) (v := ?_) (by kernel_rfl) (by kernel_rfl) rfl (by kernel_rfl) (by kernel_rfl) (by kernel_rfl) (fun _ _ _ h => h) (Or.inl ⟨by rfl, ?_⟩) (by assumption) ?_
  rotate_left
  · intro w' hSw; (try dsimp only at hSw); have c0 := hSw.1.cell 0; have c1 := hSw.1.cell 1; have c2 := hSw.1.cell 2; have c3 := hSw.1.cell 3; have c4 := hSw.1.cell 4; have c5 := hSw.1.cell 5; have c6 := hSw.1.cell 6; have c7 := hSw.1.cell 7; have d0 := (hSw.2.1.cell 0).trans rf0; have d1 := (hSw.2.1.cell 1).trans rf1; have d2 := (hSw.2.1.cell 2).trans rf2; have d3 := (hSw.2.1.cell 3).trans rf3; have d4 := (hSw.2.1.cell 4).trans rf4; have d5 := (hSw.2.1.cell 5).trans rf5; go_simp; (try with_reducible rfl)
  (try simp only [Act.put, List.getElem_toArray, List.getElem_cons_zero, List.getElem_cons_succ, List.setIfInBounds_toArray, List.set_cons_zero, List.set_cons_succ])
  refine wpAnyF_take (i := 42) (v := _) (by kernel_rfl) (by kernel_rfl) rfl (by kernel_rfl) (by kernel_rfl) (by kernel_rfl) (fun _ _ _ h => h) (yieldsIf_load_mid (by rfl) 34 (.tmp 46) rfl (w.heap.size + 1) 6 rfl (bsL r) _ (fun w' h => h.2.1.runs) Try.underlying34 rfl HZ.out) (by assumption) ?_
  (try simp only [Act.put, List.getElem_toArray, List.getElem_cons_zero, List.getElem_cons_succ, List.setIfInBounds_toArray, List.set_cons_zero, List.set_cons_succ])
  refine wpAnyF_ready (rs := [43]) (by kernel_rfl) (by simp) ?_
  refine AllReadyF.cons rfl (fun KK hKK => ?_) AllReadyF.nil
  go_simp
  ((with_reducible refine (CB1.out _).mono ?_); rintro e' w3 ⟨rfl, hb⟩; have hSS := And.intro (hHeld.1.below hb) (And.intro (hHeld.2.1.below hb) (hHeld.2.2.trans (hb.mono hHeld.2.2.size))); clear hb)
  (try go_simp)
  refine hKK.out _ _ hSS (fun hHeld => ?_)
  clear hKK KK
  (try simp only [Act.put, List.getElem_toArray, List.getElem_cons_zero, List.getElem_cons_succ, List.setIfInBounds_toArray, List.set_cons_zero, List.set_cons_succ])
  refine wpAnyF_take (i := 44) (v := ?_) (by kernel_rfl) (by kernel_rfl) rfl (by kernel_rfl) (by kernel_rfl) (by kernel_rfl) (fun _ _ _ h => h) (Or.inl ⟨by rfl, ?_⟩) (by assumption) ?_
  rotate_left
  · intro w' hSw; (try dsimp only at hSw); have c0 := hSw.1.cell 0; have c1 := hSw.1.cell 1; have c2 := hSw.1.cell 2; have c3 := hSw.1.cell 3; have c4 := hSw.1.cell 4; have c5 := hSw.1.cell 5; have c6 := hSw.1.cell 6; have c7 := hSw.1.cell 7; have d0 := (hSw.2.1.cell 0).trans rf0; have d1 := (hSw.2.1.cell 1).trans rf1; have d2 := (hSw.2.1.cell 2).trans rf2; have d3 := (hSw.2.1.cell 3).trans rf3; have d4 := (hSw.2.1.cell 4).trans rf4; have d5 := (hSw.2.1.cell 5).trans rf5; go_simp; (try with_reducible rfl)
  (try simp only [Act.put, List.getElem_toArray, List.getElem_cons_zero, List.getElem_cons_succ, List.setIfInBounds_toArray, List.set_cons_zero, List.set_cons_succ])
  refine wpAnyF_take (i := 45) (v := ?_) (by kernel_rfl) (by kernel_rfl) rfl (by kernel_rfl) (by kernel_rfl) (by kernel_rfl) (fun _ _ _ h => h) (Or.inl ⟨by rfl, ?_⟩) (by assumption) ?_
  rotate_left
  · intro w' hSw; (try dsimp only at hSw); have c0 := hSw.1.cell 0; have c1 := hSw.1.cell 1; have c2 := hSw.1.cell 2; have c3 := hSw.1.cell 3; have c4 := hSw.1.cell 4; have c5 := hSw.1.cell 5; have c6 := hSw.1.cell 6; have c7 := hSw.1.cell 7; have d0 := (hSw.2.1.cell 0).trans rf0; have d1 := (hSw.2.1.cell 1).trans rf1; have d2 := (hSw.2.1.cell 2).trans rf2; have d3 := (hSw.2.1.cell 3).trans rf3; have d4 := (hSw.2.1.cell 4).trans rf4; have d5 := (hSw.2.1.cell 5).trans rf5; go_simp; (try with_reducible rfl)
  (try simp only [Act.put, List.getElem_toArray, List.getElem_cons_zero, List.getElem_cons_succ, List.setIfInBounds_toArray, List.set_cons_zero, List.set_cons_succ])
  refine wpAnyF_take (i := 46) (v := ?_) (by kernel_rfl) (by kernel_rfl) rfl (by kernel_rfl) (by kernel_rfl) (by kernel_rfl) (fun _ _ _ h => h) (Or.inl ⟨by rfl, ?_⟩) (by assumption) ?_
  rotate_left
  · intro w' hSw; (try dsimp only at hSw); have c0 := hSw.1.cell 0; have c1 := hSw.1.cell 1; have c2 := hSw.1.cell 2; have c3 := hSw.1.cell 3; have c4 := hSw.1.cell 4; have c5 := hSw.1.cell 5; have c6 := hSw.1.cell 6; have c7 := hSw.1.cell 7; have d0 := (hSw.2.1.cell 0).trans rf0; have d1 := (hSw.2.1.cell 1).trans rf1; have d2 := (hSw.2.1.cell 2).trans rf2; have d3 := (hSw.2.1.cell 3).trans rf3; have d4 := (hSw.2.1.cell 4).trans rf4; have d5 := (hSw.2.1.cell 5).trans rf5; go_simp; (try with_reducible rfl)
  (try simp only [Act.put, List.getElem_toArray, List.getElem_cons_zero, List.getElem_cons_succ, List.setIfInBounds_toArray, List.set_cons_zero, List.set_cons_succ])
  refine wpAnyF_done (by kernel_rfl) ?_ _
  refine NoPanic.normal ?_
  have HH := hi hHeld.2.2
  clear hHeld
  go_wp2
  go_ret
  exact ⟨rfl, HH.out⟩

end Go.Proofs.Ytnnlimjbmfpalaa
