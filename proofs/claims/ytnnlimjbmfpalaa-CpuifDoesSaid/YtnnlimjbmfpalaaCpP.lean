/-
  The document's interface: Take.
-/
import Derived.Test.YtnnlimjbmfpalaaCpM
import Derived.Test.YtnnlimjbmfpalaaLast
namespace Go.Proofs.Ytnnlimjbmfpalaa
open Go.ChangeShapes Go.WideShapes Go.ChangeAt Go.RowKit Go.Shelf
set_option linter.unusedVariables false
attribute [local go_sem] Oper.semAt_some

theorem wpList_load_wanted {P : Program} {ops : Array Oper} {rest : List Oper} {op : Oper} {a : Act} {w : World} {Q : Exit → Act → World → Prop} (hw : Region.wanted op (yielded ops a.tmps) = true) (ty : TypeId) (x : Operand) (ho : op.op = .load ty x)
    (b o : Nat) (hx : a.eval x = .pointer (some ⟨b, o, none⟩)) (cs : List Value) (d : TypeDesc) (hc : w.rangeAt b o cs)
    (hu : P.underlying ty = some d) (hd : d.isRow = true) (hi : (P.info? ty).map (·.size) = some cs.length)
    (h : wpList P ops Q rest (a.put op.dst (.agg cs.toArray)) w) : wpList P ops Q (op :: rest) a w := by
  simp only [wpList, hw, if_true]
  exact Or.inl (wp_load_mid ty x ho b o hx cs d hc hu hd hi h)
set_option maxRecDepth 100000 in
set_option maxHeartbeats 8000000 in
theorem rtake_other (x : Fc) (ci cp cg : Int) (cis : Bool) (g : Int) (w : World) (hg : cg ≠ g) : Calls Try.prog 32 #[rfv x, .agg #[.int .i64 ci, .int .i64 cp, .int .i64 cg, .bool cis], .int .i64 g] w fun e w' => e = .returned (.tuple #[rfv x, .int .i64 1023, .bool false]) ∧ Below w.heap.size w w' := by
  have hd : (cg != g) = true := by simp [hg]
  have HZ := hi (size_ref x.r)
  have HZ2 := hi (size_rif x)
  have HZA := hi (size_rifA x)
  have H1 := hi (rifA_one x)
  have b2 := bal_two w (.cells (rifA x) 36) (.cells #[.int .i64 ci, .int .i64 cp, .int .i64 cg, .bool cis] 39)
  have hf := (CB.new w 36 (rifA x)).alloc (.cells #[.int .i64 ci, .int .i64 cp, .int .i64 cg, .bool cis] 39)
  have hc := cb_second (w := w) (o := .cells (rifA x) 36) (cs := #[.int .i64 ci, .int .i64 cp, .int .i64 cg, .bool cis]) (t := 39)
  have HB0 := hi (show Below w.heap.size w (((w.alloc (.cells (rifA x) 36)).alloc (.cells #[.int .i64 ci, .int .i64 cp, .int .i64 cg, .bool cis] 39)).alloc (.cells (rifA Fc.zero) 36)) from b2.alloc b2.size _)
  have HF0 := hi (show CB (((w.alloc (.cells (rifA x) 36)).alloc (.cells #[.int .i64 ci, .int .i64 cp, .int .i64 cg, .bool cis] 39)).alloc (.cells (rifA Fc.zero) 36)) w.heap.size 36 (rifA x) from hf.alloc _)
  have HC0 := hi (show CB (((w.alloc (.cells (rifA x) 36)).alloc (.cells #[.int .i64 ci, .int .i64 cp, .int .i64 cg, .bool cis] 39)).alloc (.cells (rifA Fc.zero) 36)) (w.heap.size + 1) 39 #[.int .i64 ci, .int .i64 cp, .int .i64 cg, .bool cis] from hc.alloc _)
  have HZ0 := hi (show CB (((w.alloc (.cells (rifA x) 36)).alloc (.cells #[.int .i64 ci, .int .i64 cp, .int .i64 cg, .bool cis] 39)).alloc (.cells (rifA Fc.zero) 36)) (w.heap.size + 1 + 1) 36 (rifA Fc.zero) from by simpa using CB.new ((w.alloc (.cells (rifA x) 36)).alloc (.cells #[.int .i64 ci, .int .i64 cp, .int .i64 cg, .bool cis] 39)) 36 (rifA Fc.zero))
  have HS0 := hi HF0.out.rif
  have HT0 := hi (show World.there (((w.alloc (.cells (rifA x) 36)).alloc (.cells #[.int .i64 ci, .int .i64 cp, .int .i64 cg, .bool cis] 39)).alloc (.cells (rifA Fc.zero) 36)) (w.heap.size + 1 + 1) 0 (rifA x).size by rw [rifA_size]; exact HZ0.out.thereR (rifA_size _))
  have NG := hi (show CB ((((w.alloc (.cells (rifA x) 36)).alloc (.cells #[.int .i64 ci, .int .i64 cp, .int .i64 cg, .bool cis] 39)).alloc (.cells (rifA Fc.zero) 36)).setCells (w.heap.size + 1 + 1) 0 (rifA x).toList) (w.heap.size + 1 + 1) 36 (rifA x) ∧ Below w.heap.size w ((((w.alloc (.cells (rifA x) 36)).alloc (.cells #[.int .i64 ci, .int .i64 cp, .int .i64 cg, .bool cis] 39)).alloc (.cells (rifA Fc.zero) 36)).setCells (w.heap.size + 1 + 1) 0 (rifA x).toList) from ⟨HZ0.out.wholeR (rifA_size _) x, below_cells (by omega) _ _ _ HB0.out⟩)
  have c0 := HC0.out.cell 0
  have c1 := HC0.out.cell 1
  have c2 := HC0.out.cell 2
  have c3 := HC0.out.cell 3
  clear b2 hf hc
  go_enter Try.func32, Try.ntmps32
  go_wp2_with (first
    | (refine wpList_alloc_rif rfl rfl ?_)
    | (refine wpList_load_mid rfl 36 (.tmp 3) rfl w.heap.size 0 rfl (rifL x) _ HS0.out Try.underlying36 rfl HZ2.out ?_)
    | (refine wpList_store_mid rfl 36 (.tmp 6) (.tmp 20) rfl (w.heap.size + 1 + 1) 0 (rifA x) rfl rfl HT0.out HZA.out H1.out ?_))
  exact bodyPost_ret (results_rif2 rfl _ _ (w.heap.size + 1 + 1) x (.int .i64 1023) (.bool false) rfl rfl rfl NG.out.1) rfl ⟨rfl, NG.out.2⟩
set_option maxRecDepth 100000 in
set_option maxHeartbeats 8000000 in
theorem rtake_no (x : Fc) (ci cp cg : Int) (cis : Bool) (g : Int) (w : World) (HM : Hi (∀ W, Calls Try.prog 16 #[.agg (rifL x).toArray, .agg #[.int .i64 ci, .int .i64 cp, .int .i64 cg, .bool cis]] W fun e w' => e = .returned (.bool false) ∧ Below W.heap.size W w')) : Calls Try.prog 32 #[rfv x, .agg #[.int .i64 ci, .int .i64 cp, .int .i64 cg, .bool cis], .int .i64 cg] w fun e w' => e = .returned (.tuple #[rfv x, .int .i64 1023, .bool false]) ∧ Below w.heap.size w w' := by
  have HZ := hi (size_ref x.r)
  have HZ2 := hi (size_rif x)
  have HZA := hi (size_rifA x)
  have H1 := hi (rifA_one x)
  have b2 := bal_two w (.cells (rifA x) 36) (.cells #[.int .i64 ci, .int .i64 cp, .int .i64 cg, .bool cis] 39)
  have hf := (CB.new w 36 (rifA x)).alloc (.cells #[.int .i64 ci, .int .i64 cp, .int .i64 cg, .bool cis] 39)
  have hc := cb_second (w := w) (o := .cells (rifA x) 36) (cs := #[.int .i64 ci, .int .i64 cp, .int .i64 cg, .bool cis]) (t := 39)
  have HB0 := hi (show Below w.heap.size w (((w.alloc (.cells (rifA x) 36)).alloc (.cells #[.int .i64 ci, .int .i64 cp, .int .i64 cg, .bool cis] 39)).alloc (.cells (rifA Fc.zero) 36)) from b2.alloc b2.size _)
  have HF0 := hi (show CB (((w.alloc (.cells (rifA x) 36)).alloc (.cells #[.int .i64 ci, .int .i64 cp, .int .i64 cg, .bool cis] 39)).alloc (.cells (rifA Fc.zero) 36)) w.heap.size 36 (rifA x) from hf.alloc _)
  have HC0 := hi (show CB (((w.alloc (.cells (rifA x) 36)).alloc (.cells #[.int .i64 ci, .int .i64 cp, .int .i64 cg, .bool cis] 39)).alloc (.cells (rifA Fc.zero) 36)) (w.heap.size + 1) 39 #[.int .i64 ci, .int .i64 cp, .int .i64 cg, .bool cis] from hc.alloc _)
  have HZ0 := hi (show CB (((w.alloc (.cells (rifA x) 36)).alloc (.cells #[.int .i64 ci, .int .i64 cp, .int .i64 cg, .bool cis] 39)).alloc (.cells (rifA Fc.zero) 36)) (w.heap.size + 1 + 1) 36 (rifA Fc.zero) from by simpa using CB.new ((w.alloc (.cells (rifA x) 36)).alloc (.cells #[.int .i64 ci, .int .i64 cp, .int .i64 cg, .bool cis] 39)) 36 (rifA Fc.zero))
  have HS0 := hi HF0.out.rif
  have HT0 := hi (show World.there (((w.alloc (.cells (rifA x) 36)).alloc (.cells #[.int .i64 ci, .int .i64 cp, .int .i64 cg, .bool cis] 39)).alloc (.cells (rifA Fc.zero) 36)) (w.heap.size + 1 + 1) 0 (rifA x).size by rw [rifA_size]; exact HZ0.out.thereR (rifA_size _))
  have NG := hi (show CB ((((w.alloc (.cells (rifA x) 36)).alloc (.cells #[.int .i64 ci, .int .i64 cp, .int .i64 cg, .bool cis] 39)).alloc (.cells (rifA Fc.zero) 36)).setCells (w.heap.size + 1 + 1) 0 (rifA x).toList) (w.heap.size + 1 + 1) 36 (rifA x) ∧ Below w.heap.size w ((((w.alloc (.cells (rifA x) 36)).alloc (.cells #[.int .i64 ci, .int .i64 cp, .int .i64 cg, .bool cis] 39)).alloc (.cells (rifA Fc.zero) 36)).setCells (w.heap.size + 1 + 1) 0 (rifA x).toList) from ⟨HZ0.out.wholeR (rifA_size _) x, below_cells (by omega) _ _ _ HB0.out⟩)
  have c0 := HC0.out.cell 0
  have c1 := HC0.out.cell 1
  have c2 := HC0.out.cell 2
  have c3 := HC0.out.cell 3
  clear b2 hf hc
  go_enter Try.func32, Try.ntmps32
  go_wp2_with (first
    | (refine wpList_alloc_rif rfl rfl ?_)
    | (refine wpList_load_wanted (by rfl) 36 (.tmp 3) rfl w.heap.size 0 rfl (rifL x) _ HS0.out Try.underlying36 rfl HZ2.out ?_)
    | (go_at_call 16; ((with_reducible refine (HM.out _).mono ?_); rintro e w1 ⟨rfl, hb⟩; have F1 := HF0.out.below hb; have Z1 := HZ0.out.below hb; have HS1 := hi F1.rif; have HT1 := hi (show World.there w1 (w.heap.size + 1 + 1) 0 (rifA x).size by rw [rifA_size]; exact Z1.thereR (rifA_size _)); have b1 := HB0.out.trans (hb.mono HB0.out.size); have R1 := hi (Z1.wholeR (rifA_size _) x); have B1 := hi (below_cells (n := w.heap.size) (b := w.heap.size + 1 + 1) (by omega) (rifL x) 0 _ b1); clear hb F1 Z1 b1))
    | (refine wpList_load_mid rfl 36 (.tmp 3) rfl w.heap.size 0 rfl (rifL x) _ HS1.out Try.underlying36 rfl HZ2.out ?_)
    | (refine wpList_store_mid rfl 36 (.tmp 6) (.tmp 20) rfl (w.heap.size + 1 + 1) 0 (rifA x) rfl rfl HT1.out HZA.out H1.out ?_))
  exact bodyPost_ret (results_rif2 rfl _ _ (w.heap.size + 1 + 1) x (.int .i64 1023) (.bool false) rfl rfl rfl R1.out) rfl ⟨rfl, B1.out⟩
set_option maxRecDepth 100000 in
set_option maxHeartbeats 8000000 in
theorem rtake_yes (x : Fc) (ci cp cg : Int) (cis : Bool) (g : Int) (w : World) (HM : Hi (∀ W, Calls Try.prog 16 #[.agg (rifL x).toArray, .agg #[.int .i64 ci, .int .i64 cp, .int .i64 cg, .bool cis]] W fun e w' => e = .returned (.bool true) ∧ Below W.heap.size W w')) (q : Rg) (hq : put x.r (plc cg (bits .and .i64 cp (levV x cg))) true = q) : Calls Try.prog 32 #[rfv x, .agg #[.int .i64 ci, .int .i64 cp, .int .i64 cg, .bool cis], .int .i64 cg] w fun e w' => e = .returned (.tuple #[rfv { x with r := q }, .int .i64 ci, .bool true]) ∧ Below w.heap.size w w' := by
  have HZ := hi (size_ref x.r)
  have HZ2 := hi (size_rif x)
  have HZA := hi (size_rifA x)
  have H1 := hi (rifA_one x)
  have b2 := bal_two w (.cells (rifA x) 36) (.cells #[.int .i64 ci, .int .i64 cp, .int .i64 cg, .bool cis] 39)
  have hf := (CB.new w 36 (rifA x)).alloc (.cells #[.int .i64 ci, .int .i64 cp, .int .i64 cg, .bool cis] 39)
  have hc := cb_second (w := w) (o := .cells (rifA x) 36) (cs := #[.int .i64 ci, .int .i64 cp, .int .i64 cg, .bool cis]) (t := 39)
  have HB0 := hi (show Below w.heap.size w (((w.alloc (.cells (rifA x) 36)).alloc (.cells #[.int .i64 ci, .int .i64 cp, .int .i64 cg, .bool cis] 39)).alloc (.cells (rifA Fc.zero) 36)) from b2.alloc b2.size _)
  have HF0 := hi (show CB (((w.alloc (.cells (rifA x) 36)).alloc (.cells #[.int .i64 ci, .int .i64 cp, .int .i64 cg, .bool cis] 39)).alloc (.cells (rifA Fc.zero) 36)) w.heap.size 36 (rifA x) from hf.alloc _)
  have HC0 := hi (show CB (((w.alloc (.cells (rifA x) 36)).alloc (.cells #[.int .i64 ci, .int .i64 cp, .int .i64 cg, .bool cis] 39)).alloc (.cells (rifA Fc.zero) 36)) (w.heap.size + 1) 39 #[.int .i64 ci, .int .i64 cp, .int .i64 cg, .bool cis] from hc.alloc _)
  have HZ0 := hi (show CB (((w.alloc (.cells (rifA x) 36)).alloc (.cells #[.int .i64 ci, .int .i64 cp, .int .i64 cg, .bool cis] 39)).alloc (.cells (rifA Fc.zero) 36)) (w.heap.size + 1 + 1) 36 (rifA Fc.zero) from by simpa using CB.new ((w.alloc (.cells (rifA x) 36)).alloc (.cells #[.int .i64 ci, .int .i64 cp, .int .i64 cg, .bool cis] 39)) 36 (rifA Fc.zero))
  have HS0 := hi HF0.out.rif
  have HT0 := hi (show World.there (((w.alloc (.cells (rifA x) 36)).alloc (.cells #[.int .i64 ci, .int .i64 cp, .int .i64 cg, .bool cis] 39)).alloc (.cells (rifA Fc.zero) 36)) (w.heap.size + 1 + 1) 0 (rifA x).size by rw [rifA_size]; exact HZ0.out.thereR (rifA_size _))
  have NG := hi (show CB ((((w.alloc (.cells (rifA x) 36)).alloc (.cells #[.int .i64 ci, .int .i64 cp, .int .i64 cg, .bool cis] 39)).alloc (.cells (rifA Fc.zero) 36)).setCells (w.heap.size + 1 + 1) 0 (rifA x).toList) (w.heap.size + 1 + 1) 36 (rifA x) ∧ Below w.heap.size w ((((w.alloc (.cells (rifA x) 36)).alloc (.cells #[.int .i64 ci, .int .i64 cp, .int .i64 cg, .bool cis] 39)).alloc (.cells (rifA Fc.zero) 36)).setCells (w.heap.size + 1 + 1) 0 (rifA x).toList) from ⟨HZ0.out.wholeR (rifA_size _) x, below_cells (by omega) _ _ _ HB0.out⟩)
  have c0 := HC0.out.cell 0
  have c1 := HC0.out.cell 1
  have c2 := HC0.out.cell 2
  have c3 := HC0.out.cell 3
  clear b2 hf hc
  have HBI := hi (fun W => show Calls Try.prog 43 #[.agg (rifL x).toArray, .int .i64 cg] W fun e w' => e = .returned (.int .i64 (levV x cg)) ∧ Below W.heap.size W w' from rbits_if x cg W)
  have HSE := hi (fun W => show Calls Try.prog 51 #[.agg (bsL x.r).toArray, .int .i64 cg, .int .i64 (bits .and .i64 cp (levV x cg)), .bool true] W fun e w' => e = .returned (.agg (bsA q)) ∧ Below W.heap.size W w' from hq ▸ rset_any x.r cg _ true W)
  have HZAq := hi (size_refA q)
  have H1q := hi (bsA_one q)
  have HZ2q := hi (size_rif { x with r := q })
  have HZA2q := hi (size_rifA { x with r := q })
  have H12q := hi (rifA_one { x with r := q })
  clear hq
  go_enter Try.func32, Try.ntmps32
  go_wp2_with (first
    | (refine wpList_alloc_rif rfl rfl ?_)
    | (refine wpList_load_wanted (by rfl) 36 (.tmp 3) rfl w.heap.size 0 rfl (rifL x) _ HS0.out Try.underlying36 rfl HZ2.out ?_)
    | (go_at_call 16; ((with_reducible refine (HM.out _).mono ?_); rintro e w1 ⟨rfl, hb⟩; have F1 := HF0.out.below hb; have Z1 := HZ0.out.below hb; have C1 := HC0.out.below hb; have HS1 := hi F1.rif; have hlt := Z1.lt; have hal := bal w1 (.cells (rifA Fc.zero) 36); have G1 := CB.new w1 36 (rifA Fc.zero); have HT1 := hi (show World.there (w1.alloc (.cells (rifA Fc.zero) 36)) w1.heap.size 0 (rifA x).size by rw [rifA_size]; exact G1.thereR (rifA_size _)); have b1 := HB0.out.trans (hb.mono HB0.out.size); obtain ⟨wA, hA, G2, F2, C2, Z2, B2⟩ : ∃ W, (w1.alloc (.cells (rifA Fc.zero) 36)).setCells w1.heap.size 0 (rifL x) = W ∧ CB W w1.heap.size 36 (rifA x) ∧ CB W w.heap.size 36 (rifA x) ∧ CB W (w.heap.size + 1) 39 #[.int .i64 ci, .int .i64 cp, .int .i64 cg, .bool cis] ∧ CB W (w.heap.size + 1 + 1) 36 (rifA Fc.zero) ∧ Below w.heap.size w W := ⟨_, rfl, G1.wholeR (rifA_size _) x, CB.otherCells (by omega) (rifL x) 0 _ (F1.below hal), CB.otherCells (by omega) (rifL x) 0 _ (C1.below hal), CB.otherCells (by omega) (rifL x) 0 _ (Z1.below hal), below_cells (b := w1.heap.size) (by omega) (rifL x) 0 _ (b1.trans (hal.mono b1.size))⟩; have HA := hi hA; have G2 := hi G2; have F2 := hi F2; have C2 := hi C2; have Z2 := hi Z2; have B2 := hi B2; have L1 := hi hlt; clear hb F1 Z1 C1 hlt hal G1 b1 hA))
    | (refine wpList_load_mid rfl 36 (.tmp 3) rfl w.heap.size 0 rfl (rifL x) _ HS1.out Try.underlying36 rfl HZ2.out ?_)
    | (refine wpList_store_mid rfl 36 (.tmp 9) (.tmp 21) rfl w1.heap.size 0 (rifA x) rfl rfl HT1.out HZA.out H1.out ?_; rw [show (rifA x).toList = rifL x from rfl, HA.out]))
  refine wp_region_noPanic ?_
  refine wp_region_last_drew (S := (fun W' => CB W' w.heap.size 36 (rifA x) ∧ CB W' (w.heap.size + 1) 39 #[.int .i64 ci, .int .i64 cp, .int .i64 cg, .bool cis] ∧ CB W' w1.heap.size 36 (rifA x) ∧ CB W' (w.heap.size + 1 + 1) 36 (rifA Fc.zero) ∧ Below w.heap.size w W')) [11] (by kernel_rfl) ⟨F2.out.drew, C2.out.drew, G2.out.drew, Z2.out.drew, Below.drewN (m := 1) B2.out⟩ (fun hHeld => ?_)
  (try simp only [Array.replicate_succ, Array.replicate_zero, List.push_toArray, List.nil_append, List.cons_append])
  refine wpAnyF_take (i := 0) (v := ?_) (by kernel_rfl) (by kernel_rfl) rfl (by kernel_rfl) (by kernel_rfl) (by kernel_rfl) (fun _ _ _ h => h) (Or.inl ⟨by rfl, ?_⟩) (by assumption) ?_
  rotate_left
  · intro w' hSw; (try dsimp only at hSw); have c0 := hSw.2.1.cell 0; have c1 := hSw.2.1.cell 1; have c2 := hSw.2.1.cell 2; have c3 := hSw.2.1.cell 3; go_simp; (try with_reducible rfl)
  (try simp only [Act.put, List.getElem_toArray, List.getElem_cons_zero, List.setIfInBounds_toArray, List.set_cons_zero, List.set_cons_succ])
  refine wpAnyF_take (i := 1) (v := _) (by kernel_rfl) (by kernel_rfl) rfl (by kernel_rfl) (by kernel_rfl) (by kernel_rfl) (fun _ _ _ h => h) (yieldsIf_load_mid (by rfl) 34 (.tmp 22) rfl w.heap.size 6 rfl (bsL x.r) _ (fun w' h => h.1.runs) Try.underlying34 rfl HZ.out) (by assumption) ?_
  (try simp only [Act.put, List.getElem_toArray, List.getElem_cons_zero, List.getElem_cons_succ, List.setIfInBounds_toArray, List.set_cons_zero, List.set_cons_succ])
  refine wpAnyF_take (i := 2) (v := ?_) (by kernel_rfl) (by kernel_rfl) rfl (by kernel_rfl) (by kernel_rfl) (by kernel_rfl) (fun _ _ _ h => h) (Or.inl ⟨by rfl, ?_⟩) (by assumption) ?_
  rotate_left
  · intro w' hSw; (try dsimp only at hSw); have c0 := hSw.2.1.cell 0; have c1 := hSw.2.1.cell 1; have c2 := hSw.2.1.cell 2; have c3 := hSw.2.1.cell 3; go_simp; (try with_reducible rfl)
  (try simp only [Act.put, List.getElem_toArray, List.getElem_cons_zero, List.getElem_cons_succ, List.setIfInBounds_toArray, List.set_cons_zero, List.set_cons_succ])
  refine wpAnyF_take (i := 3) (v := ?_) (by kernel_rfl) (by kernel_rfl) rfl (by kernel_rfl) (by kernel_rfl) (by kernel_rfl) (fun _ _ _ h => h) (Or.inl ⟨by rfl, ?_⟩) (by assumption) ?_
  rotate_left
  · intro w' hSw; (try dsimp only at hSw); have c0 := hSw.2.1.cell 0; have c1 := hSw.2.1.cell 1; have c2 := hSw.2.1.cell 2; have c3 := hSw.2.1.cell 3; go_simp; (try with_reducible rfl)
  (try simp only [Act.put, List.getElem_toArray, List.getElem_cons_zero, List.getElem_cons_succ, List.setIfInBounds_toArray, List.set_cons_zero, List.set_cons_succ])
  refine wpAnyF_take (i := 4) (v := ?_) (by kernel_rfl) (by kernel_rfl) rfl (by kernel_rfl) (by kernel_rfl) (by kernel_rfl) (fun _ _ _ h => h) (Or.inl ⟨by rfl, ?_⟩) (by assumption) ?_
  rotate_left
  · intro w' hSw; (try dsimp only at hSw); have c0 := hSw.2.1.cell 0; have c1 := hSw.2.1.cell 1; have c2 := hSw.2.1.cell 2; have c3 := hSw.2.1.cell 3; go_simp; (try with_reducible rfl)
  (try simp only [Act.put, List.getElem_toArray, List.getElem_cons_zero, List.getElem_cons_succ, List.setIfInBounds_toArray, List.set_cons_zero, List.set_cons_succ])
  refine wpAnyF_take (i := 5) (v := _) (by kernel_rfl) (by kernel_rfl) rfl (by kernel_rfl) (by kernel_rfl) (by kernel_rfl) (fun _ _ _ h => h) (yieldsIf_load_mid (by rfl) 36 (.tmp 3) rfl w.heap.size 0 rfl (rifL x) _ (fun w' h => h.1.rif) Try.underlying36 rfl HZ2.out) (by assumption) ?_
  (try simp only [Act.put, List.getElem_toArray, List.getElem_cons_zero, List.getElem_cons_succ, List.setIfInBounds_toArray, List.set_cons_zero, List.set_cons_succ])
  refine wpAnyF_take (i := 6) (v := ?_) (by kernel_rfl) (by kernel_rfl) rfl (by kernel_rfl) (by kernel_rfl) (by kernel_rfl) (fun _ _ _ h => h) (Or.inl ⟨by rfl, ?_⟩) (by assumption) ?_
  rotate_left
  · intro w' hSw; (try dsimp only at hSw); have c0 := hSw.2.1.cell 0; have c1 := hSw.2.1.cell 1; have c2 := hSw.2.1.cell 2; have c3 := hSw.2.1.cell 3; go_simp; (try with_reducible rfl)
  (try simp only [Act.put, List.getElem_toArray, List.getElem_cons_zero, List.getElem_cons_succ, List.setIfInBounds_toArray, List.set_cons_zero, List.set_cons_succ])
  refine wpAnyF_ready (rs := [7]) (by kernel_rfl) (by simp) ?_
  refine AllReadyF.cons rfl (fun KK hKK => ?_) AllReadyF.nil
  go_simp
  ((with_reducible refine (HBI.out _).mono ?_); rintro e' w2 ⟨rfl, hb⟩; have hSS := And.intro (hHeld.1.below hb) (And.intro (hHeld.2.1.below hb) (And.intro (hHeld.2.2.1.below hb) (And.intro (hHeld.2.2.2.1.below hb) (hHeld.2.2.2.2.trans (hb.mono hHeld.2.2.2.2.size))))); clear hb)
  (try go_simp)
  refine hKK.out _ _ hSS (fun hHeld => ?_)
  clear hKK KK
  (try simp only [Act.put, List.getElem_toArray, List.getElem_cons_zero, List.getElem_cons_succ, List.setIfInBounds_toArray, List.set_cons_zero, List.set_cons_succ])
  refine wpAnyF_take (i := 8) (v := ?_) (by kernel_rfl) (by kernel_rfl) rfl (by kernel_rfl) (by kernel_rfl) (by kernel_rfl) (fun _ _ _ h => h) (Or.inl ⟨by rfl, ?_⟩) (by assumption) ?_
  rotate_left
  · intro w' hSw; (try dsimp only at hSw); have c0 := hSw.2.1.cell 0; have c1 := hSw.2.1.cell 1; have c2 := hSw.2.1.cell 2; have c3 := hSw.2.1.cell 3; go_simp; (try with_reducible rfl)
  (try simp only [Act.put, List.getElem_toArray, List.getElem_cons_zero, List.getElem_cons_succ, List.setIfInBounds_toArray, List.set_cons_zero, List.set_cons_succ])
  refine wpAnyF_ready (rs := [9]) (by kernel_rfl) (by simp) ?_
  refine AllReadyF.cons rfl (fun KK hKK => ?_) AllReadyF.nil
  go_simp
  ((with_reducible refine (HSE.out _).mono ?_); rintro e' w3 ⟨rfl, hb⟩; have hSS := And.intro (hHeld.1.below hb) (And.intro (hHeld.2.1.below hb) (And.intro (hHeld.2.2.1.below hb) (And.intro (hHeld.2.2.2.1.below hb) (hHeld.2.2.2.2.trans (hb.mono hHeld.2.2.2.2.size))))); clear hb)
  (try go_simp)
  refine hKK.out _ _ hSS (fun hHeld => ?_)
  clear hKK KK
  (try simp only [Act.put, List.getElem_toArray, List.getElem_cons_zero, List.getElem_cons_succ, List.setIfInBounds_toArray, List.set_cons_zero, List.set_cons_succ])
  refine wpAnyF_take (i := 10) (v := ?_) (by kernel_rfl) (by kernel_rfl) rfl (by kernel_rfl) (by kernel_rfl) (by kernel_rfl) (fun _ _ _ h => h) (Or.inl ⟨by rfl, ?_⟩) (by assumption) ?_
  rotate_left
  · intro w' hSw; (try dsimp only at hSw); have c0 := hSw.2.1.cell 0; have c1 := hSw.2.1.cell 1; have c2 := hSw.2.1.cell 2; have c3 := hSw.2.1.cell 3; go_simp; (try with_reducible rfl)
  (try simp only [Act.put, List.getElem_toArray, List.getElem_cons_zero, List.getElem_cons_succ, List.setIfInBounds_toArray, List.set_cons_zero, List.set_cons_succ])
  refine wpAnyF_ready (rs := [11]) (by kernel_rfl) (by simp) ?_
  refine AllReadyF.last (by kernel_rfl) rfl (fun KK hKK => ?_) AllReadyF.nil
  have h4 := hHeld.2.2.1.runsSet q
  have hth := hi (show World.there _ w1.heap.size 6 (bsA q).size by rw [bsA_size]; exact hHeld.2.2.1.thereRuns (rifA_size _))
  have l1 := L1.out
  have f4 := CB.otherCells (B := w.heap.size) (b := w1.heap.size) (by omega) (bsL q) 6 _ hHeld.1
  have c4 := CB.otherCells (B := w.heap.size + 1) (b := w1.heap.size) (by omega) (bsL q) 6 _ hHeld.2.1
  have z4 := CB.otherCells (B := w.heap.size + 1 + 1) (b := w1.heap.size) (by omega) (bsL q) 6 _ hHeld.2.2.2.1
  have b4 := below_cells (n := w.heap.size) (b := w1.heap.size) (by omega) (bsL q) 6 _ hHeld.2.2.2.2
  obtain ⟨W5, hW5, H4⟩ : ∃ W, w3.setCells w1.heap.size 6 (bsL q) = W ∧ CB W w1.heap.size 36 (rifA { x with r := q }) ∧ CB W (w.heap.size + 1) 39 #[.int .i64 ci, .int .i64 cp, .int .i64 cg, .bool cis] ∧ CB W (w.heap.size + 1 + 1) 36 (rifA Fc.zero) ∧ Below w.heap.size w W := ⟨_, rfl, h4, c4, z4, b4⟩
  have H4 := hi H4
  have HW5 := hi hW5
  clear h4 f4 c4 z4 b4 l1 hHeld hW5
  refine wp_store_mid 34 (.tmp 32) (.tmp 31) rfl w1.heap.size 6 (bsA q) rfl rfl hth.out HZAq.out H1q.out ?_
  rw [show (bsA q).toList = bsL q from rfl, HW5.out]
  refine hKK.out _ _ ?_
  clear hKK KK
  (try simp only [Act.put, List.getElem_toArray, List.getElem_cons_zero, List.getElem_cons_succ])
  refine wpAnyF_done (by kernel_rfl) ?_ _
  refine NoPanic.normal ?_
  go_wp2
  refine wp_region_noPanic ?_
  refine wp_region_last_drew (S := (fun W' => CB W' (w.heap.size + 1) 39 #[.int .i64 ci, .int .i64 cp, .int .i64 cg, .bool cis] ∧ CB W' w1.heap.size 36 (rifA { x with r := q }) ∧ Below w.heap.size w W' ∧ ∃ cs : Array Value, cs.size = 70 ∧ CB W' (w.heap.size + 1 + 1) 36 cs)) [4, 5] (by kernel_rfl) ⟨H4.out.2.1.drew, H4.out.1.drew, Below.drewN (m := 1) H4.out.2.2.2, _, rifA_size _, H4.out.2.2.1.drew⟩ (fun hHeld => ?_)
  (try simp only [Array.replicate_succ, Array.replicate_zero, List.push_toArray, List.nil_append, List.cons_append])
  refine wpAnyF_take (i := 0) (v := _) (by kernel_rfl) (by kernel_rfl) rfl (by kernel_rfl) (by kernel_rfl) (by kernel_rfl) (fun _ _ _ h => h) (yieldsIf_load_mid (by rfl) 36 (.tmp 9) rfl w1.heap.size 0 rfl (rifL { x with r := q }) _ (fun w' h => h.2.1.rif) Try.underlying36 rfl HZ2q.out) (by assumption) ?_
  (try simp only [Act.put, List.getElem_toArray, List.getElem_cons_zero, List.setIfInBounds_toArray, List.set_cons_zero, List.set_cons_succ])
  refine wpAnyF_take (i := 1) (v := ?_) (by kernel_rfl) (by kernel_rfl) rfl (by kernel_rfl) (by kernel_rfl) (by kernel_rfl) (fun _ _ _ h => h) (Or.inl ⟨by rfl, ?_⟩) (by assumption) ?_
  rotate_left
  · intro w' hSw; (try dsimp only at hSw); have c0 := hSw.1.cell 0; have c1 := hSw.1.cell 1; have c2 := hSw.1.cell 2; have c3 := hSw.1.cell 3; go_simp; (try with_reducible rfl)
  (try simp only [Act.put, List.getElem_toArray, List.getElem_cons_zero, List.getElem_cons_succ, List.setIfInBounds_toArray, List.set_cons_zero, List.set_cons_succ])
  refine wpAnyF_take (i := 2) (v := ?_) (by kernel_rfl) (by kernel_rfl) rfl (by kernel_rfl) (by kernel_rfl) (by kernel_rfl) (fun _ _ _ h => h) (Or.inl ⟨by rfl, ?_⟩) (by assumption) ?_
  rotate_left
  · intro w' hSw; (try dsimp only at hSw); have c0 := hSw.1.cell 0; have c1 := hSw.1.cell 1; have c2 := hSw.1.cell 2; have c3 := hSw.1.cell 3; go_simp; (try with_reducible rfl)
  (try simp only [Act.put, List.getElem_toArray, List.getElem_cons_zero, List.getElem_cons_succ, List.setIfInBounds_toArray, List.set_cons_zero, List.set_cons_succ])
  refine wpAnyF_ready (rs := [3]) (by kernel_rfl) (by simp) ?_
  refine AllReadyF.cons rfl (fun KK hKK => ?_) AllReadyF.nil
  obtain ⟨hh1, hh2, hh3, cs, hcs, hh4⟩ := hHeld
  have hth := hi (show World.there _ (w.heap.size + 1 + 1) 0 (rifA { x with r := q }).size by rw [rifA_size]; exact hh4.thereR hcs)
  have R5 := hi (hh4.wholeR hcs { x with r := q })
  have B5 := hi (below_cells (n := w.heap.size) (b := w.heap.size + 1 + 1) (by omega) (rifL { x with r := q }) 0 _ hh3)
  have l1 := L1.out
  have SS := hi (show (fun W' => CB W' (w.heap.size + 1) 39 #[.int .i64 ci, .int .i64 cp, .int .i64 cg, .bool cis] ∧ CB W' w1.heap.size 36 (rifA { x with r := q }) ∧ Below w.heap.size w W' ∧ ∃ cs : Array Value, cs.size = 70 ∧ CB W' (w.heap.size + 1 + 1) 36 cs) _ from ⟨CB.otherCells (B := w.heap.size + 1) (b := w.heap.size + 1 + 1) (by omega) (rifL { x with r := q }) 0 _ hh1, CB.otherCells (B := w1.heap.size) (b := w.heap.size + 1 + 1) (by omega) (rifL { x with r := q }) 0 _ hh2, B5.out, _, rifA_size _, R5.out⟩)
  clear hh1 hh2 hh3 hh4 l1
  refine wp_store_mid 36 (.tmp 6) (.tmp 33) rfl (w.heap.size + 1 + 1) 0 (rifA { x with r := q }) rfl rfl hth.out HZA2q.out H12q.out ?_
  refine hKK.out _ _ SS.out (fun hHeld => ?_)
  clear hKK KK
  (try simp only [Act.put, List.getElem_toArray, List.getElem_cons_zero, List.getElem_cons_succ])
  refine wpAnyF_ready (rs := [4]) (by kernel_rfl) (by simp) ?_
  refine AllReadyF.last (by kernel_rfl) rfl (fun KK hKK => ?_) AllReadyF.nil
  go_simp
  refine hKK.out _ _ ?_
  clear hKK KK
  (try simp only [Act.put, List.getElem_toArray, List.getElem_cons_zero, List.getElem_cons_succ, List.setIfInBounds_toArray, List.set_cons_zero, List.set_cons_succ])
  refine wpAnyF_ready (rs := [5]) (by kernel_rfl) (by simp) ?_
  refine AllReadyF.last (by kernel_rfl) rfl (fun KK hKK => ?_) AllReadyF.nil
  go_simp
  refine hKK.out _ _ ?_
  clear hKK KK
  (try simp only [Act.put, List.getElem_toArray, List.getElem_cons_zero, List.getElem_cons_succ, List.setIfInBounds_toArray, List.set_cons_zero, List.set_cons_succ])
  refine wpAnyF_done (by kernel_rfl) ?_ _
  refine NoPanic.normal ?_
  go_wp2
  exact bodyPost_ret (results_rif2 rfl _ _ (w.heap.size + 1 + 1) { x with r := q } (.int .i64 ci) (.bool true) rfl rfl rfl R5.out) rfl ⟨rfl, B5.out⟩
theorem rtake_if (x : Fc) (c : Cd) (g : Int) (w : World) : Calls Try.prog 32 #[rfv x, c.v, .int .i64 g] w fun e w' => e = .returned (.tuple #[rfv (takeV x c g).1, .int .i64 (takeV x c g).2.1, .bool (takeV x c g).2.2]) ∧ Below w.heap.size w w' := by
  have HM0 := hi (fun W => rmay_if x c W)
  unfold takeV
  obtain ⟨mv, hmv⟩ : ∃ mv, mayV x c = mv := ⟨_, rfl⟩
  rw [hmv] at HM0 ⊢
  obtain ⟨ci, cp, cg, cis⟩ := c
  dsimp only
  by_cases hg : cg = g
  · subst hg
    cases mv
    · simp only [decide_true, Bool.and_false, Bool.false_eq_true, if_false]
      exact rtake_no x ci cp cg cis cg w (hi HM0.out)
    · simp only [decide_true, Bool.and_true, if_true]
      exact rtake_yes x ci cp cg cis cg w (hi HM0.out) _ rfl
  · rw [show decide (cg = g) = false from decide_eq_false hg]
    simp only [Bool.false_and, Bool.false_eq_true, if_false]
    exact rtake_other x ci cp cg cis g w hg

end Go.Proofs.Ytnnlimjbmfpalaa
