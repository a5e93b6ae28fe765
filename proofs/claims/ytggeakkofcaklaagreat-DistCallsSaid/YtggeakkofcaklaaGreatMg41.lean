import Derived.Test.YtggeakkofcaklaaGreatMg40
namespace Go.Proofs.YtggeakkofcaklaaGreat
open Go.ChangeShapes Go.WideShapes Go.ChangeAt Go.RowKit Go.Shelf
set_option linter.unusedVariables false
attribute [local go_sem] Oper.semAt_some
def ClonedC (w : World) (n : Nat) (vs : List Value) (e : Ending) (w' : World) : Prop := ∃ g' cap', e = .returned (.slice (some ⟨g', 0, none⟩) n cap') ∧ w.heap.size ≤ g' ∧ Row w' g' 86 vs ∧ Below w.heap.size w w'
set_option maxHeartbeats 1000000 in
theorem cloneC_any (g n cap : Nat) (vs : List Value) (w : World) (h : Row w g 86 vs) (hn : vs.length = n * 2) (h1c : ∀ v ∈ vs, v.oneCell' = true) (hl : n ≤ 16384) :
    Calls Tryz.prog 36 #[.slice (some ⟨g, 0, none⟩) n cap] w (ClonedC w n vs) := by
  obtain ⟨i0, hi2, hz0, hz1, hz2⟩ := info_parts info_co
  have hnil : ∀ W, (binOp .eql 80 (.slice (some ⟨g, 0, none⟩) n cap) (.slice none 0 0)).run Tryz.prog W = .ok (.bool false) W := fun W => Lib.run_eql_slice_nil W _ _ (some ⟨g, 0, none⟩) n cap 0 0 Tryz.underlying80
  have hcs : ∀ (j : Nat) (u : Value), vs[j]? = some u → (w.alloc (.cells #[] 86)).cell? ((⟨g, 0, none⟩ : Addr).add j) = some u := by
    intro j u hu
    have hj : j < vs.length := (List.getElem?_eq_some_iff.1 hu).1
    rw [addr_add, Nat.zero_add, World.cell?_alloc_lt _ _ _ h.lt, h.cell hj, hu]
  have HCS := hi hcs
  clear hcs h
  have hown : (w.alloc (.cells #[] 86)).ownsRow w.heap.size 86 2 (.slice (some ⟨w.heap.size, 0, none⟩) 0 0) 0 [] :=
    ⟨rfl, .inr ⟨w.heap.size, 0, #[], rfl, Nat.le_refl _, World.alloc_heap_new w _, Nat.le_refl _, by unfold maxLen; omega, rfl, rfl⟩⟩
  have HO := hi hown
  clear hown
  have HFL := hi hn
  have HF1 := hi h1c
  clear hn h1c
  go_enter Tryz.func36, Tryz.ntmps36
  go_wp2_with (first
    | (at_builtin; refine wpList_append_own _ rfl _ _ 80 rfl w.heap.size 86 i0 (.agg #[.pointer none, .bool false]) 2 16 Tryz.underlying80 hi2 hz0 hz1 hz2 rfl (by decide) _ _ _ rfl HO.out ⟨g, 0, none⟩ n cap vs rfl HFL.out HCS.out HF1.out (by unfold maxLen; omega) (by omega) (by simp) ?_; intro v9 w9 hown9 hgrow9 hnn9; have HW := hi hown9; have HG := hi hgrow9; have HNN := hi hnn9; clear hown9 hgrow9 hnn9))
  go_ret
  have hb : Below w.heap.size w w9 := (bal w _).grown HG.out (by simp) (fun k e => by cases e; exact Nat.le_refl _)
  have h2 := HW.out
  rw [List.nil_append, Nat.zero_add] at h2
  rcases h2.2 with ⟨e, _⟩ | ⟨g', c', cur, e, hb', hg, _⟩
  · cases (HNN.out.1 e).1
  · subst e
    exact ⟨g', c', rfl, hb', Row.own h2, hb⟩
structure CpI (lo : Nat) (D : Ds) (cap k : Nat) (b c : Nat → Nat) (W : World) : Prop where
  box : CB W (b 0) 83 #[.bool D.g0, .bool D.g1, .slice (some ⟨b 1, 0, none⟩) D.cs.length cap, .pointer (some ⟨b 2, 0, none⟩)]
  row : ∃ vs, Row W (b 1) 86 vs ∧ vs.length = 2 * D.cs.length ∧ (∀ i, i < k → vs[i * 2]? = some (.pointer (some ⟨b (4 + 2 * i), 0, none⟩))) ∧ ∀ i, i < D.cs.length → vs[i * 2 + 1]? = some (.bool (D.nth i).sl)
  shr : BkAt W (b 2) (b 3) (c 1) 32 D.sh
  own : ∀ i, i < k → BkAt W (b (4 + 2 * i)) (b (5 + 2 * i)) (c (2 + i)) 0 (D.nth i).es
  inj : ∀ i j, i < 4 + 2 * k → j < 4 + 2 * k → i ≠ j → b i ≠ b j
  rng : ∀ i, i < 4 + 2 * k → lo ≤ b i ∧ b i < W.heap.size
theorem CpI.below {lo cap k : Nat} {D : Ds} {b c : Nat → Nat} {W W' : World} (h : CpI lo D cap k b c W) (kk : Below W.heap.size W W') : CpI lo D cap k b c W' := by
  obtain ⟨vs, hr, r⟩ := h.row
  exact ⟨h.box.below kk, ⟨vs, hr.below kk, r⟩, h.shr.below kk, fun i hi => (h.own i hi).below kk, h.inj, fun i hi => ⟨(h.rng i hi).1, Nat.lt_of_lt_of_le (h.rng i hi).2 kk.size⟩⟩
theorem CpI.row_at {lo cap k : Nat} {D : Ds} {b c : Nat → Nat} {W W1 : World} (h : CpI lo D cap k b c W) (hk : k < D.cs.length) (hb : Below W.heap.size W W1) : (∃ v, W1.cell? ⟨b 1, k * 2, none⟩ = some v) ∧ W1.frozen? ⟨b 1, k * 2, none⟩ = false := by
  obtain ⟨vs, hr, hv1, hv2, hv3⟩ := h.row
  have hl : k * 2 < vs.length := by omega
  exact ⟨⟨vs[k * 2], by rw [(hr.below hb).cell hl, List.getElem?_eq_getElem hl]⟩, (hr.below hb).frozen _⟩
theorem CpI.step {lo cap k : Nat} {D : Ds} {b c : Nat → Nat} {W W1 : World} (h : CpI lo D cap k b c W) (hk : k < D.cs.length) {B G cp : Nat} (hB : BkAt W1 B G cp 0 (D.nth k).es) (hb : Below W.heap.size W W1) (h1 : W.heap.size ≤ B) (h2 : W.heap.size ≤ G) :
    CpI lo D cap (k + 1) (upd b (4 + 2 * k) B G) (fun i => if i = 2 + k then cp else c i) (W1.setCell ⟨b 1, k * 2, none⟩ (.pointer (some ⟨B, 0, none⟩))) := by
  obtain ⟨vs, hr, hv1, hv2, hv3⟩ := h.row
  have hbl := hB.box.lt
  have hgl := hB.row.lt
  have r1 := (h.rng 1 (by omega))
  have S : ∀ i, i ≠ b 1 → (W1.setCell ⟨b 1, k * 2, none⟩ (.pointer (some ⟨B, 0, none⟩))).heap[i]? = W1.heap[i]? := fun i hne => Below.heap_setCell W1 ⟨b 1, k * 2, none⟩ _ _ hne
  have N : ∀ i, i < 4 + 2 * k → i ≠ 1 → b i ≠ b 1 := fun i q1 q2 => h.inj i 1 q1 (by omega) q2
  have uo : ∀ i, i < 4 + 2 * k → upd b (4 + 2 * k) B G i = b i := fun i q => upd_o _ (by omega) (by omega)
  refine ⟨?_, ⟨vs.set (k * 2) (.pointer (some ⟨B, 0, none⟩)), ?_, by rw [List.length_set]; exact hv1, fun i hi => ?_, fun i hi => ?_⟩, ?_, fun i hi => ?_, ?_, fun i hi => ?_⟩
  · rw [uo 0 (by omega), uo 1 (by omega), uo 2 (by omega)]
    exact (h.box.below hb).heap (S _ (N 0 (by omega) (by omega)))
  · rw [uo 1 (by omega)]
    exact (hr.below hb).set _ (by omega)
  · by_cases e : i = k
    · subst e
      rw [List.getElem?_set_self (by omega), upd_a]
    · rw [List.getElem?_set_ne (by omega), hv2 i (by omega), uo _ (by omega)]
  · rw [List.getElem?_set_ne (by omega), hv3 i hi]
  · rw [uo 2 (by omega), uo 3 (by omega)]
    (try dsimp only)
    rw [if_neg (by omega)]
    exact (h.shr.below hb).heap (S _ (N 2 (by omega) (by omega))) (S _ (N 3 (by omega) (by omega)))
  · by_cases e : i = k
    · subst e
      rw [upd_a, show 5 + 2 * i = 4 + 2 * i + 1 by omega, upd_b]
      simp only [if_true]
      exact ⟨hB.box.heap (S _ (by omega)), hB.row.heap (S _ (by omega)), hB.ne⟩
    · rw [uo _ (by omega), uo _ (by omega)]
      (try dsimp only)
      rw [if_neg (by omega)]
      exact ((h.own i (by omega)).below hb).heap (S _ (N _ (by omega) (by omega))) (S _ (N _ (by omega) (by omega)))
  · have := upd_inj (V := fun i => i < 4 + 2 * k) (j := 4 + 2 * k) h.inj (fun i q => (h.rng i q).2) h1 h2 hB.ne
    intro i j q1 q2
    exact this i j (by omega) (by omega)
  · have hs := hb.size
    rw [World.size_setCell]
    by_cases e1 : i = 4 + 2 * k
    · subst e1; rw [upd_a]; omega
    · by_cases e2 : i = 4 + 2 * k + 1
      · subst e2; rw [upd_b]; omega
      · rw [upd_o _ e1 e2]
        have := h.rng i (by omega)
        omega
theorem CpI.done {lo cap : Nat} {D : Ds} {b c : Nat → Nat} {W : World} (h : CpI lo D cap D.cs.length b c W) : ∃ c', DiAt W lo W.heap.size b c' D := by
  obtain ⟨vs, hr, hv1, hv2, hv3⟩ := h.row
  refine ⟨fun i => if i = 0 then cap else c i, ⟨h.box, ?_, h.shr, fun k hk => ?_, h.inj, h.rng, Nat.le_refl _⟩⟩
  · have e : flat encCo (D.prs b) = vs := by
      apply List.ext_getElem?
      intro j
      by_cases hj : j < 2 * D.cs.length
      · obtain ⟨i, hi, e⟩ : ∃ i, i < D.cs.length ∧ (j = i * 2 ∨ j = i * 2 + 1) := ⟨j / 2, by omega, by omega⟩
        have hp := Ds.prs_at (b := b) hi
        rcases e with rfl | rfl
        · have g := flat_get encCo_len _ i 0 _ (by decide) hp
          rw [Nat.add_zero] at g
          rw [g, hv2 i hi]
          rfl
        · rw [flat_get encCo_len _ i 1 _ (by decide) hp, hv3 i hi]
          rfl
      · rw [List.getElem?_eq_none (by rw [flat_len encCo_len, Ds.prs_len]; omega), List.getElem?_eq_none (by omega)]
    rw [e]
    exact hr
  · (try dsimp only)
    rw [if_neg (by omega)]
    exact h.own k hk
theorem CpI.start {w W1 W2 : World} {lo hi' : Nat} {b c : Nat → Nat} {D : Ds} (h : DiAt w lo hi' b c D) {G cap B2 G2 c2 : Nat} (hr : Row W1 G 86 (flat encCo (D.prs b))) (hb1 : Below w.heap.size w W1) (hG : w.heap.size ≤ G)
    (hB : BkAt W2 B2 G2 c2 32 D.sh) (hb2 : Below W1.heap.size W1 W2) (l1 : W1.heap.size ≤ B2) (l2 : W1.heap.size ≤ G2) :
    ∃ b' c', b' 0 = W2.heap.size ∧ b' 1 = G ∧ b' 2 = B2 ∧ CpI w.heap.size D cap 0 b' c' (W2.alloc (.cells #[.bool D.g0, .bool D.g1, .slice (some ⟨G, 0, none⟩) D.cs.length cap, .pointer (some ⟨B2, 0, none⟩)] 83)) ∧ Below w.heap.size w (W2.alloc (.cells #[.bool D.g0, .bool D.g1, .slice (some ⟨G, 0, none⟩) D.cs.length cap, .pointer (some ⟨B2, 0, none⟩)] 83)) := by
  have hs1 := hb1.size
  have hs2 := hb2.size
  have hlG := hr.lt
  have hlB := hB.box.lt
  have hlC := hB.row.lt
  have hne := hB.ne
  refine ⟨fun i => if i = 0 then W2.heap.size else if i = 1 then G else if i = 2 then B2 else G2, fun _ => c2, rfl, rfl, rfl, ⟨CB.new _ _ _, ⟨_, (hr.below hb2).below (bal _ _), ?_, fun i hi => by omega, fun i hi => ?_⟩, hB.below (bal _ _), fun i hi => by omega, fun i j q1 q2 q3 => ?_, fun i q => ?_⟩, ((hb1.trans (hb2.mono hs1)).alloc (by omega) _)⟩
  · rw [flat_len encCo_len, Ds.prs_len]; omega
  · rw [flat_get encCo_len _ i 1 _ (by decide) (Ds.prs_at hi)]
    rfl
  · have hI : i = 0 ∨ i = 1 ∨ i = 2 ∨ i = 3 := by omega
    have hJ : j = 0 ∨ j = 1 ∨ j = 2 ∨ j = 3 := by omega
    rcases hI with rfl | rfl | rfl | rfl <;> rcases hJ with rfl | rfl | rfl | rfl <;> simp <;> omega
  · rw [World.size_alloc]
    have hI : i = 0 ∨ i = 1 ∨ i = 2 ∨ i = 3 := by omega
    rcases hI with rfl | rfl | rfl | rfl <;> simp <;> omega
theorem encCo_one (p : Nat × Bool) : ∀ v ∈ encCo p, v.oneCell' = true := by
  intro v hv
  simp only [List.mem_cons, List.not_mem_nil, or_false] at hv
  rcases hv with rfl | rfl <;> rfl
def CopiedD (w : World) (D : Ds) (e : Ending) (W : World) : Prop := ∃ b c, e = .returned (.pointer (some ⟨b 0, 0, none⟩)) ∧ DiAt W w.heap.size W.heap.size b c D ∧ Below w.heap.size w W
set_option maxRecDepth 100000 in
set_option maxHeartbeats 8000000 in
theorem copy_dist {w : World} {lo hi' : Nat} {b c : Nat → Nat} {D : Ds} (h : DiAt w lo hi' b c D) (ok : D.Ok) :
    Calls Tryz.prog 12 #[.pointer (some ⟨b 0, 0, none⟩)] w (CopiedD w D) := by
  have HH := hi h
  have HOK := hi ok
  have HD := hi h.drew
  have HCL := hi (cloneC_any (b 1) D.cs.length (c 0) _ w.drew h.drew.row (by rw [flat_len encCo_len, Ds.prs_len]) (flat_one_cell encCo_one _) (by have := ok.n8; omega))
  have HCS := hi (fun W (z : Below w.heap.size w W) => copy_any (h.below z).shr ok.fitS)
  have c0 := h.box.cell 0
  have c1 := h.box.cell 1
  have c2 := h.box.cell 2
  have c3 := h.box.cell 3
  have HB := hi h.box
  have HLT := hi h.box.lt
  have HN8 := hi ok.n8
  clear h ok
  go_enter Tryz.func12, Tryz.ntmps12
  go_wp2
  refine wp_region_noPanic ?_
  refine wp_region_last_drew (S := (fun W' => CB W' (b 0) 83 #[.bool D.g0, .bool D.g1, .slice (some ⟨b 1, 0, none⟩) D.cs.length (c 0), .pointer (some ⟨b 2, 0, none⟩)])) [] (by kernel_rfl) HB.out.drew (fun hHeld => ?_)
  (try simp only [Array.replicate_succ, Array.replicate_zero, List.push_toArray, List.nil_append, List.cons_append])
  refine wpAnyF_take (i := 0) (v := ?_) (by kernel_rfl) (by kernel_rfl) rfl (by kernel_rfl) (by kernel_rfl) (by kernel_rfl) (fun _ _ _ h => h) (Or.inl ⟨by rfl, ?_⟩) (by assumption) ?_
  rotate_left
  · intro w' hSw; (try dsimp only at hSw); have p0 := hSw.cell 0; have p1 := hSw.cell 1; have p2 := hSw.cell 2; have p3 := hSw.cell 3; go_simp; (try with_reducible rfl)
  (try simp only [Act.put, List.getElem_toArray, List.getElem_cons_zero, List.setIfInBounds_toArray, List.set_cons_zero, List.set_cons_succ])
  refine wpAnyF_take (i := 1) (v := ?_) (by kernel_rfl) (by kernel_rfl) rfl (by kernel_rfl) (by kernel_rfl) (by kernel_rfl) (fun _ _ _ h => h) (Or.inl ⟨by rfl, ?_⟩) (by assumption) ?_
  rotate_left
  · intro w' hSw; (try dsimp only at hSw); have p0 := hSw.cell 0; have p1 := hSw.cell 1; have p2 := hSw.cell 2; have p3 := hSw.cell 3; go_simp; (try with_reducible rfl)
  (try simp only [Act.put, List.getElem_toArray, List.getElem_cons_zero, List.getElem_cons_succ, List.setIfInBounds_toArray, List.set_cons_zero, List.set_cons_succ])
  refine wpAnyF_take (i := 2) (v := ?_) (by kernel_rfl) (by kernel_rfl) rfl (by kernel_rfl) (by kernel_rfl) (by kernel_rfl) (fun _ _ _ h => h) (Or.inl ⟨by rfl, ?_⟩) (by assumption) ?_
  rotate_left
  · intro w' hSw; (try dsimp only at hSw); have p0 := hSw.cell 0; have p1 := hSw.cell 1; have p2 := hSw.cell 2; have p3 := hSw.cell 3; go_simp; (try with_reducible rfl)
  (try simp only [Act.put, List.getElem_toArray, List.getElem_cons_zero, List.getElem_cons_succ, List.setIfInBounds_toArray, List.set_cons_zero, List.set_cons_succ])
  refine wpAnyF_take (i := 3) (v := ?_) (by kernel_rfl) (by kernel_rfl) rfl (by kernel_rfl) (by kernel_rfl) (by kernel_rfl) (fun _ _ _ h => h) (Or.inl ⟨by rfl, ?_⟩) (by assumption) ?_
  rotate_left
  · intro w' hSw; (try dsimp only at hSw); have p0 := hSw.cell 0; have p1 := hSw.cell 1; have p2 := hSw.cell 2; have p3 := hSw.cell 3; go_simp; (try with_reducible rfl)
  (try simp only [Act.put, List.getElem_toArray, List.getElem_cons_zero, List.getElem_cons_succ, List.setIfInBounds_toArray, List.set_cons_zero, List.set_cons_succ])
  refine wpAnyF_take (i := 4) (v := ?_) (by kernel_rfl) (by kernel_rfl) rfl (by kernel_rfl) (by kernel_rfl) (by kernel_rfl) (fun _ _ _ h => h) (Or.inl ⟨by rfl, ?_⟩) (by assumption) ?_
  rotate_left
  · intro w' hSw; (try dsimp only at hSw); have p0 := hSw.cell 0; have p1 := hSw.cell 1; have p2 := hSw.cell 2; have p3 := hSw.cell 3; go_simp; (try with_reducible rfl)
  (try simp only [Act.put, List.getElem_toArray, List.getElem_cons_zero, List.getElem_cons_succ, List.setIfInBounds_toArray, List.set_cons_zero, List.set_cons_succ])
  refine wpAnyF_take (i := 5) (v := ?_) (by kernel_rfl) (by kernel_rfl) rfl (by kernel_rfl) (by kernel_rfl) (by kernel_rfl) (fun _ _ _ h => h) (Or.inl ⟨by rfl, ?_⟩) (by assumption) ?_
  rotate_left
  · intro w' hSw; (try dsimp only at hSw); have p0 := hSw.cell 0; have p1 := hSw.cell 1; have p2 := hSw.cell 2; have p3 := hSw.cell 3; go_simp; (try with_reducible rfl)
  (try simp only [Act.put, List.getElem_toArray, List.getElem_cons_zero, List.getElem_cons_succ, List.setIfInBounds_toArray, List.set_cons_zero, List.set_cons_succ])
  refine wpAnyF_take (i := 6) (v := ?_) (by kernel_rfl) (by kernel_rfl) rfl (by kernel_rfl) (by kernel_rfl) (by kernel_rfl) (fun _ _ _ h => h) (Or.inl ⟨by rfl, ?_⟩) (by assumption) ?_
  rotate_left
  · intro w' hSw; (try dsimp only at hSw); have p0 := hSw.cell 0; have p1 := hSw.cell 1; have p2 := hSw.cell 2; have p3 := hSw.cell 3; go_simp; (try with_reducible rfl)
  (try simp only [Act.put, List.getElem_toArray, List.getElem_cons_zero, List.getElem_cons_succ, List.setIfInBounds_toArray, List.set_cons_zero, List.set_cons_succ])
  refine wpAnyF_take (i := 7) (v := ?_) (by kernel_rfl) (by kernel_rfl) rfl (by kernel_rfl) (by kernel_rfl) (by kernel_rfl) (fun _ _ _ h => h) (Or.inl ⟨by rfl, ?_⟩) (by assumption) ?_
  rotate_left
  · intro w' hSw; (try dsimp only at hSw); have p0 := hSw.cell 0; have p1 := hSw.cell 1; have p2 := hSw.cell 2; have p3 := hSw.cell 3; go_simp; (try with_reducible rfl)
  (try simp only [Act.put, List.getElem_toArray, List.getElem_cons_zero, List.getElem_cons_succ, List.setIfInBounds_toArray, List.set_cons_zero, List.set_cons_succ])
  refine wpAnyF_take (i := 9) (v := ?_) (by kernel_rfl) (by kernel_rfl) rfl (by kernel_rfl) (by kernel_rfl) (by kernel_rfl) (fun _ _ _ h => h) (Or.inl ⟨by rfl, ?_⟩) (by assumption) ?_
  rotate_left
  · intro w' hSw; (try dsimp only at hSw); have p0 := hSw.cell 0; have p1 := hSw.cell 1; have p2 := hSw.cell 2; have p3 := hSw.cell 3; go_simp; (try with_reducible rfl)
  (try simp only [Act.put, List.getElem_toArray, List.getElem_cons_zero, List.getElem_cons_succ, List.setIfInBounds_toArray, List.set_cons_zero, List.set_cons_succ])
  refine wpAnyF_take (i := 10) (v := ?_) (by kernel_rfl) (by kernel_rfl) rfl (by kernel_rfl) (by kernel_rfl) (by kernel_rfl) (fun _ _ _ h => h) (Or.inl ⟨by rfl, ?_⟩) (by assumption) ?_
  rotate_left
  · intro w' hSw; (try dsimp only at hSw); have p0 := hSw.cell 0; have p1 := hSw.cell 1; have p2 := hSw.cell 2; have p3 := hSw.cell 3; go_simp; (try with_reducible rfl)
  (try simp only [Act.put, List.getElem_toArray, List.getElem_cons_zero, List.getElem_cons_succ, List.setIfInBounds_toArray, List.set_cons_zero, List.set_cons_succ])
  refine wpAnyF_take (i := 11) (v := ?_) (by kernel_rfl) (by kernel_rfl) rfl (by kernel_rfl) (by kernel_rfl) (by kernel_rfl) (fun _ _ _ h => h) (Or.inl ⟨by rfl, ?_⟩) (by assumption) ?_
  rotate_left
  · intro w' hSw; (try dsimp only at hSw); have p0 := hSw.cell 0; have p1 := hSw.cell 1; have p2 := hSw.cell 2; have p3 := hSw.cell 3; go_simp; (try with_reducible rfl)
  (try simp only [Act.put, List.getElem_toArray, List.getElem_cons_zero, List.getElem_cons_succ, List.setIfInBounds_toArray, List.set_cons_zero, List.set_cons_succ])
  refine wpAnyF_take (i := 12) (v := ?_) (by kernel_rfl) (by kernel_rfl) rfl (by kernel_rfl) (by kernel_rfl) (by kernel_rfl) (fun _ _ _ h => h) (Or.inl ⟨by rfl, ?_⟩) (by assumption) ?_
  rotate_left
  · intro w' hSw; (try dsimp only at hSw); have p0 := hSw.cell 0; have p1 := hSw.cell 1; have p2 := hSw.cell 2; have p3 := hSw.cell 3; go_simp; (try with_reducible rfl)
  (try simp only [Act.put, List.getElem_toArray, List.getElem_cons_zero, List.getElem_cons_succ, List.setIfInBounds_toArray, List.set_cons_zero, List.set_cons_succ])
  refine wpAnyF_ready (rs := [8]) (by kernel_rfl) (by simp) ?_
  refine AllReadyF.cons rfl (fun KK hKK => ?_) AllReadyF.nil
  go_simp
  ((with_reducible refine (HCL.out).mono ?_); rintro e' w2 ⟨G, cap, rfl, hG, hr, hb⟩; have HR2 := hi hr; have HG2 := hi hG; have HB2 := hi (show Below w.heap.size w w2 from (Below.drewN (m := 1) (Below.refl _ _)).trans hb); have hSS := hHeld.below hb; clear hr hG hb)
  (try go_simp)
  refine hKK.out _ _ hSS (fun hHeld => ?_)
  clear hKK KK
  (try simp only [Act.put, List.getElem_toArray, List.getElem_cons_zero, List.getElem_cons_succ, List.setIfInBounds_toArray, List.set_cons_zero, List.set_cons_succ])
  refine wpAnyF_ready (rs := [13]) (by kernel_rfl) (by simp) ?_
  refine AllReadyF.cons rfl (fun KK hKK => ?_) AllReadyF.nil
  go_simp
  ((with_reducible refine (HCS.out _ HB2.out).mono ?_); rintro e' w3 ⟨B2, G2, cc2, rfl, hl1, hl2, hbk, hb3⟩; have HSTART := hi (CpI.start (cap := cap) HH.out HR2.out HB2.out HG2.out hbk hb3 hl1 hl2); have hSS := hHeld.below hb3; clear hl1 hl2 hbk hb3)
  (try go_simp)
  refine hKK.out _ _ hSS (fun hHeld => ?_)
  clear hKK KK
  (try simp only [Act.put, List.getElem_toArray, List.getElem_cons_zero, List.getElem_cons_succ, List.setIfInBounds_toArray, List.set_cons_zero, List.set_cons_succ])
  refine wpAnyF_take (i := 14) (v := ?_) (by kernel_rfl) (by kernel_rfl) rfl (by kernel_rfl) (by kernel_rfl) (by kernel_rfl) (fun _ _ _ h => h) (Or.inl ⟨by rfl, ?_⟩) (by assumption) ?_
  rotate_left
  · intro w' hSw; (try dsimp only at hSw); have p0 := hSw.cell 0; have p1 := hSw.cell 1; have p2 := hSw.cell 2; have p3 := hSw.cell 3; go_simp; (try with_reducible rfl)
  (try simp only [Act.put, List.getElem_toArray, List.getElem_cons_zero, List.getElem_cons_succ, List.setIfInBounds_toArray, List.set_cons_zero, List.set_cons_succ])
  refine wpAnyF_ready (rs := [15]) (by kernel_rfl) (by simp) ?_
  refine AllReadyF.cons rfl (fun KK hKK => ?_) AllReadyF.nil
  go_simp
  refine hKK.out _ _ (hHeld.alloc _) (fun hHeld => ?_)
  clear hKK KK
  (try simp only [Act.put, List.getElem_toArray, List.getElem_cons_zero, List.getElem_cons_succ, List.setIfInBounds_toArray, List.set_cons_zero, List.set_cons_succ])
  refine wpAnyF_take (i := 16) (v := ?_) (by kernel_rfl) (by kernel_rfl) rfl (by kernel_rfl) (by kernel_rfl) (by kernel_rfl) (fun _ _ _ h => h) (Or.inl ⟨by rfl, ?_⟩) (by assumption) ?_
  rotate_left
  · intro w' hSw; (try dsimp only at hSw); have p0 := hSw.cell 0; have p1 := hSw.cell 1; have p2 := hSw.cell 2; have p3 := hSw.cell 3; go_simp; (try with_reducible rfl)
  (try simp only [Act.put, List.getElem_toArray, List.getElem_cons_zero, List.getElem_cons_succ, List.setIfInBounds_toArray, List.set_cons_zero, List.set_cons_succ])
  refine wpAnyF_done (by kernel_rfl) ?_ _
  refine NoPanic.normal ?_
  obtain ⟨w4, hw4⟩ : ∃ w4, (w3.alloc (.cells #[.bool D.g0, .bool D.g1, .slice (some ⟨G, 0, none⟩) D.cs.length cap, .pointer (some ⟨B2, 0, none⟩)] 83)) = w4 := ⟨_, rfl⟩
  have HNB := hi (CB.new w3 83 #[.bool D.g0, .bool D.g1, .slice (some ⟨G, 0, none⟩) D.cs.length cap, .pointer (some ⟨B2, 0, none⟩)])
  obtain ⟨B0, hB0⟩ : ∃ B0, w3.heap.size = B0 := ⟨_, rfl⟩
  rw [hw4, hB0] at HSTART HNB
  rw [hw4, hB0]
  clear hw4 hB0
  have x2 := HNB.out.cell 2
  go_wp2
  go_loopw [26] (fun i wr => ∃ (k : Nat) (b1 c1 : Nat → Nat), i = .int .i64 k ∧ k ≤ D.cs.length ∧ Hi (b1 0 = B0 ∧ b1 1 = G ∧ CpI w.heap.size D cap k b1 c1 wr ∧ Below w.heap.size w wr)) (fun i _ => D.cs.length - (intOf i).toNat)
  case atStart =>
    obtain ⟨b', c', e0, e1, e2, HX0, HB0⟩ := HSTART.out
    exact ⟨0, b', c', rfl, Nat.zero_le _, hi ⟨e0, e1, HX0, HB0⟩⟩
  case round =>
    obtain ⟨k, b1, c1, rfl, hk, HX⟩ := hrel
    clear HSTART HNB
    by_cases hlt : k < D.cs.length
    · have hbx := HX.out.2.2.1.box
      rw [HX.out.1, HX.out.2.1] at hbx
      have hn8 := HN8.out
      have x2 := hbx.cell 2
      have HBX := hi hbx
      have HDI := hi (HH.out.below HX.out.2.2.2)
      have HCP := hi (copy_any (HDI.out.drew.own k hlt) (HOK.out.fitO hlt))
      clear hbx
      go_wp2
      refine wp_region_noPanic ?_
      refine wp_region_last_drew (S := (fun W' => CB W' B0 83 #[.bool D.g0, .bool D.g1, .slice (some ⟨G, 0, none⟩) D.cs.length cap, .pointer (some ⟨b1 2, 0, none⟩)] ∧ DiAt W' lo hi' b c D)) [14, 15, 16] (by kernel_rfl) ⟨HBX.out.drew, HDI.out.drew⟩ (fun hHeld => ?_)
      (try simp only [Array.replicate_succ, Array.replicate_zero, List.push_toArray, List.nil_append, List.cons_append])
      refine wpAnyF_take (i := 0) (v := ?_) (by kernel_rfl) (by kernel_rfl) rfl (by kernel_rfl) (by kernel_rfl) (by kernel_rfl) (fun _ _ _ h => h) (Or.inl ⟨by rfl, ?_⟩) (by assumption) ?_
      rotate_left
      · intro w' hSw; (try dsimp only at hSw); have p2 := hSw.1.cell 2; have q2 := hSw.2.box.cell 2; have q4 := hSw.2.ptr hlt; go_simp; (try with_reducible rfl)
      (try simp only [Act.put, List.getElem_toArray, List.getElem_cons_zero, List.setIfInBounds_toArray, List.set_cons_zero, List.set_cons_succ])
      refine wpAnyF_take (i := 1) (v := ?_) (by kernel_rfl) (by kernel_rfl) rfl (by kernel_rfl) (by kernel_rfl) (by kernel_rfl) (fun _ _ _ h => h) (Or.inl ⟨by rfl, ?_⟩) (by assumption) ?_
      rotate_left
      · intro w' hSw; (try dsimp only at hSw); have p2 := hSw.1.cell 2; have q2 := hSw.2.box.cell 2; have q4 := hSw.2.ptr hlt; go_simp; (try with_reducible rfl)
      (try simp only [Act.put, List.getElem_toArray, List.getElem_cons_zero, List.getElem_cons_succ, List.setIfInBounds_toArray, List.set_cons_zero, List.set_cons_succ])
      refine wpAnyF_take (i := 2) (v := ?_) (by kernel_rfl) (by kernel_rfl) rfl (by kernel_rfl) (by kernel_rfl) (by kernel_rfl) (fun _ _ _ h => h) (Or.inl ⟨by rfl, ?_⟩) (by assumption) ?_
      rotate_left
      · intro w' hSw; (try dsimp only at hSw); have p2 := hSw.1.cell 2; have q2 := hSw.2.box.cell 2; have q4 := hSw.2.ptr hlt; go_simp; (try with_reducible rfl)
      (try simp only [Act.put, List.getElem_toArray, List.getElem_cons_zero, List.getElem_cons_succ, List.setIfInBounds_toArray, List.set_cons_zero, List.set_cons_succ])
      refine wpAnyF_take (i := 3) (v := ?_) (by kernel_rfl) (by kernel_rfl) rfl (by kernel_rfl) (by kernel_rfl) (by kernel_rfl) (fun _ _ _ h => h) (Or.inl ⟨by rfl, ?_⟩) (by assumption) ?_
      rotate_left
      · intro w' hSw; (try dsimp only at hSw); have p2 := hSw.1.cell 2; have q2 := hSw.2.box.cell 2; have q4 := hSw.2.ptr hlt; go_simp; (try with_reducible rfl)
      (try simp only [Act.put, List.getElem_toArray, List.getElem_cons_zero, List.getElem_cons_succ, List.setIfInBounds_toArray, List.set_cons_zero, List.set_cons_succ])
      refine wpAnyF_take (i := 4) (v := ?_) (by kernel_rfl) (by kernel_rfl) rfl (by kernel_rfl) (by kernel_rfl) (by kernel_rfl) (fun _ _ _ h => h) (Or.inl ⟨by rfl, ?_⟩) (by assumption) ?_
      rotate_left
      · intro w' hSw; (try dsimp only at hSw); have p2 := hSw.1.cell 2; have q2 := hSw.2.box.cell 2; have q4 := hSw.2.ptr hlt; go_simp; (try with_reducible rfl)
      (try simp only [Act.put, List.getElem_toArray, List.getElem_cons_zero, List.getElem_cons_succ, List.setIfInBounds_toArray, List.set_cons_zero, List.set_cons_succ])
      refine wpAnyF_take (i := 5) (v := ?_) (by kernel_rfl) (by kernel_rfl) rfl (by kernel_rfl) (by kernel_rfl) (by kernel_rfl) (fun _ _ _ h => h) (Or.inl ⟨by rfl, ?_⟩) (by assumption) ?_
      rotate_left
      · intro w' hSw; (try dsimp only at hSw); have p2 := hSw.1.cell 2; have q2 := hSw.2.box.cell 2; have q4 := hSw.2.ptr hlt; go_simp; (try with_reducible rfl)
      (try simp only [Act.put, List.getElem_toArray, List.getElem_cons_zero, List.getElem_cons_succ, List.setIfInBounds_toArray, List.set_cons_zero, List.set_cons_succ])
      refine wpAnyF_take (i := 6) (v := ?_) (by kernel_rfl) (by kernel_rfl) rfl (by kernel_rfl) (by kernel_rfl) (by kernel_rfl) (fun _ _ _ h => h) (Or.inl ⟨by rfl, ?_⟩) (by assumption) ?_
      rotate_left
      · intro w' hSw; (try dsimp only at hSw); have p2 := hSw.1.cell 2; have q2 := hSw.2.box.cell 2; have q4 := hSw.2.ptr hlt; go_simp; (try with_reducible rfl)
      (try simp only [Act.put, List.getElem_toArray, List.getElem_cons_zero, List.getElem_cons_succ, List.setIfInBounds_toArray, List.set_cons_zero, List.set_cons_succ])
      refine wpAnyF_take (i := 7) (v := ?_) (by kernel_rfl) (by kernel_rfl) rfl (by kernel_rfl) (by kernel_rfl) (by kernel_rfl) (fun _ _ _ h => h) (Or.inl ⟨by rfl, ?_⟩) (by assumption) ?_
      rotate_left
      · intro w' hSw; (try dsimp only at hSw); have p2 := hSw.1.cell 2; have q2 := hSw.2.box.cell 2; have q4 := hSw.2.ptr hlt; go_simp; (try with_reducible rfl)
      (try simp only [Act.put, List.getElem_toArray, List.getElem_cons_zero, List.getElem_cons_succ, List.setIfInBounds_toArray, List.set_cons_zero, List.set_cons_succ])
      refine wpAnyF_take (i := 8) (v := ?_) (by kernel_rfl) (by kernel_rfl) rfl (by kernel_rfl) (by kernel_rfl) (by kernel_rfl) (fun _ _ _ h => h) (Or.inl ⟨by rfl, ?_⟩) (by assumption) ?_
      rotate_left
      · intro w' hSw; (try dsimp only at hSw); have p2 := hSw.1.cell 2; have q2 := hSw.2.box.cell 2; have q4 := hSw.2.ptr hlt; go_simp; (try with_reducible rfl)
      (try simp only [Act.put, List.getElem_toArray, List.getElem_cons_zero, List.getElem_cons_succ, List.setIfInBounds_toArray, List.set_cons_zero, List.set_cons_succ])
      refine wpAnyF_take (i := 9) (v := ?_) (by kernel_rfl) (by kernel_rfl) rfl (by kernel_rfl) (by kernel_rfl) (by kernel_rfl) (fun _ _ _ h => h) (Or.inl ⟨by rfl, ?_⟩) (by assumption) ?_
      rotate_left
      · intro w' hSw; (try dsimp only at hSw); have p2 := hSw.1.cell 2; have q2 := hSw.2.box.cell 2; have q4 := hSw.2.ptr hlt; go_simp; (try with_reducible rfl)
      (try simp only [Act.put, List.getElem_toArray, List.getElem_cons_zero, List.getElem_cons_succ, List.setIfInBounds_toArray, List.set_cons_zero, List.set_cons_succ])
      refine wpAnyF_take (i := 10) (v := ?_) (by kernel_rfl) (by kernel_rfl) rfl (by kernel_rfl) (by kernel_rfl) (by kernel_rfl) (fun _ _ _ h => h) (Or.inl ⟨by rfl, ?_⟩) (by assumption) ?_
      rotate_left
      · intro w' hSw; (try dsimp only at hSw); have p2 := hSw.1.cell 2; have q2 := hSw.2.box.cell 2; have q4 := hSw.2.ptr hlt; go_simp; (try with_reducible rfl)
      (try simp only [Act.put, List.getElem_toArray, List.getElem_cons_zero, List.getElem_cons_succ, List.setIfInBounds_toArray, List.set_cons_zero, List.set_cons_succ])
      refine wpAnyF_take (i := 11) (v := ?_) (by kernel_rfl) (by kernel_rfl) rfl (by kernel_rfl) (by kernel_rfl) (by kernel_rfl) (fun _ _ _ h => h) (Or.inl ⟨by rfl, ?_⟩) (by assumption) ?_
      rotate_left
      · intro w' hSw; (try dsimp only at hSw); have p2 := hSw.1.cell 2; have q2 := hSw.2.box.cell 2; have q4 := hSw.2.ptr hlt; go_simp; (try with_reducible rfl)
      (try simp only [Act.put, List.getElem_toArray, List.getElem_cons_zero, List.getElem_cons_succ, List.setIfInBounds_toArray, List.set_cons_zero, List.set_cons_succ])
      refine wpAnyF_take (i := 12) (v := ?_) (by kernel_rfl) (by kernel_rfl) rfl (by kernel_rfl) (by kernel_rfl) (by kernel_rfl) (fun _ _ _ h => h) (Or.inl ⟨by rfl, ?_⟩) (by assumption) ?_
      rotate_left
      · intro w' hSw; (try dsimp only at hSw); have p2 := hSw.1.cell 2; have q2 := hSw.2.box.cell 2; have q4 := hSw.2.ptr hlt; go_simp; (try with_reducible rfl)
      (try simp only [Act.put, List.getElem_toArray, List.getElem_cons_zero, List.getElem_cons_succ, List.setIfInBounds_toArray, List.set_cons_zero, List.set_cons_succ])
      refine wpAnyF_ready (rs := [13]) (by kernel_rfl) (by simp) ?_
      refine AllReadyF.cons rfl (fun KK hKK => ?_) AllReadyF.nil
      go_simp
      ((with_reducible refine (HCP.out).mono ?_); rintro e' w5 ⟨B, G5, cp, rfl, hl1, hl2, hbk, hb5'⟩; have hb5 : Below wr.heap.size wr w5 := (Below.drewN (m := 1) (Below.refl _ _)).trans hb5'; have hs5 := HX.out.2.2.1.step hlt hbk hb5 hl1 hl2; rw [HX.out.2.1] at hs5; have HS2 := hi hs5; have HB2 := hi (HX.out.2.2.2.trans (hb5.mono HX.out.2.2.2.size)); have hSS := And.intro (hHeld.1.below hb5') (hHeld.2.below hb5'); have hrw := HX.out.2.2.1.row_at hlt hb5; rw [HX.out.2.1] at hrw; have HRW := hi hrw; have HG := hi (show w.heap.size ≤ G from by have := (HX.out.2.2.1.rng 1 (by omega)).1; rw [HX.out.2.1] at this; exact this); clear hs5 hrw hbk hb5 hb5' hl1 hl2)
      (try go_simp)
      refine hKK.out _ _ hSS (fun hHeld => ?_)
      clear hKK KK
      (try simp only [Act.put, List.getElem_toArray, List.getElem_cons_zero, List.getElem_cons_succ, List.setIfInBounds_toArray, List.set_cons_zero, List.set_cons_succ])
      refine wpAnyF_ready (rs := [14]) (by kernel_rfl) (by simp) ?_
      refine AllReadyF.last (by kernel_rfl) rfl (fun KK hKK => ?_) AllReadyF.nil
      have p2 := hHeld.1.cell 2
      go_simp
      refine hKK.out _ _ ?_
      clear hKK KK
      (try simp only [Act.put, List.getElem_toArray, List.getElem_cons_zero, List.getElem_cons_succ, List.setIfInBounds_toArray, List.set_cons_zero, List.set_cons_succ])
      refine wpAnyF_ready (rs := [15]) (by kernel_rfl) (by simp) ?_
      refine AllReadyF.last (by kernel_rfl) rfl (fun KK hKK => ?_) AllReadyF.nil
      go_simp
      refine hKK.out _ _ ?_
      clear hKK KK
      (try simp only [Act.put, List.getElem_toArray, List.getElem_cons_zero, List.getElem_cons_succ, List.setIfInBounds_toArray, List.set_cons_zero, List.set_cons_succ])
      refine wpAnyF_ready (rs := [16]) (by kernel_rfl) (by simp) ?_
      refine AllReadyF.last (by kernel_rfl) rfl (fun KK hKK => ?_) AllReadyF.nil
      obtain ⟨⟨qv, q0⟩, qf⟩ := HRW.out
      go_simp
      refine hKK.out _ _ ?_
      clear hKK KK
      (try simp only [Act.put, List.getElem_toArray, List.getElem_cons_zero, List.getElem_cons_succ, List.setIfInBounds_toArray, List.set_cons_zero, List.set_cons_succ])
      refine wpAnyF_done (by kernel_rfl) ?_ _
      refine NoPanic.normal ?_
      go_wp2
      go_roundw
      case rel => have := HN8.out; exact ⟨k + 1, _, _, by go_num, hlt, hi ⟨by rw [upd_o _ (by omega) (by omega)]; exact HX.out.1, by rw [upd_o _ (by omega) (by omega)]; exact HX.out.2.1, HS2.out, HB2.out.setCell HG.out _⟩⟩
      case measure => have := HN8.out; simp only [intOf]; omega
    · obtain rfl : k = D.cs.length := by omega
      go_wp2
      go_ret
      obtain ⟨c', hd⟩ := HX.out.2.2.1.done
      exact ⟨b1, c', by rw [HX.out.1]; rfl, hd, HX.out.2.2.2⟩
end Go.Proofs.YtggeakkofcaklaaGreat
