/-
  Package lpi: fits, New.
-/
import Derived.Test.YtobhdjepfhbgaaaDoorLpM
namespace Go.Proofs.YtobhdjepfhbgaaaDoor
open Go.ChangeShapes Go.WideShapes Go.ChangeAt Go.RowKit Go.Shelf
set_option linter.unusedVariables false
set_option linter.unusedSimpArgs false

theorem bool_andf (b c : Bool) : (b && c) = c ∨ (b && c) = false := by cases b <;> cases c <;> simp
set_option maxHeartbeats 1000000 in
theorem fits_any (p g cp : Nat) (bs : List Nat) (a s many : Int) (ha : i64B a) (hs : i64B s) (w : World) (hM : MemAt 96 w p g cp bs) :
    Calls Tryd.prog 64 #[.pointer (some ⟨p, 0, none⟩), .agg #[.int .i64 a, .int .i64 s], .int .i64 many] w fun e w' => e = .returned (.bool (holdsB bs.length a s && decide (many ≤ s))) ∧ Below w.heap.size w w' := by
  have hb0 := bal w (.cells #[.int .i64 a, .int .i64 s] 49)
  have hc := CB.new w 49 #[.int .i64 a, .int .i64 s]
  obtain ⟨b, hb⟩ : ∃ b, holdsB bs.length a s = b := ⟨_, rfl⟩
  have HH := hi (holds_E p g cp bs a s b hb (w.alloc (.cells #[.int .i64 a, .int .i64 s] 49)) (hM.below hb0) ha.1 ha.2 hs.1 hs.2)
  have HB := hi (And.intro hb0 hc)
  rw [hb]
  clear hM hb hb0 hc
  cases b
  · go_enter Tryd.func64, Tryd.ntmps64
    go_wp2_with (go_at_call 72; ((with_reducible refine HH.out.mono ?_); rintro e w1 ⟨rfl, hb1⟩; have HC := hi (HB.out.1.more hb1); clear hb1))
    go_ret
    exact ⟨rfl, HC.out⟩
  · go_enter Tryd.func64, Tryd.ntmps64
    go_wp2_with (go_at_call 72; ((with_reducible refine HH.out.mono ?_); rintro e w1 ⟨rfl, hb1⟩; have HC := hi (HB.out.1.more hb1); have c0 := (HB.out.2.below hb1).cell 0; have c1 := (HB.out.2.below hb1).cell 1; clear hb1))
    go_ret
    exact ⟨rfl, HC.out⟩
/-- May there be a part? -/
def fitB (n : Nat) (many pa ps qa qs : Int) : Bool := (holdsB n pa ps && decide (many ≤ ps)) && (holdsB n qa qs && decide ((many + 7) / 8 ≤ qs))
def newE (n : Nat) (many pa ps qa qs : Int) : Int := if many < 1 ∨ 512 < many then 1 else if fitB n many pa ps qa qs = true then 0 else 42
theorem fit_is (p g cp : Nat) (bs : List Nat) (a s many : Int) (r : Bool) (hr : (holdsB bs.length a s && decide (many ≤ s)) = r) (ha : i64B a) (hs : i64B s) (w : World) (hM : MemAt 96 w p g cp bs) :
    Calls Tryd.prog 64 #[.pointer (some ⟨p, 0, none⟩), .agg #[.int .i64 a, .int .i64 s], .int .i64 many] w fun e w' => e = .returned (.bool r) ∧ Below w.heap.size w w' := hr ▸ fits_any p g cp bs a s many ha hs w hM

set_option maxRecDepth 100000 in
set_option maxHeartbeats 4000000 in
theorem new_no (p g cp : Nat) (bs : List Nat) (many pa ps qa qs : Int) (h1 : i64B pa) (h2 : i64B ps) (h3 : i64B qa) (h4 : i64B qs) (w : World) (hM : MemAt 96 w p g cp bs) (hn : newE bs.length many pa ps qa qs ≠ 0) :
    Calls Tryd.prog 20 #[.pointer (some ⟨p, 0, none⟩), .int .i64 many, .agg #[.int .i64 pa, .int .i64 ps], .agg #[.int .i64 qa, .int .i64 qs]] w fun e w' => e = .returned (.tuple #[.pointer none, .int .i64 (newE bs.length many pa ps qa qs)]) ∧ Below w.heap.size w w' := by
  have hB0 := bal2' w (.cells #[.int .i64 pa, .int .i64 ps] 49) (.cells #[.int .i64 qa, .int .i64 qs] 49)
  by_cases hm : many < 1 ∨ 512 < many
  · have e : newE bs.length many pa ps qa qs = 1 := by rw [newE, if_pos hm]
    rw [e]
    clear hM hn e
    have HB := hi hB0
    clear hB0
    by_cases hm1 : many < 1
    · clear hm
      go_enter Tryd.func20, Tryd.ntmps20
      go_wp2
      go_ret2
      exact ⟨rfl, HB.out⟩
    · have hm2 : 512 < many := by omega
      have hm3 : ¬ many < 1 := hm1
      clear hm hm1
      go_enter Tryd.func20, Tryd.ntmps20
      go_wp2
      go_ret2
      exact ⟨rfl, HB.out⟩
  · have e0 : fitB bs.length many pa ps qa qs = false := by
      cases e : fitB bs.length many pa ps qa qs
      · rfl
      · rw [newE, if_neg hm, if_pos e] at hn; exact absurd rfl hn
    have e : newE bs.length many pa ps qa qs = 42 := by rw [newE, if_neg hm, if_neg (by rw [e0]; simp)]
    rw [e]
    obtain ⟨r1, hr1⟩ : ∃ r, (holdsB bs.length pa ps && decide (many ≤ ps)) = r := ⟨_, rfl⟩
    have m1 : ¬ many < 1 := by omega
    have m2 : ¬ 512 < many := by omega
    have hw1 : IntKind.i64.wrap (many + 8) = many + 8 := by rw [IntKind.wrap_i64]; omega
    have hw2 : IntKind.i64.wrap (many + 8 - 1) = many + 7 := by rw [IntKind.wrap_i64]; omega
    have hw3 : wrap64 ((many + 7).tdiv 8) = (many + 7) / 8 := by rw [Int.tdiv_eq_ediv_of_nonneg (by omega)]; simp only [wrap64]; omega
    have c1 := (CB.new w 49 #[.int .i64 pa, .int .i64 ps]).alloc (.cells #[.int .i64 qa, .int .i64 qs] 49)
    have c2 := CB.new (w.alloc (.cells #[.int .i64 pa, .int .i64 ps] 49)) 49 #[.int .i64 qa, .int .i64 qs]
    rw [World.size_alloc] at c2
    have HC := hi (And.intro c1 (And.intro c2 (And.intro (hM.below hB0) hB0)))
    have HF1 := hi (fun W hW => fit_is p g cp bs pa ps many r1 hr1 h1 h2 W hW)
    clear hm hn e c1 c2 hB0
    cases r1
    · have q0 := HC.out.1.cell 0
      have q1 := HC.out.1.cell 1
      clear e0 hr1 hM
      go_enter Tryd.func20, Tryd.ntmps20
      go_wp2_with (go_at_call 64; ((with_reducible refine (HF1.out _ HC.out.2.2.1).mono ?_); rintro e w1 ⟨rfl, hb1⟩; have HB1 := hi (HC.out.2.2.2.more hb1); clear hb1))
      go_ret2
      exact ⟨rfl, HB1.out⟩
    · have hr2 : (holdsB bs.length qa qs && decide ((many + 7) / 8 ≤ qs)) = false := by rw [fitB, hr1, Bool.true_and] at e0; exact e0
      have HF2 := hi (fun W hW => fit_is p g cp bs qa qs ((many + 7) / 8) false hr2 h3 h4 W hW)
      have q0 := HC.out.1.cell 0
      have q1 := HC.out.1.cell 1
      clear e0 hr1 hr2 hM
      go_enter Tryd.func20, Tryd.ntmps20
      go_wp2_with (first
        | (go_at_call 64; ((with_reducible refine (HF1.out _ HC.out.2.2.1).mono ?_); rintro e w1 ⟨rfl, hb1⟩; have HB1 := hi (And.intro (HC.out.2.2.2.more hb1) (HC.out.2.2.1.below hb1)); clear q0 q1; have q0 := (HC.out.2.1.below hb1).cell 0; have q1 := (HC.out.2.1.below hb1).cell 1; clear hb1))
        | (go_at_call 64; ((with_reducible refine (HF2.out _ HB1.out.2).mono ?_); rintro e w2 ⟨rfl, hb2⟩; have HB2 := hi (HB1.out.1.more hb2); clear hb2)))
      go_ret2
      exact ⟨rfl, HB2.out⟩

/-- A new part. -/
def newX (n pa ps qa qs : Nat) : St := ⟨false, n, pa, ps, qa, qs, fun _ => false, List.replicate n 0⟩
theorem newX_ok {L n pa ps qa qs : Nat} (h1 : 1 ≤ n) (h5 : n ≤ 512) (a1 : pa + ps ≤ L) (a2 : n ≤ ps) (b1 : qa + qs ≤ L) (b2 : n ≤ 8 * qs) (hL : L ≤ 131072) : (newX n pa ps qa qs).Ok L :=
  ⟨h1, h5, a1, a2, b1, b2, List.length_replicate .., fun c hc => by rw [List.eq_of_mem_replicate hc]; omega, fun _ _ => rfl, fun _ _ => rfl, hL⟩
theorem new_bytes (W : World) (n : Nat) : BytesAt (W.alloc (.cells (madeCells #[.int .u8 0] n) 5)) W.heap.size (List.replicate n 0) := by
  refine ⟨⟨[], ?_⟩, fun x hx => by rw [List.eq_of_mem_replicate hx]; omega⟩
  rw [heap_new]
  congr 2
  have h := made_u8 n
  simp only [Value.cells, Nat.mul_one] at h
  rw [List.append_nil, ← h]
/-- What the making keeps. -/
structure NwS (w : World) (pa ps qa qs : Nat) (W : World) : Prop where
  c0 : W.cell? ⟨w.heap.size, 0, none⟩ = some (.int .i64 pa)
  c1 : W.cell? ⟨w.heap.size, 1, none⟩ = some (.int .i64 ps)
  c2 : W.cell? ⟨w.heap.size + 1, 0, none⟩ = some (.int .i64 qa)
  c3 : W.cell? ⟨w.heap.size + 1, 1, none⟩ = some (.int .i64 qs)
  below : Below w.heap.size w W
theorem NwS.later {w W W' : World} {pa ps qa qs : Nat} (h : NwS w pa ps qa qs W) (k : Below W.heap.size W W') : NwS w pa ps qa qs W' :=
  have l1 := World.block_lt_of_cell? W _ h.c1
  have l2 := World.block_lt_of_cell? W _ h.c2
  ⟨(k.cell (p := ⟨w.heap.size, 0, none⟩) l1).trans h.c0, (k.cell (p := ⟨w.heap.size, 1, none⟩) l1).trans h.c1, (k.cell (p := ⟨w.heap.size + 1, 0, none⟩) l2).trans h.c2, (k.cell (p := ⟨w.heap.size + 1, 1, none⟩) l2).trans h.c3, h.below.more k⟩
theorem new_fin {w W : World} {n pa ps qa qs s c : Nat} (b : Below w.heap.size w W) (hr : RowAt 120 W s S0) (hb : BytesAt W c (List.replicate n 0)) (hs : w.heap.size ≤ s) (hc : w.heap.size ≤ c) (hn : n ≤ 512) :
    ∃ l s' c', Ending.returned (.tuple #[.pointer (some ⟨W.heap.size, 0, none⟩), .int .i64 0]) = .returned (.tuple #[.pointer (some ⟨l, 0, none⟩), .int .i64 0]) ∧ LpB (W.alloc (.cells (lpCs (newX n pa ps qa qs) s c n) 92)) l s' c' n S0 (newX n pa ps qa qs) ∧ w.heap.size ≤ l ∧ w.heap.size ≤ s' ∧ w.heap.size ≤ c' ∧ Below w.heap.size w (W.alloc (.cells (lpCs (newX n pa ps qa qs) s c n) 92)) :=
  ⟨_, s, c, rfl, ⟨CB.new W _ _, hr.below (bal W _), SetIs.none (fun _ => rfl), hb.of_block ((bal W _).block c hb.lt), List.length_replicate .., ⟨Nat.le_refl _, by unfold maxLen; omega⟩⟩, b.size, hs, hc, b.more (bal W _)⟩
set_option maxRecDepth 100000 in
set_option maxHeartbeats 4000000 in
theorem new_yes_lpi (p g cp : Nat) (bs : List Nat) (n pa ps qa qs : Nat) (hn1 : 1 ≤ n) (hn5 : n ≤ 512) (a1 : pa + ps ≤ bs.length) (a2 : n ≤ ps) (b1 : qa + qs ≤ bs.length) (b2 : n ≤ 8 * qs) (w : World) (hM : MemAt 96 w p g cp bs) :
    Calls Tryd.prog 20 #[.pointer (some ⟨p, 0, none⟩), .int .i64 n, .agg #[.int .i64 pa, .int .i64 ps], .agg #[.int .i64 qa, .int .i64 qs]] w fun e w' => ∃ l s c, e = .returned (.tuple #[.pointer (some ⟨l, 0, none⟩), .int .i64 0]) ∧ LpB w' l s c n S0 (newX n pa ps qa qs) ∧ w.heap.size ≤ l ∧ w.heap.size ≤ s ∧ w.heap.size ≤ c ∧ Below w.heap.size w w' := by
  have hlen := hM.len
  have hB0 := bal2' w (.cells #[.int .i64 pa, .int .i64 ps] 49) (.cells #[.int .i64 qa, .int .i64 qs] 49)
  have m1 : ¬ (n : Int) < 1 := by omega
  have m2 : ¬ 512 < (n : Int) := by omega
  have hw1 : IntKind.i64.wrap ((n : Int) + 8) = (n : Int) + 8 := by rw [IntKind.wrap_i64]; omega
  have hw2 : IntKind.i64.wrap ((n : Int) + 8 - 1) = (n : Int) + 7 := by rw [IntKind.wrap_i64]; omega
  have hw3 : wrap64 (((n : Int) + 7).tdiv 8) = ((n : Int) + 7) / 8 := by rw [Int.tdiv_eq_ediv_of_nonneg (by omega)]; simp only [wrap64]; omega
  have c1 := (CB.new w 49 #[.int .i64 pa, .int .i64 ps]).alloc (.cells #[.int .i64 qa, .int .i64 qs] 49)
  have c2 := CB.new (w.alloc (.cells #[.int .i64 pa, .int .i64 ps] 49)) 49 #[.int .i64 qa, .int .i64 qs]
  rw [World.size_alloc] at c2
  have HC := hi (And.intro c1 (And.intro c2 (And.intro (hM.below hB0) hB0)))
  have HF1 := hi (fun W hW => fit_is p g cp bs pa ps n true (by have h : holdsB bs.length (pa : Int) (ps : Int) = true := (by simp only [holdsB, decide_eq_true_eq]; omega); rw [h, decide_eq_true (by omega)]; rfl) (by omega) (by omega) W hW)
  have HF2 := hi (fun W hW => fit_is p g cp bs qa qs (((n : Int) + 7) / 8) true (by have h : holdsB bs.length (qa : Int) (qs : Int) = true := (by simp only [holdsB, decide_eq_true_eq]; omega); rw [h, decide_eq_true (by omega)]; rfl) (by omega) (by omega) W hW)
  have hmk := run_make_row' (P := Tryd.prog) 22 5 (.int .u8 0) 1 Tryd.underlying22 info_u8 rfl .i64 .i64 n (by omega) (by omega)
  have HMK := hi hmk
  have HOF := hi (fun W => of_none W)
  have HN := hi (And.intro hn1 (And.intro hn5 (And.intro a1 (And.intro a2 (And.intro b1 b2)))))
  have q0 := HC.out.1.cell 0
  have q1 := HC.out.1.cell 1
  clear c1 c2 hB0 hM a1 a2 b1 b2 hlen
  go_enter Tryd.func20, Tryd.ntmps20
  go_wp2_with (first
    | (go_at_call 64; ((with_reducible refine (HF1.out _ HC.out.2.2.1).mono ?_); rintro e w1 ⟨rfl, hb1⟩; have HB1 := hi (And.intro (HC.out.2.2.2.more hb1) (And.intro (HC.out.2.2.1.below hb1) (And.intro (HC.out.1.below hb1) (HC.out.2.1.below hb1)))); clear q0 q1; have q0 := HB1.out.2.2.2.cell 0; have q1 := HB1.out.2.2.2.cell 1; clear hb1))
    | (go_at_call 64; ((with_reducible refine (HF2.out _ HB1.out.2.1).mono ?_); rintro e w2 ⟨rfl, hb2⟩; have HB2 := hi (And.intro (HB1.out.1.more hb2) (And.intro (HB1.out.2.2.1.below hb2) (HB1.out.2.2.2.below hb2))); clear q0 q1 hb2)))
  have K0 : NwS w pa ps qa qs w2 := ⟨HB2.out.2.1.cell 0, HB2.out.2.1.cell 1, HB2.out.2.2.cell 0, HB2.out.2.2.cell 1, HB2.out.1⟩
  have hvz := HB2.out.1.size
  have hx5 := HN.out.2.1
  refine wp_region_noPanic ?_
  refine wp_region_last_drew (S := (fun W => NwS w pa ps qa qs W)) [] (by kernel_rfl) (K0.later (below_dr _)) (fun hHeld => ?_)
  (try simp only [Array.replicate_succ, Array.replicate_zero, List.push_toArray, List.nil_append, List.cons_append])
  refine wpAnyF_take (i := 0) (v := ?_) (by kernel_rfl) (by kernel_rfl) rfl (by kernel_rfl) (by kernel_rfl) (by kernel_rfl) (fun _ _ _ h => h) (Or.inl ⟨by rfl, ?_⟩) (by assumption) ?_
  rotate_left
  · intro w' hSw; (try dsimp only at hSw); obtain ⟨p0, p1, p2, p3, _q⟩ := hSw; clear _q; go_simp; (try with_reducible rfl)
  (try simp only [Act.put, List.getElem_toArray, List.getElem_cons_zero, List.getElem_cons_succ, List.setIfInBounds_toArray, List.set_cons_zero, List.set_cons_succ])
  refine wpAnyF_take (i := 1) (v := ?_) (by kernel_rfl) (by kernel_rfl) rfl (by kernel_rfl) (by kernel_rfl) (by kernel_rfl) (fun _ _ _ h => h) (Or.inl ⟨by rfl, ?_⟩) (by assumption) ?_
  rotate_left
  · intro w' hSw; (try dsimp only at hSw); obtain ⟨p0, p1, p2, p3, _q⟩ := hSw; clear _q; go_simp; (try with_reducible rfl)
  (try simp only [Act.put, List.getElem_toArray, List.getElem_cons_zero, List.getElem_cons_succ, List.setIfInBounds_toArray, List.set_cons_zero, List.set_cons_succ])
  refine wpAnyF_take (i := 3) (v := ?_) (by kernel_rfl) (by kernel_rfl) rfl (by kernel_rfl) (by kernel_rfl) (by kernel_rfl) (fun _ _ _ h => h) (Or.inl ⟨by rfl, ?_⟩) (by assumption) ?_
  rotate_left
  · intro w' hSw; (try dsimp only at hSw); clear hSw; go_simp; (try with_reducible rfl)
  (try simp only [Act.put, List.getElem_toArray, List.getElem_cons_zero, List.getElem_cons_succ, List.setIfInBounds_toArray, List.set_cons_zero, List.set_cons_succ])
  refine wpAnyF_ready (rs := [2, 4]) (by kernel_rfl) (by simp) ?_
  refine (AllReadyF.cons rfl (fun KK hKK => ?_) (AllReadyF.cons rfl (fun KK hKK => ?_) AllReadyF.nil))
  · go_simp
    ((with_reducible refine (HOF.out _).mono ?_); rintro e' w5 ⟨rfl, hr5, hb5⟩; have hSS := hHeld.later hb5; have hfin := new_fin (w := w) (W := w5.alloc (.cells (madeCells #[.int .u8 0] n) 5)) (n := n) (pa := pa) (ps := ps) (qa := qa) (qs := qs) (s := w2.heap.size) (c := w5.heap.size) (hSS.below.more (bal _ _)) (hr5.below (bal _ _)) (new_bytes w5 n) hvz hSS.below.size hx5; simp only [World.size_alloc] at hfin; have HFIN := hi hfin; clear hfin; have HA5 := hi hSS; clear hb5 hr5)
    (try go_simp)
    refine hKK.out _ _ hSS (fun hHeld => ?_)
    clear hKK KK
    (try simp only [Act.put, List.getElem_toArray, List.getElem_cons_zero, List.getElem_cons_succ, List.setIfInBounds_toArray, List.set_cons_zero, List.set_cons_succ])
    refine wpAnyF_ready (rs := [4]) (by kernel_rfl) (by simp) ?_
    refine AllReadyF.cons rfl (fun KK hKK => ?_) AllReadyF.nil
    go_simp
    have hmk := HMK.out
    refine hKK.out _ _ (HA5.out.later (bal _ _)) (fun hHeld => ?_)
    clear hKK KK
    (try simp only [Act.put, List.getElem_toArray, List.getElem_cons_zero, List.getElem_cons_succ, List.setIfInBounds_toArray, List.set_cons_zero, List.set_cons_succ])
    refine wpAnyF_take (i := 5) (v := ?_) (by kernel_rfl) (by kernel_rfl) rfl (by kernel_rfl) (by kernel_rfl) (by kernel_rfl) (fun _ _ _ h => h) (Or.inl ⟨by rfl, ?_⟩) (by assumption) ?_
    rotate_left
    · intro w' hSw; (try dsimp only at hSw); clear hSw; go_simp; (try with_reducible rfl)
    (try simp only [Act.put, List.getElem_toArray, List.getElem_cons_zero, List.getElem_cons_succ, List.setIfInBounds_toArray, List.set_cons_zero, List.set_cons_succ])
    refine wpAnyF_ready (rs := [6]) (by kernel_rfl) (by simp) ?_
    refine AllReadyF.cons rfl (fun KK hKK => ?_) AllReadyF.nil
    go_simp
    refine hKK.out _ _ ((HA5.out.later (bal _ _)).later (bal _ _)) (fun hHeld => ?_)
    clear hKK KK
    (try simp only [Act.put, List.getElem_toArray, List.getElem_cons_zero, List.getElem_cons_succ, List.setIfInBounds_toArray, List.set_cons_zero, List.set_cons_succ])
    refine wpAnyF_take (i := 7) (v := ?_) (by kernel_rfl) (by kernel_rfl) rfl (by kernel_rfl) (by kernel_rfl) (by kernel_rfl) (fun _ _ _ h => h) (Or.inl ⟨by rfl, ?_⟩) (by assumption) ?_
    rotate_left
    · intro w' hSw; (try dsimp only at hSw); clear hSw; go_simp; (try with_reducible rfl)
    (try simp only [Act.put, List.getElem_toArray, List.getElem_cons_zero, List.getElem_cons_succ, List.setIfInBounds_toArray, List.set_cons_zero, List.set_cons_succ])
    refine wpAnyF_take (i := 8) (v := ?_) (by kernel_rfl) (by kernel_rfl) rfl (by kernel_rfl) (by kernel_rfl) (by kernel_rfl) (fun _ _ _ h => h) (Or.inl ⟨by rfl, ?_⟩) (by assumption) ?_
    rotate_left
    · intro w' hSw; (try dsimp only at hSw); clear hSw; go_simp; (try with_reducible rfl)
    (try simp only [Act.put, List.getElem_toArray, List.getElem_cons_zero, List.getElem_cons_succ, List.setIfInBounds_toArray, List.set_cons_zero, List.set_cons_succ])
    refine wpAnyF_done (by kernel_rfl) ?_ _
    refine NoPanic.normal ?_
    go_wp2
    go_ret2
    exact HFIN.out
  · go_simp
    have hmk := HMK.out
    have hnb := new_bytes w2.drew n
    refine hKK.out _ _ (hHeld.later (bal _ _)) (fun hHeld => ?_)
    clear hKK KK
    (try simp only [Act.put, List.getElem_toArray, List.getElem_cons_zero, List.getElem_cons_succ, List.setIfInBounds_toArray, List.set_cons_zero, List.set_cons_succ])
    refine wpAnyF_ready (rs := [2]) (by kernel_rfl) (by simp) ?_
    refine AllReadyF.cons rfl (fun KK hKK => ?_) AllReadyF.nil
    go_simp
    ((with_reducible refine (HOF.out _).mono ?_); rintro e' w5 ⟨rfl, hr5, hb5⟩; have hSS := hHeld.later hb5; have HFIN := hi (new_fin (w := w) (W := w5) (n := n) (pa := pa) (ps := ps) (qa := qa) (qs := qs) (s := w2.heap.size + 1) (c := w2.heap.size) hSS.below (by simpa using hr5) (hnb.of_block (hb5.block _ hnb.lt)) (by omega) hvz hx5); have HA5 := hi hSS; clear hb5 hr5)
    (try go_simp)
    refine hKK.out _ _ hSS (fun hHeld => ?_)
    clear hKK KK
    (try simp only [Act.put, List.getElem_toArray, List.getElem_cons_zero, List.getElem_cons_succ, List.setIfInBounds_toArray, List.set_cons_zero, List.set_cons_succ])
    refine wpAnyF_take (i := 5) (v := ?_) (by kernel_rfl) (by kernel_rfl) rfl (by kernel_rfl) (by kernel_rfl) (by kernel_rfl) (fun _ _ _ h => h) (Or.inl ⟨by rfl, ?_⟩) (by assumption) ?_
    rotate_left
    · intro w' hSw; (try dsimp only at hSw); clear hSw; go_simp; (try with_reducible rfl)
    (try simp only [Act.put, List.getElem_toArray, List.getElem_cons_zero, List.getElem_cons_succ, List.setIfInBounds_toArray, List.set_cons_zero, List.set_cons_succ])
    refine wpAnyF_ready (rs := [6]) (by kernel_rfl) (by simp) ?_
    refine AllReadyF.cons rfl (fun KK hKK => ?_) AllReadyF.nil
    go_simp
    refine hKK.out _ _ (HA5.out.later (bal _ _)) (fun hHeld => ?_)
    clear hKK KK
    (try simp only [Act.put, List.getElem_toArray, List.getElem_cons_zero, List.getElem_cons_succ, List.setIfInBounds_toArray, List.set_cons_zero, List.set_cons_succ])
    refine wpAnyF_take (i := 7) (v := ?_) (by kernel_rfl) (by kernel_rfl) rfl (by kernel_rfl) (by kernel_rfl) (by kernel_rfl) (fun _ _ _ h => h) (Or.inl ⟨by rfl, ?_⟩) (by assumption) ?_
    rotate_left
    · intro w' hSw; (try dsimp only at hSw); clear hSw; go_simp; (try with_reducible rfl)
    (try simp only [Act.put, List.getElem_toArray, List.getElem_cons_zero, List.getElem_cons_succ, List.setIfInBounds_toArray, List.set_cons_zero, List.set_cons_succ])
    refine wpAnyF_take (i := 8) (v := ?_) (by kernel_rfl) (by kernel_rfl) rfl (by kernel_rfl) (by kernel_rfl) (by kernel_rfl) (fun _ _ _ h => h) (Or.inl ⟨by rfl, ?_⟩) (by assumption) ?_
    rotate_left
    · intro w' hSw; (try dsimp only at hSw); clear hSw; go_simp; (try with_reducible rfl)
    (try simp only [Act.put, List.getElem_toArray, List.getElem_cons_zero, List.getElem_cons_succ, List.setIfInBounds_toArray, List.set_cons_zero, List.set_cons_succ])
    refine wpAnyF_done (by kernel_rfl) ?_ _
    refine NoPanic.normal ?_
    go_wp2
    go_ret2
    exact HFIN.out

end Go.Proofs.YtobhdjepfhbgaaaDoor
