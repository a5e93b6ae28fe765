/-
  The document's New.
-/
import Derived.Test.YtobhdjepfhbgaaaDoorLrC
namespace Go.Proofs.YtobhdjepfhbgaaaDoor
open Go.ChangeShapes Go.WideShapes Go.ChangeAt Go.RowKit Go.Shelf
set_option linter.unusedVariables false
set_option linter.unusedSimpArgs false

set_option maxRecDepth 100000 in
set_option maxHeartbeats 4000000 in
theorem rnew_no (q h cq : Nat) (bs : List Nat) (many pa ps qa qs : Int) (h1 : i64B pa) (h2 : i64B ps) (h3 : i64B qa) (h4 : i64B qs) (w : World) (hM : MemAt 107 w q h cq bs) (hn : newE bs.length many pa ps qa qs ≠ 0) :
    Calls Tryd.prog 21 #[.pointer (some ⟨q, 0, none⟩), .int .i64 many, .agg #[.int .i64 pa, .int .i64 ps], .agg #[.int .i64 qa, .int .i64 qs]] w fun e w' => e = .returned (.tuple #[.pointer none, .int .i64 (newE bs.length many pa ps qa qs)]) ∧ Below w.heap.size w w' := by
  have hB0 := bal2' w (.cells #[.int .i64 pa, .int .i64 ps] 49) (.cells #[.int .i64 qa, .int .i64 qs] 49)
  by_cases hm : many < 1 ∨ 512 < many
  · have e : newE bs.length many pa ps qa qs = 1 := by rw [newE, if_pos hm]
    rw [e]
    clear hM hn e
    have HB := hi hB0
    clear hB0
    by_cases hm1 : many < 1
    · clear hm
      go_enter Tryd.func21, Tryd.ntmps21
      go_wp2
      go_ret2
      exact ⟨rfl, HB.out⟩
    · have hm2 : 512 < many := by omega
      have hm3 : ¬ many < 1 := hm1
      clear hm hm1
      go_enter Tryd.func21, Tryd.ntmps21
      go_wp2
      go_ret2
      exact ⟨rfl, HB.out⟩
  · have e0 : fitB bs.length many pa ps qa qs = false := by
      cases e : fitB bs.length many pa ps qa qs
      · rfl
      · rw [newE, if_neg hm, if_pos e] at hn; exact absurd rfl hn
    have e : newE bs.length many pa ps qa qs = 42 := by rw [newE, if_neg hm, if_neg (by rw [e0]; simp)]
    rw [e]
    have hlen := hM.len
    obtain ⟨r1, hr1⟩ : ∃ r, holdsB bs.length pa ps = r := ⟨_, rfl⟩
    obtain ⟨r2, hr2⟩ : ∃ r, holdsB bs.length qa qs = r := ⟨_, rfl⟩
    have m1 : ¬ many < 1 := by omega
    have m2 : ¬ 512 < many := by omega
    have c1 := (CB.new w 49 #[.int .i64 pa, .int .i64 ps]).alloc (.cells #[.int .i64 qa, .int .i64 qs] 49)
    have c2 := CB.new (w.alloc (.cells #[.int .i64 pa, .int .i64 ps] 49)) 49 #[.int .i64 qa, .int .i64 qs]
    rw [World.size_alloc] at c2
    have HC := hi (And.intro c1 (And.intro c2 (And.intro (hM.below hB0) hB0)))
    have HF1 := hi (fun W hW => rholds_E q h cq bs pa ps r1 hr1 W hW h1.1 h1.2 h2.1 h2.2)
    have HF2 := hi (fun W hW => rholds_E q h cq bs qa qs r2 hr2 W hW h3.1 h3.2 h4.1 h4.2)
    have q0 := HC.out.1.cell 0
    have q1 := HC.out.1.cell 1
    cases r1
    · clear hm hn e c1 c2 hB0 e0 hr1 hr2 hM
      go_enter Tryd.func21, Tryd.ntmps21
      go_wp2_with (go_at_call 65; ((with_reducible refine (HF1.out _ HC.out.2.2.1).mono ?_); rintro e w1 ⟨rfl, hb1⟩; have HB1 := hi (HC.out.2.2.2.more hb1); clear hb1))
      go_ret2
      exact ⟨rfl, HB1.out⟩
    · have A1 : True := trivial
      cases r2
      · clear hm hn e c1 c2 hB0 e0 hr1 hr2 hM
        go_enter Tryd.func21, Tryd.ntmps21
        go_wp2_with (first
          | (go_at_call 65; ((with_reducible refine (HF1.out _ HC.out.2.2.1).mono ?_); rintro e w1 ⟨rfl, hb1⟩; have HB1 := hi (And.intro (HC.out.2.2.2.more hb1) (HC.out.2.2.1.below hb1)); clear q0 q1; have q0 := (HC.out.2.1.below hb1).cell 0; have q1 := (HC.out.2.1.below hb1).cell 1; clear hb1))
          | (go_at_call 65; ((with_reducible refine (HF2.out _ HB1.out.2).mono ?_); rintro e w2 ⟨rfl, hb2⟩; have HB2 := hi (HB1.out.1.more hb2); clear hb2)))
        go_ret2
        exact ⟨rfl, HB2.out⟩
      · have hcc : ps < many ∨ (¬ ps < many ∧ 8 * qs < many) := by
          rw [fitB, hr1, hr2, Bool.true_and, Bool.true_and] at e0
          by_cases g1 : ps < many
          · exact .inl g1
          · refine .inr ⟨g1, ?_⟩
            rw [decide_eq_true (show many ≤ ps by omega), Bool.true_and] at e0
            have := of_decide_eq_false e0
            omega
        have hq9 : 0 ≤ qs ∧ qs ≤ 131072 := by
          have := holdsB_out hr2
          obtain ⟨A', S', rfl, rfl, h9⟩ := this
          omega
        have hw8 : IntKind.i64.wrap (8 * qs) = 8 * qs := by rw [IntKind.wrap_i64]; omega
        clear hm hn e c1 c2 hB0 e0 hr1 hr2 hM
        rcases hcc with g1 | ⟨g1, g2⟩
        · go_enter Tryd.func21, Tryd.ntmps21
          go_wp2_with (first
            | (go_at_call 65; ((with_reducible refine (HF1.out _ HC.out.2.2.1).mono ?_); rintro e w1 ⟨rfl, hb1⟩; have HB1 := hi (And.intro (HC.out.2.2.2.more hb1) (And.intro (HC.out.2.2.1.below hb1) (HC.out.1.below hb1))); clear q0 q1; have q0 := (HC.out.2.1.below hb1).cell 0; have q1 := (HC.out.2.1.below hb1).cell 1; clear hb1))
            | (go_at_call 65; ((with_reducible refine (HF2.out _ HB1.out.2.1).mono ?_); rintro e w2 ⟨rfl, hb2⟩; have HB2 := hi (HB1.out.1.more hb2); clear q0 q1; have q1 := (HB1.out.2.2.below hb2).cell 1; clear hb2)))
          go_ret2
          exact ⟨rfl, HB2.out⟩
        · go_enter Tryd.func21, Tryd.ntmps21
          go_wp2_with (first
            | (go_at_call 65; ((with_reducible refine (HF1.out _ HC.out.2.2.1).mono ?_); rintro e w1 ⟨rfl, hb1⟩; have HB1 := hi (And.intro (HC.out.2.2.2.more hb1) (And.intro (HC.out.2.2.1.below hb1) (And.intro (HC.out.1.below hb1) (HC.out.2.1.below hb1)))); clear q0 q1; have q0 := HB1.out.2.2.2.cell 0; have q1 := HB1.out.2.2.2.cell 1; clear hb1))
            | (go_at_call 65; ((with_reducible refine (HF2.out _ HB1.out.2.1).mono ?_); rintro e w2 ⟨rfl, hb2⟩; have HB2 := hi (HB1.out.1.more hb2); clear q0 q1; have q1 := (HB1.out.2.2.1.below hb2).cell 1; have z1 := (HB1.out.2.2.2.below hb2).cell 1; clear hb2)))
          go_ret2
          exact ⟨rfl, HB2.out⟩

theorem rnew_fin {w W : World} {n pa ps qa qs f : Nat} (b : Below w.heap.size w W) (hb : BytesAt W f (List.replicate n 0)) (hf : w.heap.size ≤ f) (hn : n ≤ 512) :
    ∃ d f', Ending.returned (.tuple #[.pointer (some ⟨W.heap.size, 0, none⟩), .int .i64 0]) = .returned (.tuple #[.pointer (some ⟨d, 0, none⟩), .int .i64 0]) ∧ LdB (W.alloc (.cells (ldCs (newX n pa ps qa qs) false f n (.slice none 0 0)) 86)) d f' n (.slice none 0 0) (newX n pa ps qa qs) ∧ w.heap.size ≤ d ∧ w.heap.size ≤ f' ∧ Below w.heap.size w (W.alloc (.cells (ldCs (newX n pa ps qa qs) false f n (.slice none 0 0)) 86)) :=
  ⟨_, f, rfl, ⟨CB.new W _ _, hb.of_block ((bal W _).block f hb.lt), List.length_replicate .., ⟨Nat.le_refl _, by unfold maxLen; omega⟩, by
    show IntsAt _ _ (ints (lst (fun _ => false) n))
    rw [lst_none (fun _ => rfl)]
    exact ⟨none, 0, rfl, ⟨Nat.zero_le _, Nat.zero_le _⟩, fun h => absurd rfl h⟩⟩, b.size, hf, b.more (bal W _)⟩
set_option maxRecDepth 100000 in
set_option maxHeartbeats 4000000 in
theorem rnew_yes (q h cq : Nat) (bs : List Nat) (n pa ps qa qs : Nat) (hn1 : 1 ≤ n) (hn5 : n ≤ 512) (a1 : pa + ps ≤ bs.length) (a2 : n ≤ ps) (b1 : qa + qs ≤ bs.length) (b2 : n ≤ 8 * qs) (w : World) (hM : MemAt 107 w q h cq bs) :
    Calls Tryd.prog 21 #[.pointer (some ⟨q, 0, none⟩), .int .i64 n, .agg #[.int .i64 pa, .int .i64 ps], .agg #[.int .i64 qa, .int .i64 qs]] w fun e w' => ∃ d f, e = .returned (.tuple #[.pointer (some ⟨d, 0, none⟩), .int .i64 0]) ∧ LdB w' d f n (.slice none 0 0) (newX n pa ps qa qs) ∧ w.heap.size ≤ d ∧ w.heap.size ≤ f ∧ Below w.heap.size w w' := by
  have hlen := hM.len
  have hB0 := bal2' w (.cells #[.int .i64 pa, .int .i64 ps] 49) (.cells #[.int .i64 qa, .int .i64 qs] 49)
  have m1 : ¬ (n : Int) < 1 := by omega
  have m2 : ¬ 512 < (n : Int) := by omega
  have c1 := (CB.new w 49 #[.int .i64 pa, .int .i64 ps]).alloc (.cells #[.int .i64 qa, .int .i64 qs] 49)
  have c2 := CB.new (w.alloc (.cells #[.int .i64 pa, .int .i64 ps] 49)) 49 #[.int .i64 qa, .int .i64 qs]
  rw [World.size_alloc] at c2
  have HC := hi (And.intro c1 (And.intro c2 (And.intro (hM.below hB0) hB0)))
  have HF1 := hi (fun W hW => rholds_E q h cq bs pa ps true (by simp only [holdsB, decide_eq_true_eq]; omega) W hW (by omega) (by omega) (by omega) (by omega))
  have HF2 := hi (fun W hW => rholds_E q h cq bs qa qs true (by simp only [holdsB, decide_eq_true_eq]; omega) W hW (by omega) (by omega) (by omega) (by omega))
  have hmk := run_make_row' (P := Tryd.prog) 22 5 (.int .u8 0) 1 Tryd.underlying22 info_u8 rfl .i64 .i64 n (by omega) (by omega)
  have HMK := hi hmk
  have hw8 : IntKind.i64.wrap (8 * (qs : Int)) = 8 * (qs : Int) := by rw [IntKind.wrap_i64]; omega
  have g1 : ¬ (ps : Int) < (n : Int) := by omega
  have g2 : ¬ 8 * (qs : Int) < (n : Int) := by omega
  have q0 := HC.out.1.cell 0
  have q1 := HC.out.1.cell 1
  clear c1 c2 hB0 hM a1 a2 b1 b2 hlen
  go_enter Tryd.func21, Tryd.ntmps21
  go_wp2_with (first
    | (go_at_call 65; ((with_reducible refine (HF1.out _ HC.out.2.2.1).mono ?_); rintro e w1 ⟨rfl, hb1⟩; have HB1 := hi (And.intro (HC.out.2.2.2.more hb1) (And.intro (HC.out.2.2.1.below hb1) (And.intro (HC.out.1.below hb1) (HC.out.2.1.below hb1)))); clear q0 q1; have q0 := HB1.out.2.2.2.cell 0; have q1 := HB1.out.2.2.2.cell 1; clear hb1))
    | (go_at_call 65; ((with_reducible refine (HF2.out _ HB1.out.2.1).mono ?_); rintro e w2 ⟨rfl, hb2⟩; have HB2 := hi (And.intro (HB1.out.1.more hb2) (And.intro (HB1.out.2.2.1.below hb2) (HB1.out.2.2.2.below hb2))); clear q0 q1; have q1 := HB2.out.2.1.cell 1; have z1 := HB2.out.2.2.cell 1; clear hb2)))
  have K0 : NwS w pa ps qa qs w2 := ⟨HB2.out.2.1.cell 0, HB2.out.2.1.cell 1, HB2.out.2.2.cell 0, HB2.out.2.2.cell 1, HB2.out.1⟩
  have hvz := HB2.out.1.size
  refine wp_region_noPanic ?_
  refine wp_region_last_drew (S := (fun W => NwS w pa ps qa qs W)) [] (by kernel_rfl) (K0.later (below_dr _)) (fun hHeld => ?_)
  (try simp only [Array.replicate_succ, Array.replicate_zero, List.push_toArray, List.nil_append, List.cons_append])
  refine wpAnyF_take (i := 0) (v := ?_) (by kernel_rfl) (by kernel_rfl) rfl (by kernel_rfl) (by kernel_rfl) (by kernel_rfl) (fun _ _ _ h => h) (Or.inl ⟨by rfl, ?_⟩) (by assumption) ?_
  rotate_left
  · intro w' hSw; (try dsimp only at hSw); clear hSw; go_simp; (try with_reducible rfl)
  (try simp only [Act.put, List.getElem_toArray, List.getElem_cons_zero, List.getElem_cons_succ, List.setIfInBounds_toArray, List.set_cons_zero, List.set_cons_succ])
  refine wpAnyF_take (i := 1) (v := ?_) (by kernel_rfl) (by kernel_rfl) rfl (by kernel_rfl) (by kernel_rfl) (by kernel_rfl) (fun _ _ _ h => h) (Or.inl ⟨by rfl, ?_⟩) (by assumption) ?_
  rotate_left
  · intro w' hSw; (try dsimp only at hSw); obtain ⟨p0, p1, p2, p3, _q⟩ := hSw; clear _q; go_simp; (try with_reducible rfl)
  (try simp only [Act.put, List.getElem_toArray, List.getElem_cons_zero, List.getElem_cons_succ, List.setIfInBounds_toArray, List.set_cons_zero, List.set_cons_succ])
  refine wpAnyF_take (i := 2) (v := ?_) (by kernel_rfl) (by kernel_rfl) rfl (by kernel_rfl) (by kernel_rfl) (by kernel_rfl) (fun _ _ _ h => h) (Or.inl ⟨by rfl, ?_⟩) (by assumption) ?_
  rotate_left
  · intro w' hSw; (try dsimp only at hSw); obtain ⟨p0, p1, p2, p3, _q⟩ := hSw; clear _q; go_simp; (try with_reducible rfl)
  (try simp only [Act.put, List.getElem_toArray, List.getElem_cons_zero, List.getElem_cons_succ, List.setIfInBounds_toArray, List.set_cons_zero, List.set_cons_succ])
  refine wpAnyF_take (i := 3) (v := ?_) (by kernel_rfl) (by kernel_rfl) rfl (by kernel_rfl) (by kernel_rfl) (by kernel_rfl) (fun _ _ _ h => h) (Or.inl ⟨by rfl, ?_⟩) (by assumption) ?_
  rotate_left
  · intro w' hSw; (try dsimp only at hSw); clear hSw; go_simp; (try with_reducible rfl)
  (try simp only [Act.put, List.getElem_toArray, List.getElem_cons_zero, List.getElem_cons_succ, List.setIfInBounds_toArray, List.set_cons_zero, List.set_cons_succ])
  refine wpAnyF_ready (rs := [4]) (by kernel_rfl) (by simp) ?_
  refine AllReadyF.cons rfl (fun KK hKK => ?_) AllReadyF.nil
  go_simp
  have hmk := HMK.out
  have hnb := new_bytes w2.drew n
  have hSS := hHeld.later (bal w2.drew (.cells (madeCells #[.int .u8 0] n) 5))
  have hfin := rnew_fin (w := w) (W := w2.drew.alloc (.cells (madeCells #[.int .u8 0] n) 5)) (n := n) (pa := pa) (ps := ps) (qa := qa) (qs := qs) (f := w2.heap.size) hSS.below hnb hvz hn5
  simp only [World.size_alloc] at hfin
  have HFIN := hi hfin
  have HA5 := hi hSS
  clear hfin hSS hnb
  refine hKK.out _ _ HA5.out (fun hHeld => ?_)
  clear hKK KK
  (try simp only [Act.put, List.getElem_toArray, List.getElem_cons_zero, List.getElem_cons_succ, List.setIfInBounds_toArray, List.set_cons_zero, List.set_cons_succ])
  refine wpAnyF_take (i := 5) (v := ?_) (by kernel_rfl) (by kernel_rfl) rfl (by kernel_rfl) (by kernel_rfl) (by kernel_rfl) (fun _ _ _ h => h) (Or.inl ⟨by rfl, ?_⟩) (by assumption) ?_
  rotate_left
  · intro w' hSw; (try dsimp only at hSw); clear hSw; go_simp; (try with_reducible rfl)
  (try simp only [Act.put, List.getElem_toArray, List.getElem_cons_zero, List.getElem_cons_succ, List.setIfInBounds_toArray, List.set_cons_zero, List.set_cons_succ])
  refine wpAnyF_ready (rs := [6]) (by kernel_rfl) (by simp) ?_
  refine AllReadyF.cons rfl (fun KK hKK => ?_) AllReadyF.nil
  go_simp
  refine hKK.out _ _ (HA5.out.later (bal _ _)) (fun hHeld => ?_)
  clear hKK KK
  (try simp only [Act.put, List.getElem_toArray, List.getElem_cons_zero, List.getElem_cons_succ, List.setIfInBounds_toArray, List.set_cons_zero, List.set_cons_succ])
  refine wpAnyF_take (i := 7) (v := ?_) (by kernel_rfl) (by kernel_rfl) rfl (by kernel_rfl) (by kernel_rfl) (by kernel_rfl) (fun _ _ _ h => h) (Or.inl ⟨by rfl, ?_⟩) (by assumption) ?_
  rotate_left
  · intro w' hSw; (try dsimp only at hSw); clear hSw; go_simp; (try with_reducible rfl)
  (try simp only [Act.put, List.getElem_toArray, List.getElem_cons_zero, List.getElem_cons_succ, List.setIfInBounds_toArray, List.set_cons_zero, List.set_cons_succ])
  refine wpAnyF_take (i := 8) (v := ?_) (by kernel_rfl) (by kernel_rfl) rfl (by kernel_rfl) (by kernel_rfl) (by kernel_rfl) (fun _ _ _ h => h) (Or.inl ⟨by rfl, ?_⟩) (by assumption) ?_
  rotate_left
  · intro w' hSw; (try dsimp only at hSw); clear hSw; go_simp; (try with_reducible rfl)
  (try simp only [Act.put, List.getElem_toArray, List.getElem_cons_zero, List.getElem_cons_succ, List.setIfInBounds_toArray, List.set_cons_zero, List.set_cons_succ])
  refine wpAnyF_done (by kernel_rfl) ?_ _
  refine NoPanic.normal ?_
  go_wp2
  go_ret2
  exact HFIN.out

end Go.Proofs.YtobhdjepfhbgaaaDoor
