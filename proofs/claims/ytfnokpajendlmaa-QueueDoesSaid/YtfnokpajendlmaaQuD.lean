/-
  Package queue: Head, Pass, SetWrite at every call.
-/
import Derived.Test.YtfnokpajendlmaaQuC
namespace Go.Proofs.Ytfnokpajendlmaa
open Go.ChangeShapes Go.WideShapes Go.ChangeAt Go.RowKit
set_option linter.unusedVariables false
set_option linter.unusedSimpArgs false

/-- A queue's box alone. -/
structure QK (w : World) (b : Nat) (q : Qu) (W : World) : Prop where
  q : CB W b 25 (Qu.cs q)
  kept : Kept (· = b) w W
theorem QK.refl {b : Nat} {q : Qu} {W : World} (h : CB W b 25 (Qu.cs q)) : QK W b q W := ⟨h, Kept.refl _ _⟩
theorem QK.later {w : World} {b : Nat} {q : Qu} {W W' : World} (h : QK w b q W) (k : Below W.heap.size W W') : QK w b q W' := ⟨h.q.below k, h.kept.below k⟩
theorem QK.put {w : World} {b : Nat} {q q' : Qu} {W : World} (h : QK w b q W) (j : Nat) (u : Value) (hq : (Qu.cs q).setIfInBounds j u = Qu.cs q') : QK w b q' (W.setCell ⟨b, j, none⟩ u) := by
  have := h.q.set j u
  rw [hq] at this
  exact ⟨this, h.kept.trans (kept_setCell W b j u)⟩
theorem QK.held {w : World} {b : Nat} {q : Qu} {W : World} (h : QK w b q W) : W.cell? ⟨b, 0, none⟩ = some (.int .i64 q.at_) ∧ W.cell? ⟨b, 1, none⟩ = some (.int .i64 q.size) ∧ W.cell? ⟨b, 2, none⟩ = some (.int .i64 q.read) ∧ W.cell? ⟨b, 3, none⟩ = some (.int .i64 q.write) :=
  ⟨h.q.cell 0, h.q.cell 1, h.q.cell 2, h.q.cell 3⟩

set_option maxRecDepth 100000 in
set_option maxHeartbeats 8000000 in
theorem head_any (p g cap : Nat) (bs : List Nat) (q : Qu) (w : World) (hM : MemAt 73 w p g cap bs) (hF : q.Fair) :
    Calls Try.prog 13 #[q.v, .pointer (some ⟨p, 0, none⟩)] w fun e w' => e = .returned (.tuple #[(headV bs q).v, .int .i64 (headE bs q)]) ∧ Below w.heap.size w w' := by
  have HLE := hi (fun W => left_q q hF.s.2 W)
  have HLD := hi (fun W hM => load_any p g cap bs q.at_ q.size q.read W hM hF.a hF.s hF.r)
  have HC := hi (show CB ((w.alloc (.cells (Qu.cs q) 25)).alloc (.cells #[.int .i64 0, .int .i64 0, .int .i64 0, .int .i64 0, .int .i64 0, .int .i64 0, .int .i64 0, .int .i64 0, .bool false] 36)) (w.heap.size + 1) 36 #[.int .i64 0, .int .i64 0, .int .i64 0, .int .i64 0, .int .i64 0, .int .i64 0, .int .i64 0, .int .i64 0, .bool false] ∧ CB ((w.alloc (.cells (Qu.cs q) 25)).alloc (.cells #[.int .i64 0, .int .i64 0, .int .i64 0, .int .i64 0, .int .i64 0, .int .i64 0, .int .i64 0, .int .i64 0, .bool false] 36)) w.heap.size 25 (Qu.cs q) ∧ Below w.heap.size w ((w.alloc (.cells (Qu.cs q) 25)).alloc (.cells #[.int .i64 0, .int .i64 0, .int .i64 0, .int .i64 0, .int .i64 0, .int .i64 0, .int .i64 0, .int .i64 0, .bool false] 36)) from And.intro cb_second (And.intro ((CB.new w _ _).alloc _) (bal_two w _ _)))
  have HM := hi hM
  have HV := hi (show headV bs q = if lefN q < 1 then Cm.zero else ldV bs q.at_ q.size q.read from rfl)
  have HE := hi (show headE bs q = if lefN q < 1 then 170 else ldE bs q.at_ q.size q.read from rfl)
  obtain ⟨hv, hhv⟩ : ∃ v, headV bs q = v := ⟨_, rfl⟩
  obtain ⟨he, hhe⟩ : ∃ v, headE bs q = v := ⟨_, rfl⟩
  obtain ⟨lv, hlv⟩ : ∃ v, ldV bs q.at_ q.size q.read = v := ⟨_, rfl⟩
  obtain ⟨le, hle⟩ : ∃ v, ldE bs q.at_ q.size q.read = v := ⟨_, rfl⟩
  obtain ⟨ln, hln⟩ : ∃ v, lefN q = v := ⟨_, rfl⟩
  rw [hlv, hle] at HLD
  rw [hhv, hlv, hln] at HV
  rw [hhe, hle, hln] at HE
  rw [hln] at HLE
  rw [hhv, hhe]
  clear hhv hhe hlv hle hln hF hM
  obtain ⟨a, s, r, v⟩ := q
  unfold win at HLD
  dsimp only at HLE HLD HC ⊢
  obtain ⟨c0, c1, c2, c3⟩ := CB.four HC.out.2.1
  by_cases hl : ln < 1
  · obtain rfl : hv = Cm.zero := by have := HV.out; rw [if_pos hl] at this; exact this
    obtain rfl : he = 170 := by have := HE.out; rw [if_pos hl] at this; exact this
    clear HV HE HLD
    go_enter Try.func13, Try.ntmps13
    go_wp2_with (go_at_call 15; ((with_reducible refine (HLE.out _).mono ?_); rintro e w1 ⟨rfl, hb1⟩; have H1 := hi (And.intro (HC.out.1.below hb1) (HC.out.2.2.trans (hb1.mono HC.out.2.2.size))); obtain ⟨r0, r1, r2, r3, r4, r5, r6, r7, r8⟩ := CB.nine H1.out.1; have rf := H1.out.1.frozen; have rz := H1.out.1.lt; clear hb1))
    exact bodyPost_ret (results_cmt rfl _ _ (w.heap.size + 1) _ _ _ _ _ _ _ _ _ _ rfl rfl (H1.out.1.set9 _ _ _ _ _ _ _ _ _)) rfl ⟨rfl, below_set9 H1.out.2 (by omega) _ _ _ _ _ _ _ _ _⟩
  · obtain rfl : hv = lv := by have := HV.out; rw [if_neg hl] at this; exact this
    obtain rfl : he = le := by have := HE.out; rw [if_neg hl] at this; exact this
    clear HV HE
    obtain ⟨d1, d2, d3, d4, d5, d6, d7, d8, d9⟩ := hv
    dsimp only [Cm.v] at HLD ⊢
    go_enter Try.func13, Try.ntmps13
    go_wp2_with (first
      | (go_at_call 15; ((with_reducible refine (HLE.out _).mono ?_); rintro e w1 ⟨rfl, hb1⟩; have H1 := hi (And.intro (HC.out.1.below hb1) (And.intro (HC.out.2.1.below hb1) (HC.out.2.2.trans (hb1.mono HC.out.2.2.size)))); clear hb1 c0 c1 c2 c3; obtain ⟨c0, c1, c2, c3⟩ := CB.four H1.out.2.1))
      | (go_at_call 34; ((with_reducible refine (HLD.out _ (HM.out.below H1.out.2.2)).mono ?_); rintro e w2 ⟨rfl, hb2⟩; have H2 := hi (And.intro (H1.out.1.below hb2) (H1.out.2.2.trans (hb2.mono H1.out.2.2.size))); obtain ⟨r0, r1, r2, r3, r4, r5, r6, r7, r8⟩ := CB.nine H2.out.1; have rf := H2.out.1.frozen; have rz := H2.out.1.lt; clear hb2 c0 c1 c2 c3)))
    exact bodyPost_ret (results_cmt rfl _ _ (w.heap.size + 1) _ _ _ _ _ _ _ _ _ _ rfl rfl (H2.out.1.set9 _ _ _ _ _ _ _ _ _)) rfl ⟨rfl, below_set9 H2.out.2 (by omega) _ _ _ _ _ _ _ _ _⟩

set_option maxRecDepth 100000 in
set_option maxHeartbeats 8000000 in
theorem pass_any (b : Nat) (q : Qu) (w : World) (hQ : CB w b 25 (Qu.cs q)) (hF : q.Fair) :
    Calls Try.prog 14 #[.pointer (some ⟨b, 0, none⟩)] w fun e w' => e = .returned (.int .i64 (passE q)) ∧ QK w b (passQ q) w' := by
  have HLE := hi (fun W => left_q q hF.s.2 W)
  have HAF := hi (fun W => after_q q q.read hF.s.2 W)
  have H0 := hi (QK.refl hQ)
  have HNX := hi (show ¬ lefN q < 1 → nextN q q.read = nextR q.size 32 q.read from fun h => by rw [nextN, if_pos (okQ_out (left_ok h)).1])
  unfold passE passQ
  obtain ⟨ln, hln⟩ : ∃ v, lefN q = v := ⟨_, rfl⟩
  rw [hln] at HLE HNX ⊢
  clear hln hF hQ
  obtain ⟨a, s, r, v⟩ := q
  dsimp only at HLE HAF H0 HNX ⊢
  obtain ⟨a0, a1, a2, a3⟩ := H0.out.held
  by_cases hl : ln < 1
  · rw [if_pos hl, if_pos hl]
    go_enter Try.func14, Try.ntmps14
    go_wp2_with (go_at_call 15; ((with_reducible refine (HLE.out _).mono ?_); rintro e w1 ⟨rfl, hb1⟩; have H1 := hi (H0.out.later hb1); clear hb1))
    go_ret
    exact ⟨rfl, H1.out⟩
  · have hnx := HNX.out hl
    rw [hnx] at HAF
    rw [if_neg hl, if_neg hl]
    obtain ⟨nx, hnx2⟩ : ∃ nx, nextR s 32 r = nx := ⟨_, rfl⟩
    rw [hnx2] at HAF ⊢
    clear hnx hnx2 HNX
    go_enter Try.func14, Try.ntmps14
    go_wp2_with (go_at_call 15; ((with_reducible refine (HLE.out _).mono ?_); rintro e w1 ⟨rfl, hb1⟩; have H1 := hi (H0.out.later hb1); clear hb1 a0 a1 a2 a3))
    refine wp_region_noPanic ?_
    refine wp_region_last_drew (S := (fun V => V.cell? ⟨b, 0, none⟩ = some (.int .i64 a) ∧ V.cell? ⟨b, 1, none⟩ = some (.int .i64 s) ∧ V.cell? ⟨b, 2, none⟩ = some (.int .i64 r) ∧ V.cell? ⟨b, 3, none⟩ = some (.int .i64 v))) [9, 10, 11] (by kernel_rfl) H1.out.held (fun hHeld => ?_)
    (try simp only [Array.replicate_succ, Array.replicate_zero, List.push_toArray, List.nil_append, List.cons_append])
    refine wpAnyF_take (i := 0) (v := ?_) (by kernel_rfl) (by kernel_rfl) rfl (by kernel_rfl) (by kernel_rfl) (by kernel_rfl) (fun _ _ _ h => h) (Or.inl ⟨by rfl, ?_⟩) (by assumption) ?_
    rotate_left
    · intro w' hSw; (try dsimp only at hSw); clear hSw; go_simp; (try with_reducible rfl)
    (try simp only [Act.put, List.getElem_toArray, List.getElem_cons_zero, List.getElem_cons_succ, List.setIfInBounds_toArray, List.set_cons_zero, List.set_cons_succ])
    refine wpAnyF_take (i := 1) (v := ?_) (by kernel_rfl) (by kernel_rfl) rfl (by kernel_rfl) (by kernel_rfl) (by kernel_rfl) (fun _ _ _ h => h) (Or.inl ⟨by rfl, ?_⟩) (by assumption) ?_
    rotate_left
    · intro w' hSw; (try dsimp only at hSw); clear hSw; go_simp; (try with_reducible rfl)
    (try simp only [Act.put, List.getElem_toArray, List.getElem_cons_zero, List.getElem_cons_succ, List.setIfInBounds_toArray, List.set_cons_zero, List.set_cons_succ])
    refine wpAnyF_take (i := 2) (v := ?_) (by kernel_rfl) (by kernel_rfl) rfl (by kernel_rfl) (by kernel_rfl) (by kernel_rfl) (fun _ _ _ h => h) (Or.inl ⟨by rfl, ?_⟩) (by assumption) ?_
    rotate_left
    · intro w' hSw; (try dsimp only at hSw); clear hSw; go_simp; (try with_reducible rfl)
    (try simp only [Act.put, List.getElem_toArray, List.getElem_cons_zero, List.getElem_cons_succ, List.setIfInBounds_toArray, List.set_cons_zero, List.set_cons_succ])
    refine wpAnyF_take (i := 3) (v := ?_) (by kernel_rfl) (by kernel_rfl) rfl (by kernel_rfl) (by kernel_rfl) (by kernel_rfl) (fun _ _ _ h => h) (Or.inl ⟨by rfl, ?_⟩) (by assumption) ?_
    rotate_left
    · intro w' hSw; (try dsimp only at hSw); obtain ⟨a0, a1, a2, a3⟩ := hSw; go_simp; (try with_reducible rfl)
    (try simp only [Act.put, List.getElem_toArray, List.getElem_cons_zero, List.getElem_cons_succ, List.setIfInBounds_toArray, List.set_cons_zero, List.set_cons_succ])
    refine wpAnyF_take (i := 4) (v := ?_) (by kernel_rfl) (by kernel_rfl) rfl (by kernel_rfl) (by kernel_rfl) (by kernel_rfl) (fun _ _ _ h => h) (Or.inl ⟨by rfl, ?_⟩) (by assumption) ?_
    rotate_left
    · intro w' hSw; (try dsimp only at hSw); clear hSw; go_simp; (try with_reducible rfl)
    (try simp only [Act.put, List.getElem_toArray, List.getElem_cons_zero, List.getElem_cons_succ, List.setIfInBounds_toArray, List.set_cons_zero, List.set_cons_succ])
    refine wpAnyF_take (i := 5) (v := ?_) (by kernel_rfl) (by kernel_rfl) rfl (by kernel_rfl) (by kernel_rfl) (by kernel_rfl) (fun _ _ _ h => h) (Or.inl ⟨by rfl, ?_⟩) (by assumption) ?_
    rotate_left
    · intro w' hSw; (try dsimp only at hSw); clear hSw; go_simp; (try with_reducible rfl)
    (try simp only [Act.put, List.getElem_toArray, List.getElem_cons_zero, List.getElem_cons_succ, List.setIfInBounds_toArray, List.set_cons_zero, List.set_cons_succ])
    refine wpAnyF_take (i := 6) (v := ?_) (by kernel_rfl) (by kernel_rfl) rfl (by kernel_rfl) (by kernel_rfl) (by kernel_rfl) (fun _ _ _ h => h) (Or.inl ⟨by rfl, ?_⟩) (by assumption) ?_
    rotate_left
    · intro w' hSw; (try dsimp only at hSw); clear hSw; go_simp; (try with_reducible rfl)
    (try simp only [Act.put, List.getElem_toArray, List.getElem_cons_zero, List.getElem_cons_succ, List.setIfInBounds_toArray, List.set_cons_zero, List.set_cons_succ])
    refine wpAnyF_take (i := 7) (v := ?_) (by kernel_rfl) (by kernel_rfl) rfl (by kernel_rfl) (by kernel_rfl) (by kernel_rfl) (fun _ _ _ h => h) (Or.inl ⟨by rfl, ?_⟩) (by assumption) ?_
    rotate_left
    · intro w' hSw; (try dsimp only at hSw); obtain ⟨a0, a1, a2, a3⟩ := hSw; go_simp; (try with_reducible rfl)
    (try simp only [Act.put, List.getElem_toArray, List.getElem_cons_zero, List.getElem_cons_succ, List.setIfInBounds_toArray, List.set_cons_zero, List.set_cons_succ])
    refine wpAnyF_ready (rs := [8]) (by kernel_rfl) (by simp) ?_
    refine AllReadyF.cons rfl (fun KK hKK => ?_) AllReadyF.nil
    go_simp
    ((with_reducible refine (HAF.out _).mono ?_); rintro e' w5 ⟨rfl, hb5⟩; have H5 := hi ((H1.out.later (below_dr _)).later hb5); clear hb5; obtain ⟨p0, p1, p2, p3⟩ := H5.out.held; have pf := H5.out.q.frozen; have pz := H5.out.q.lt)
    (try go_simp)
    refine hKK.out _ _ H5.out.held (fun hHeld => ?_)
    clear hKK KK
    (try simp only [Act.put, List.getElem_toArray, List.getElem_cons_zero, List.getElem_cons_succ, List.setIfInBounds_toArray, List.set_cons_zero, List.set_cons_succ])
    refine wpAnyF_ready (rs := [9]) (by kernel_rfl) (by simp) ?_
    refine AllReadyF.last (by kernel_rfl) rfl (fun KK hKK => ?_) AllReadyF.nil
    go_simp
    refine hKK.out _ _ ?_
    clear hKK KK
    (try simp only [Act.put, List.getElem_toArray, List.getElem_cons_zero, List.getElem_cons_succ, List.setIfInBounds_toArray, List.set_cons_zero, List.set_cons_succ])
    refine wpAnyF_ready (rs := [10]) (by kernel_rfl) (by simp) ?_
    refine AllReadyF.last (by kernel_rfl) rfl (fun KK hKK => ?_) AllReadyF.nil
    go_simp
    refine hKK.out _ _ ?_
    clear hKK KK
    (try simp only [Act.put, List.getElem_toArray, List.getElem_cons_zero, List.getElem_cons_succ, List.setIfInBounds_toArray, List.set_cons_zero, List.set_cons_succ])
    refine wpAnyF_ready (rs := [11]) (by kernel_rfl) (by simp) ?_
    refine AllReadyF.last (by kernel_rfl) rfl (fun KK hKK => ?_) AllReadyF.nil
    go_simp
    refine hKK.out _ _ ?_
    clear hKK KK
    (try simp only [Act.put, List.getElem_toArray, List.getElem_cons_zero, List.getElem_cons_succ, List.setIfInBounds_toArray, List.set_cons_zero, List.set_cons_succ])
    refine wpAnyF_done (by kernel_rfl) ?_ _
    refine NoPanic.normal ?_
    have H6 := hi ((H5.out.put (q' := ⟨a, s, nx, v⟩) 2 (.int .i64 nx) rfl))
    go_wp2
    go_ret
    exact ⟨rfl, H6.out⟩

set_option maxRecDepth 100000 in
set_option maxHeartbeats 8000000 in
theorem set_any (b : Nat) (q : Qu) (x : Int) (w : World) (hQ : CB w b 25 (Qu.cs q)) (hF : q.Fair) :
    Calls Try.prog 16 #[.pointer (some ⟨b, 0, none⟩), .int .i64 x] w fun e w' => e = .returned (.int .i64 (setE q x)) ∧ QK w b (setQ q x) w' := by
  have HRG := hi (fun W => ring_q q W)
  have H0 := hi (QK.refl hQ)
  have hs := hF.s.2
  unfold setE setQ
  obtain ⟨a, s, r, v⟩ := q
  dsimp only at HRG H0 hs ⊢
  obtain ⟨a0, a1, a2, a3⟩ := H0.out.held
  clear hF hQ
  cases hm : mayB s 32 x
  · have HMY := hi (fun W => may_no s 32 x W hm hs)
    simp only [Bool.false_eq_true, if_false]
    clear hm
    go_enter Try.func16, Try.ntmps16
    go_wp2_with (first
      | (go_at_call 31; ((with_reducible refine (HRG.out _).mono ?_); rintro e w1 ⟨rfl, hb1⟩; have H1 := hi (H0.out.later hb1); clear hb1))
      | (go_at_call 37; ((with_reducible refine (HMY.out _).mono ?_); rintro e w2 ⟨rfl, hb2⟩; have H2 := hi (H1.out.later hb2); clear hb2)))
    go_ret
    exact ⟨rfl, H2.out⟩
  · have HMY := hi (fun W => may_yes s 32 x W hm hs)
    simp only [if_true]
    clear hm
    go_enter Try.func16, Try.ntmps16
    go_wp2_with (first
      | (go_at_call 31; ((with_reducible refine (HRG.out _).mono ?_); rintro e w1 ⟨rfl, hb1⟩; have H1 := hi (H0.out.later hb1); clear hb1))
      | (go_at_call 37; ((with_reducible refine (HMY.out _).mono ?_); rintro e w2 ⟨rfl, hb2⟩; have H2 := hi (H1.out.later hb2); obtain ⟨p0, p1, p2, p3⟩ := H2.out.held; have pf := H2.out.q.frozen; have pz := H2.out.q.lt; clear hb2 a0 a1 a2 a3)))
    go_ret
    exact ⟨rfl, H2.out.put (q' := ⟨a, s, r, x⟩) 3 (.int .i64 x) rfl⟩

end Go.Proofs.Ytfnokpajendlmaa
