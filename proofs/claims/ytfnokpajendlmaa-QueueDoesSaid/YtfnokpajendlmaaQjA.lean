/-
  The document's queue: may, next, Waits, Room, Head, Pass, SetWrite at every call.
  The document's queue: Put, Head at every call.
  Both queues and both memories; told.
  does, at every act.
  Scripts of acts; the script's loop, with alike's contract as a premise.
-/
import Derived.Test.YtfnokpajendlmaaQuD
import Derived.Test.YtfnokpajendlmaaQjR
import Derived.Test.YtfnokpajendlmaaCmEk
import Derived.Test.YtfnokpajendlmaaQuL
import Derived.Test.YtfnokpajendlmaaQjH
namespace Go.Proofs.Ytfnokpajendlmaa
open Go.ChangeShapes Go.WideShapes Go.ChangeAt Go.RowKit
set_option linter.unusedVariables false
set_option linter.unusedSimpArgs false

/-- The document's queue's box. -/
structure QJ (w : World) (b : Nat) (q : Qu) (W : World) : Prop where
  q : CB W b 32 (Qu.cs q)
  kept : Kept (· = b) w W
theorem QJ.refl {b : Nat} {q : Qu} {W : World} (h : CB W b 32 (Qu.cs q)) : QJ W b q W := ⟨h, Kept.refl _ _⟩
theorem QJ.later {w : World} {b : Nat} {q : Qu} {W W' : World} (h : QJ w b q W) (k : Below W.heap.size W W') : QJ w b q W' := ⟨h.q.below k, h.kept.below k⟩
theorem QJ.put {w : World} {b : Nat} {q q' : Qu} {W : World} (h : QJ w b q W) (j : Nat) (u : Value) (hq : (Qu.cs q).setIfInBounds j u = Qu.cs q') : QJ w b q' (W.setCell ⟨b, j, none⟩ u) := by
  have := h.q.set j u
  rw [hq] at this
  exact ⟨this, h.kept.trans (kept_setCell W b j u)⟩
theorem QJ.held {w : World} {b : Nat} {q : Qu} {W : World} (h : QJ w b q W) : W.cell? ⟨b, 0, none⟩ = some (.int .i64 q.at_) ∧ W.cell? ⟨b, 1, none⟩ = some (.int .i64 q.size) ∧ W.cell? ⟨b, 2, none⟩ = some (.int .i64 q.read) ∧ W.cell? ⟨b, 3, none⟩ = some (.int .i64 q.write) :=
  ⟨h.q.cell 0, h.q.cell 1, h.q.cell 2, h.q.cell 3⟩
theorem xs_len (q : Qu) : ((xsR q.size 32 q.read q.write).length : Int) = lefN q := by
  have := each_len [] q
  unfold eachL at this
  simpa using this

set_option maxHeartbeats 2000000 in
theorem qmay_any (q : Qu) (x : Int) (hs : q.size ≤ 9223372036854775807) (w : World) : Calls Try.prog 41 #[q.v, .int .i64 x] w fun e w' => e = .returned (.bool (mayB q.size 32 x)) ∧ Below w.heap.size w w' := by
  have HC := hi (And.intro (CB.new w 32 (Qu.cs q)) (bal w (.cells (Qu.cs q) 32)))
  cases hm : mayB q.size 32 x
  · have HI := hi (fun W => refIndex_n q.size 32 x W hm hs)
    obtain ⟨a, s, r, v⟩ := q
    dsimp only at HI HC ⊢
    clear hm
    obtain ⟨c0, c1, c2, c3⟩ := CB.four HC.out.1
    go_enter Try.func41, Try.ntmps41
    go_wp2_with (go_at_call 58; ((with_reducible refine (HI.out _).mono ?_); rintro e w1 ⟨rfl, hb1⟩; have H1 := hi (HC.out.2.trans (hb1.mono HC.out.2.size)); clear hb1))
    go_ret
    exact ⟨rfl, H1.out⟩
  · have HI := hi (fun W => refIndex_y q.size 32 x W hm hs)
    have h0 : (0 : Int) ≤ x / 32 := by obtain ⟨_, h1, _, _⟩ := mayB_out hm; omega
    obtain ⟨y, hy⟩ : ∃ y, x / 32 = y := ⟨_, rfl⟩
    rw [hy] at HI h0
    obtain ⟨a, s, r, v⟩ := q
    dsimp only at HI HC ⊢
    clear hm hy
    obtain ⟨c0, c1, c2, c3⟩ := CB.four HC.out.1
    have hd : decide (0 ≤ y) = true := by simpa using h0
    go_enter Try.func41, Try.ntmps41
    go_wp2_with (go_at_call 58; ((with_reducible refine (HI.out _).mono ?_); rintro e w1 ⟨rfl, hb1⟩; have H1 := hi (HC.out.2.trans (hb1.mono HC.out.2.size)); clear hb1))
    go_ret
    exact ⟨rfl, H1.out⟩

set_option maxHeartbeats 2000000 in
theorem rnext_any (q : Qu) (x : Int) (hs : q.size ≤ 9223372036854775807) (hm : mayB q.size 32 x = true) (w : World) : Calls Try.prog 40 #[q.v, .int .i64 x] w fun e w' => e = .returned (.int .i64 (nextR q.size 32 x)) ∧ Below w.heap.size w w' := by
  have HC := hi (And.intro (CB.new w 32 (Qu.cs q)) (bal w (.cells (Qu.cs q) 32)))
  obtain ⟨hr, x0, x1, _⟩ := mayB_out hm
  obtain ⟨_, _, _, hr4⟩ := rightB_out hr
  have hb : q.size ≤ 32800 := by have := rightB_out hr; omega
  obtain ⟨a, s, r, v⟩ := q
  dsimp only at HC hs x1 hb hr4 ⊢
  clear hm hr
  obtain ⟨c0, c1, c2, c3⟩ := CB.four HC.out.1
  by_cases hx : x + 32 = s
  · have hn : nextR s 32 x = 0 := by rw [nextR, if_pos hx]
    rw [hn]
    clear hn
    have hxe : (x + 32 == s) = true := by simpa using hx
    go_enter Try.func40, Try.ntmps40
    go_wp2
    go_ret
    exact ⟨rfl, HC.out.2⟩
  · have hn : nextR s 32 x = x + 32 := by rw [nextR, if_neg hx]
    rw [hn]
    clear hn
    have hxe : (x + 32 == s) = false := by simpa using hx
    go_enter Try.func40, Try.ntmps40
    go_wp2
    go_ret
    exact ⟨rfl, HC.out.2⟩

set_option maxHeartbeats 2000000 in
theorem rwaits_any (q : Qu) (hs : q.size ≤ 9223372036854775807) (w : World) : Calls Try.prog 25 #[q.v] w (SomeInts w (xsR q.size 32 q.read q.write)) := by
  have HC := hi (And.intro (CB.new w 32 (Qu.cs q)) (bal w (.cells (Qu.cs q) 32)))
  have HI := hi (fun W => refWaits_ints q.size 32 q.read q.write hs W)
  obtain ⟨xs, hx⟩ : ∃ xs, xsR q.size 32 q.read q.write = xs := ⟨_, rfl⟩
  rw [hx] at HI ⊢
  obtain ⟨a, s, r, v⟩ := q
  dsimp only at HI HC ⊢
  clear hx
  obtain ⟨c0, c1, c2, c3⟩ := CB.four HC.out.1
  go_enter Try.func25, Try.ntmps25
  go_wp2_with (go_at_call 45; ((with_reducible refine (HI.out _).mono ?_); rintro e w1 ⟨sa, scap, rfl, hi1, hb1⟩; have H1 := hi (And.intro hi1 (HC.out.2.trans (hb1.mono HC.out.2.size))); clear hb1 hi1))
  go_ret
  exact ⟨sa, scap, rfl, H1.out.1, H1.out.2⟩

set_option maxRecDepth 100000 in
set_option maxHeartbeats 4000000 in
theorem rroom_any (q : Qu) (hs : q.size ≤ 9223372036854775807) (w : World) : Calls Try.prog 26 #[q.v] w fun e w' => e = .returned (.int .i64 (rooN q)) ∧ Below w.heap.size w w' := by
  have HC := hi (show CB (w.alloc (.cells (Qu.cs q) 32)) w.heap.size 32 (Qu.cs q) ∧ Below w.heap.size w (w.alloc (.cells (Qu.cs q) 32)) from And.intro (CB.new w 32 (Qu.cs q)) (bal w (.cells (Qu.cs q) 32)))
  have HM1 := hi (fun W => qmay_any q q.read hs W)
  have HM2 := hi (fun W => qmay_any q q.write hs W)
  have HWT := hi (fun W => rwaits_any q hs W)
  have hxl := xs_len q
  cases h1 : mayB q.size 32 q.read
  · have hr : rooN q = 0 := by rw [rooN, if_neg (by simp [okQ, h1])]
    rw [hr]
    rw [h1] at HM1
    obtain ⟨a, s, r, v⟩ := q
    dsimp only at HM1 HC ⊢
    clear HM2 HWT hr hxl h1
    obtain ⟨c0, c1, c2, c3⟩ := CB.four HC.out.1
    go_enter Try.func26, Try.ntmps26
    go_wp2_with (go_at_call 41; ((with_reducible refine (HM1.out _).mono ?_); rintro e w1 ⟨rfl, hb1⟩; have H1 := hi (HC.out.2.trans (hb1.mono HC.out.2.size)); clear hb1))
    go_ret
    exact ⟨rfl, H1.out⟩
  · cases h2 : mayB q.size 32 q.write
    · have hr : rooN q = 0 := by rw [rooN, if_neg (by simp [okQ, h1, h2])]
      rw [hr]
      rw [h1] at HM1
      rw [h2] at HM2
      obtain ⟨a, s, r, v⟩ := q
      dsimp only at HM1 HM2 HC ⊢
      clear HWT hr hxl h1 h2
      obtain ⟨c0, c1, c2, c3⟩ := CB.four HC.out.1
      go_enter Try.func26, Try.ntmps26
      go_wp2_with (first
        | (go_at_call 41; ((with_reducible refine (HM1.out _).mono ?_); rintro e w1 ⟨rfl, hb1⟩; have H1 := hi (And.intro (HC.out.1.below hb1) (HC.out.2.trans (hb1.mono HC.out.2.size))); clear hb1 c0 c1 c2 c3; obtain ⟨c0, c1, c2, c3⟩ := CB.four H1.out.1))
        | (go_at_call 41; ((with_reducible refine (HM2.out _).mono ?_); rintro e w2 ⟨rfl, hb2⟩; have H2 := hi (H1.out.2.trans (hb2.mono H1.out.2.size)); clear hb2)))
      go_ret
      exact ⟨rfl, H2.out⟩
    · have hok : okQ q = true := by simp [okQ, h1, h2]
      have hr : rooN q = q.size / 32 - 1 - lefN q := by rw [rooN, lefN, if_pos hok, if_pos hok]
      have hb := lefN_bd q
      obtain ⟨hr0, _⟩ := mayB_out h1
      have hsb : 1 ≤ q.size ∧ q.size ≤ 32800 := by have := rightB_out hr0; omega
      rw [hr, ← hxl]
      rw [← hxl] at hb
      rw [h1] at HM1
      rw [h2] at HM2
      obtain ⟨xs, hx⟩ : ∃ xs, xsR q.size 32 q.read q.write = xs := ⟨_, rfl⟩
      rw [hx] at HWT hb ⊢
      obtain ⟨a, s, r, v⟩ := q
      dsimp only at HM1 HM2 HWT HC hsb ⊢
      clear hr hxl h1 h2 hx hok hr0
      obtain ⟨c0, c1, c2, c3⟩ := CB.four HC.out.1
      have hq0 : IntKind.i64.wrap (s.tdiv 32) = s / 32 := by rw [Int.tdiv_eq_ediv_of_nonneg (by omega), IntKind.wrap_i64]; omega
      have hq : IntKind.i64.wrap (s / 32 - 1) = s / 32 - 1 := by rw [IntKind.wrap_i64]; omega
      have hq2 : IntKind.i64.wrap (s / 32 - 1 - (xs.length : Int)) = s / 32 - 1 - (xs.length : Int) := by rw [IntKind.wrap_i64]; omega
      go_enter Try.func26, Try.ntmps26
      go_wp2_with (first
        | (go_at_call 41; ((with_reducible refine (HM1.out _).mono ?_); rintro e w1 ⟨rfl, hb1⟩; have H1 := hi (And.intro (HC.out.1.below hb1) (HC.out.2.trans (hb1.mono HC.out.2.size))); clear hb1 c0 c1 c2 c3; obtain ⟨c0, c1, c2, c3⟩ := CB.four H1.out.1))
        | (go_at_call 41; ((with_reducible refine (HM2.out _).mono ?_); rintro e w2 ⟨rfl, hb2⟩; have H2 := hi (And.intro (H1.out.1.below hb2) (H1.out.2.trans (hb2.mono H1.out.2.size))); clear hb2 c0 c1 c2 c3)))
      refine wp_region_noPanic ?_
      refine wp_region_last_drew (S := (fun V => V.cell? ⟨w.heap.size, 0, none⟩ = some (.int .i64 a) ∧ V.cell? ⟨w.heap.size, 1, none⟩ = some (.int .i64 s) ∧ V.cell? ⟨w.heap.size, 2, none⟩ = some (.int .i64 r) ∧ V.cell? ⟨w.heap.size, 3, none⟩ = some (.int .i64 v))) [] (by kernel_rfl) (CB.four (H2.out.1.below (below_dr _))) (fun hHeld => ?_)
      (try simp only [Array.replicate_succ, Array.replicate_zero, List.push_toArray, List.nil_append, List.cons_append])
      refine wpAnyF_take (i := 0) (v := ?_) (by kernel_rfl) (by kernel_rfl) rfl (by kernel_rfl) (by kernel_rfl) (by kernel_rfl) (fun _ _ _ h => h) (Or.inl ⟨by rfl, ?_⟩) (by assumption) ?_
      rotate_left
      · intro w' hSw; (try dsimp only at hSw); clear hSw; go_simp; (try with_reducible rfl)
      (try simp only [Act.put, List.getElem_toArray, List.getElem_cons_zero, List.getElem_cons_succ, List.setIfInBounds_toArray, List.set_cons_zero, List.set_cons_succ])
      refine wpAnyF_take (i := 1) (v := ?_) (by kernel_rfl) (by kernel_rfl) rfl (by kernel_rfl) (by kernel_rfl) (by kernel_rfl) (fun _ _ _ h => h) (Or.inl ⟨by rfl, ?_⟩) (by assumption) ?_
      rotate_left
      · intro w' hSw; (try dsimp only at hSw); clear hSw; go_simp; (try with_reducible rfl)
      (try simp only [Act.put, List.getElem_toArray, List.getElem_cons_zero, List.getElem_cons_succ, List.setIfInBounds_toArray, List.set_cons_zero, List.set_cons_succ])
      refine wpAnyF_take (i := 2) (v := ?_) (by kernel_rfl) (by kernel_rfl) rfl (by kernel_rfl) (by kernel_rfl) (by kernel_rfl) (fun _ _ _ h => h) (Or.inl ⟨by rfl, ?_⟩) (by assumption) ?_
      rotate_left
      · intro w' hSw; (try dsimp only at hSw); obtain ⟨a0, a1, a2, a3⟩ := hSw; go_simp; (try with_reducible rfl)
      (try simp only [Act.put, List.getElem_toArray, List.getElem_cons_zero, List.getElem_cons_succ, List.setIfInBounds_toArray, List.set_cons_zero, List.set_cons_succ])
      refine wpAnyF_take (i := 3) (v := ?_) (by kernel_rfl) (by kernel_rfl) rfl (by kernel_rfl) (by kernel_rfl) (by kernel_rfl) (fun _ _ _ h => h) (Or.inl ⟨by rfl, ?_⟩) (by assumption) ?_
      rotate_left
      · intro w' hSw; (try dsimp only at hSw); clear hSw; go_simp; (try with_reducible rfl)
      (try simp only [Act.put, List.getElem_toArray, List.getElem_cons_zero, List.getElem_cons_succ, List.setIfInBounds_toArray, List.set_cons_zero, List.set_cons_succ])
      refine wpAnyF_take (i := 4) (v := ?_) (by kernel_rfl) (by kernel_rfl) rfl (by kernel_rfl) (by kernel_rfl) (by kernel_rfl) (fun _ _ _ h => h) (Or.inl ⟨by rfl, ?_⟩) (by assumption) ?_
      rotate_left
      · intro w' hSw; (try dsimp only at hSw); clear hSw; go_simp; (try with_reducible rfl)
      (try simp only [Act.put, List.getElem_toArray, List.getElem_cons_zero, List.getElem_cons_succ, List.setIfInBounds_toArray, List.set_cons_zero, List.set_cons_succ])
      refine wpAnyF_take (i := 5) (v := ?_) (by kernel_rfl) (by kernel_rfl) rfl (by kernel_rfl) (by kernel_rfl) (by kernel_rfl) (fun _ _ _ h => h) (Or.inl ⟨by rfl, ?_⟩) (by assumption) ?_
      rotate_left
      · intro w' hSw; (try dsimp only at hSw); obtain ⟨a0, a1, a2, a3⟩ := hSw; go_simp; (try with_reducible rfl)
      (try simp only [Act.put, List.getElem_toArray, List.getElem_cons_zero, List.getElem_cons_succ, List.setIfInBounds_toArray, List.set_cons_zero, List.set_cons_succ])
      refine wpAnyF_ready (rs := [6]) (by kernel_rfl) (by simp) ?_
      refine AllReadyF.cons rfl (fun KK hKK => ?_) AllReadyF.nil
      go_simp
      ((with_reducible refine (HWT.out _).mono ?_); rintro e' w3 ⟨sa, scap, rfl, hi3, hb3⟩; have H3 := hi (And.intro (H2.out.1.below ((below_dr _).trans (hb3.mono (Nat.le_refl _)))) (H2.out.2.trans (((below_dr _).trans (hb3.mono (Nat.le_refl _))).mono H2.out.2.size))); clear hb3 hi3)
      (try go_simp)
      refine hKK.out _ _ (CB.four H3.out.1) (fun hHeld => ?_)
      clear hKK KK
      (try simp only [Act.put, List.getElem_toArray, List.getElem_cons_zero, List.getElem_cons_succ, List.setIfInBounds_toArray, List.set_cons_zero, List.set_cons_succ])
      refine wpAnyF_take (i := 7) (v := ?_) (by kernel_rfl) (by kernel_rfl) rfl (by kernel_rfl) (by kernel_rfl) (by kernel_rfl) (fun _ _ _ h => h) (Or.inl ⟨by rfl, ?_⟩) (by assumption) ?_
      rotate_left
      · intro w' hSw; (try dsimp only at hSw); clear hSw; go_simp; (try with_reducible rfl)
      (try simp only [Act.put, List.getElem_toArray, List.getElem_cons_zero, List.getElem_cons_succ, List.setIfInBounds_toArray, List.set_cons_zero, List.set_cons_succ])
      refine wpAnyF_take (i := 8) (v := ?_) (by kernel_rfl) (by kernel_rfl) rfl (by kernel_rfl) (by kernel_rfl) (by kernel_rfl) (fun _ _ _ h => h) (Or.inl ⟨by rfl, ?_⟩) (by assumption) ?_
      rotate_left
      · intro w' hSw; (try dsimp only at hSw); clear hSw; go_simp; (try with_reducible rfl)
      (try simp only [Act.put, List.getElem_toArray, List.getElem_cons_zero, List.getElem_cons_succ, List.setIfInBounds_toArray, List.set_cons_zero, List.set_cons_succ])
      refine wpAnyF_take (i := 9) (v := ?_) (by kernel_rfl) (by kernel_rfl) rfl (by kernel_rfl) (by kernel_rfl) (by kernel_rfl) (fun _ _ _ h => h) (Or.inl ⟨by rfl, ?_⟩) (by assumption) ?_
      rotate_left
      · intro w' hSw; (try dsimp only at hSw); clear hSw; go_simp; (try with_reducible rfl)
      (try simp only [Act.put, List.getElem_toArray, List.getElem_cons_zero, List.getElem_cons_succ, List.setIfInBounds_toArray, List.set_cons_zero, List.set_cons_succ])
      refine wpAnyF_done (by kernel_rfl) ?_ _
      refine NoPanic.normal ?_
      go_wp2
      go_ret
      exact ⟨rfl, H3.out.2⟩

set_option maxRecDepth 100000 in
set_option maxHeartbeats 8000000 in
theorem rpass_any (b : Nat) (q : Qu) (w : World) (hQ : CB w b 32 (Qu.cs q)) (hF : q.Fair) :
    Calls Try.prog 20 #[.pointer (some ⟨b, 0, none⟩)] w fun e w' => e = .returned (.int .i64 (passE q)) ∧ QJ w b (passQ q) w' := by
  have HWT := hi (fun W => rwaits_any q hF.s.2 W)
  have HNX := hi (fun hm W => rnext_any q q.read hF.s.2 hm W)
  have HMY := hi (show ¬ lefN q < 1 → mayB q.size 32 q.read = true from fun h => (okQ_out (left_ok h)).1)
  have H0 := hi (QJ.refl hQ)
  have hxl := xs_len q
  unfold passE passQ
  obtain ⟨ln, hln⟩ : ∃ v, lefN q = v := ⟨_, rfl⟩
  obtain ⟨xs, hx⟩ : ∃ xs, xsR q.size 32 q.read q.write = xs := ⟨_, rfl⟩
  rw [hln] at HMY hxl ⊢
  rw [hx] at HWT hxl
  clear hln hF hQ hx
  obtain ⟨a, s, r, v⟩ := q
  dsimp only at HWT HNX H0 HMY ⊢
  obtain ⟨a0, a1, a2, a3⟩ := H0.out.held
  by_cases hl : ln < 1
  · rw [if_pos hl, if_pos hl]
    have hz : xs.length = 0 := by omega
    go_enter Try.func20, Try.ntmps20
    go_wp2_with (go_at_call 25; ((with_reducible refine (HWT.out _).mono ?_); rintro e w1 ⟨sa, scap, rfl, hi1, hb1⟩; have H1 := hi (H0.out.later hb1); clear hb1 hi1))
    go_ret
    exact ⟨rfl, H1.out⟩
  · have hmy := HMY.out hl
    have HAF := hi (fun W => HNX.out hmy W)
    rw [if_neg hl, if_neg hl]
    obtain ⟨nx, hnx2⟩ : ∃ nx, nextR s 32 r = nx := ⟨_, rfl⟩
    rw [hnx2] at HAF ⊢
    clear hmy hnx2 HNX HMY
    have hz : xs.length ≠ 0 := by omega
    have hz2 : ((xs.length : Int) == 0) = false := by simp only [beq_eq_false_iff_ne, ne_eq]; omega
    go_enter Try.func20, Try.ntmps20
    go_wp2_with (go_at_call 25; ((with_reducible refine (HWT.out _).mono ?_); rintro e w1 ⟨sa, scap, rfl, hi1, hb1⟩; have H1 := hi (H0.out.later hb1); clear hb1 hi1 a0 a1 a2 a3))
    refine wp_region_noPanic ?_
    refine wp_region_last_drew (S := (fun V => V.cell? ⟨b, 0, none⟩ = some (.int .i64 a) ∧ V.cell? ⟨b, 1, none⟩ = some (.int .i64 s) ∧ V.cell? ⟨b, 2, none⟩ = some (.int .i64 r) ∧ V.cell? ⟨b, 3, none⟩ = some (.int .i64 v))) [9, 10, 11] (by kernel_rfl) H1.out.held (fun hHeld => ?_)
    (try simp only [Array.replicate_succ, Array.replicate_zero, List.push_toArray, List.nil_append, List.cons_append])
    refine wpAnyF_take (i := 0) (v := ?_) (by kernel_rfl) (by kernel_rfl) rfl (by kernel_rfl) (by kernel_rfl) (by kernel_rfl) (fun _ _ _ h => h) (Or.inl ⟨by rfl, ?_⟩) (by assumption) ?_
    rotate_left
    · intro w' hSw; (try dsimp only at hSw); clear hSw; go_simp; (try with_reducible rfl)
    (try simp only [Act.put, List.getElem_toArray, List.getElem_cons_zero, List.getElem_cons_succ, List.setIfInBounds_toArray, List.set_cons_zero, List.set_cons_succ])
    refine wpAnyF_take (i := 1) (v := ?_) (by kernel_rfl) (by kernel_rfl) rfl (by kernel_rfl) (by kernel_rfl) (by kernel_rfl) (fun _ _ _ h => h) (Or.inl ⟨by rfl, ?_⟩) (by assumption) ?_
    rotate_left
    · intro w' hSw; (try dsimp only at hSw); clear hSw; go_simp; (try with_reducible rfl)
    (try simp only [Act.put, List.getElem_toArray, List.getElem_cons_zero, List.getElem_cons_succ, List.setIfInBounds_toArray, List.set_cons_zero, List.set_cons_succ])
    refine wpAnyF_take (i := 2) (v := ?_) (by kernel_rfl) (by kernel_rfl) rfl (by kernel_rfl) (by kernel_rfl) (by kernel_rfl) (fun _ _ _ h => h) (Or.inl ⟨by rfl, ?_⟩) (by assumption) ?_
    rotate_left
    · intro w' hSw; (try dsimp only at hSw); clear hSw; go_simp; (try with_reducible rfl)
    (try simp only [Act.put, List.getElem_toArray, List.getElem_cons_zero, List.getElem_cons_succ, List.setIfInBounds_toArray, List.set_cons_zero, List.set_cons_succ])
    refine wpAnyF_take (i := 3) (v := ?_) (by kernel_rfl) (by kernel_rfl) rfl (by kernel_rfl) (by kernel_rfl) (by kernel_rfl) (fun _ _ _ h => h) (Or.inl ⟨by rfl, ?_⟩) (by assumption) ?_
    rotate_left
    · intro w' hSw; (try dsimp only at hSw); obtain ⟨a0, a1, a2, a3⟩ := hSw; go_simp; (try with_reducible rfl)
    (try simp only [Act.put, List.getElem_toArray, List.getElem_cons_zero, List.getElem_cons_succ, List.setIfInBounds_toArray, List.set_cons_zero, List.set_cons_succ])
    refine wpAnyF_take (i := 4) (v := ?_) (by kernel_rfl) (by kernel_rfl) rfl (by kernel_rfl) (by kernel_rfl) (by kernel_rfl) (fun _ _ _ h => h) (Or.inl ⟨by rfl, ?_⟩) (by assumption) ?_
    rotate_left
    · intro w' hSw; (try dsimp only at hSw); clear hSw; go_simp; (try with_reducible rfl)
    (try simp only [Act.put, List.getElem_toArray, List.getElem_cons_zero, List.getElem_cons_succ, List.setIfInBounds_toArray, List.set_cons_zero, List.set_cons_succ])
    refine wpAnyF_take (i := 5) (v := ?_) (by kernel_rfl) (by kernel_rfl) rfl (by kernel_rfl) (by kernel_rfl) (by kernel_rfl) (fun _ _ _ h => h) (Or.inl ⟨by rfl, ?_⟩) (by assumption) ?_
    rotate_left
    · intro w' hSw; (try dsimp only at hSw); clear hSw; go_simp; (try with_reducible rfl)
    (try simp only [Act.put, List.getElem_toArray, List.getElem_cons_zero, List.getElem_cons_succ, List.setIfInBounds_toArray, List.set_cons_zero, List.set_cons_succ])
    refine wpAnyF_take (i := 6) (v := ?_) (by kernel_rfl) (by kernel_rfl) rfl (by kernel_rfl) (by kernel_rfl) (by kernel_rfl) (fun _ _ _ h => h) (Or.inl ⟨by rfl, ?_⟩) (by assumption) ?_
    rotate_left
    · intro w' hSw; (try dsimp only at hSw); clear hSw; go_simp; (try with_reducible rfl)
    (try simp only [Act.put, List.getElem_toArray, List.getElem_cons_zero, List.getElem_cons_succ, List.setIfInBounds_toArray, List.set_cons_zero, List.set_cons_succ])
    refine wpAnyF_take (i := 7) (v := ?_) (by kernel_rfl) (by kernel_rfl) rfl (by kernel_rfl) (by kernel_rfl) (by kernel_rfl) (fun _ _ _ h => h) (Or.inl ⟨by rfl, ?_⟩) (by assumption) ?_
    rotate_left
    · intro w' hSw; (try dsimp only at hSw); obtain ⟨a0, a1, a2, a3⟩ := hSw; go_simp; (try with_reducible rfl)
    (try simp only [Act.put, List.getElem_toArray, List.getElem_cons_zero, List.getElem_cons_succ, List.setIfInBounds_toArray, List.set_cons_zero, List.set_cons_succ])
    refine wpAnyF_ready (rs := [8]) (by kernel_rfl) (by simp) ?_
    refine AllReadyF.cons rfl (fun KK hKK => ?_) AllReadyF.nil
    go_simp
    ((with_reducible refine (HAF.out _).mono ?_); rintro e' w5 ⟨rfl, hb5⟩; have H5 := hi ((H1.out.later (below_dr _)).later hb5); clear hb5; obtain ⟨p0, p1, p2, p3⟩ := H5.out.held; have pf := H5.out.q.frozen; have pz := H5.out.q.lt)
    (try go_simp)
    refine hKK.out _ _ H5.out.held (fun hHeld => ?_)
    clear hKK KK
    (try simp only [Act.put, List.getElem_toArray, List.getElem_cons_zero, List.getElem_cons_succ, List.setIfInBounds_toArray, List.set_cons_zero, List.set_cons_succ])
    refine wpAnyF_ready (rs := [9]) (by kernel_rfl) (by simp) ?_
    refine AllReadyF.last (by kernel_rfl) rfl (fun KK hKK => ?_) AllReadyF.nil
    go_simp
    refine hKK.out _ _ ?_
    clear hKK KK
    (try simp only [Act.put, List.getElem_toArray, List.getElem_cons_zero, List.getElem_cons_succ, List.setIfInBounds_toArray, List.set_cons_zero, List.set_cons_succ])
    refine wpAnyF_ready (rs := [10]) (by kernel_rfl) (by simp) ?_
    refine AllReadyF.last (by kernel_rfl) rfl (fun KK hKK => ?_) AllReadyF.nil
    go_simp
    refine hKK.out _ _ ?_
    clear hKK KK
    (try simp only [Act.put, List.getElem_toArray, List.getElem_cons_zero, List.getElem_cons_succ, List.setIfInBounds_toArray, List.set_cons_zero, List.set_cons_succ])
    refine wpAnyF_ready (rs := [11]) (by kernel_rfl) (by simp) ?_
    refine AllReadyF.last (by kernel_rfl) rfl (fun KK hKK => ?_) AllReadyF.nil
    go_simp
    refine hKK.out _ _ ?_
    clear hKK KK
    (try simp only [Act.put, List.getElem_toArray, List.getElem_cons_zero, List.getElem_cons_succ, List.setIfInBounds_toArray, List.set_cons_zero, List.set_cons_succ])
    refine wpAnyF_done (by kernel_rfl) ?_ _
    refine NoPanic.normal ?_
    have H6 := hi ((H5.out.put (q' := ⟨a, s, nx, v⟩) 2 (.int .i64 nx) rfl))
    go_wp2
    go_ret
    exact ⟨rfl, H6.out⟩

set_option maxRecDepth 100000 in
set_option maxHeartbeats 8000000 in
theorem rset_any (b : Nat) (q : Qu) (x : Int) (w : World) (hQ : CB w b 32 (Qu.cs q)) (hF : q.Fair) :
    Calls Try.prog 21 #[.pointer (some ⟨b, 0, none⟩), .int .i64 x] w fun e w' => e = .returned (.int .i64 (setE q x)) ∧ QJ w b (setQ q x) w' := by
  have HM := hi (fun W => qmay_any q x hF.s.2 W)
  have H0 := hi (QJ.refl hQ)
  unfold setE setQ
  clear hF hQ
  cases hm : mayB q.size 32 x
  · rw [hm] at HM
    simp only [Bool.false_eq_true, if_false]
    obtain ⟨a, s, r, v⟩ := q
    (try dsimp only at HM)
    (try dsimp only at H0)
    (try dsimp only)
    obtain ⟨a0, a1, a2, a3⟩ := H0.out.held
    clear hm
    go_enter Try.func21, Try.ntmps21
    go_wp2_with (go_at_call 41; ((with_reducible refine (HM.out _).mono ?_); rintro e w1 ⟨rfl, hb1⟩; have H1 := hi (H0.out.later hb1); clear hb1))
    go_ret
    exact ⟨rfl, H1.out⟩
  · rw [hm] at HM
    simp only [if_true]
    obtain ⟨a, s, r, v⟩ := q
    (try dsimp only at HM)
    (try dsimp only at H0)
    (try dsimp only)
    obtain ⟨a0, a1, a2, a3⟩ := H0.out.held
    clear hm
    go_enter Try.func21, Try.ntmps21
    go_wp2_with (go_at_call 41; ((with_reducible refine (HM.out _).mono ?_); rintro e w1 ⟨rfl, hb1⟩; have H2 := hi (H0.out.later hb1); obtain ⟨p0, p1, p2, p3⟩ := H2.out.held; have pf := H2.out.q.frozen; have pz := H2.out.q.lt; clear hb1 a0 a1 a2 a3))
    go_ret
    exact ⟨rfl, H2.out.put (q' := ⟨a, s, r, x⟩) 3 (.int .i64 x) rfl⟩

end Go.Proofs.Ytfnokpajendlmaa

namespace Go.Proofs.Ytfnokpajendlmaa
open Go.ChangeShapes Go.WideShapes Go.ChangeAt Go.RowKit
set_option linter.unusedVariables false
set_option linter.unusedSimpArgs false

/-- The document's queue's box and its memory. -/
structure QN (w : World) (p g cap b : Nat) (bs : List Nat) (q : Qu) (W : World) : Prop where
  m : MemAt 60 W p g cap bs
  q : CB W b 32 (Qu.cs q)
  kept : Kept (fun x => x = g ∨ x = b) w W
theorem QN.refl {p g cap b : Nat} {bs : List Nat} {q : Qu} {W : World} (m : MemAt 60 W p g cap bs) (h : CB W b 32 (Qu.cs q)) : QN W p g cap b bs q W := ⟨m, h, Kept.refl _ _⟩
theorem QN.later {w : World} {p g cap b : Nat} {bs : List Nat} {q : Qu} {W W' : World} (h : QN w p g cap b bs q W) (k : Below W.heap.size W W') : QN w p g cap b bs q W' := ⟨h.m.below k, h.q.below k, h.kept.below k⟩
theorem QN.wrote {w : World} {p g cap b : Nat} {bs cs : List Nat} {q : Qu} {W W' : World} (h : QN w p g cap b bs q W) (hm : MemAt 60 W' p g cap cs) (k : Kept (· = g) W W') : QN w p g cap b cs q W' :=
  ⟨hm, h.q.keptB k (mem_apart h.m h.q (by decide) (by decide)).2, h.kept.trans (k.mono (fun x e => .inl e))⟩
theorem QN.put {w : World} {p g cap b : Nat} {bs : List Nat} {q q' : Qu} {W : World} (h : QN w p g cap b bs q W) (j : Nat) (u : Value) (hq : (Qu.cs q).setIfInBounds j u = Qu.cs q') : QN w p g cap b bs q' (W.setCell ⟨b, j, none⟩ u) := by
  obtain ⟨h1, h2⟩ := mem_apart h.m h.q (by decide) (by decide)
  have := h.q.set j u
  rw [hq] at this
  exact ⟨h.m.kept (kept_setCell W b j u) (fun e => h1 e.symm) (fun e => h2 e.symm), this, h.kept.trans ((kept_setCell W b j u).mono (fun x e => .inr e))⟩
theorem QN.held {w : World} {p g cap b : Nat} {bs : List Nat} {q : Qu} {W : World} (h : QN w p g cap b bs q W) : W.cell? ⟨b, 0, none⟩ = some (.int .i64 q.at_) ∧ W.cell? ⟨b, 1, none⟩ = some (.int .i64 q.size) ∧ W.cell? ⟨b, 2, none⟩ = some (.int .i64 q.read) ∧ W.cell? ⟨b, 3, none⟩ = some (.int .i64 q.write) :=
  ⟨h.q.cell 0, h.q.cell 1, h.q.cell 2, h.q.cell 3⟩
theorem QN.mid {w w1 : World} {p g cap b : Nat} {bs : List Nat} {q : Qu} {W : World} (h : QN w1 p g cap b bs q W) (k : Below w.heap.size w w1) : QN w p g cap b bs q W := ⟨h.m, h.q, (Kept.of k).trans h.kept⟩
set_option maxRecDepth 100000 in
set_option maxHeartbeats 8000000 in
theorem rput_any (p g cap : Nat) (bs : List Nat) (b : Nat) (q : Qu) (c : Cm) (w : World) (hM : MemAt 60 w p g cap bs) (hQ : CB w b 32 (Qu.cs q)) (hF : q.Fair) (hc : c.Fair) :
    Calls Try.prog 19 #[.pointer (some ⟨b, 0, none⟩), .pointer (some ⟨p, 0, none⟩), c.v] w fun e w' => e = .returned (.int .i64 (quE bs.length q c)) ∧ QN w p g cap b (quL bs q c) (quQ bs.length q c) w' := by
  have HRM := hi (fun W => rroom_any q hF.s.2 W)
  have HST := hi (fun W hM => rstore_any p g cap bs q.at_ q.size q.write c W hM hF.a hF.s hF.w hc)
  have HAG := hi (fun hm W => rnext_any q q.write hF.s.2 hm W)
  have H0 := hi ((QN.refl hM hQ).later (bal w (.cells (Cm.cs c) 36)))
  have HCM := hi (CB.new w 36 (Cm.cs c))
  have hbl := hQ.lt
  have hMg := hM.bytes.lt
  have HNX := hi (show okQ q = true → mayB q.size 32 q.write = true from fun h => (okQ_out h).2)
  have HNO := hi (fun h => stE_no (bs := bs) (n := bs.length) (a := q.at_) (s := q.size) (off := q.write) (c := c) rfl h)
  have HE := hi (show quE bs.length q c = if rooN q < 1 then 2 else stE bs.length q.at_ q.size q.write (validC c) from rfl)
  have HL := hi (show quL bs q c = if rooN q < 1 then bs else stL bs q.at_ q.size q.write c from rfl)
  have HQQ := hi (show quQ bs.length q c = if quE bs.length q c = 0 then { q with write := nextR q.size 32 q.write } else q from rfl)
  obtain ⟨qe, hqe⟩ : ∃ v, quE bs.length q c = v := ⟨_, rfl⟩
  obtain ⟨ql, hql⟩ : ∃ v, quL bs q c = v := ⟨_, rfl⟩
  obtain ⟨qq, hqq⟩ : ∃ v, quQ bs.length q c = v := ⟨_, rfl⟩
  obtain ⟨F, hFF⟩ : ∃ v, stE bs.length q.at_ q.size q.write (validC c) = v := ⟨_, rfl⟩
  obtain ⟨SL, hSL⟩ : ∃ v, stL bs q.at_ q.size q.write c = v := ⟨_, rfl⟩
  rw [hFF, hSL] at HST
  rw [hFF] at HE HNO
  rw [hSL] at HL HNO
  rw [hqe] at HE HQQ ⊢
  rw [hql] at HL ⊢
  rw [hqq] at HQQ ⊢
  obtain ⟨rn, hrn⟩ : ∃ v, rooN q = v := ⟨_, rfl⟩
  rw [hrn] at HRM HE HL
  have HRO := hi (show ¬ rn < 1 → okQ q = true from fun h => room_ok (by rw [hrn]; exact h))
  clear hqe hql hqq hFF hSL hrn hF hc hM hQ
  obtain ⟨a, s, r, v⟩ := q
  obtain ⟨c1, c2, c3, c4, c5, c6, c7, c8, c9⟩ := c
  unfold win at HST
  dsimp only [Cm.v, Cm.cs] at HRM HST HAG H0 HCM HNX HQQ ⊢
  obtain ⟨a0, a1, a2, a3⟩ := H0.out.held
  by_cases hr : rn < 1
  · obtain rfl : qe = 2 := by have := HE.out; rw [if_pos hr] at this; exact this
    obtain rfl : ql = bs := by have := HL.out; rw [if_pos hr] at this; exact this
    obtain rfl : qq = ⟨a, s, r, v⟩ := by have := HQQ.out; rw [if_neg (by decide)] at this; exact this
    clear HE HL HQQ HST HAG HNX HNO HRO
    go_enter Try.func19, Try.ntmps19
    go_wp2_with (go_at_call 26; ((with_reducible refine (HRM.out _).mono ?_); rintro e w1 ⟨rfl, hb1⟩; have H1 := hi (H0.out.later hb1); clear hb1))
    go_ret
    exact ⟨rfl, H1.out⟩
  · have hok := HRO.out hr
    have hnx := HNX.out hok
    obtain rfl : qe = F := by have := HE.out; rw [if_neg hr] at this; exact this
    obtain rfl : ql = SL := by have := HL.out; rw [if_neg hr] at this; exact this
    have HOK := hi hok
    have HAF := hi (fun W => HAG.out hnx W)
    clear hok hnx HE HL HNX HRO HAG
    by_cases hz : qe = 0
    · subst hz
      obtain rfl : qq = ⟨a, s, r, nextR s 32 v⟩ := by have := HQQ.out; rw [if_pos rfl] at this; exact this
      clear HQQ HNO
      obtain ⟨nx, hnx⟩ : ∃ nx, nextR s 32 v = nx := ⟨_, rfl⟩
      rw [hnx] at HAF ⊢
      clear hnx
      go_enter Try.func19, Try.ntmps19
      go_wp2_with (go_at_call 26; ((with_reducible refine (HRM.out _).mono ?_); rintro e w1 ⟨rfl, hb1⟩; have H1 := hi (H0.out.later hb1); have HC1 := hi (HCM.out.below hb1); clear hb1 a0 a1 a2 a3))
      have hS1 := And.intro H1.out.held (CB.cm9z HC1.out)
      refine wp_region_noPanic ?_
      refine wp_region_last_drew (S := (fun V => (V.cell? ⟨b, 0, none⟩ = some (.int .i64 a) ∧ V.cell? ⟨b, 1, none⟩ = some (.int .i64 s) ∧ V.cell? ⟨b, 2, none⟩ = some (.int .i64 r) ∧ V.cell? ⟨b, 3, none⟩ = some (.int .i64 v)) ∧ (V.cell? ⟨w.heap.size, 0, none⟩ = some (.int .i64 c1) ∧ V.cell? ⟨w.heap.size, 1, none⟩ = some (.int .i64 c2) ∧ V.cell? ⟨w.heap.size, 2, none⟩ = some (.int .i64 c3) ∧ V.cell? ⟨w.heap.size, 3, none⟩ = some (.int .i64 c4) ∧ V.cell? ⟨w.heap.size, 4, none⟩ = some (.int .i64 c5) ∧ V.cell? ⟨w.heap.size, 5, none⟩ = some (.int .i64 c6) ∧ V.cell? ⟨w.heap.size, 6, none⟩ = some (.int .i64 c7) ∧ V.cell? ⟨w.heap.size, 7, none⟩ = some (.int .i64 c8) ∧ V.cell? ⟨w.heap.size, 8, none⟩ = some (.bool c9)))) [] (by kernel_rfl) hS1 (fun hHeld => ?_)
      (try simp only [Array.replicate_succ, Array.replicate_zero, List.push_toArray, List.nil_append, List.cons_append])
      refine wpAnyF_take (i := 0) (v := ?_) (by kernel_rfl) (by kernel_rfl) rfl (by kernel_rfl) (by kernel_rfl) (by kernel_rfl) (fun _ _ _ h => h) (Or.inl ⟨by rfl, ?_⟩) (by assumption) ?_
      rotate_left
      · intro w' hSw; (try dsimp only at hSw); clear hSw; go_simp; (try with_reducible rfl)
      (try simp only [Act.put, List.getElem_toArray, List.getElem_cons_zero, List.getElem_cons_succ, List.setIfInBounds_toArray, List.set_cons_zero, List.set_cons_succ])
      refine wpAnyF_take (i := 1) (v := ?_) (by kernel_rfl) (by kernel_rfl) rfl (by kernel_rfl) (by kernel_rfl) (by kernel_rfl) (fun _ _ _ h => h) (Or.inl ⟨by rfl, ?_⟩) (by assumption) ?_
      rotate_left
      · intro w' hSw; (try dsimp only at hSw); clear hSw; go_simp; (try with_reducible rfl)
      (try simp only [Act.put, List.getElem_toArray, List.getElem_cons_zero, List.getElem_cons_succ, List.setIfInBounds_toArray, List.set_cons_zero, List.set_cons_succ])
      refine wpAnyF_take (i := 2) (v := ?_) (by kernel_rfl) (by kernel_rfl) rfl (by kernel_rfl) (by kernel_rfl) (by kernel_rfl) (fun _ _ _ h => h) (Or.inl ⟨by rfl, ?_⟩) (by assumption) ?_
      rotate_left
      · intro w' hSw; (try dsimp only at hSw); clear hSw; go_simp; (try with_reducible rfl)
      (try simp only [Act.put, List.getElem_toArray, List.getElem_cons_zero, List.getElem_cons_succ, List.setIfInBounds_toArray, List.set_cons_zero, List.set_cons_succ])
      refine wpAnyF_take (i := 3) (v := ?_) (by kernel_rfl) (by kernel_rfl) rfl (by kernel_rfl) (by kernel_rfl) (by kernel_rfl) (fun _ _ _ h => h) (Or.inl ⟨by rfl, ?_⟩) (by assumption) ?_
      rotate_left
      · intro w' hSw; (try dsimp only at hSw); clear hSw; go_simp; (try with_reducible rfl)
      (try simp only [Act.put, List.getElem_toArray, List.getElem_cons_zero, List.getElem_cons_succ, List.setIfInBounds_toArray, List.set_cons_zero, List.set_cons_succ])
      refine wpAnyF_take (i := 4) (v := ?_) (by kernel_rfl) (by kernel_rfl) rfl (by kernel_rfl) (by kernel_rfl) (by kernel_rfl) (fun _ _ _ h => h) (Or.inl ⟨by rfl, ?_⟩) (by assumption) ?_
      rotate_left
      · intro w' hSw; (try dsimp only at hSw); have hh := hSw.1; clear hSw; obtain ⟨a0, a1, a2, a3⟩ := hh; go_simp; (try with_reducible rfl)
      (try simp only [Act.put, List.getElem_toArray, List.getElem_cons_zero, List.getElem_cons_succ, List.setIfInBounds_toArray, List.set_cons_zero, List.set_cons_succ])
      refine wpAnyF_take (i := 5) (v := ?_) (by kernel_rfl) (by kernel_rfl) rfl (by kernel_rfl) (by kernel_rfl) (by kernel_rfl) (fun _ _ _ h => h) (Or.inl ⟨by rfl, ?_⟩) (by assumption) ?_
      rotate_left
      · intro w' hSw; (try dsimp only at hSw); clear hSw; go_simp; (try with_reducible rfl)
      (try simp only [Act.put, List.getElem_toArray, List.getElem_cons_zero, List.getElem_cons_succ, List.setIfInBounds_toArray, List.set_cons_zero, List.set_cons_succ])
      refine wpAnyF_take (i := 6) (v := ?_) (by kernel_rfl) (by kernel_rfl) rfl (by kernel_rfl) (by kernel_rfl) (by kernel_rfl) (fun _ _ _ h => h) (Or.inl ⟨by rfl, ?_⟩) (by assumption) ?_
      rotate_left
      · intro w' hSw; (try dsimp only at hSw); clear hSw; go_simp; (try with_reducible rfl)
      (try simp only [Act.put, List.getElem_toArray, List.getElem_cons_zero, List.getElem_cons_succ, List.setIfInBounds_toArray, List.set_cons_zero, List.set_cons_succ])
      refine wpAnyF_take (i := 7) (v := ?_) (by kernel_rfl) (by kernel_rfl) rfl (by kernel_rfl) (by kernel_rfl) (by kernel_rfl) (fun _ _ _ h => h) (Or.inl ⟨by rfl, ?_⟩) (by assumption) ?_
      rotate_left
      · intro w' hSw; (try dsimp only at hSw); clear hSw; go_simp; (try with_reducible rfl)
      (try simp only [Act.put, List.getElem_toArray, List.getElem_cons_zero, List.getElem_cons_succ, List.setIfInBounds_toArray, List.set_cons_zero, List.set_cons_succ])
      refine wpAnyF_take (i := 8) (v := ?_) (by kernel_rfl) (by kernel_rfl) rfl (by kernel_rfl) (by kernel_rfl) (by kernel_rfl) (fun _ _ _ h => h) (Or.inl ⟨by rfl, ?_⟩) (by assumption) ?_
      rotate_left
      · intro w' hSw; (try dsimp only at hSw); have hh := hSw.1; clear hSw; obtain ⟨a0, a1, a2, a3⟩ := hh; go_simp; (try with_reducible rfl)
      (try simp only [Act.put, List.getElem_toArray, List.getElem_cons_zero, List.getElem_cons_succ, List.setIfInBounds_toArray, List.set_cons_zero, List.set_cons_succ])
      refine wpAnyF_take (i := 9) (v := ?_) (by kernel_rfl) (by kernel_rfl) rfl (by kernel_rfl) (by kernel_rfl) (by kernel_rfl) (fun _ _ _ h => h) (Or.inl ⟨by rfl, ?_⟩) (by assumption) ?_
      rotate_left
      · intro w' hSw; (try dsimp only at hSw); have hh := hSw.2; clear hSw; obtain ⟨b0, b1, b2, b3, b4, b5, b6, b7, b8⟩ := hh; go_simp; (try with_reducible rfl)
      (try simp only [Act.put, List.getElem_toArray, List.getElem_cons_zero, List.getElem_cons_succ, List.setIfInBounds_toArray, List.set_cons_zero, List.set_cons_succ])
      refine wpAnyF_ready (rs := [10]) (by kernel_rfl) (by simp) ?_
      refine AllReadyF.cons rfl (fun KK hKK => ?_) AllReadyF.nil
      go_simp
      ((with_reducible refine (HST.out _ (H1.out.later (below_dr _)).m).mono ?_); rintro e' w3 ⟨rfl, hm3, hk3⟩; have H3 := hi ((H1.out.later (below_dr _)).wrote hm3 hk3); have HC3 := hi ((HC1.out.below (below_dr _)).keptB hk3 (fun e => by have := H1.out.m; have hg := H0.out.m.bytes.lt; have h9 := hMg; omega)); clear hm3 hk3)
      (try go_simp)
      refine hKK.out _ _ ⟨H3.out.held, CB.cm9z HC3.out⟩ (fun hHeld => ?_)
      clear hKK KK
      (try simp only [Act.put, List.getElem_toArray, List.getElem_cons_zero, List.getElem_cons_succ, List.setIfInBounds_toArray, List.set_cons_zero, List.set_cons_succ])
      refine wpAnyF_take (i := 11) (v := ?_) (by kernel_rfl) (by kernel_rfl) rfl (by kernel_rfl) (by kernel_rfl) (by kernel_rfl) (fun _ _ _ h => h) (Or.inl ⟨by rfl, ?_⟩) (by assumption) ?_
      rotate_left
      · intro w' hSw; (try dsimp only at hSw); clear hSw; go_simp; (try with_reducible rfl)
      (try simp only [Act.put, List.getElem_toArray, List.getElem_cons_zero, List.getElem_cons_succ, List.setIfInBounds_toArray, List.set_cons_zero, List.set_cons_succ])
      refine wpAnyF_done (by kernel_rfl) ?_ _
      refine NoPanic.normal ?_
      have H3' := hi H3.out
      clear hHeld
      obtain ⟨a0, a1, a2, a3⟩ := H3.out.held
      have qf := H3.out.q.frozen
      have qz := H3.out.q.lt
      go_wp2
      refine wp_region_noPanic ?_
      refine wp_region_last_drew (S := (fun V => V.cell? ⟨b, 0, none⟩ = some (.int .i64 a) ∧ V.cell? ⟨b, 1, none⟩ = some (.int .i64 s) ∧ V.cell? ⟨b, 2, none⟩ = some (.int .i64 r) ∧ V.cell? ⟨b, 3, none⟩ = some (.int .i64 v))) [9, 10, 11] (by kernel_rfl) H3.out.held (fun hHeld => ?_)
      (try simp only [Array.replicate_succ, Array.replicate_zero, List.push_toArray, List.nil_append, List.cons_append])
      refine wpAnyF_take (i := 0) (v := ?_) (by kernel_rfl) (by kernel_rfl) rfl (by kernel_rfl) (by kernel_rfl) (by kernel_rfl) (fun _ _ _ h => h) (Or.inl ⟨by rfl, ?_⟩) (by assumption) ?_
      rotate_left
      · intro w' hSw; (try dsimp only at hSw); clear hSw; go_simp; (try with_reducible rfl)
      (try simp only [Act.put, List.getElem_toArray, List.getElem_cons_zero, List.getElem_cons_succ, List.setIfInBounds_toArray, List.set_cons_zero, List.set_cons_succ])
      refine wpAnyF_take (i := 1) (v := ?_) (by kernel_rfl) (by kernel_rfl) rfl (by kernel_rfl) (by kernel_rfl) (by kernel_rfl) (fun _ _ _ h => h) (Or.inl ⟨by rfl, ?_⟩) (by assumption) ?_
      rotate_left
      · intro w' hSw; (try dsimp only at hSw); clear hSw; go_simp; (try with_reducible rfl)
      (try simp only [Act.put, List.getElem_toArray, List.getElem_cons_zero, List.getElem_cons_succ, List.setIfInBounds_toArray, List.set_cons_zero, List.set_cons_succ])
      refine wpAnyF_take (i := 2) (v := ?_) (by kernel_rfl) (by kernel_rfl) rfl (by kernel_rfl) (by kernel_rfl) (by kernel_rfl) (fun _ _ _ h => h) (Or.inl ⟨by rfl, ?_⟩) (by assumption) ?_
      rotate_left
      · intro w' hSw; (try dsimp only at hSw); clear hSw; go_simp; (try with_reducible rfl)
      (try simp only [Act.put, List.getElem_toArray, List.getElem_cons_zero, List.getElem_cons_succ, List.setIfInBounds_toArray, List.set_cons_zero, List.set_cons_succ])
      refine wpAnyF_take (i := 3) (v := ?_) (by kernel_rfl) (by kernel_rfl) rfl (by kernel_rfl) (by kernel_rfl) (by kernel_rfl) (fun _ _ _ h => h) (Or.inl ⟨by rfl, ?_⟩) (by assumption) ?_
      rotate_left
      · intro w' hSw; (try dsimp only at hSw); obtain ⟨a0, a1, a2, a3⟩ := hSw; go_simp; (try with_reducible rfl)
      (try simp only [Act.put, List.getElem_toArray, List.getElem_cons_zero, List.getElem_cons_succ, List.setIfInBounds_toArray, List.set_cons_zero, List.set_cons_succ])
      refine wpAnyF_take (i := 4) (v := ?_) (by kernel_rfl) (by kernel_rfl) rfl (by kernel_rfl) (by kernel_rfl) (by kernel_rfl) (fun _ _ _ h => h) (Or.inl ⟨by rfl, ?_⟩) (by assumption) ?_
      rotate_left
      · intro w' hSw; (try dsimp only at hSw); clear hSw; go_simp; (try with_reducible rfl)
      (try simp only [Act.put, List.getElem_toArray, List.getElem_cons_zero, List.getElem_cons_succ, List.setIfInBounds_toArray, List.set_cons_zero, List.set_cons_succ])
      refine wpAnyF_take (i := 5) (v := ?_) (by kernel_rfl) (by kernel_rfl) rfl (by kernel_rfl) (by kernel_rfl) (by kernel_rfl) (fun _ _ _ h => h) (Or.inl ⟨by rfl, ?_⟩) (by assumption) ?_
      rotate_left
      · intro w' hSw; (try dsimp only at hSw); clear hSw; go_simp; (try with_reducible rfl)
      (try simp only [Act.put, List.getElem_toArray, List.getElem_cons_zero, List.getElem_cons_succ, List.setIfInBounds_toArray, List.set_cons_zero, List.set_cons_succ])
      refine wpAnyF_take (i := 6) (v := ?_) (by kernel_rfl) (by kernel_rfl) rfl (by kernel_rfl) (by kernel_rfl) (by kernel_rfl) (fun _ _ _ h => h) (Or.inl ⟨by rfl, ?_⟩) (by assumption) ?_
      rotate_left
      · intro w' hSw; (try dsimp only at hSw); clear hSw; go_simp; (try with_reducible rfl)
      (try simp only [Act.put, List.getElem_toArray, List.getElem_cons_zero, List.getElem_cons_succ, List.setIfInBounds_toArray, List.set_cons_zero, List.set_cons_succ])
      refine wpAnyF_take (i := 7) (v := ?_) (by kernel_rfl) (by kernel_rfl) rfl (by kernel_rfl) (by kernel_rfl) (by kernel_rfl) (fun _ _ _ h => h) (Or.inl ⟨by rfl, ?_⟩) (by assumption) ?_
      rotate_left
      · intro w' hSw; (try dsimp only at hSw); obtain ⟨a0, a1, a2, a3⟩ := hSw; go_simp; (try with_reducible rfl)
      (try simp only [Act.put, List.getElem_toArray, List.getElem_cons_zero, List.getElem_cons_succ, List.setIfInBounds_toArray, List.set_cons_zero, List.set_cons_succ])
      refine wpAnyF_ready (rs := [8]) (by kernel_rfl) (by simp) ?_
      refine AllReadyF.cons rfl (fun KK hKK => ?_) AllReadyF.nil
      go_simp
      ((with_reducible refine (HAF.out _).mono ?_); rintro e' w5 ⟨rfl, hb5⟩; have H5 := hi ((H3.out.later (below_dr _)).later hb5); clear hb5; obtain ⟨p0, p1, p2, p3⟩ := H5.out.held; have pf := H5.out.q.frozen; have pz := H5.out.q.lt)
      (try go_simp)
      refine hKK.out _ _ H5.out.held (fun hHeld => ?_)
      clear hKK KK
      (try simp only [Act.put, List.getElem_toArray, List.getElem_cons_zero, List.getElem_cons_succ, List.setIfInBounds_toArray, List.set_cons_zero, List.set_cons_succ])
      refine wpAnyF_ready (rs := [9]) (by kernel_rfl) (by simp) ?_
      refine AllReadyF.last (by kernel_rfl) rfl (fun KK hKK => ?_) AllReadyF.nil
      go_simp
      refine hKK.out _ _ ?_
      clear hKK KK
      (try simp only [Act.put, List.getElem_toArray, List.getElem_cons_zero, List.getElem_cons_succ, List.setIfInBounds_toArray, List.set_cons_zero, List.set_cons_succ])
      refine wpAnyF_ready (rs := [10]) (by kernel_rfl) (by simp) ?_
      refine AllReadyF.last (by kernel_rfl) rfl (fun KK hKK => ?_) AllReadyF.nil
      go_simp
      refine hKK.out _ _ ?_
      clear hKK KK
      (try simp only [Act.put, List.getElem_toArray, List.getElem_cons_zero, List.getElem_cons_succ, List.setIfInBounds_toArray, List.set_cons_zero, List.set_cons_succ])
      refine wpAnyF_ready (rs := [11]) (by kernel_rfl) (by simp) ?_
      refine AllReadyF.last (by kernel_rfl) rfl (fun KK hKK => ?_) AllReadyF.nil
      go_simp
      refine hKK.out _ _ ?_
      clear hKK KK
      (try simp only [Act.put, List.getElem_toArray, List.getElem_cons_zero, List.getElem_cons_succ, List.setIfInBounds_toArray, List.set_cons_zero, List.set_cons_succ])
      refine wpAnyF_done (by kernel_rfl) ?_ _
      refine NoPanic.normal ?_
      have H6 := hi ((H5.out.put (q' := ⟨a, s, r, nx⟩) 3 (.int .i64 nx) rfl))
      go_wp2
      go_ret
      exact ⟨rfl, H6.out⟩
    · have hne : (qe != 0) = true := by simpa using hz
      obtain rfl : qq = ⟨a, s, r, v⟩ := by have := HQQ.out; rw [if_neg hz] at this; exact this
      have hsl := HNO.out hz
      clear HQQ HNO hz HAF
      go_enter Try.func19, Try.ntmps19
      go_wp2_with (go_at_call 26; ((with_reducible refine (HRM.out _).mono ?_); rintro e w1 ⟨rfl, hb1⟩; have H1 := hi (H0.out.later hb1); have HC1 := hi (HCM.out.below hb1); clear hb1 a0 a1 a2 a3))
      have hS1 := And.intro H1.out.held (CB.cm9z HC1.out)
      refine wp_region_noPanic ?_
      refine wp_region_last_drew (S := (fun V => (V.cell? ⟨b, 0, none⟩ = some (.int .i64 a) ∧ V.cell? ⟨b, 1, none⟩ = some (.int .i64 s) ∧ V.cell? ⟨b, 2, none⟩ = some (.int .i64 r) ∧ V.cell? ⟨b, 3, none⟩ = some (.int .i64 v)) ∧ (V.cell? ⟨w.heap.size, 0, none⟩ = some (.int .i64 c1) ∧ V.cell? ⟨w.heap.size, 1, none⟩ = some (.int .i64 c2) ∧ V.cell? ⟨w.heap.size, 2, none⟩ = some (.int .i64 c3) ∧ V.cell? ⟨w.heap.size, 3, none⟩ = some (.int .i64 c4) ∧ V.cell? ⟨w.heap.size, 4, none⟩ = some (.int .i64 c5) ∧ V.cell? ⟨w.heap.size, 5, none⟩ = some (.int .i64 c6) ∧ V.cell? ⟨w.heap.size, 6, none⟩ = some (.int .i64 c7) ∧ V.cell? ⟨w.heap.size, 7, none⟩ = some (.int .i64 c8) ∧ V.cell? ⟨w.heap.size, 8, none⟩ = some (.bool c9)))) [] (by kernel_rfl) hS1 (fun hHeld => ?_)
      (try simp only [Array.replicate_succ, Array.replicate_zero, List.push_toArray, List.nil_append, List.cons_append])
      refine wpAnyF_take (i := 0) (v := ?_) (by kernel_rfl) (by kernel_rfl) rfl (by kernel_rfl) (by kernel_rfl) (by kernel_rfl) (fun _ _ _ h => h) (Or.inl ⟨by rfl, ?_⟩) (by assumption) ?_
      rotate_left
      · intro w' hSw; (try dsimp only at hSw); clear hSw; go_simp; (try with_reducible rfl)
      (try simp only [Act.put, List.getElem_toArray, List.getElem_cons_zero, List.getElem_cons_succ, List.setIfInBounds_toArray, List.set_cons_zero, List.set_cons_succ])
      refine wpAnyF_take (i := 1) (v := ?_) (by kernel_rfl) (by kernel_rfl) rfl (by kernel_rfl) (by kernel_rfl) (by kernel_rfl) (fun _ _ _ h => h) (Or.inl ⟨by rfl, ?_⟩) (by assumption) ?_
      rotate_left
      · intro w' hSw; (try dsimp only at hSw); clear hSw; go_simp; (try with_reducible rfl)
      (try simp only [Act.put, List.getElem_toArray, List.getElem_cons_zero, List.getElem_cons_succ, List.setIfInBounds_toArray, List.set_cons_zero, List.set_cons_succ])
      refine wpAnyF_take (i := 2) (v := ?_) (by kernel_rfl) (by kernel_rfl) rfl (by kernel_rfl) (by kernel_rfl) (by kernel_rfl) (fun _ _ _ h => h) (Or.inl ⟨by rfl, ?_⟩) (by assumption) ?_
      rotate_left
      · intro w' hSw; (try dsimp only at hSw); clear hSw; go_simp; (try with_reducible rfl)
      (try simp only [Act.put, List.getElem_toArray, List.getElem_cons_zero, List.getElem_cons_succ, List.setIfInBounds_toArray, List.set_cons_zero, List.set_cons_succ])
      refine wpAnyF_take (i := 3) (v := ?_) (by kernel_rfl) (by kernel_rfl) rfl (by kernel_rfl) (by kernel_rfl) (by kernel_rfl) (fun _ _ _ h => h) (Or.inl ⟨by rfl, ?_⟩) (by assumption) ?_
      rotate_left
      · intro w' hSw; (try dsimp only at hSw); clear hSw; go_simp; (try with_reducible rfl)
      (try simp only [Act.put, List.getElem_toArray, List.getElem_cons_zero, List.getElem_cons_succ, List.setIfInBounds_toArray, List.set_cons_zero, List.set_cons_succ])
      refine wpAnyF_take (i := 4) (v := ?_) (by kernel_rfl) (by kernel_rfl) rfl (by kernel_rfl) (by kernel_rfl) (by kernel_rfl) (fun _ _ _ h => h) (Or.inl ⟨by rfl, ?_⟩) (by assumption) ?_
      rotate_left
      · intro w' hSw; (try dsimp only at hSw); have hh := hSw.1; clear hSw; obtain ⟨a0, a1, a2, a3⟩ := hh; go_simp; (try with_reducible rfl)
      (try simp only [Act.put, List.getElem_toArray, List.getElem_cons_zero, List.getElem_cons_succ, List.setIfInBounds_toArray, List.set_cons_zero, List.set_cons_succ])
      refine wpAnyF_take (i := 5) (v := ?_) (by kernel_rfl) (by kernel_rfl) rfl (by kernel_rfl) (by kernel_rfl) (by kernel_rfl) (fun _ _ _ h => h) (Or.inl ⟨by rfl, ?_⟩) (by assumption) ?_
      rotate_left
      · intro w' hSw; (try dsimp only at hSw); clear hSw; go_simp; (try with_reducible rfl)
      (try simp only [Act.put, List.getElem_toArray, List.getElem_cons_zero, List.getElem_cons_succ, List.setIfInBounds_toArray, List.set_cons_zero, List.set_cons_succ])
      refine wpAnyF_take (i := 6) (v := ?_) (by kernel_rfl) (by kernel_rfl) rfl (by kernel_rfl) (by kernel_rfl) (by kernel_rfl) (fun _ _ _ h => h) (Or.inl ⟨by rfl, ?_⟩) (by assumption) ?_
      rotate_left
      · intro w' hSw; (try dsimp only at hSw); clear hSw; go_simp; (try with_reducible rfl)
      (try simp only [Act.put, List.getElem_toArray, List.getElem_cons_zero, List.getElem_cons_succ, List.setIfInBounds_toArray, List.set_cons_zero, List.set_cons_succ])
      refine wpAnyF_take (i := 7) (v := ?_) (by kernel_rfl) (by kernel_rfl) rfl (by kernel_rfl) (by kernel_rfl) (by kernel_rfl) (fun _ _ _ h => h) (Or.inl ⟨by rfl, ?_⟩) (by assumption) ?_
      rotate_left
      · intro w' hSw; (try dsimp only at hSw); clear hSw; go_simp; (try with_reducible rfl)
      (try simp only [Act.put, List.getElem_toArray, List.getElem_cons_zero, List.getElem_cons_succ, List.setIfInBounds_toArray, List.set_cons_zero, List.set_cons_succ])
      refine wpAnyF_take (i := 8) (v := ?_) (by kernel_rfl) (by kernel_rfl) rfl (by kernel_rfl) (by kernel_rfl) (by kernel_rfl) (fun _ _ _ h => h) (Or.inl ⟨by rfl, ?_⟩) (by assumption) ?_
      rotate_left
      · intro w' hSw; (try dsimp only at hSw); have hh := hSw.1; clear hSw; obtain ⟨a0, a1, a2, a3⟩ := hh; go_simp; (try with_reducible rfl)
      (try simp only [Act.put, List.getElem_toArray, List.getElem_cons_zero, List.getElem_cons_succ, List.setIfInBounds_toArray, List.set_cons_zero, List.set_cons_succ])
      refine wpAnyF_take (i := 9) (v := ?_) (by kernel_rfl) (by kernel_rfl) rfl (by kernel_rfl) (by kernel_rfl) (by kernel_rfl) (fun _ _ _ h => h) (Or.inl ⟨by rfl, ?_⟩) (by assumption) ?_
      rotate_left
      · intro w' hSw; (try dsimp only at hSw); have hh := hSw.2; clear hSw; obtain ⟨b0, b1, b2, b3, b4, b5, b6, b7, b8⟩ := hh; go_simp; (try with_reducible rfl)
      (try simp only [Act.put, List.getElem_toArray, List.getElem_cons_zero, List.getElem_cons_succ, List.setIfInBounds_toArray, List.set_cons_zero, List.set_cons_succ])
      refine wpAnyF_ready (rs := [10]) (by kernel_rfl) (by simp) ?_
      refine AllReadyF.cons rfl (fun KK hKK => ?_) AllReadyF.nil
      go_simp
      ((with_reducible refine (HST.out _ (H1.out.later (below_dr _)).m).mono ?_); rintro e' w3 ⟨rfl, hm3, hk3⟩; have H3 := hi ((H1.out.later (below_dr _)).wrote hm3 hk3); have HC3 := hi ((HC1.out.below (below_dr _)).keptB hk3 (fun e => by have := H1.out.m; have hg := H0.out.m.bytes.lt; have h9 := hMg; omega)); clear hm3 hk3)
      (try go_simp)
      refine hKK.out _ _ ⟨H3.out.held, CB.cm9z HC3.out⟩ (fun hHeld => ?_)
      clear hKK KK
      (try simp only [Act.put, List.getElem_toArray, List.getElem_cons_zero, List.getElem_cons_succ, List.setIfInBounds_toArray, List.set_cons_zero, List.set_cons_succ])
      refine wpAnyF_take (i := 11) (v := ?_) (by kernel_rfl) (by kernel_rfl) rfl (by kernel_rfl) (by kernel_rfl) (by kernel_rfl) (fun _ _ _ h => h) (Or.inl ⟨by rfl, ?_⟩) (by assumption) ?_
      rotate_left
      · intro w' hSw; (try dsimp only at hSw); clear hSw; go_simp; (try with_reducible rfl)
      (try simp only [Act.put, List.getElem_toArray, List.getElem_cons_zero, List.getElem_cons_succ, List.setIfInBounds_toArray, List.set_cons_zero, List.set_cons_succ])
      refine wpAnyF_done (by kernel_rfl) ?_ _
      refine NoPanic.normal ?_
      have H3' := hi H3.out
      clear hHeld
      go_wp2
      go_ret
      exact ⟨rfl, by have h := H3'.out; rw [hsl] at h; exact h⟩


set_option maxRecDepth 100000 in
set_option maxHeartbeats 8000000 in
theorem rhead_any (p g cap : Nat) (bs : List Nat) (q : Qu) (w : World) (hM : MemAt 60 w p g cap bs) (hF : q.Fair) :
    Calls Try.prog 28 #[q.v, .pointer (some ⟨p, 0, none⟩)] w fun e w' => e = .returned (.tuple #[(headV bs q).v, .int .i64 (headE bs q)]) ∧ Below w.heap.size w w' := by
  have HLE := hi (fun W => rwaits_any q hF.s.2 W)
  have hxl := xs_len q
  obtain ⟨xs, hx⟩ : ∃ xs, xsR q.size 32 q.read q.write = xs := ⟨_, rfl⟩
  rw [hx] at HLE hxl
  clear hx
  have HLD := hi (fun W hM => rload_any p g cap bs q.at_ q.size q.read W hM hF.a hF.s hF.r)
  have HC := hi (show CB ((w.alloc (.cells (Qu.cs q) 32)).alloc (.cells #[.int .i64 0, .int .i64 0, .int .i64 0, .int .i64 0, .int .i64 0, .int .i64 0, .int .i64 0, .int .i64 0, .bool false] 36)) (w.heap.size + 1) 36 #[.int .i64 0, .int .i64 0, .int .i64 0, .int .i64 0, .int .i64 0, .int .i64 0, .int .i64 0, .int .i64 0, .bool false] ∧ CB ((w.alloc (.cells (Qu.cs q) 32)).alloc (.cells #[.int .i64 0, .int .i64 0, .int .i64 0, .int .i64 0, .int .i64 0, .int .i64 0, .int .i64 0, .int .i64 0, .bool false] 36)) w.heap.size 32 (Qu.cs q) ∧ Below w.heap.size w ((w.alloc (.cells (Qu.cs q) 32)).alloc (.cells #[.int .i64 0, .int .i64 0, .int .i64 0, .int .i64 0, .int .i64 0, .int .i64 0, .int .i64 0, .int .i64 0, .bool false] 36)) from And.intro cb_second (And.intro ((CB.new w _ _).alloc _) (bal_two w _ _)))
  have HM := hi hM
  have HV := hi (show headV bs q = if lefN q < 1 then Cm.zero else ldV bs q.at_ q.size q.read from rfl)
  have HE := hi (show headE bs q = if lefN q < 1 then 170 else ldE bs q.at_ q.size q.read from rfl)
  obtain ⟨hv, hhv⟩ : ∃ v, headV bs q = v := ⟨_, rfl⟩
  obtain ⟨he, hhe⟩ : ∃ v, headE bs q = v := ⟨_, rfl⟩
  obtain ⟨lv, hlv⟩ : ∃ v, ldV bs q.at_ q.size q.read = v := ⟨_, rfl⟩
  obtain ⟨le, hle⟩ : ∃ v, ldE bs q.at_ q.size q.read = v := ⟨_, rfl⟩
  obtain ⟨ln, hln⟩ : ∃ v, lefN q = v := ⟨_, rfl⟩
  rw [hlv, hle] at HLD
  rw [hhv, hlv, hln] at HV
  rw [hhe, hle, hln] at HE
  rw [hln] at hxl
  rw [hhv, hhe]
  clear hhv hhe hlv hle hln hF hM
  obtain ⟨a, s, r, v⟩ := q
  unfold win at HLD
  dsimp only at HLE HLD HC ⊢
  obtain ⟨c0, c1, c2, c3⟩ := CB.four HC.out.2.1
  by_cases hl : ln < 1
  · obtain rfl : hv = Cm.zero := by have := HV.out; rw [if_pos hl] at this; exact this
    obtain rfl : he = 170 := by have := HE.out; rw [if_pos hl] at this; exact this
    clear HV HE HLD
    have hz : xs.length = 0 := by omega
    go_enter Try.func28, Try.ntmps28
    go_wp2_with (go_at_call 25; ((with_reducible refine (HLE.out _).mono ?_); rintro e w1 ⟨sa, scap, rfl, hi1, hb1⟩; clear hi1; have H1 := hi (And.intro (HC.out.1.below hb1) (HC.out.2.2.trans (hb1.mono HC.out.2.2.size))); obtain ⟨r0, r1, r2, r3, r4, r5, r6, r7, r8⟩ := CB.nine H1.out.1; have rf := H1.out.1.frozen; have rz := H1.out.1.lt; clear hb1))
    exact bodyPost_ret (results_cmt rfl _ _ (w.heap.size + 1) _ _ _ _ _ _ _ _ _ _ rfl rfl (H1.out.1.set9 _ _ _ _ _ _ _ _ _)) rfl ⟨rfl, below_set9 H1.out.2 (by omega) _ _ _ _ _ _ _ _ _⟩
  · obtain rfl : hv = lv := by have := HV.out; rw [if_neg hl] at this; exact this
    obtain rfl : he = le := by have := HE.out; rw [if_neg hl] at this; exact this
    clear HV HE
    have hz2 : ((xs.length : Int) == 0) = false := by simp only [beq_eq_false_iff_ne, ne_eq]; omega
    have hz3 : xs.length ≠ 0 := by omega
    obtain ⟨d1, d2, d3, d4, d5, d6, d7, d8, d9⟩ := hv
    dsimp only [Cm.v] at HLD ⊢
    go_enter Try.func28, Try.ntmps28
    go_wp2_with (first
      | (go_at_call 25; ((with_reducible refine (HLE.out _).mono ?_); rintro e w1 ⟨sa, scap, rfl, hi1, hb1⟩; clear hi1; have H1 := hi (And.intro (HC.out.1.below hb1) (And.intro (HC.out.2.1.below hb1) (HC.out.2.2.trans (hb1.mono HC.out.2.2.size)))); clear hb1 c0 c1 c2 c3; obtain ⟨c0, c1, c2, c3⟩ := CB.four H1.out.2.1))
      | (go_at_call 30; ((with_reducible refine (HLD.out _ (HM.out.below H1.out.2.2)).mono ?_); rintro e w2 ⟨rfl, hb2⟩; have H2 := hi (And.intro (H1.out.1.below hb2) (H1.out.2.2.trans (hb2.mono H1.out.2.2.size))); obtain ⟨r0, r1, r2, r3, r4, r5, r6, r7, r8⟩ := CB.nine H2.out.1; have rf := H2.out.1.frozen; have rz := H2.out.1.lt; clear hb2 c0 c1 c2 c3)))
    exact bodyPost_ret (results_cmt rfl _ _ (w.heap.size + 1) _ _ _ _ _ _ _ _ _ _ rfl rfl (H2.out.1.set9 _ _ _ _ _ _ _ _ _)) rfl ⟨rfl, below_set9 H2.out.2 (by omega) _ _ _ _ _ _ _ _ _⟩


end Go.Proofs.Ytfnokpajendlmaa

namespace Go.Proofs.Ytfnokpajendlmaa
open Go.ChangeShapes Go.WideShapes Go.ChangeAt Go.RowKit
set_option linter.unusedVariables false
set_option linter.unusedSimpArgs false

/-- Both memories, both queues' boxes. -/
structure DQ (w : World) (p g c q h d b b2 : Nat) (bs bs2 : List Nat) (x x2 : Qu) (W : World) : Prop where
  t : Two w p g c q h d bs bs2 W
  q : CB W b 25 (Qu.cs x)
  r : CB W b2 32 (Qu.cs x2)
  lb : w.heap.size ≤ b
  lb2 : w.heap.size ≤ b2
theorem DQ.later {w : World} {p g c q h d b b2 : Nat} {bs bs2 : List Nat} {x x2 : Qu} {W W' : World} (s : DQ w p g c q h d b b2 bs bs2 x x2 W) (k : Below W.heap.size W W') : DQ w p g c q h d b b2 bs bs2 x x2 W' := ⟨s.t.later k, s.q.below k, s.r.below k, s.lb, s.lb2⟩
theorem DQ.ne {w : World} {p g c q h d b b2 : Nat} {bs bs2 : List Nat} {x x2 : Qu} {W : World} (s : DQ w p g c q h d b b2 bs bs2 x x2 W) : (b ≠ p ∧ b ≠ g ∧ b ≠ q ∧ b ≠ h) ∧ (b2 ≠ p ∧ b2 ≠ g ∧ b2 ≠ q ∧ b2 ≠ h) ∧ b ≠ b2 := by
  obtain ⟨h1, h2⟩ := mem_apart s.t.mem s.q (by decide) (by decide)
  obtain ⟨h3, h4⟩ := mem_apart s.t.ref s.q (by decide) (by decide)
  obtain ⟨h5, h6⟩ := mem_apart s.t.mem s.r (by decide) (by decide)
  obtain ⟨h7, h8⟩ := mem_apart s.t.ref s.r (by decide) (by decide)
  refine ⟨⟨h1, h2, h3, h4⟩, ⟨h5, h6, h7, h8⟩, fun e => ?_⟩
  have k1 : W.heap[b]? = _ := s.q
  rw [e, show W.heap[b2]? = _ from s.r] at k1
  simp at k1
theorem DQ.qm {w : World} {p g c q h d b b2 : Nat} {bs bs' bs2 : List Nat} {x x' x2 : Qu} {W W' : World} (s : DQ w p g c q h d b b2 bs bs2 x x2 W) (k : QM W p g c b bs' x' W') : DQ w p g c q h d b b2 bs' bs2 x' x2 W' := by
  obtain ⟨⟨h1, h2, h3, h4⟩, ⟨h5, h6, h7, h8⟩, h9⟩ := s.ne
  have t := s.t
  exact ⟨⟨k.m, t.ref.kept k.kept (fun e => e.elim (fun e => t.ref.neb t.mem e) (fun e => h3 e.symm)) (fun e => e.elim (fun e => t.gh e.symm) (fun e => h4 e.symm)), t.below.trans (k.kept.toBelow t.sz (fun y e => by have := t.lg; have := s.lb; omega)), t.lp, t.lg, t.lq, t.lh, t.gh, t.pq⟩, k.q, s.r.keptB k.kept (fun e => e.elim h6 (fun e => h9 e.symm)), s.lb, s.lb2⟩
theorem DQ.qn {w : World} {p g c q h d b b2 : Nat} {bs bs2 bs2' : List Nat} {x x2 x2' : Qu} {W W' : World} (s : DQ w p g c q h d b b2 bs bs2 x x2 W) (k : QN W q h d b2 bs2' x2' W') : DQ w p g c q h d b b2 bs bs2' x x2' W' := by
  obtain ⟨⟨h1, h2, h3, h4⟩, ⟨h5, h6, h7, h8⟩, h9⟩ := s.ne
  have t := s.t
  exact ⟨⟨t.mem.kept k.kept (fun e => e.elim (fun e => t.mem.neb t.ref e) (fun e => h5 e.symm)) (fun e => e.elim (fun e => t.gh e) (fun e => h6 e.symm)), k.m, t.below.trans (k.kept.toBelow t.sz (fun y e => by have := t.lh; have := s.lb2; omega)), t.lp, t.lg, t.lq, t.lh, t.gh, t.pq⟩, s.q.keptB k.kept (fun e => e.elim h4 h9), k.q, s.lb, s.lb2⟩
theorem DQ.qk {w : World} {p g c q h d b b2 : Nat} {bs bs2 : List Nat} {x x' x2 : Qu} {W W' : World} (s : DQ w p g c q h d b b2 bs bs2 x x2 W) (k : QK W b x' W') : DQ w p g c q h d b b2 bs bs2 x' x2 W' := by
  obtain ⟨⟨h1, h2, h3, h4⟩, ⟨h5, h6, h7, h8⟩, h9⟩ := s.ne
  have t := s.t
  exact ⟨⟨t.mem.kept k.kept (fun e => h1 e.symm) (fun e => h2 e.symm), t.ref.kept k.kept (fun e => h3 e.symm) (fun e => h4 e.symm), t.below.trans (k.kept.toBelow t.sz (fun y e => by have := s.lb; omega)), t.lp, t.lg, t.lq, t.lh, t.gh, t.pq⟩, k.q, s.r.keptB k.kept (fun e => h9 e.symm), s.lb, s.lb2⟩
theorem DQ.qj {w : World} {p g c q h d b b2 : Nat} {bs bs2 : List Nat} {x x2 x2' : Qu} {W W' : World} (s : DQ w p g c q h d b b2 bs bs2 x x2 W) (k : QJ W b2 x2' W') : DQ w p g c q h d b b2 bs bs2 x x2' W' := by
  obtain ⟨⟨h1, h2, h3, h4⟩, ⟨h5, h6, h7, h8⟩, h9⟩ := s.ne
  have t := s.t
  exact ⟨⟨t.mem.kept k.kept (fun e => h5 e.symm) (fun e => h6 e.symm), t.ref.kept k.kept (fun e => h7 e.symm) (fun e => h8 e.symm), t.below.trans (k.kept.toBelow t.sz (fun y e => by have := s.lb2; omega)), t.lp, t.lg, t.lq, t.lh, t.gh, t.pq⟩, s.q.keptB k.kept h9, k.q, s.lb, s.lb2⟩
theorem DQ.wm {w : World} {p g c q h d b b2 : Nat} {bs bs' bs2 : List Nat} {x x2 : Qu} {W W' : World} (s : DQ w p g c q h d b b2 bs bs2 x x2 W) (k : Kept (· = g) W W') (m : MemAt 73 W' p g c bs') : DQ w p g c q h d b b2 bs' bs2 x x2 W' := by
  obtain ⟨⟨h1, h2, h3, h4⟩, ⟨h5, h6, h7, h8⟩, h9⟩ := s.ne
  exact ⟨s.t.mem_step k m, s.q.keptB k h2, s.r.keptB k h6, s.lb, s.lb2⟩
theorem DQ.wr {w : World} {p g c q h d b b2 : Nat} {bs bs2 bs2' : List Nat} {x x2 : Qu} {W W' : World} (s : DQ w p g c q h d b b2 bs bs2 x x2 W) (k : Kept (· = h) W W') (m : MemAt 60 W' q h d bs2') : DQ w p g c q h d b b2 bs bs2' x x2 W' := by
  obtain ⟨⟨h1, h2, h3, h4⟩, ⟨h5, h6, h7, h8⟩, h9⟩ := s.ne
  exact ⟨s.t.ref_step k m, s.q.keptB k h4, s.r.keptB k h8, s.lb, s.lb2⟩

theorem results_rq {fn : Func} {c : Tmp} (h : fn.results = #[.cell c 32]) (tmps : Array Value) (w : World) (b : Nat) (v0 v1 v2 v3 : Value) (hp : tmps.getD c undef = .pointer (some ⟨b, 0, none⟩)) (hb : CB w b 32 #[v0, v1, v2, v3]) :
    (results fn tmps).run Try.prog w = .ok (.agg #[v0, v1, v2, v3]) w := by
  have hp' : tmps[c]?.getD undef = .pointer (some ⟨b, 0, none⟩) := by simpa using hp
  have c0 := hb.cell 0
  have c1 := hb.cell 1
  have c2 := hb.cell 2
  have c3 := hb.cell 3
  simp at c0 c1 c2 c3
  simp [results, h, go_sem, hp', c0, c1, c2, c3]
set_option maxRecDepth 100000 in
set_option maxHeartbeats 400000 in
theorem told_any (q : Qu) (w : World) : Calls Try.prog 6 #[q.v] w fun e w' => e = .returned q.v ∧ Below w.heap.size w w' := by
  have HC := hi (show CB ((w.alloc (.cells (Qu.cs q) 25)).alloc (.cells #[.int .i64 0, .int .i64 0, .int .i64 0, .int .i64 0] 32)) w.heap.size 25 (Qu.cs q) ∧ CB ((w.alloc (.cells (Qu.cs q) 25)).alloc (.cells #[.int .i64 0, .int .i64 0, .int .i64 0, .int .i64 0] 32)) (w.heap.size + 1) 32 #[.int .i64 0, .int .i64 0, .int .i64 0, .int .i64 0] ∧ Below w.heap.size w ((w.alloc (.cells (Qu.cs q) 25)).alloc (.cells #[.int .i64 0, .int .i64 0, .int .i64 0, .int .i64 0] 32)) from And.intro ((CB.new w 25 (Qu.cs q)).alloc _) (And.intro cb_second (bal_two w _ _)))
  obtain ⟨a, s, r, v⟩ := q
  (try dsimp only at HC)
  (try dsimp only)
  obtain ⟨a0, a1, a2, a3⟩ := CB.four HC.out.1
  obtain ⟨b0, b1, b2, b3⟩ := CB.four HC.out.2.1
  have bf := HC.out.2.1.frozen
  go_enter Try.func6, Try.ntmps6
  go_wp2
  exact bodyPost_ret (results_rq rfl _ _ (w.heap.size + 1) _ _ _ _ rfl cb_second) rfl ⟨rfl, bal_two w _ _⟩

end Go.Proofs.Ytfnokpajendlmaa

namespace Go.Proofs.Ytfnokpajendlmaa
open Go.ChangeShapes Go.WideShapes Go.ChangeAt Go.RowKit
set_option linter.unusedVariables false
set_option linter.unusedSimpArgs false

set_option maxRecDepth 100000 in
set_option maxHeartbeats 8000000 in
theorem does_any (w : World) (p g cap q h d b b2 : Nat) (bs : List Nat) (x : Qu) (hF : x.Fair) (dd aa : Int) (c : Cm) (vv : Nat) (hc : c.Fair) (hv : vv < 18446744073709551616) (haa : i64B aa) (W : World) (H : DQ w p g cap q h d b b2 bs bs x x W) :
    Calls Try.prog 7 #[.pointer (some ⟨b, 0, none⟩), .pointer (some ⟨p, 0, none⟩), .pointer (some ⟨b2, 0, none⟩), .pointer (some ⟨q, 0, none⟩), .agg #[.int .i64 dd, .int .i64 aa, .int .i64 c.op, .int .i64 c.dev, .int .i64 c.ev, .int .i64 c.num, .int .i64 c.coll, .int .i64 c.tgt, .int .i64 c.bit, .int .i64 c.addr, .bool c.valid, .int .u64 vv]] W fun e W' => e = .returned (.bool true) ∧ ∃ bs' x', x'.Fair ∧ DQ w p g cap q h d b b2 bs' bs' x' x' W' := by
  have zA := And.intro H.t.mem.plt (And.intro H.t.mem.bytes.lt (And.intro H.t.ref.plt (And.intro H.t.ref.bytes.lt (And.intro H.q.lt H.r.lt))))
  have hbl := H.t.mem.len
  obtain ⟨c1, c2, c3, c4, c5, c6, c7, c8, c9⟩ := c
  dsimp only
  have HA := hi (show CB (W.alloc (.cells #[.int .i64 dd, .int .i64 aa, .int .i64 c1, .int .i64 c2, .int .i64 c3, .int .i64 c4, .int .i64 c5, .int .i64 c6, .int .i64 c7, .int .i64 c8, .bool c9, .int .u64 vv] 39)) W.heap.size 39 #[.int .i64 dd, .int .i64 aa, .int .i64 c1, .int .i64 c2, .int .i64 c3, .int .i64 c4, .int .i64 c5, .int .i64 c6, .int .i64 c7, .int .i64 c8, .bool c9, .int .u64 vv] from CB.new W _ _)
  have H1 := hi (H.later (bal W (.cells #[.int .i64 dd, .int .i64 aa, .int .i64 c1, .int .i64 c2, .int .i64 c3, .int .i64 c4, .int .i64 c5, .int .i64 c6, .int .i64 c7, .int .i64 c8, .bool c9, .int .u64 vv] 39)))
  have a0 := HA.out.cell 0
  have hsz : (W.alloc (.cells #[.int .i64 dd, .int .i64 aa, .int .i64 c1, .int .i64 c2, .int .i64 c3, .int .i64 c4, .int .i64 c5, .int .i64 c6, .int .i64 c7, .int .i64 c8, .bool c9, .int .u64 vv] 39)).heap.size = W.heap.size + 1 := by simp
  clear H
  by_cases e1 : dd = 1
  · subst e1
    have HP := hi (fun W hM hQ => put_any p g cap bs b x ⟨c1, c2, c3, c4, c5, c6, c7, c8, c9⟩ W hM hQ hF hc.addr)
    have HR := hi (fun W hM hQ => rput_any q h d bs b2 x ⟨c1, c2, c3, c4, c5, c6, c7, c8, c9⟩ W hM hQ hF hc)
    have HFX := hi (quQ_fair (n := bs.length) ⟨c1, c2, c3, c4, c5, c6, c7, c8, c9⟩ hF)
    obtain ⟨E, hE⟩ : ∃ E, quE bs.length x ⟨c1, c2, c3, c4, c5, c6, c7, c8, c9⟩ = E := ⟨_, rfl⟩
    obtain ⟨bs', hb'⟩ : ∃ l, quL bs x ⟨c1, c2, c3, c4, c5, c6, c7, c8, c9⟩ = l := ⟨_, rfl⟩
    obtain ⟨x', hx'⟩ : ∃ l, quQ bs.length x ⟨c1, c2, c3, c4, c5, c6, c7, c8, c9⟩ = l := ⟨_, rfl⟩
    rw [hE, hb', hx'] at HP HR
    rw [hx'] at HFX
    clear hE hb' hx'
    dsimp only [Cm.v] at HP HR
    go_enter Try.func7, Try.ntmps7
    go_wp2
    refine wp_region_noPanic ?_
    refine wp_region_last_drew (S := (fun V => cmdC V W.heap.size 2 ⟨c1, c2, c3, c4, c5, c6, c7, c8, c9⟩)) [] (by kernel_rfl) (show cmdC _ W.heap.size 2 ⟨c1, c2, c3, c4, c5, c6, c7, c8, c9⟩ from ⟨HA.out.cell 2, HA.out.cell 3, HA.out.cell 4, HA.out.cell 5, HA.out.cell 6, HA.out.cell 7, HA.out.cell 8, HA.out.cell 9, HA.out.cell 10⟩) (fun hHeld => ?_)
    (try simp only [Array.replicate_succ, Array.replicate_zero, List.push_toArray, List.nil_append, List.cons_append])
    refine wpAnyF_take (i := 0) (v := ?_) (by kernel_rfl) (by kernel_rfl) rfl (by kernel_rfl) (by kernel_rfl) (by kernel_rfl) (fun _ _ _ h => h) (Or.inl ⟨by rfl, ?_⟩) (by assumption) ?_
    rotate_left
    · intro w' hSw; (try dsimp only at hSw); clear hSw; go_simp; (try with_reducible rfl)
    (try simp only [Act.put, List.getElem_toArray, List.getElem_cons_zero, List.getElem_cons_succ, List.setIfInBounds_toArray, List.set_cons_zero, List.set_cons_succ])
    refine wpAnyF_take (i := 1) (v := ?_) (by kernel_rfl) (by kernel_rfl) rfl (by kernel_rfl) (by kernel_rfl) (by kernel_rfl) (fun _ _ _ h => h) (Or.inl ⟨by rfl, ?_⟩) (by assumption) ?_
    rotate_left
    · intro w' hSw; (try dsimp only at hSw); clear hSw; go_simp; (try with_reducible rfl)
    (try simp only [Act.put, List.getElem_toArray, List.getElem_cons_zero, List.getElem_cons_succ, List.setIfInBounds_toArray, List.set_cons_zero, List.set_cons_succ])
    refine wpAnyF_take (i := 2) (v := ?_) (by kernel_rfl) (by kernel_rfl) rfl (by kernel_rfl) (by kernel_rfl) (by kernel_rfl) (fun _ _ _ h => h) (Or.inl ⟨by rfl, ?_⟩) (by assumption) ?_
    rotate_left
    · intro w' hSw; (try dsimp only at hSw); clear hSw; go_simp; (try with_reducible rfl)
    (try simp only [Act.put, List.getElem_toArray, List.getElem_cons_zero, List.getElem_cons_succ, List.setIfInBounds_toArray, List.set_cons_zero, List.set_cons_succ])
    refine wpAnyF_take (i := 3) (v := ?_) (by kernel_rfl) (by kernel_rfl) rfl (by kernel_rfl) (by kernel_rfl) (by kernel_rfl) (fun _ _ _ h => h) (Or.inl ⟨by rfl, ?_⟩) (by assumption) ?_
    rotate_left
    · intro w' hSw; (try dsimp only at hSw); unfold cmdC at hSw; dsimp only at hSw; obtain ⟨m0, m1, m2, m3, m4, m5, m6, m7, m8⟩ := hSw; go_simp; (try with_reducible rfl)
    (try simp only [Act.put, List.getElem_toArray, List.getElem_cons_zero, List.getElem_cons_succ, List.setIfInBounds_toArray, List.set_cons_zero, List.set_cons_succ])
    refine wpAnyF_take (i := 5) (v := ?_) (by kernel_rfl) (by kernel_rfl) rfl (by kernel_rfl) (by kernel_rfl) (by kernel_rfl) (fun _ _ _ h => h) (Or.inl ⟨by rfl, ?_⟩) (by assumption) ?_
    rotate_left
    · intro w' hSw; (try dsimp only at hSw); clear hSw; go_simp; (try with_reducible rfl)
    (try simp only [Act.put, List.getElem_toArray, List.getElem_cons_zero, List.getElem_cons_succ, List.setIfInBounds_toArray, List.set_cons_zero, List.set_cons_succ])
    refine wpAnyF_take (i := 6) (v := ?_) (by kernel_rfl) (by kernel_rfl) rfl (by kernel_rfl) (by kernel_rfl) (by kernel_rfl) (fun _ _ _ h => h) (Or.inl ⟨by rfl, ?_⟩) (by assumption) ?_
    rotate_left
    · intro w' hSw; (try dsimp only at hSw); clear hSw; go_simp; (try with_reducible rfl)
    (try simp only [Act.put, List.getElem_toArray, List.getElem_cons_zero, List.getElem_cons_succ, List.setIfInBounds_toArray, List.set_cons_zero, List.set_cons_succ])
    refine wpAnyF_take (i := 7) (v := ?_) (by kernel_rfl) (by kernel_rfl) rfl (by kernel_rfl) (by kernel_rfl) (by kernel_rfl) (fun _ _ _ h => h) (Or.inl ⟨by rfl, ?_⟩) (by assumption) ?_
    rotate_left
    · intro w' hSw; (try dsimp only at hSw); clear hSw; go_simp; (try with_reducible rfl)
    (try simp only [Act.put, List.getElem_toArray, List.getElem_cons_zero, List.getElem_cons_succ, List.setIfInBounds_toArray, List.set_cons_zero, List.set_cons_succ])
    refine wpAnyF_take (i := 8) (v := ?_) (by kernel_rfl) (by kernel_rfl) rfl (by kernel_rfl) (by kernel_rfl) (by kernel_rfl) (fun _ _ _ h => h) (Or.inl ⟨by rfl, ?_⟩) (by assumption) ?_
    rotate_left
    · intro w' hSw; (try dsimp only at hSw); unfold cmdC at hSw; dsimp only at hSw; obtain ⟨m0, m1, m2, m3, m4, m5, m6, m7, m8⟩ := hSw; go_simp; (try with_reducible rfl)
    (try simp only [Act.put, List.getElem_toArray, List.getElem_cons_zero, List.getElem_cons_succ, List.setIfInBounds_toArray, List.set_cons_zero, List.set_cons_succ])
    refine wpAnyF_ready (rs := [4]) (by kernel_rfl) (by simp) ?_
    refine AllReadyF.cons rfl (fun KK hKK => ?_) AllReadyF.nil
    go_simp
    ((with_reducible refine (HP.out _ (H1.out.later (below_dr _)).t.mem (H1.out.later (below_dr _)).q).mono ?_); rintro e' w3 ⟨rfl, hq3⟩; have H2 := hi ((H1.out.later (below_dr _)).qm hq3); have HA2 := hi ((HA.out.below (below_dr _)).keptB hq3.kept (fun e9 => by omega)); clear hq3)
    (try go_simp)
    refine hKK.out _ _ (show cmdC w3 W.heap.size 2 ⟨c1, c2, c3, c4, c5, c6, c7, c8, c9⟩ from ⟨HA2.out.cell 2, HA2.out.cell 3, HA2.out.cell 4, HA2.out.cell 5, HA2.out.cell 6, HA2.out.cell 7, HA2.out.cell 8, HA2.out.cell 9, HA2.out.cell 10⟩) (fun hHeld => ?_)
    clear hKK KK
    (try simp only [Act.put, List.getElem_toArray, List.getElem_cons_zero, List.getElem_cons_succ, List.setIfInBounds_toArray, List.set_cons_zero, List.set_cons_succ])
    refine wpAnyF_ready (rs := [9]) (by kernel_rfl) (by simp) ?_
    refine AllReadyF.cons rfl (fun KK hKK => ?_) AllReadyF.nil
    go_simp
    ((with_reducible refine (HR.out _ H2.out.t.ref H2.out.r).mono ?_); rintro e' w4 ⟨rfl, hq4⟩; have H3 := hi (H2.out.qn hq4); have HA3 := hi (HA2.out.keptB hq4.kept (fun e9 => by omega)); clear hq4)
    (try go_simp)
    refine hKK.out _ _ (show cmdC w4 W.heap.size 2 ⟨c1, c2, c3, c4, c5, c6, c7, c8, c9⟩ from ⟨HA3.out.cell 2, HA3.out.cell 3, HA3.out.cell 4, HA3.out.cell 5, HA3.out.cell 6, HA3.out.cell 7, HA3.out.cell 8, HA3.out.cell 9, HA3.out.cell 10⟩) (fun hHeld => ?_)
    clear hKK KK
    (try simp only [Act.put, List.getElem_toArray, List.getElem_cons_zero, List.getElem_cons_succ, List.setIfInBounds_toArray, List.set_cons_zero, List.set_cons_succ])
    refine wpAnyF_take (i := 10) (v := ?_) (by kernel_rfl) (by kernel_rfl) rfl (by kernel_rfl) (by kernel_rfl) (by kernel_rfl) (fun _ _ _ h => h) (Or.inl ⟨by rfl, ?_⟩) (by assumption) ?_
    rotate_left
    · intro w' hSw; (try dsimp only at hSw); clear hSw; go_simp; (try with_reducible rfl)
    (try simp only [Act.put, List.getElem_toArray, List.getElem_cons_zero, List.getElem_cons_succ, List.setIfInBounds_toArray, List.set_cons_zero, List.set_cons_succ])
    refine wpAnyF_take (i := 11) (v := ?_) (by kernel_rfl) (by kernel_rfl) rfl (by kernel_rfl) (by kernel_rfl) (by kernel_rfl) (fun _ _ _ h => h) (Or.inl ⟨by rfl, ?_⟩) (by assumption) ?_
    rotate_left
    · intro w' hSw; (try dsimp only at hSw); clear hSw; go_simp; (try with_reducible rfl)
    (try simp only [Act.put, List.getElem_toArray, List.getElem_cons_zero, List.getElem_cons_succ, List.setIfInBounds_toArray, List.set_cons_zero, List.set_cons_succ])
    refine wpAnyF_done (by kernel_rfl) ?_ _
    refine NoPanic.normal ?_
    go_wp2
    go_ret
    exact ⟨rfl, bs', x', HFX.out, H3.out⟩
  · by_cases e2 : dd = 2
    · subst e2
      have HP := hi (fun W hQ => pass_any b x W hQ hF)
      have HR := hi (fun W hQ => rpass_any b2 x W hQ hF)
      have HFX := hi (passQ_fair hF)
      obtain ⟨E, hE⟩ : ∃ E, passE x = E := ⟨_, rfl⟩
      obtain ⟨x', hx'⟩ : ∃ l, passQ x = l := ⟨_, rfl⟩
      rw [hE, hx'] at HP HR
      rw [hx'] at HFX
      clear hE hx'
      go_enter Try.func7, Try.ntmps7
      go_wp2_with (first
        | (go_at_call 14; ((with_reducible refine (HP.out _ H1.out.q).mono ?_); rintro e' w1 ⟨rfl, hq1⟩; have H2 := hi (H1.out.qk hq1); clear hq1))
        | (go_at_call 20; ((with_reducible refine (HR.out _ H2.out.r).mono ?_); rintro e' w2 ⟨rfl, hq2⟩; have H3 := hi (H2.out.qj hq2); clear hq2)))
      go_ret
      exact ⟨rfl, bs, x', HFX.out, H3.out⟩
    · by_cases e3 : dd = 3
      · subst e3
        have HP := hi (fun W hQ => set_any b x aa W hQ hF)
        have HR := hi (fun W hQ => rset_any b2 x aa W hQ hF)
        have HFX := hi (show i64B aa → (setQ x aa).Fair from fun ha => setQ_fair hF ha)
        obtain ⟨E, hE⟩ : ∃ E, setE x aa = E := ⟨_, rfl⟩
        obtain ⟨x', hx'⟩ : ∃ l, setQ x aa = l := ⟨_, rfl⟩
        rw [hE, hx'] at HP HR
        rw [hx'] at HFX
        clear hE hx'
        go_enter Try.func7, Try.ntmps7
        go_wp2
        refine wp_region_noPanic ?_
        refine wp_region_last_drew (S := (fun V => V.cell? ⟨W.heap.size, 1, none⟩ = some (.int .i64 aa) ∧ V.cell? ⟨W.heap.size, 11, none⟩ = some (.int .u64 vv))) [] (by kernel_rfl) ⟨HA.out.cell 1, HA.out.cell 11⟩ (fun hHeld => ?_)
        (try simp only [Array.replicate_succ, Array.replicate_zero, List.push_toArray, List.nil_append, List.cons_append])
        refine wpAnyF_take (i := 0) (v := ?_) (by kernel_rfl) (by kernel_rfl) rfl (by kernel_rfl) (by kernel_rfl) (by kernel_rfl) (fun _ _ _ h => h) (Or.inl ⟨by rfl, ?_⟩) (by assumption) ?_
        rotate_left
        · intro w' hSw; (try dsimp only at hSw); clear hSw; go_simp; (try with_reducible rfl)
        (try simp only [Act.put, List.getElem_toArray, List.getElem_cons_zero, List.getElem_cons_succ, List.setIfInBounds_toArray, List.set_cons_zero, List.set_cons_succ])
        refine wpAnyF_take (i := 1) (v := ?_) (by kernel_rfl) (by kernel_rfl) rfl (by kernel_rfl) (by kernel_rfl) (by kernel_rfl) (fun _ _ _ h => h) (Or.inl ⟨by rfl, ?_⟩) (by assumption) ?_
        rotate_left
        · intro w' hSw; (try dsimp only at hSw); clear hSw; go_simp; (try with_reducible rfl)
        (try simp only [Act.put, List.getElem_toArray, List.getElem_cons_zero, List.getElem_cons_succ, List.setIfInBounds_toArray, List.set_cons_zero, List.set_cons_succ])
        refine wpAnyF_take (i := 2) (v := ?_) (by kernel_rfl) (by kernel_rfl) rfl (by kernel_rfl) (by kernel_rfl) (by kernel_rfl) (fun _ _ _ h => h) (Or.inl ⟨by rfl, ?_⟩) (by assumption) ?_
        rotate_left
        · intro w' hSw; (try dsimp only at hSw); obtain ⟨m1, m2⟩ := hSw; go_simp; (try with_reducible rfl)
        (try simp only [Act.put, List.getElem_toArray, List.getElem_cons_zero, List.getElem_cons_succ, List.setIfInBounds_toArray, List.set_cons_zero, List.set_cons_succ])
        refine wpAnyF_take (i := 4) (v := ?_) (by kernel_rfl) (by kernel_rfl) rfl (by kernel_rfl) (by kernel_rfl) (by kernel_rfl) (fun _ _ _ h => h) (Or.inl ⟨by rfl, ?_⟩) (by assumption) ?_
        rotate_left
        · intro w' hSw; (try dsimp only at hSw); clear hSw; go_simp; (try with_reducible rfl)
        (try simp only [Act.put, List.getElem_toArray, List.getElem_cons_zero, List.getElem_cons_succ, List.setIfInBounds_toArray, List.set_cons_zero, List.set_cons_succ])
        refine wpAnyF_take (i := 5) (v := ?_) (by kernel_rfl) (by kernel_rfl) rfl (by kernel_rfl) (by kernel_rfl) (by kernel_rfl) (fun _ _ _ h => h) (Or.inl ⟨by rfl, ?_⟩) (by assumption) ?_
        rotate_left
        · intro w' hSw; (try dsimp only at hSw); clear hSw; go_simp; (try with_reducible rfl)
        (try simp only [Act.put, List.getElem_toArray, List.getElem_cons_zero, List.getElem_cons_succ, List.setIfInBounds_toArray, List.set_cons_zero, List.set_cons_succ])
        refine wpAnyF_take (i := 6) (v := ?_) (by kernel_rfl) (by kernel_rfl) rfl (by kernel_rfl) (by kernel_rfl) (by kernel_rfl) (fun _ _ _ h => h) (Or.inl ⟨by rfl, ?_⟩) (by assumption) ?_
        rotate_left
        · intro w' hSw; (try dsimp only at hSw); obtain ⟨m1, m2⟩ := hSw; go_simp; (try with_reducible rfl)
        (try simp only [Act.put, List.getElem_toArray, List.getElem_cons_zero, List.getElem_cons_succ, List.setIfInBounds_toArray, List.set_cons_zero, List.set_cons_succ])
        refine wpAnyF_ready (rs := [3]) (by kernel_rfl) (by simp) ?_
        refine AllReadyF.cons rfl (fun KK hKK => ?_) AllReadyF.nil
        go_simp
        ((with_reducible refine (HP.out _ (H1.out.later (below_dr _)).q).mono ?_); rintro e' w3 ⟨rfl, hq3⟩; have H2 := hi ((H1.out.later (below_dr _)).qk hq3); have HA2 := hi ((HA.out.below (below_dr _)).keptB hq3.kept (fun e9 => by omega)); clear hq3)
        (try go_simp)
        refine hKK.out _ _ ⟨HA2.out.cell 1, HA2.out.cell 11⟩ (fun hHeld => ?_)
        clear hKK KK
        (try simp only [Act.put, List.getElem_toArray, List.getElem_cons_zero, List.getElem_cons_succ, List.setIfInBounds_toArray, List.set_cons_zero, List.set_cons_succ])
        refine wpAnyF_ready (rs := [7]) (by kernel_rfl) (by simp) ?_
        refine AllReadyF.cons rfl (fun KK hKK => ?_) AllReadyF.nil
        go_simp
        ((with_reducible refine (HR.out _ H2.out.r).mono ?_); rintro e' w4 ⟨rfl, hq4⟩; have H3 := hi (H2.out.qj hq4); have HA3 := hi (HA2.out.keptB hq4.kept (fun e9 => by omega)); clear hq4)
        (try go_simp)
        refine hKK.out _ _ ⟨HA3.out.cell 1, HA3.out.cell 11⟩ (fun hHeld => ?_)
        clear hKK KK
        (try simp only [Act.put, List.getElem_toArray, List.getElem_cons_zero, List.getElem_cons_succ, List.setIfInBounds_toArray, List.set_cons_zero, List.set_cons_succ])
        refine wpAnyF_take (i := 8) (v := ?_) (by kernel_rfl) (by kernel_rfl) rfl (by kernel_rfl) (by kernel_rfl) (by kernel_rfl) (fun _ _ _ h => h) (Or.inl ⟨by rfl, ?_⟩) (by assumption) ?_
        rotate_left
        · intro w' hSw; (try dsimp only at hSw); clear hSw; go_simp; (try with_reducible rfl)
        (try simp only [Act.put, List.getElem_toArray, List.getElem_cons_zero, List.getElem_cons_succ, List.setIfInBounds_toArray, List.set_cons_zero, List.set_cons_succ])
        refine wpAnyF_take (i := 9) (v := ?_) (by kernel_rfl) (by kernel_rfl) rfl (by kernel_rfl) (by kernel_rfl) (by kernel_rfl) (fun _ _ _ h => h) (Or.inl ⟨by rfl, ?_⟩) (by assumption) ?_
        rotate_left
        · intro w' hSw; (try dsimp only at hSw); clear hSw; go_simp; (try with_reducible rfl)
        (try simp only [Act.put, List.getElem_toArray, List.getElem_cons_zero, List.getElem_cons_succ, List.setIfInBounds_toArray, List.set_cons_zero, List.set_cons_succ])
        refine wpAnyF_done (by kernel_rfl) ?_ _
        refine NoPanic.normal ?_
        go_wp2
        go_ret
        exact ⟨rfl, bs, x', HFX.out haa, H3.out⟩
      · by_cases e4 : dd = 4
        · subst e4
          have HSZ := hi (fun W hM => size_any p g cap bs W hM)
          have HP := hi (fun W hM => write_any p g cap bs 0 bs.length aa 8 vv W hM (by decide) (by decide) (by omega) (by omega) hv)
          have HR := hi (fun W hM => rwrite_any q h d bs 0 bs.length aa 8 vv W hM (by decide) (by decide) (by omega) (by omega) hv)
          obtain ⟨E, hE⟩ : ∃ E, accE bs.length 0 bs.length aa 8 = E := ⟨_, rfl⟩
          obtain ⟨bs', hb'⟩ : ∃ l, wrB bs 0 bs.length aa 8 vv = l := ⟨_, rfl⟩
          rw [hE, hb'] at HP HR
          clear hE hb'
          unfold win at HP HR
          obtain ⟨N, hN⟩ : ∃ N, bs.length = N := ⟨_, rfl⟩
          rw [hN] at HP HR HSZ hbl
          go_enter Try.func7, Try.ntmps7
          have qf := (CB.new (W.alloc (.cells #[.int .i64 4, .int .i64 aa, .int .i64 c1, .int .i64 c2, .int .i64 c3, .int .i64 c4, .int .i64 c5, .int .i64 c6, .int .i64 c7, .int .i64 c8, .bool c9, .int .u64 vv] 39)) 23 #[.int .i64 0, .int .i64 0]).frozen
          go_wp2_with (go_at_call 22; ((with_reducible refine (HSZ.out _ H1.out.t.mem).mono ?_); rintro e' w1 ⟨rfl, rfl⟩))
          have HB := hi (H1.out.later (bal (W.alloc (.cells #[.int .i64 4, .int .i64 aa, .int .i64 c1, .int .i64 c2, .int .i64 c3, .int .i64 c4, .int .i64 c5, .int .i64 c6, .int .i64 c7, .int .i64 c8, .bool c9, .int .u64 vv] 39)) (.cells #[.int .i64 0, .int .i64 N] 23)))
          have HW := hi (And.intro (HA.out.alloc (.cells #[.int .i64 0, .int .i64 N] 23)) (show CB ((W.alloc (.cells #[.int .i64 4, .int .i64 aa, .int .i64 c1, .int .i64 c2, .int .i64 c3, .int .i64 c4, .int .i64 c5, .int .i64 c6, .int .i64 c7, .int .i64 c8, .bool c9, .int .u64 vv] 39)).alloc (.cells #[.int .i64 0, .int .i64 N] 23)) (W.heap.size + 1) 23 #[.int .i64 0, .int .i64 N] from cb_second))
          refine wp_region_noPanic ?_
          refine wp_region_last_drew (S := (fun V => V.cell? ⟨W.heap.size, 1, none⟩ = some (.int .i64 aa) ∧ V.cell? ⟨W.heap.size, 11, none⟩ = some (.int .u64 vv) ∧ V.cell? ⟨W.heap.size + 1, 0, none⟩ = some (.int .i64 0) ∧ V.cell? ⟨W.heap.size + 1, 1, none⟩ = some (.int .i64 N))) [] (by kernel_rfl) ⟨HW.out.1.cell 1, HW.out.1.cell 11, HW.out.2.cell 0, HW.out.2.cell 1⟩ (fun hHeld => ?_)
          (try simp only [Array.replicate_succ, Array.replicate_zero, List.push_toArray, List.nil_append, List.cons_append])
          refine wpAnyF_take (i := 0) (v := ?_) (by kernel_rfl) (by kernel_rfl) rfl (by kernel_rfl) (by kernel_rfl) (by kernel_rfl) (fun _ _ _ h => h) (Or.inl ⟨by rfl, ?_⟩) (by assumption) ?_
          rotate_left
          · intro w' hSw; (try dsimp only at hSw); clear hSw; go_simp; (try with_reducible rfl)
          (try simp only [Act.put, List.getElem_toArray, List.getElem_cons_zero, List.getElem_cons_succ, List.setIfInBounds_toArray, List.set_cons_zero, List.set_cons_succ])
          refine wpAnyF_take (i := 1) (v := ?_) (by kernel_rfl) (by kernel_rfl) rfl (by kernel_rfl) (by kernel_rfl) (by kernel_rfl) (fun _ _ _ h => h) (Or.inl ⟨by rfl, ?_⟩) (by assumption) ?_
          rotate_left
          · intro w' hSw; (try dsimp only at hSw); obtain ⟨m1, m2, m3, m4⟩ := hSw; go_simp; (try with_reducible rfl)
          (try simp only [Act.put, List.getElem_toArray, List.getElem_cons_zero, List.getElem_cons_succ, List.setIfInBounds_toArray, List.set_cons_zero, List.set_cons_succ])
          refine wpAnyF_take (i := 2) (v := ?_) (by kernel_rfl) (by kernel_rfl) rfl (by kernel_rfl) (by kernel_rfl) (by kernel_rfl) (fun _ _ _ h => h) (Or.inl ⟨by rfl, ?_⟩) (by assumption) ?_
          rotate_left
          · intro w' hSw; (try dsimp only at hSw); clear hSw; go_simp; (try with_reducible rfl)
          (try simp only [Act.put, List.getElem_toArray, List.getElem_cons_zero, List.getElem_cons_succ, List.setIfInBounds_toArray, List.set_cons_zero, List.set_cons_succ])
          refine wpAnyF_take (i := 3) (v := ?_) (by kernel_rfl) (by kernel_rfl) rfl (by kernel_rfl) (by kernel_rfl) (by kernel_rfl) (fun _ _ _ h => h) (Or.inl ⟨by rfl, ?_⟩) (by assumption) ?_
          rotate_left
          · intro w' hSw; (try dsimp only at hSw); obtain ⟨m1, m2, m3, m4⟩ := hSw; go_simp; (try with_reducible rfl)
          (try simp only [Act.put, List.getElem_toArray, List.getElem_cons_zero, List.getElem_cons_succ, List.setIfInBounds_toArray, List.set_cons_zero, List.set_cons_succ])
          refine wpAnyF_take (i := 4) (v := ?_) (by kernel_rfl) (by kernel_rfl) rfl (by kernel_rfl) (by kernel_rfl) (by kernel_rfl) (fun _ _ _ h => h) (Or.inl ⟨by rfl, ?_⟩) (by assumption) ?_
          rotate_left
          · intro w' hSw; (try dsimp only at hSw); clear hSw; go_simp; (try with_reducible rfl)
          (try simp only [Act.put, List.getElem_toArray, List.getElem_cons_zero, List.getElem_cons_succ, List.setIfInBounds_toArray, List.set_cons_zero, List.set_cons_succ])
          refine wpAnyF_take (i := 5) (v := ?_) (by kernel_rfl) (by kernel_rfl) rfl (by kernel_rfl) (by kernel_rfl) (by kernel_rfl) (fun _ _ _ h => h) (Or.inl ⟨by rfl, ?_⟩) (by assumption) ?_
          rotate_left
          · intro w' hSw; (try dsimp only at hSw); obtain ⟨m1, m2, m3, m4⟩ := hSw; go_simp; (try with_reducible rfl)
          (try simp only [Act.put, List.getElem_toArray, List.getElem_cons_zero, List.getElem_cons_succ, List.setIfInBounds_toArray, List.set_cons_zero, List.set_cons_succ])
          refine wpAnyF_take (i := 7) (v := ?_) (by kernel_rfl) (by kernel_rfl) rfl (by kernel_rfl) (by kernel_rfl) (by kernel_rfl) (fun _ _ _ h => h) (Or.inl ⟨by rfl, ?_⟩) (by assumption) ?_
          rotate_left
          · intro w' hSw; (try dsimp only at hSw); clear hSw; go_simp; (try with_reducible rfl)
          (try simp only [Act.put, List.getElem_toArray, List.getElem_cons_zero, List.getElem_cons_succ, List.setIfInBounds_toArray, List.set_cons_zero, List.set_cons_succ])
          refine wpAnyF_take (i := 8) (v := ?_) (by kernel_rfl) (by kernel_rfl) rfl (by kernel_rfl) (by kernel_rfl) (by kernel_rfl) (fun _ _ _ h => h) (Or.inl ⟨by rfl, ?_⟩) (by assumption) ?_
          rotate_left
          · intro w' hSw; (try dsimp only at hSw); obtain ⟨m1, m2, m3, m4⟩ := hSw; go_simp; (try with_reducible rfl)
          (try simp only [Act.put, List.getElem_toArray, List.getElem_cons_zero, List.getElem_cons_succ, List.setIfInBounds_toArray, List.set_cons_zero, List.set_cons_succ])
          refine wpAnyF_take (i := 9) (v := ?_) (by kernel_rfl) (by kernel_rfl) rfl (by kernel_rfl) (by kernel_rfl) (by kernel_rfl) (fun _ _ _ h => h) (Or.inl ⟨by rfl, ?_⟩) (by assumption) ?_
          rotate_left
          · intro w' hSw; (try dsimp only at hSw); clear hSw; go_simp; (try with_reducible rfl)
          (try simp only [Act.put, List.getElem_toArray, List.getElem_cons_zero, List.getElem_cons_succ, List.setIfInBounds_toArray, List.set_cons_zero, List.set_cons_succ])
          refine wpAnyF_take (i := 10) (v := ?_) (by kernel_rfl) (by kernel_rfl) rfl (by kernel_rfl) (by kernel_rfl) (by kernel_rfl) (fun _ _ _ h => h) (Or.inl ⟨by rfl, ?_⟩) (by assumption) ?_
          rotate_left
          · intro w' hSw; (try dsimp only at hSw); obtain ⟨m1, m2, m3, m4⟩ := hSw; go_simp; (try with_reducible rfl)
          (try simp only [Act.put, List.getElem_toArray, List.getElem_cons_zero, List.getElem_cons_succ, List.setIfInBounds_toArray, List.set_cons_zero, List.set_cons_succ])
          refine wpAnyF_take (i := 11) (v := ?_) (by kernel_rfl) (by kernel_rfl) rfl (by kernel_rfl) (by kernel_rfl) (by kernel_rfl) (fun _ _ _ h => h) (Or.inl ⟨by rfl, ?_⟩) (by assumption) ?_
          rotate_left
          · intro w' hSw; (try dsimp only at hSw); clear hSw; go_simp; (try with_reducible rfl)
          (try simp only [Act.put, List.getElem_toArray, List.getElem_cons_zero, List.getElem_cons_succ, List.setIfInBounds_toArray, List.set_cons_zero, List.set_cons_succ])
          refine wpAnyF_take (i := 12) (v := ?_) (by kernel_rfl) (by kernel_rfl) rfl (by kernel_rfl) (by kernel_rfl) (by kernel_rfl) (fun _ _ _ h => h) (Or.inl ⟨by rfl, ?_⟩) (by assumption) ?_
          rotate_left
          · intro w' hSw; (try dsimp only at hSw); obtain ⟨m1, m2, m3, m4⟩ := hSw; go_simp; (try with_reducible rfl)
          (try simp only [Act.put, List.getElem_toArray, List.getElem_cons_zero, List.getElem_cons_succ, List.setIfInBounds_toArray, List.set_cons_zero, List.set_cons_succ])
          refine wpAnyF_ready (rs := [6]) (by kernel_rfl) (by simp) ?_
          refine AllReadyF.cons rfl (fun KK hKK => ?_) AllReadyF.nil
          go_simp
          ((with_reducible refine (HP.out _ (HB.out.later (below_dr _)).t.mem).mono ?_); rintro e' w3 ⟨rfl, hm3, hk3⟩; have H2 := hi ((HB.out.later (below_dr _)).wm hk3 hm3); have HW2 := hi (And.intro ((HW.out.1.below (below_dr _)).keptB hk3 (fun e9 => by omega)) ((HW.out.2.below (below_dr _)).keptB hk3 (fun e9 => by omega))); clear hm3 hk3)
          (try go_simp)
          refine hKK.out _ _ ⟨HW2.out.1.cell 1, HW2.out.1.cell 11, HW2.out.2.cell 0, HW2.out.2.cell 1⟩ (fun hHeld => ?_)
          clear hKK KK
          (try simp only [Act.put, List.getElem_toArray, List.getElem_cons_zero, List.getElem_cons_succ, List.setIfInBounds_toArray, List.set_cons_zero, List.set_cons_succ])
          refine wpAnyF_ready (rs := [13]) (by kernel_rfl) (by simp) ?_
          refine AllReadyF.cons rfl (fun KK hKK => ?_) AllReadyF.nil
          go_simp
          ((with_reducible refine (HR.out _ H2.out.t.ref).mono ?_); rintro e' w4 ⟨rfl, hm4, hk4⟩; have H3 := hi (H2.out.wr hk4 hm4); have HW3 := hi (And.intro (HW2.out.1.keptB hk4 (fun e9 => by omega)) (HW2.out.2.keptB hk4 (fun e9 => by omega))); clear hm4 hk4)
          (try go_simp)
          refine hKK.out _ _ ⟨HW3.out.1.cell 1, HW3.out.1.cell 11, HW3.out.2.cell 0, HW3.out.2.cell 1⟩ (fun hHeld => ?_)
          clear hKK KK
          (try simp only [Act.put, List.getElem_toArray, List.getElem_cons_zero, List.getElem_cons_succ, List.setIfInBounds_toArray, List.set_cons_zero, List.set_cons_succ])
          refine wpAnyF_take (i := 14) (v := ?_) (by kernel_rfl) (by kernel_rfl) rfl (by kernel_rfl) (by kernel_rfl) (by kernel_rfl) (fun _ _ _ h => h) (Or.inl ⟨by rfl, ?_⟩) (by assumption) ?_
          rotate_left
          · intro w' hSw; (try dsimp only at hSw); clear hSw; go_simp; (try with_reducible rfl)
          (try simp only [Act.put, List.getElem_toArray, List.getElem_cons_zero, List.getElem_cons_succ, List.setIfInBounds_toArray, List.set_cons_zero, List.set_cons_succ])
          refine wpAnyF_take (i := 15) (v := ?_) (by kernel_rfl) (by kernel_rfl) rfl (by kernel_rfl) (by kernel_rfl) (by kernel_rfl) (fun _ _ _ h => h) (Or.inl ⟨by rfl, ?_⟩) (by assumption) ?_
          rotate_left
          · intro w' hSw; (try dsimp only at hSw); clear hSw; go_simp; (try with_reducible rfl)
          (try simp only [Act.put, List.getElem_toArray, List.getElem_cons_zero, List.getElem_cons_succ, List.setIfInBounds_toArray, List.set_cons_zero, List.set_cons_succ])
          refine wpAnyF_done (by kernel_rfl) ?_ _
          refine NoPanic.normal ?_
          go_wp2
          go_ret
          exact ⟨rfl, bs', x, hF, H3.out⟩
        · have f1 : (dd == 1) = false := by simpa using e1
          have f2 : (dd == 2) = false := by simpa using e2
          have f3 : (dd == 3) = false := by simpa using e3
          have f4 : (dd == 4) = false := by simpa using e4
          go_enter Try.func7, Try.ntmps7
          go_wp2
          go_ret
          exact ⟨rfl, bs, x, hF, H1.out⟩

end Go.Proofs.Ytfnokpajendlmaa

namespace Go.Proofs.Ytfnokpajendlmaa
open Go.ChangeShapes Go.WideShapes Go.ChangeAt Go.RowKit
set_option linter.unusedVariables false
set_option linter.unusedSimpArgs false

structure Aq where
  d : Int
  a : Int
  c : Cm
  v : Nat
structure Aq.Ok (x : Aq) : Prop where
  a : i64B x.a
  c : x.c.Fair
  v : x.v < 18446744073709551616
structure actC (W : World) (b o : Nat) (x : Aq) : Prop where
  d : W.cell? ⟨b, o, none⟩ = some (.int .i64 x.d)
  a : W.cell? ⟨b, o + 1, none⟩ = some (.int .i64 x.a)
  c : cmdC W b (o + 2) x.c
  v : W.cell? ⟨b, o + 11, none⟩ = some (.int .u64 x.v)
theorem actC.kept {W W' : World} {b o : Nat} {x : Aq} (h : actC W b o x) (k : W'.heap[b]? = W.heap[b]?) : actC W' b o x :=
  ⟨(World.cell?_of_block k).trans h.d, (World.cell?_of_block k).trans h.a, h.c.kept k, (World.cell?_of_block k).trans h.v⟩
structure ActsQ (W : World) (a : Option Addr) (b off : Nat) (xs : List Aq) : Prop where
  len : xs.length ≤ 9223372036854775807
  ok : ∀ x ∈ xs, x.Ok
  lt : xs ≠ [] → b < W.heap.size
  at_ : xs ≠ [] → a = some ⟨b, off, none⟩
  cells : ∀ j x, xs[j]? = some x → actC W b (off + j * 12) x
theorem ActsQ.below {W W' : World} {a : Option Addr} {b off : Nat} {xs : List Aq} (h : ActsQ W a b off xs) (k : Below W.heap.size W W') : ActsQ W' a b off xs :=
  ⟨h.len, h.ok, fun e => Nat.lt_of_lt_of_le (h.lt e) k.size, h.at_, fun j x hx => (h.cells j x hx).kept (k.block b (h.lt (fun e => by rw [e] at hx; simp at hx)))⟩
/-- What alike must give. -/
def AlikeC : Prop := ∀ (w : World) (p g cap q h d : Nat) (bs : List Nat) (x : Qu) (W : World), x.Fair → Two w p g cap q h d bs bs W → Calls Try.prog 8 #[x.v, .pointer (some ⟨p, 0, none⟩), x.v, .pointer (some ⟨q, 0, none⟩)] W fun e W' => e = .returned (.bool true) ∧ Below W.heap.size W W'

set_option maxRecDepth 100000 in
set_option maxHeartbeats 8000000 in
theorem qdoes_of (HALL : AlikeC) (x : Qu) (size : Int) (hF : x.Fair) (hs : -9223372036854775808 ≤ size ∧ size ≤ 9223372036854775807) (a : Option Addr) (B off cp : Nat) (xs : List Aq) (w : World) (hC : ActsQ w a B off xs) : Calls Try.prog 3 #[x.v, .int .i64 size, .slice a xs.length cp] w fun e w' => e = .returned (.bool true) ∧ Below w.heap.size w w' := by
  have HA := hi (fun W => awake_any W)
  have HAL := hi (fun w p g cap q h d bs x W hF t => HALL w p g cap q h d bs x W hF t)
  have HN := hi (fun W => lawNew_any size W)
  have HC := hi hC
  have hlen := hC.len
  obtain ⟨N, hN⟩ : ∃ N, newN size = N := ⟨_, rfl⟩
  rw [hN] at HN
  have HTD := hi (fun W => told_any x W)
  have H0 := hi (And.intro (CB.new w 25 (Qu.cs x)) (bal w (.cells (Qu.cs x) 25)))
  have HF := hi hF
  clear hN hC HALL hF
  obtain ⟨q1, q2, q3, q4⟩ := x
  (try dsimp only at HTD)
  go_enter Try.func3, Try.ntmps3
  go_wp2_with (first
    | (go_at_call 4; ((with_reducible refine (HA.out _).mono ?_); rintro e' w1 ⟨rfl, hb1⟩; have H1 := hi (And.intro (H0.out.1.below hb1) (H0.out.2.trans (hb1.mono H0.out.2.size))); clear hb1))
    | (go_at_call 5; ((with_reducible refine (HN.out _).mono ?_); rintro e' w2 ⟨p, g, q, h, rfl, hb2⟩; have H2 := hi (And.intro (H1.out.1.below hb2.mem.below) (Two.of_both hb2 H1.out.2)); clear hb2; obtain ⟨a0, a1, a2, a3⟩ := CB.four H2.out.1))
    | (go_at_call 6; ((with_reducible refine (HTD.out _).mono ?_); rintro e' w3 ⟨rfl, hb3⟩; have hk3 := hb3.alloc hb3.size (.cells #[.int .i64 q1, .int .i64 q2, .int .i64 q3, .int .i64 q4] 32); have z3 := Nat.le_trans H2.out.2.sz hb3.size; have H3 := hi (show DQ w p g N q h N w.heap.size w3.heap.size (List.replicate N 0) (List.replicate N 0) ⟨q1, q2, q3, q4⟩ ⟨q1, q2, q3, q4⟩ (w3.alloc (.cells #[.int .i64 q1, .int .i64 q2, .int .i64 q3, .int .i64 q4] 32)) from ⟨H2.out.2.later hk3, H2.out.1.below hk3, CB.new w3 _ _, Nat.le_refl _, z3⟩); have qf := (CB.new w3 32 #[.int .i64 0, .int .i64 0, .int .i64 0, .int .i64 0]).frozen; clear hb3 hk3 a0 a1 a2 a3)))
  go_loopw [11] (fun i wr => ∃ k : Nat, i = .int .i64 k ∧ Hi (k ≤ xs.length ∧ ∃ bs x, x.Fair ∧ DQ w p g N q h N w.heap.size w3.heap.size bs bs x x wr)) (fun i _ => xs.length - (intOf i).toNat)
  case atStart => exact ⟨0, rfl, hi ⟨Nat.zero_le _, _, _, HF.out, H3.out⟩⟩
  case round =>
    obtain ⟨k, rfl, HJ⟩ := hrel
    obtain ⟨hk, bs, x, hfx, hD⟩ := HJ.out
    clear HJ
    by_cases hlt : k < xs.length
    · obtain ⟨y, hy⟩ : ∃ y, xs[k]? = some y := ⟨_, List.getElem?_eq_getElem hlt⟩
      have hne : xs ≠ [] := fun e => by rw [e] at hy; simp at hy
      have hok := HC.out.ok y (List.mem_of_getElem? hy)
      have hat := HC.out.at_ hne
      subst hat
      have hac := (HC.out.below hD.t.below).cells k y hy
      have hcm := hac.c
      have had := hac.d
      have haa := hac.a
      have hav := hac.v
      unfold cmdC at hcm
      obtain ⟨d, b, ⟨c1, c2, c3, c4, c5, c6, c7, c8, c9⟩, v⟩ := y
      dsimp only at hcm had haa hav
      obtain ⟨m0, m1, m2, m3, m4, m5, m6, m7, m8⟩ := hcm
      have HDO := hi (fun W H => does_any w p g N q h N w.heap.size w3.heap.size bs x hfx d b ⟨c1, c2, c3, c4, c5, c6, c7, c8, c9⟩ v hok.c hok.v hok.a W H)
      dsimp only at HDO
      have HD := hi hD
      have qg := (CB.new wr 39 #[.int .i64 0, .int .i64 0, .int .i64 0, .int .i64 0, .int .i64 0, .int .i64 0, .int .i64 0, .int .i64 0, .int .i64 0, .int .i64 0, .bool false, .int .u64 0]).frozen
      have hax := CB.new wr 39 #[.int .i64 d, .int .i64 b, .int .i64 c1, .int .i64 c2, .int .i64 c3, .int .i64 c4, .int .i64 c5, .int .i64 c6, .int .i64 c7, .int .i64 c8, .bool c9, .int .u64 v]
      have x0 := hax.cell 0
      have x1 := hax.cell 1
      have x2 := hax.cell 2
      have x3 := hax.cell 3
      have x4 := hax.cell 4
      have x5 := hax.cell 5
      have x6 := hax.cell 6
      have x7 := hax.cell 7
      have x8 := hax.cell 8
      have x9 := hax.cell 9
      have x10 := hax.cell 10
      have x11 := hax.cell 11
      clear hac hD hfx hy hax
      go_wp2_with (first
        | (go_at_call 7; ((with_reducible refine (HDO.out _ (HD.out.later (bal wr (.cells #[.int .i64 d, .int .i64 b, .int .i64 c1, .int .i64 c2, .int .i64 c3, .int .i64 c4, .int .i64 c5, .int .i64 c6, .int .i64 c7, .int .i64 c8, .bool c9, .int .u64 v] 39)))).mono ?_); rintro e' w4 ⟨rfl, bs', ⟨p1, p2, p3, p4⟩, hf4, hd4⟩; have H4 := hi (And.intro hf4 hd4); clear hf4 hd4 m0 m1 m2 m3 m4 m5 m6 m7 m8 had haa hav x0 x1 x2 x3 x4 x5 x6 x7 x8 x9 x10 x11; obtain ⟨a0, a1, a2, a3⟩ := CB.four H4.out.2.q; obtain ⟨b0, b1, b2, b3⟩ := CB.four H4.out.2.r))
        | (go_at_call 8; ((with_reducible refine (HAL.out w p g N q h N _ ⟨p1, p2, p3, p4⟩ _ H4.out.1 H4.out.2.t).mono ?_); rintro e' w5 ⟨rfl, hb5⟩; have H5 := hi (H4.out.2.later hb5); clear hb5 a0 a1 a2 a3 b0 b1 b2 b3)))
      go_roundw
      case rel => exact ⟨k + 1, by go_num, hi ⟨hlt, _, _, H4.out.1, H5.out⟩⟩
      case measure => simp [intOf]; omega
    · obtain ⟨p1, p2, p3, p4⟩ := x
      obtain ⟨a0, a1, a2, a3⟩ := CB.four hD.q
      obtain ⟨b0, b1, b2, b3⟩ := CB.four hD.r
      have HD := hi (And.intro hfx hD)
      clear hD hfx
      go_wp2_with (go_at_call 8; ((with_reducible refine (HAL.out w p g N q h N _ ⟨p1, p2, p3, p4⟩ _ HD.out.1 HD.out.2.t).mono ?_); rintro e' w5 ⟨rfl, hb5⟩; have H5 := hi (HD.out.2.later hb5); clear hb5 a0 a1 a2 a3 b0 b1 b2 b3))
      go_ret
      exact ⟨rfl, H5.out.t.below⟩

end Go.Proofs.Ytfnokpajendlmaa
