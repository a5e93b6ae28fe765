/-
  Package tables: Lead, at every call.
-/
import Derived.Test.YtjcjblmaceooaaaTbH
namespace Go.Proofs.Ytjcjblmaceooaaa
open Go.ChangeShapes Go.WideShapes Go.ChangeAt Go.RowKit
set_option linter.unusedVariables false
set_option linter.unusedSimpArgs false

theorem TbBx.held {w : World} {t : Tb} {W : World} (h : TbBx w w.heap.size t W) : (W.cell? ⟨w.heap.size, 0, none⟩ = some (.int .i64 t.at_) ∧ W.cell? ⟨w.heap.size, 1, none⟩ = some (.int .i64 t.size) ∧ W.cell? ⟨w.heap.size, 2, none⟩ = some (.int .i64 t.page)) ∧ TbBx w w.heap.size t W := ⟨CB.three h.q, h⟩
theorem TbBx.set2 {w : World} {t : Tb} {W : World} (h : TbBx w w.heap.size t W) {M : Nat} (hM : w.heap.size + 1 ≤ M) (x y : Value) : TbBx w w.heap.size t (set2 W M x y) :=
  ⟨((h.q.other M 0 x (by omega)).other M 1 y (by omega)), below_s2 h.below (by omega) _ _⟩
theorem TbBx.z {w : World} {t : Tb} {W : World} (h : TbBx w w.heap.size t W) : w.heap.size + 1 ≤ W.heap.size := h.q.lt
theorem TbBx.new (w : World) (t : Tb) : TbBx w w.heap.size t (w.alloc (.cells (Tb.cs t) 32)) := ⟨CB.new w _ _, bal w _⟩

set_option maxRecDepth 100000 in
set_option maxHeartbeats 4000000 in
theorem lead_wrong (p g cap : Nat) (bs : List Nat) (t : Tb) (hF : t.Fair) (id at_ : Int) (w : World) (hM : MemAt 89 w p g cap bs) (h0 : rightE bs.length t ≠ 0) :
    Calls Try.prog 9 #[t.v, .pointer (some ⟨p, 0, none⟩), .int .i64 id, .int .i64 at_] w fun e w' => e = .returned (.int .i64 (rightE bs.length t)) ∧ Below w.heap.size w w' := by
  have H0 := hi (TbBx.new w t)
  have HR := hi (fun W (hb : Below w.heap.size w W) => right_any p g cap bs t hF W (hM.below hb))
  obtain ⟨re, hre⟩ : ∃ e, rightE bs.length t = e := ⟨_, rfl⟩
  rw [hre] at HR h0 ⊢
  have hne : (re != 0) = true := by simpa using h0
  obtain ⟨a, s, pg⟩ := t
  (try dsimp only at H0 HR ⊢)
  clear hre hM hF h0
  obtain ⟨a0, a1, a2⟩ := CB.three H0.out.q
  go_enter Try.func9, Try.ntmps9
  go_wp2_with (go_at_call 23; ((with_reducible refine (HR.out _ H0.out.below).mono ?_); rintro e w1 ⟨rfl, hb1⟩; have H1 := hi (H0.out.later hb1); clear hb1 a0 a1 a2))
  go_ret
  exact ⟨rfl, H1.out.below⟩
set_option maxRecDepth 100000 in
set_option maxHeartbeats 4000000 in
theorem lead_flat (p g cap : Nat) (bs : List Nat) (t : Tb) (hF : t.Fair) (id at_ : Int) (w : World) (hM : MemAt 89 w p g cap bs) (h0 : rightE bs.length t = 0) (h1 : t.page = 0) :
    Calls Try.prog 9 #[t.v, .pointer (some ⟨p, 0, none⟩), .int .i64 id, .int .i64 at_] w fun e w' => e = .returned (.int .i64 180) ∧ Below w.heap.size w w' := by
  have H0 := hi (TbBx.new w t)
  have HR := hi (fun W (hb : Below w.heap.size w W) => right_any p g cap bs t hF W (hM.below hb))
  rw [h0] at HR
  obtain ⟨a, s, pg⟩ := t
  dsimp only at H0 HR h1 ⊢
  subst h1
  clear hM hF h0
  obtain ⟨a0, a1, a2⟩ := CB.three H0.out.q
  go_enter Try.func9, Try.ntmps9
  go_wp2_with (go_at_call 23; ((with_reducible refine (HR.out _ H0.out.below).mono ?_); rintro e w1 ⟨rfl, hb1⟩; have H1 := hi (H0.out.later hb1); clear hb1 a0 a1 a2; obtain ⟨a0, a1, a2⟩ := CB.three H1.out.q))
  go_ret
  exact ⟨rfl, H1.out.below⟩
set_option maxRecDepth 100000 in
set_option maxHeartbeats 4000000 in
theorem lead_out (p g cap : Nat) (bs : List Nat) (t : Tb) (hF : t.Fair) (id at_ : Int) (w : World) (hM : MemAt 89 w p g cap bs) (h0 : rightE bs.length t = 0) (h1 : t.page ≠ 0) (h2 : nuB id = false) :
    Calls Try.prog 9 #[t.v, .pointer (some ⟨p, 0, none⟩), .int .i64 id, .int .i64 at_] w fun e w' => e = .returned (.int .i64 180) ∧ Below w.heap.size w w' := by
  have H0 := hi (TbBx.new w t)
  have HR := hi (fun W (hb : Below w.heap.size w W) => right_any p g cap bs t hF W (hM.below hb))
  have HU := hi (fun W => numbered_any id W)
  rw [h0] at HR
  rw [h2] at HU
  obtain ⟨a, s, pg⟩ := t
  dsimp only at H0 HR h1 ⊢
  have g1 : (pg == 0) = false := by simpa using h1
  clear hM hF h0 h1 h2
  obtain ⟨a0, a1, a2⟩ := CB.three H0.out.q
  go_enter Try.func9, Try.ntmps9
  go_wp2_with (first
    | (go_at_call 23; ((with_reducible refine (HR.out _ H0.out.below).mono ?_); rintro e w1 ⟨rfl, hb1⟩; have H1 := hi (H0.out.later hb1); clear hb1 a0 a1 a2; obtain ⟨a0, a1, a2⟩ := CB.three H1.out.q))
    | (go_at_call 24; ((with_reducible refine (HU.out _).mono ?_); rintro e w2 ⟨rfl, rfl⟩)))
  go_ret
  exact ⟨rfl, H1.out.below⟩
set_option maxRecDepth 100000 in
set_option maxHeartbeats 4000000 in
theorem lead_away (p g cap : Nat) (bs : List Nat) (t : Tb) (hF : t.Fair) (id at_ : Int) (hA : i64B at_) (w : World) (hM : MemAt 89 w p g cap bs) (h0 : rightE bs.length t = 0) (h1 : t.page ≠ 0) (h2 : nuB id = true) (h3 : holdsB bs.length at_ t.page = false) :
    Calls Try.prog 9 #[t.v, .pointer (some ⟨p, 0, none⟩), .int .i64 id, .int .i64 at_] w fun e w' => e = .returned (.int .i64 180) ∧ Below w.heap.size w w' := by
  have H0 := hi (TbBx.new w t)
  have HR := hi (fun W (hb : Below w.heap.size w W) => right_any p g cap bs t hF W (hM.below hb))
  have HU := hi (fun W => numbered_any id W)
  have HH := hi (fun W (hb : Below w.heap.size w W) => holds_any p g cap bs at_ t.page W (hM.below hb) hA.1 hA.2 hF.p.1 hF.p.2)
  rw [h0] at HR
  rw [h2] at HU
  rw [h3] at HH
  unfold win at HH
  obtain ⟨a, s, pg⟩ := t
  dsimp only at H0 HR HH h1 ⊢
  have g1 : (pg == 0) = false := by simpa using h1
  clear hM hF h0 h1 h2 h3 hA
  obtain ⟨a0, a1, a2⟩ := CB.three H0.out.q
  go_enter Try.func9, Try.ntmps9
  go_wp2_with (first
    | (go_at_call 23; ((with_reducible refine (HR.out _ H0.out.below).mono ?_); rintro e w1 ⟨rfl, hb1⟩; have H1 := hi (H0.out.later hb1); clear hb1 a0 a1 a2; obtain ⟨a0, a1, a2⟩ := CB.three H1.out.q))
    | (go_at_call 24; ((with_reducible refine (HU.out _).mono ?_); rintro e w2 ⟨rfl, rfl⟩))
    | (go_at_call 25; ((with_reducible refine (HH.out _ H1.out.below).mono ?_); rintro e w3 ⟨rfl, hb3⟩; have H3 := hi (H1.out.later hb3); clear hb3 a0 a1 a2)))
  go_ret
  exact ⟨rfl, H3.out.below⟩
set_option maxRecDepth 100000 in
set_option maxHeartbeats 8000000 in
theorem lead_none (p g cap : Nat) (bs : List Nat) (t : Tb) (hF : t.Fair) (id at_ : Int) (hA : i64B at_) (w : World) (hM : MemAt 89 w p g cap bs) (h0 : rightE bs.length t = 0) (h1 : t.page ≠ 0) (h2 : nuB id = true) (h3 : holdsB bs.length at_ t.page = true)
    (per x : Int) (hper : 1 ≤ per) (hx : IntKind.i64.wrap (id.tdiv per) = x)
    (HP : ∀ W, Calls Try.prog 27 #[t.v] W fun e w' => e = .returned (.int .i64 per) ∧ Below W.heap.size W w')
    (HN : ∀ W, Below w.heap.size w W → Calls Try.prog 26 #[.pointer (some ⟨p, 0, none⟩), .agg #[.int .i64 t.at_, .int .i64 t.size], .int .i64 x] W fun e w' => e = .returned (ptV none) ∧ Below W.heap.size W w') :
    Calls Try.prog 9 #[t.v, .pointer (some ⟨p, 0, none⟩), .int .i64 id, .int .i64 at_] w fun e w' => e = .returned (.int .i64 180) ∧ Below w.heap.size w w' := by
  have H0 := hi (TbBx.new w t)
  have HR := hi (fun W (hb : Below w.heap.size w W) => right_any p g cap bs t hF W (hM.below hb))
  have HU := hi (fun W => numbered_any id W)
  have HH := hi (fun W (hb : Below w.heap.size w W) => holds_any p g cap bs at_ t.page W (hM.below hb) hA.1 hA.2 hF.p.1 hF.p.2)
  rw [h0] at HR
  rw [h2] at HU
  rw [h3] at HH
  unfold win at HH
  have HPR := hi HP
  have HNT := hi HN
  obtain ⟨a, s, pg⟩ := t
  dsimp only at H0 HR HH h1 HPR HNT ⊢
  have g0 : (pg == 0) = false := by simpa using h1
  have g1 : (per == 0) = false := by simp; omega
  have g2 : per ≠ 0 := by omega
  clear hM hF h0 h1 h2 h3 hA HP HN hper
  unfold ptV at HNT
  dsimp only at HNT
  obtain ⟨a0, a1, a2⟩ := CB.three H0.out.q
  go_enter Try.func9, Try.ntmps9
  go_wp2_with (first
    | (go_at_call 23; ((with_reducible refine (HR.out _ H0.out.below).mono ?_); rintro e w1 ⟨rfl, hb1⟩; have H1 := hi (H0.out.later hb1); clear hb1 a0 a1 a2; obtain ⟨a0, a1, a2⟩ := CB.three H1.out.q))
    | (go_at_call 24; ((with_reducible refine (HU.out _).mono ?_); rintro e w2 ⟨rfl, rfl⟩))
    | (go_at_call 25; ((with_reducible refine (HH.out _ H1.out.below).mono ?_); rintro e w3 ⟨rfl, hb3⟩; have H3 := hi (H1.out.later hb3); clear hb3 a0 a1 a2)))
  refine wp_region_noPanic ?_
  refine wp_region_last_drew (S := (fun V => (V.cell? ⟨w.heap.size, 0, none⟩ = some (.int .i64 a) ∧ V.cell? ⟨w.heap.size, 1, none⟩ = some (.int .i64 s) ∧ V.cell? ⟨w.heap.size, 2, none⟩ = some (.int .i64 pg)) ∧ TbBx w w.heap.size ⟨a, s, pg⟩ V)) [13] (by kernel_rfl) ((H3.out.later (below_dr _)).held) (fun hHeld => ?_)
  (try simp only [Array.replicate_succ, Array.replicate_zero, List.push_toArray, List.nil_append, List.cons_append])
  refine wpAnyF_take (i := 0) (v := ?_) (by kernel_rfl) (by kernel_rfl) rfl (by kernel_rfl) (by kernel_rfl) (by kernel_rfl) (fun _ _ _ h => h) (Or.inl ⟨by rfl, ?_⟩) (by assumption) ?_
  rotate_left
  · intro w' hSw; (try dsimp only at hSw); clear hSw; go_simp; (try with_reducible rfl)
  (try simp only [Act.put, List.getElem_toArray, List.getElem_cons_zero, List.getElem_cons_succ, List.setIfInBounds_toArray, List.set_cons_zero, List.set_cons_succ])
  refine wpAnyF_take (i := 1) (v := ?_) (by kernel_rfl) (by kernel_rfl) rfl (by kernel_rfl) (by kernel_rfl) (by kernel_rfl) (fun _ _ _ h => h) (Or.inl ⟨by rfl, ?_⟩) (by assumption) ?_
  rotate_left
  · intro w' hSw; (try dsimp only at hSw); clear hSw; go_simp; (try with_reducible rfl)
  (try simp only [Act.put, List.getElem_toArray, List.getElem_cons_zero, List.getElem_cons_succ, List.setIfInBounds_toArray, List.set_cons_zero, List.set_cons_succ])
  refine wpAnyF_take (i := 2) (v := ?_) (by kernel_rfl) (by kernel_rfl) rfl (by kernel_rfl) (by kernel_rfl) (by kernel_rfl) (fun _ _ _ h => h) (Or.inl ⟨by rfl, ?_⟩) (by assumption) ?_
  rotate_left
  · intro w' hSw; (try dsimp only at hSw); have hq := hSw.1; clear hSw; obtain ⟨a0, a1, a2⟩ := hq; go_simp; (try with_reducible rfl)
  (try simp only [Act.put, List.getElem_toArray, List.getElem_cons_zero, List.getElem_cons_succ, List.setIfInBounds_toArray, List.set_cons_zero, List.set_cons_succ])
  refine wpAnyF_take (i := 3) (v := ?_) (by kernel_rfl) (by kernel_rfl) rfl (by kernel_rfl) (by kernel_rfl) (by kernel_rfl) (fun _ _ _ h => h) (Or.inl ⟨by rfl, ?_⟩) (by assumption) ?_
  rotate_left
  · intro w' hSw; (try dsimp only at hSw); clear hSw; go_simp; (try with_reducible rfl)
  (try simp only [Act.put, List.getElem_toArray, List.getElem_cons_zero, List.getElem_cons_succ, List.setIfInBounds_toArray, List.set_cons_zero, List.set_cons_succ])
  refine wpAnyF_take (i := 4) (v := ?_) (by kernel_rfl) (by kernel_rfl) rfl (by kernel_rfl) (by kernel_rfl) (by kernel_rfl) (fun _ _ _ h => h) (Or.inl ⟨by rfl, ?_⟩) (by assumption) ?_
  rotate_left
  · intro w' hSw; (try dsimp only at hSw); have hq := hSw.1; clear hSw; obtain ⟨a0, a1, a2⟩ := hq; go_simp; (try with_reducible rfl)
  (try simp only [Act.put, List.getElem_toArray, List.getElem_cons_zero, List.getElem_cons_succ, List.setIfInBounds_toArray, List.set_cons_zero, List.set_cons_succ])
  refine wpAnyF_ready (rs := [5, 11]) (by kernel_rfl) (by simp) ?_
  refine (AllReadyF.cons rfl (fun KK hKK => ?_) (AllReadyF.cons rfl (fun KK hKK => ?_) AllReadyF.nil))
  · go_simp
    ((with_reducible refine (HPR.out _).mono ?_); rintro e' w5 ⟨rfl, hbb⟩; have HB5 := hi ((H3.out.later (below_dr _)).later hbb); clear hbb)
    (try go_simp)
    refine hKK.out _ _ HB5.out.held (fun hHeld => ?_)
    clear hKK KK
    (try simp only [Act.put, List.getElem_toArray, List.getElem_cons_zero, List.getElem_cons_succ, List.setIfInBounds_toArray, List.set_cons_zero, List.set_cons_succ])
    refine wpAnyF_take (i := 6) (v := ?_) (by kernel_rfl) (by kernel_rfl) rfl (by kernel_rfl) (by kernel_rfl) (by kernel_rfl) (fun _ _ _ h => h) (Or.inl ⟨by rfl, ?_⟩) (by assumption) ?_
    rotate_left
    · intro w' hSw; (try dsimp only at hSw); clear hSw; go_simp; (try with_reducible rfl)
    (try simp only [Act.put, List.getElem_toArray, List.getElem_cons_zero, List.getElem_cons_succ, List.setIfInBounds_toArray, List.set_cons_zero, List.set_cons_succ])
    refine wpAnyF_ready (rs := [7, 11]) (by kernel_rfl) (by simp) ?_
    refine (AllReadyF.cons rfl (fun KK hKK => ?_) (AllReadyF.cons rfl (fun KK hKK => ?_) AllReadyF.nil))
    · go_simp
      ((with_reducible refine (HNT.out _ HB5.out.below).mono ?_); rintro e' w7 ⟨rfl, hbb⟩; have HC7 := hi (HB5.out.later hbb); clear hbb)
      (try go_simp)
      refine hKK.out _ _ HC7.out.held (fun hHeld => ?_)
      clear hKK KK
      (try simp only [Act.put, List.getElem_toArray, List.getElem_cons_zero, List.getElem_cons_succ, List.setIfInBounds_toArray, List.set_cons_zero, List.set_cons_succ])
      refine wpAnyF_take (i := 8) (v := ?_) (by kernel_rfl) (by kernel_rfl) rfl (by kernel_rfl) (by kernel_rfl) (by kernel_rfl) (fun _ _ _ h => h) (Or.inl ⟨by rfl, ?_⟩) (by assumption) ?_
      rotate_left
      · intro w' hSw; (try dsimp only at hSw); clear hSw; go_simp; (try with_reducible rfl)
      (try simp only [Act.put, List.getElem_toArray, List.getElem_cons_zero, List.getElem_cons_succ, List.setIfInBounds_toArray, List.set_cons_zero, List.set_cons_succ])
      refine wpAnyF_take (i := 9) (v := ?_) (by kernel_rfl) (by kernel_rfl) rfl (by kernel_rfl) (by kernel_rfl) (by kernel_rfl) (fun _ _ _ h => h) (Or.inl ⟨by rfl, ?_⟩) (by assumption) ?_
      rotate_left
      · intro w' hSw; (try dsimp only at hSw); clear hSw; go_simp; (try with_reducible rfl)
      (try simp only [Act.put, List.getElem_toArray, List.getElem_cons_zero, List.getElem_cons_succ, List.setIfInBounds_toArray, List.set_cons_zero, List.set_cons_succ])
      refine wpAnyF_take (i := 10) (v := ?_) (by kernel_rfl) (by kernel_rfl) rfl (by kernel_rfl) (by kernel_rfl) (by kernel_rfl) (fun _ _ _ h => h) (Or.inl ⟨by rfl, ?_⟩) (by assumption) ?_
      rotate_left
      · intro w' hSw; (try dsimp only at hSw); clear hSw; go_simp; (try with_reducible rfl)
      (try simp only [Act.put, List.getElem_toArray, List.getElem_cons_zero, List.getElem_cons_succ, List.setIfInBounds_toArray, List.set_cons_zero, List.set_cons_succ])
      refine wpAnyF_ready (rs := [11]) (by kernel_rfl) (by simp) ?_
      refine AllReadyF.cons rfl (fun KK hKK => ?_) AllReadyF.nil
      go_simp
      have HC8 := hi (And.intro (HC7.out.later (bal _ (.cells #[.int .i64 0, .int .i64 0] 30))) (CB.new w7 30 #[.int .i64 0, .int .i64 0]))
      refine hKK.out _ _ HC8.out.1.held (fun hHeld => ?_)
      clear hKK KK
      (try simp only [Act.put, List.getElem_toArray, List.getElem_cons_zero, List.getElem_cons_succ, List.setIfInBounds_toArray, List.set_cons_zero, List.set_cons_succ])
      refine wpAnyF_ready (rs := [12]) (by kernel_rfl) (by simp) ?_
      refine AllReadyF.cons rfl (fun KK hKK => ?_) AllReadyF.nil
      obtain ⟨m0, m1⟩ := CB.two HC8.out.2
      have mf := HC8.out.2.frozen
      have mz := HC8.out.2.lt
      go_simp
      have HLC := hi (And.intro (HC7.out.later (bal _ (.cells #[(.int .i64 0), (.int .i64 0)] 30))) (CB.new w7 30 #[(.int .i64 0), (.int .i64 0)]))
      refine hKK.out _ _ HLC.out.1.held (fun hHeld => ?_)
      clear hKK KK
      (try simp only [Act.put, List.getElem_toArray, List.getElem_cons_zero, List.getElem_cons_succ, List.setIfInBounds_toArray, List.set_cons_zero, List.set_cons_succ])
      refine wpAnyF_ready (rs := [13]) (by kernel_rfl) (by simp) ?_
      refine AllReadyF.last (by kernel_rfl) rfl (fun KK hKK => ?_) AllReadyF.nil
      go_simp
      have HL := HLC
      clear m0 m1 mf mz
      refine hKK.out _ _ ?_
      clear hKK KK
      (try simp only [Act.put, List.getElem_toArray, List.getElem_cons_zero, List.getElem_cons_succ, List.setIfInBounds_toArray, List.set_cons_zero, List.set_cons_succ])
      refine wpAnyF_done (by kernel_rfl) ?_ _
      refine NoPanic.normal ?_
      go_wp2
      go_ret
      exact ⟨rfl, HL.out.1.below⟩
    · go_simp
      have HB6 := hi (And.intro (HB5.out.later (bal _ (.cells #[.int .i64 0, .int .i64 0] 30))) (CB.new w5 30 #[.int .i64 0, .int .i64 0]))
      refine hKK.out _ _ HB6.out.1.held (fun hHeld => ?_)
      clear hKK KK
      (try simp only [Act.put, List.getElem_toArray, List.getElem_cons_zero, List.getElem_cons_succ, List.setIfInBounds_toArray, List.set_cons_zero, List.set_cons_succ])
      refine wpAnyF_ready (rs := [7]) (by kernel_rfl) (by simp) ?_
      refine AllReadyF.cons rfl (fun KK hKK => ?_) AllReadyF.nil
      go_simp
      ((with_reducible refine (HNT.out _ HB6.out.1.below).mono ?_); rintro e' w7 ⟨rfl, hbb⟩; have HB7 := hi (And.intro (HB6.out.1.later hbb) (HB6.out.2.below hbb)); clear hbb)
      (try go_simp)
      refine hKK.out _ _ HB7.out.1.held (fun hHeld => ?_)
      clear hKK KK
      (try simp only [Act.put, List.getElem_toArray, List.getElem_cons_zero, List.getElem_cons_succ, List.setIfInBounds_toArray, List.set_cons_zero, List.set_cons_succ])
      refine wpAnyF_take (i := 8) (v := ?_) (by kernel_rfl) (by kernel_rfl) rfl (by kernel_rfl) (by kernel_rfl) (by kernel_rfl) (fun _ _ _ h => h) (Or.inl ⟨by rfl, ?_⟩) (by assumption) ?_
      rotate_left
      · intro w' hSw; (try dsimp only at hSw); clear hSw; go_simp; (try with_reducible rfl)
      (try simp only [Act.put, List.getElem_toArray, List.getElem_cons_zero, List.getElem_cons_succ, List.setIfInBounds_toArray, List.set_cons_zero, List.set_cons_succ])
      refine wpAnyF_take (i := 9) (v := ?_) (by kernel_rfl) (by kernel_rfl) rfl (by kernel_rfl) (by kernel_rfl) (by kernel_rfl) (fun _ _ _ h => h) (Or.inl ⟨by rfl, ?_⟩) (by assumption) ?_
      rotate_left
      · intro w' hSw; (try dsimp only at hSw); clear hSw; go_simp; (try with_reducible rfl)
      (try simp only [Act.put, List.getElem_toArray, List.getElem_cons_zero, List.getElem_cons_succ, List.setIfInBounds_toArray, List.set_cons_zero, List.set_cons_succ])
      refine wpAnyF_take (i := 10) (v := ?_) (by kernel_rfl) (by kernel_rfl) rfl (by kernel_rfl) (by kernel_rfl) (by kernel_rfl) (fun _ _ _ h => h) (Or.inl ⟨by rfl, ?_⟩) (by assumption) ?_
      rotate_left
      · intro w' hSw; (try dsimp only at hSw); clear hSw; go_simp; (try with_reducible rfl)
      (try simp only [Act.put, List.getElem_toArray, List.getElem_cons_zero, List.getElem_cons_succ, List.setIfInBounds_toArray, List.set_cons_zero, List.set_cons_succ])
      refine wpAnyF_ready (rs := [12]) (by kernel_rfl) (by simp) ?_
      refine AllReadyF.cons rfl (fun KK hKK => ?_) AllReadyF.nil
      obtain ⟨m0, m1⟩ := CB.two HB7.out.2
      have mf := HB7.out.2.frozen
      have mz := HB7.out.2.lt
      go_simp
      have HLB := hi (And.intro (HB7.out.1.set2 (M := w5.heap.size) HB5.out.z (.int .i64 0) (.int .i64 0)) (HB7.out.2.set2 (.int .i64 0) (.int .i64 0)))
      refine hKK.out _ _ HLB.out.1.held (fun hHeld => ?_)
      clear hKK KK
      (try simp only [Act.put, List.getElem_toArray, List.getElem_cons_zero, List.getElem_cons_succ, List.setIfInBounds_toArray, List.set_cons_zero, List.set_cons_succ])
      refine wpAnyF_ready (rs := [13]) (by kernel_rfl) (by simp) ?_
      refine AllReadyF.last (by kernel_rfl) rfl (fun KK hKK => ?_) AllReadyF.nil
      go_simp
      have HL := HLB
      clear m0 m1 mf mz
      refine hKK.out _ _ ?_
      clear hKK KK
      (try simp only [Act.put, List.getElem_toArray, List.getElem_cons_zero, List.getElem_cons_succ, List.setIfInBounds_toArray, List.set_cons_zero, List.set_cons_succ])
      refine wpAnyF_done (by kernel_rfl) ?_ _
      refine NoPanic.normal ?_
      go_wp2
      go_ret
      exact ⟨rfl, HL.out.1.below⟩
  · go_simp
    have HA1 := hi (And.intro ((H3.out.later (below_dr _)).later (bal _ (.cells #[.int .i64 0, .int .i64 0] 30))) (show CB (w3.drew.alloc (.cells #[.int .i64 0, .int .i64 0] 30)) w3.heap.size 30 #[.int .i64 0, .int .i64 0] from CB.new w3.drew 30 #[.int .i64 0, .int .i64 0]))
    refine hKK.out _ _ HA1.out.1.held (fun hHeld => ?_)
    clear hKK KK
    (try simp only [Act.put, List.getElem_toArray, List.getElem_cons_zero, List.getElem_cons_succ, List.setIfInBounds_toArray, List.set_cons_zero, List.set_cons_succ])
    refine wpAnyF_ready (rs := [5]) (by kernel_rfl) (by simp) ?_
    refine AllReadyF.cons rfl (fun KK hKK => ?_) AllReadyF.nil
    go_simp
    ((with_reducible refine (HPR.out _).mono ?_); rintro e' w5 ⟨rfl, hbb⟩; have HA5 := hi (And.intro (HA1.out.1.later hbb) (HA1.out.2.below hbb)); clear hbb)
    (try go_simp)
    refine hKK.out _ _ HA5.out.1.held (fun hHeld => ?_)
    clear hKK KK
    (try simp only [Act.put, List.getElem_toArray, List.getElem_cons_zero, List.getElem_cons_succ, List.setIfInBounds_toArray, List.set_cons_zero, List.set_cons_succ])
    refine wpAnyF_take (i := 6) (v := ?_) (by kernel_rfl) (by kernel_rfl) rfl (by kernel_rfl) (by kernel_rfl) (by kernel_rfl) (fun _ _ _ h => h) (Or.inl ⟨by rfl, ?_⟩) (by assumption) ?_
    rotate_left
    · intro w' hSw; (try dsimp only at hSw); clear hSw; go_simp; (try with_reducible rfl)
    (try simp only [Act.put, List.getElem_toArray, List.getElem_cons_zero, List.getElem_cons_succ, List.setIfInBounds_toArray, List.set_cons_zero, List.set_cons_succ])
    refine wpAnyF_ready (rs := [7]) (by kernel_rfl) (by simp) ?_
    refine AllReadyF.cons rfl (fun KK hKK => ?_) AllReadyF.nil
    go_simp
    ((with_reducible refine (HNT.out _ HA5.out.1.below).mono ?_); rintro e' w7 ⟨rfl, hbb⟩; have HA7 := hi (And.intro (HA5.out.1.later hbb) (HA5.out.2.below hbb)); clear hbb)
    (try go_simp)
    refine hKK.out _ _ HA7.out.1.held (fun hHeld => ?_)
    clear hKK KK
    (try simp only [Act.put, List.getElem_toArray, List.getElem_cons_zero, List.getElem_cons_succ, List.setIfInBounds_toArray, List.set_cons_zero, List.set_cons_succ])
    refine wpAnyF_take (i := 8) (v := ?_) (by kernel_rfl) (by kernel_rfl) rfl (by kernel_rfl) (by kernel_rfl) (by kernel_rfl) (fun _ _ _ h => h) (Or.inl ⟨by rfl, ?_⟩) (by assumption) ?_
    rotate_left
    · intro w' hSw; (try dsimp only at hSw); clear hSw; go_simp; (try with_reducible rfl)
    (try simp only [Act.put, List.getElem_toArray, List.getElem_cons_zero, List.getElem_cons_succ, List.setIfInBounds_toArray, List.set_cons_zero, List.set_cons_succ])
    refine wpAnyF_take (i := 9) (v := ?_) (by kernel_rfl) (by kernel_rfl) rfl (by kernel_rfl) (by kernel_rfl) (by kernel_rfl) (fun _ _ _ h => h) (Or.inl ⟨by rfl, ?_⟩) (by assumption) ?_
    rotate_left
    · intro w' hSw; (try dsimp only at hSw); clear hSw; go_simp; (try with_reducible rfl)
    (try simp only [Act.put, List.getElem_toArray, List.getElem_cons_zero, List.getElem_cons_succ, List.setIfInBounds_toArray, List.set_cons_zero, List.set_cons_succ])
    refine wpAnyF_take (i := 10) (v := ?_) (by kernel_rfl) (by kernel_rfl) rfl (by kernel_rfl) (by kernel_rfl) (by kernel_rfl) (fun _ _ _ h => h) (Or.inl ⟨by rfl, ?_⟩) (by assumption) ?_
    rotate_left
    · intro w' hSw; (try dsimp only at hSw); clear hSw; go_simp; (try with_reducible rfl)
    (try simp only [Act.put, List.getElem_toArray, List.getElem_cons_zero, List.getElem_cons_succ, List.setIfInBounds_toArray, List.set_cons_zero, List.set_cons_succ])
    refine wpAnyF_ready (rs := [12]) (by kernel_rfl) (by simp) ?_
    refine AllReadyF.cons rfl (fun KK hKK => ?_) AllReadyF.nil
    obtain ⟨m0, m1⟩ := CB.two HA7.out.2
    have mf := HA7.out.2.frozen
    have mz := HA7.out.2.lt
    go_simp
    have HLA := hi (And.intro (HA7.out.1.set2 (M := w3.heap.size) H3.out.z (.int .i64 0) (.int .i64 0)) (HA7.out.2.set2 (.int .i64 0) (.int .i64 0)))
    refine hKK.out _ _ HLA.out.1.held (fun hHeld => ?_)
    clear hKK KK
    (try simp only [Act.put, List.getElem_toArray, List.getElem_cons_zero, List.getElem_cons_succ, List.setIfInBounds_toArray, List.set_cons_zero, List.set_cons_succ])
    refine wpAnyF_ready (rs := [13]) (by kernel_rfl) (by simp) ?_
    refine AllReadyF.last (by kernel_rfl) rfl (fun KK hKK => ?_) AllReadyF.nil
    go_simp
    have HL := HLA
    clear m0 m1 mf mz
    refine hKK.out _ _ ?_
    clear hKK KK
    (try simp only [Act.put, List.getElem_toArray, List.getElem_cons_zero, List.getElem_cons_succ, List.setIfInBounds_toArray, List.set_cons_zero, List.set_cons_succ])
    refine wpAnyF_done (by kernel_rfl) ?_ _
    refine NoPanic.normal ?_
    go_wp2
    go_ret
    exact ⟨rfl, HL.out.1.below⟩
set_option maxRecDepth 100000 in
set_option maxHeartbeats 8000000 in
theorem lead_yes (p g cap : Nat) (bs bs' : List Nat) (t : Tb) (hF : t.Fair) (id at_ : Int) (hA : i64B at_) (w : World) (hM : MemAt 89 w p g cap bs) (h0 : rightE bs.length t = 0) (h1 : t.page ≠ 0) (h2 : nuB id = true) (h3 : holdsB bs.length at_ t.page = true)
    (per x : Int) (hper : 1 ≤ per) (hx : IntKind.i64.wrap (id.tdiv per) = x) (q : Nat) (u v : Nat) (hor : bits .or .u64 9223372036854775808 (u : Int) = (v : Int))
    (HP : ∀ W, Calls Try.prog 27 #[t.v] W fun e w' => e = .returned (.int .i64 per) ∧ Below W.heap.size W w')
    (HN : ∀ W, Below w.heap.size w W → Calls Try.prog 26 #[.pointer (some ⟨p, 0, none⟩), .agg #[.int .i64 t.at_, .int .i64 t.size], .int .i64 x] W fun e w' => e = .returned (ptV (some q)) ∧ Below W.heap.size W w')
    (HO : ∀ W, Calls Try.prog 29 #[.int .i64 0, .int .i64 at_] W fun e w' => e = .returned (.int .u64 u) ∧ Below W.heap.size W w')
    (HS : ∀ W, Below w.heap.size w W → Calls Try.prog 28 #[.pointer (some ⟨p, 0, none⟩), .agg #[.int .i64 q, .int .i64 8], .int .u64 v] W fun e w' => e = .returned (.int .i64 0) ∧ MemAt 89 w' p g cap bs' ∧ Kept (· = g) W w') :
    Calls Try.prog 9 #[t.v, .pointer (some ⟨p, 0, none⟩), .int .i64 id, .int .i64 at_] w fun e w' => e = .returned (.int .i64 0) ∧ MemAt 89 w' p g cap bs' ∧ Kept (· = g) w w' := by
  have H0 := hi (TbBx.new w t)
  have hgl : g < w.heap.size := hM.bytes.lt
  have HR := hi (fun W (hb : Below w.heap.size w W) => right_any p g cap bs t hF W (hM.below hb))
  have HU := hi (fun W => numbered_any id W)
  have HH := hi (fun W (hb : Below w.heap.size w W) => holds_any p g cap bs at_ t.page W (hM.below hb) hA.1 hA.2 hF.p.1 hF.p.2)
  rw [h0] at HR
  rw [h2] at HU
  rw [h3] at HH
  unfold win at HH
  have HPR := hi HP
  have HNT := hi HN
  have HOF := hi HO
  have HST := hi HS
  obtain ⟨a, s, pg⟩ := t
  dsimp only at H0 HR HH h1 HPR HNT ⊢
  have g0 : (pg == 0) = false := by simpa using h1
  have g1 : (per == 0) = false := by simp; omega
  have g2 : per ≠ 0 := by omega
  clear hM hF h0 h1 h2 h3 hA HP HN HO HS hper
  unfold ptV at HNT
  dsimp only at HNT
  obtain ⟨a0, a1, a2⟩ := CB.three H0.out.q
  go_enter Try.func9, Try.ntmps9
  go_wp2_with (first
    | (go_at_call 23; ((with_reducible refine (HR.out _ H0.out.below).mono ?_); rintro e w1 ⟨rfl, hb1⟩; have H1 := hi (H0.out.later hb1); clear hb1 a0 a1 a2; obtain ⟨a0, a1, a2⟩ := CB.three H1.out.q))
    | (go_at_call 24; ((with_reducible refine (HU.out _).mono ?_); rintro e w2 ⟨rfl, rfl⟩))
    | (go_at_call 25; ((with_reducible refine (HH.out _ H1.out.below).mono ?_); rintro e w3 ⟨rfl, hb3⟩; have H3 := hi (H1.out.later hb3); clear hb3 a0 a1 a2)))
  refine wp_region_noPanic ?_
  refine wp_region_last_drew (S := (fun V => (V.cell? ⟨w.heap.size, 0, none⟩ = some (.int .i64 a) ∧ V.cell? ⟨w.heap.size, 1, none⟩ = some (.int .i64 s) ∧ V.cell? ⟨w.heap.size, 2, none⟩ = some (.int .i64 pg)) ∧ TbBx w w.heap.size ⟨a, s, pg⟩ V)) [13] (by kernel_rfl) ((H3.out.later (below_dr _)).held) (fun hHeld => ?_)
  (try simp only [Array.replicate_succ, Array.replicate_zero, List.push_toArray, List.nil_append, List.cons_append])
  refine wpAnyF_take (i := 0) (v := ?_) (by kernel_rfl) (by kernel_rfl) rfl (by kernel_rfl) (by kernel_rfl) (by kernel_rfl) (fun _ _ _ h => h) (Or.inl ⟨by rfl, ?_⟩) (by assumption) ?_
  rotate_left
  · intro w' hSw; (try dsimp only at hSw); clear hSw; go_simp; (try with_reducible rfl)
  (try simp only [Act.put, List.getElem_toArray, List.getElem_cons_zero, List.getElem_cons_succ, List.setIfInBounds_toArray, List.set_cons_zero, List.set_cons_succ])
  refine wpAnyF_take (i := 1) (v := ?_) (by kernel_rfl) (by kernel_rfl) rfl (by kernel_rfl) (by kernel_rfl) (by kernel_rfl) (fun _ _ _ h => h) (Or.inl ⟨by rfl, ?_⟩) (by assumption) ?_
  rotate_left
  · intro w' hSw; (try dsimp only at hSw); clear hSw; go_simp; (try with_reducible rfl)
  (try simp only [Act.put, List.getElem_toArray, List.getElem_cons_zero, List.getElem_cons_succ, List.setIfInBounds_toArray, List.set_cons_zero, List.set_cons_succ])
  refine wpAnyF_take (i := 2) (v := ?_) (by kernel_rfl) (by kernel_rfl) rfl (by kernel_rfl) (by kernel_rfl) (by kernel_rfl) (fun _ _ _ h => h) (Or.inl ⟨by rfl, ?_⟩) (by assumption) ?_
  rotate_left
  · intro w' hSw; (try dsimp only at hSw); have hq := hSw.1; clear hSw; obtain ⟨a0, a1, a2⟩ := hq; go_simp; (try with_reducible rfl)
  (try simp only [Act.put, List.getElem_toArray, List.getElem_cons_zero, List.getElem_cons_succ, List.setIfInBounds_toArray, List.set_cons_zero, List.set_cons_succ])
  refine wpAnyF_take (i := 3) (v := ?_) (by kernel_rfl) (by kernel_rfl) rfl (by kernel_rfl) (by kernel_rfl) (by kernel_rfl) (fun _ _ _ h => h) (Or.inl ⟨by rfl, ?_⟩) (by assumption) ?_
  rotate_left
  · intro w' hSw; (try dsimp only at hSw); clear hSw; go_simp; (try with_reducible rfl)
  (try simp only [Act.put, List.getElem_toArray, List.getElem_cons_zero, List.getElem_cons_succ, List.setIfInBounds_toArray, List.set_cons_zero, List.set_cons_succ])
  refine wpAnyF_take (i := 4) (v := ?_) (by kernel_rfl) (by kernel_rfl) rfl (by kernel_rfl) (by kernel_rfl) (by kernel_rfl) (fun _ _ _ h => h) (Or.inl ⟨by rfl, ?_⟩) (by assumption) ?_
  rotate_left
  · intro w' hSw; (try dsimp only at hSw); have hq := hSw.1; clear hSw; obtain ⟨a0, a1, a2⟩ := hq; go_simp; (try with_reducible rfl)
  (try simp only [Act.put, List.getElem_toArray, List.getElem_cons_zero, List.getElem_cons_succ, List.setIfInBounds_toArray, List.set_cons_zero, List.set_cons_succ])
  refine wpAnyF_ready (rs := [5, 11]) (by kernel_rfl) (by simp) ?_
  refine (AllReadyF.cons rfl (fun KK hKK => ?_) (AllReadyF.cons rfl (fun KK hKK => ?_) AllReadyF.nil))
  · go_simp
    ((with_reducible refine (HPR.out _).mono ?_); rintro e' w5 ⟨rfl, hbb⟩; have HB5 := hi ((H3.out.later (below_dr _)).later hbb); clear hbb)
    (try go_simp)
    refine hKK.out _ _ HB5.out.held (fun hHeld => ?_)
    clear hKK KK
    (try simp only [Act.put, List.getElem_toArray, List.getElem_cons_zero, List.getElem_cons_succ, List.setIfInBounds_toArray, List.set_cons_zero, List.set_cons_succ])
    refine wpAnyF_take (i := 6) (v := ?_) (by kernel_rfl) (by kernel_rfl) rfl (by kernel_rfl) (by kernel_rfl) (by kernel_rfl) (fun _ _ _ h => h) (Or.inl ⟨by rfl, ?_⟩) (by assumption) ?_
    rotate_left
    · intro w' hSw; (try dsimp only at hSw); clear hSw; go_simp; (try with_reducible rfl)
    (try simp only [Act.put, List.getElem_toArray, List.getElem_cons_zero, List.getElem_cons_succ, List.setIfInBounds_toArray, List.set_cons_zero, List.set_cons_succ])
    refine wpAnyF_ready (rs := [7, 11]) (by kernel_rfl) (by simp) ?_
    refine (AllReadyF.cons rfl (fun KK hKK => ?_) (AllReadyF.cons rfl (fun KK hKK => ?_) AllReadyF.nil))
    · go_simp
      ((with_reducible refine (HNT.out _ HB5.out.below).mono ?_); rintro e' w7 ⟨rfl, hbb⟩; have HC7 := hi (HB5.out.later hbb); clear hbb)
      (try go_simp)
      refine hKK.out _ _ HC7.out.held (fun hHeld => ?_)
      clear hKK KK
      (try simp only [Act.put, List.getElem_toArray, List.getElem_cons_zero, List.getElem_cons_succ, List.setIfInBounds_toArray, List.set_cons_zero, List.set_cons_succ])
      refine wpAnyF_take (i := 8) (v := ?_) (by kernel_rfl) (by kernel_rfl) rfl (by kernel_rfl) (by kernel_rfl) (by kernel_rfl) (fun _ _ _ h => h) (Or.inl ⟨by rfl, ?_⟩) (by assumption) ?_
      rotate_left
      · intro w' hSw; (try dsimp only at hSw); clear hSw; go_simp; (try with_reducible rfl)
      (try simp only [Act.put, List.getElem_toArray, List.getElem_cons_zero, List.getElem_cons_succ, List.setIfInBounds_toArray, List.set_cons_zero, List.set_cons_succ])
      refine wpAnyF_take (i := 9) (v := ?_) (by kernel_rfl) (by kernel_rfl) rfl (by kernel_rfl) (by kernel_rfl) (by kernel_rfl) (fun _ _ _ h => h) (Or.inl ⟨by rfl, ?_⟩) (by assumption) ?_
      rotate_left
      · intro w' hSw; (try dsimp only at hSw); clear hSw; go_simp; (try with_reducible rfl)
      (try simp only [Act.put, List.getElem_toArray, List.getElem_cons_zero, List.getElem_cons_succ, List.setIfInBounds_toArray, List.set_cons_zero, List.set_cons_succ])
      refine wpAnyF_take (i := 10) (v := ?_) (by kernel_rfl) (by kernel_rfl) rfl (by kernel_rfl) (by kernel_rfl) (by kernel_rfl) (fun _ _ _ h => h) (Or.inl ⟨by rfl, ?_⟩) (by assumption) ?_
      rotate_left
      · intro w' hSw; (try dsimp only at hSw); clear hSw; go_simp; (try with_reducible rfl)
      (try simp only [Act.put, List.getElem_toArray, List.getElem_cons_zero, List.getElem_cons_succ, List.setIfInBounds_toArray, List.set_cons_zero, List.set_cons_succ])
      refine wpAnyF_ready (rs := [11]) (by kernel_rfl) (by simp) ?_
      refine AllReadyF.cons rfl (fun KK hKK => ?_) AllReadyF.nil
      go_simp
      have HC8 := hi (And.intro (HC7.out.later (bal _ (.cells #[.int .i64 0, .int .i64 0] 30))) (CB.new w7 30 #[.int .i64 0, .int .i64 0]))
      refine hKK.out _ _ HC8.out.1.held (fun hHeld => ?_)
      clear hKK KK
      (try simp only [Act.put, List.getElem_toArray, List.getElem_cons_zero, List.getElem_cons_succ, List.setIfInBounds_toArray, List.set_cons_zero, List.set_cons_succ])
      refine wpAnyF_ready (rs := [12]) (by kernel_rfl) (by simp) ?_
      refine AllReadyF.cons rfl (fun KK hKK => ?_) AllReadyF.nil
      obtain ⟨m0, m1⟩ := CB.two HC8.out.2
      have mf := HC8.out.2.frozen
      have mz := HC8.out.2.lt
      go_simp
      have HLC := hi (And.intro (HC7.out.later (bal _ (.cells #[(.int .i64 (q : Int)), (.int .i64 8)] 30))) (CB.new w7 30 #[(.int .i64 (q : Int)), (.int .i64 8)]))
      refine hKK.out _ _ HLC.out.1.held (fun hHeld => ?_)
      clear hKK KK
      (try simp only [Act.put, List.getElem_toArray, List.getElem_cons_zero, List.getElem_cons_succ, List.setIfInBounds_toArray, List.set_cons_zero, List.set_cons_succ])
      refine wpAnyF_ready (rs := [13]) (by kernel_rfl) (by simp) ?_
      refine AllReadyF.last (by kernel_rfl) rfl (fun KK hKK => ?_) AllReadyF.nil
      go_simp
      have HL := HLC
      clear m0 m1 mf mz
      refine hKK.out _ _ ?_
      clear hKK KK
      (try simp only [Act.put, List.getElem_toArray, List.getElem_cons_zero, List.getElem_cons_succ, List.setIfInBounds_toArray, List.set_cons_zero, List.set_cons_succ])
      refine wpAnyF_done (by kernel_rfl) ?_ _
      refine NoPanic.normal ?_
      have HMz := hi (show w.heap.size ≤ w7.heap.size from HC7.out.below.size)
      go_wp2
      refine wp_region_noPanic ?_
      refine wp_region_last_drew (S := (fun V => V.cell? ⟨w7.heap.size, 0, none⟩ = some (.int .i64 (q : Int)) ∧ V.cell? ⟨w7.heap.size, 1, none⟩ = some (.int .i64 8))) [] (by kernel_rfl) (CB.two HL.out.2.drew) (fun hHeld => ?_)
      (try simp only [Array.replicate_succ, Array.replicate_zero, List.push_toArray, List.nil_append, List.cons_append])
      refine wpAnyF_take (i := 0) (v := ?_) (by kernel_rfl) (by kernel_rfl) rfl (by kernel_rfl) (by kernel_rfl) (by kernel_rfl) (fun _ _ _ h => h) (Or.inl ⟨by rfl, ?_⟩) (by assumption) ?_
      rotate_left
      · intro w' hSw; (try dsimp only at hSw); clear hSw; go_simp; (try with_reducible rfl)
      (try simp only [Act.put, List.getElem_toArray, List.getElem_cons_zero, List.getElem_cons_succ, List.setIfInBounds_toArray, List.set_cons_zero, List.set_cons_succ])
      refine wpAnyF_take (i := 1) (v := ?_) (by kernel_rfl) (by kernel_rfl) rfl (by kernel_rfl) (by kernel_rfl) (by kernel_rfl) (fun _ _ _ h => h) (Or.inl ⟨by rfl, ?_⟩) (by assumption) ?_
      rotate_left
      · intro w' hSw; (try dsimp only at hSw); obtain ⟨y0, y1⟩ := hSw; go_simp; (try with_reducible rfl)
      (try simp only [Act.put, List.getElem_toArray, List.getElem_cons_zero, List.getElem_cons_succ, List.setIfInBounds_toArray, List.set_cons_zero, List.set_cons_succ])
      refine wpAnyF_take (i := 2) (v := ?_) (by kernel_rfl) (by kernel_rfl) rfl (by kernel_rfl) (by kernel_rfl) (by kernel_rfl) (fun _ _ _ h => h) (Or.inl ⟨by rfl, ?_⟩) (by assumption) ?_
      rotate_left
      · intro w' hSw; (try dsimp only at hSw); clear hSw; go_simp; (try with_reducible rfl)
      (try simp only [Act.put, List.getElem_toArray, List.getElem_cons_zero, List.getElem_cons_succ, List.setIfInBounds_toArray, List.set_cons_zero, List.set_cons_succ])
      refine wpAnyF_ready (rs := [3]) (by kernel_rfl) (by simp) ?_
      refine AllReadyF.cons rfl (fun KK hKK => ?_) AllReadyF.nil
      go_simp
      ((with_reducible refine (HOF.out _).mono ?_); rintro e' x3 ⟨rfl, hbb⟩; have HY3 := hi (And.intro (HL.out.2.drew.below hbb) ((HL.out.1.below.more (below_dr _)).more hbb)); clear hbb)
      (try go_simp)
      refine hKK.out _ _ (CB.two HY3.out.1) (fun hHeld => ?_)
      clear hKK KK
      (try simp only [Act.put, List.getElem_toArray, List.getElem_cons_zero, List.getElem_cons_succ, List.setIfInBounds_toArray, List.set_cons_zero, List.set_cons_succ])
      refine wpAnyF_take (i := 4) (v := ?_) (by kernel_rfl) (by kernel_rfl) rfl (by kernel_rfl) (by kernel_rfl) (by kernel_rfl) (fun _ _ _ h => h) (Or.inl ⟨by rfl, ?_⟩) (by assumption) ?_
      rotate_left
      · intro w' hSw; (try dsimp only at hSw); clear hSw; go_simp; (try with_reducible rfl)
      (try simp only [Act.put, List.getElem_toArray, List.getElem_cons_zero, List.getElem_cons_succ, List.setIfInBounds_toArray, List.set_cons_zero, List.set_cons_succ])
      refine wpAnyF_ready (rs := [5]) (by kernel_rfl) (by simp) ?_
      refine AllReadyF.cons rfl (fun KK hKK => ?_) AllReadyF.nil
      go_simp
      ((with_reducible refine (HST.out _ HY3.out.2).mono ?_); rintro e' x5 ⟨rfl, hm4, hk4⟩; have HE := hi (And.intro (HY3.out.1.keptB hk4 (fun e => by have := HMz.out; omega)) (And.intro hm4 (Kept.more HY3.out.2 hk4))); clear hm4 hk4)
      (try go_simp)
      refine hKK.out _ _ (CB.two HE.out.1) (fun hHeld => ?_)
      clear hKK KK
      (try simp only [Act.put, List.getElem_toArray, List.getElem_cons_zero, List.getElem_cons_succ, List.setIfInBounds_toArray, List.set_cons_zero, List.set_cons_succ])
      refine wpAnyF_take (i := 6) (v := ?_) (by kernel_rfl) (by kernel_rfl) rfl (by kernel_rfl) (by kernel_rfl) (by kernel_rfl) (fun _ _ _ h => h) (Or.inl ⟨by rfl, ?_⟩) (by assumption) ?_
      rotate_left
      · intro w' hSw; (try dsimp only at hSw); clear hSw; go_simp; (try with_reducible rfl)
      (try simp only [Act.put, List.getElem_toArray, List.getElem_cons_zero, List.getElem_cons_succ, List.setIfInBounds_toArray, List.set_cons_zero, List.set_cons_succ])
      refine wpAnyF_done (by kernel_rfl) ?_ _
      refine NoPanic.normal ?_
      go_wp2
      go_ret
      exact ⟨rfl, HE.out.2⟩
    · go_simp
      have HB6 := hi (And.intro (HB5.out.later (bal _ (.cells #[.int .i64 0, .int .i64 0] 30))) (CB.new w5 30 #[.int .i64 0, .int .i64 0]))
      refine hKK.out _ _ HB6.out.1.held (fun hHeld => ?_)
      clear hKK KK
      (try simp only [Act.put, List.getElem_toArray, List.getElem_cons_zero, List.getElem_cons_succ, List.setIfInBounds_toArray, List.set_cons_zero, List.set_cons_succ])
      refine wpAnyF_ready (rs := [7]) (by kernel_rfl) (by simp) ?_
      refine AllReadyF.cons rfl (fun KK hKK => ?_) AllReadyF.nil
      go_simp
      ((with_reducible refine (HNT.out _ HB6.out.1.below).mono ?_); rintro e' w7 ⟨rfl, hbb⟩; have HB7 := hi (And.intro (HB6.out.1.later hbb) (HB6.out.2.below hbb)); clear hbb)
      (try go_simp)
      refine hKK.out _ _ HB7.out.1.held (fun hHeld => ?_)
      clear hKK KK
      (try simp only [Act.put, List.getElem_toArray, List.getElem_cons_zero, List.getElem_cons_succ, List.setIfInBounds_toArray, List.set_cons_zero, List.set_cons_succ])
      refine wpAnyF_take (i := 8) (v := ?_) (by kernel_rfl) (by kernel_rfl) rfl (by kernel_rfl) (by kernel_rfl) (by kernel_rfl) (fun _ _ _ h => h) (Or.inl ⟨by rfl, ?_⟩) (by assumption) ?_
      rotate_left
      · intro w' hSw; (try dsimp only at hSw); clear hSw; go_simp; (try with_reducible rfl)
      (try simp only [Act.put, List.getElem_toArray, List.getElem_cons_zero, List.getElem_cons_succ, List.setIfInBounds_toArray, List.set_cons_zero, List.set_cons_succ])
      refine wpAnyF_take (i := 9) (v := ?_) (by kernel_rfl) (by kernel_rfl) rfl (by kernel_rfl) (by kernel_rfl) (by kernel_rfl) (fun _ _ _ h => h) (Or.inl ⟨by rfl, ?_⟩) (by assumption) ?_
      rotate_left
      · intro w' hSw; (try dsimp only at hSw); clear hSw; go_simp; (try with_reducible rfl)
      (try simp only [Act.put, List.getElem_toArray, List.getElem_cons_zero, List.getElem_cons_succ, List.setIfInBounds_toArray, List.set_cons_zero, List.set_cons_succ])
      refine wpAnyF_take (i := 10) (v := ?_) (by kernel_rfl) (by kernel_rfl) rfl (by kernel_rfl) (by kernel_rfl) (by kernel_rfl) (fun _ _ _ h => h) (Or.inl ⟨by rfl, ?_⟩) (by assumption) ?_
      rotate_left
      · intro w' hSw; (try dsimp only at hSw); clear hSw; go_simp; (try with_reducible rfl)
      (try simp only [Act.put, List.getElem_toArray, List.getElem_cons_zero, List.getElem_cons_succ, List.setIfInBounds_toArray, List.set_cons_zero, List.set_cons_succ])
      refine wpAnyF_ready (rs := [12]) (by kernel_rfl) (by simp) ?_
      refine AllReadyF.cons rfl (fun KK hKK => ?_) AllReadyF.nil
      obtain ⟨m0, m1⟩ := CB.two HB7.out.2
      have mf := HB7.out.2.frozen
      have mz := HB7.out.2.lt
      go_simp
      have HLB := hi (And.intro (HB7.out.1.set2 (M := w5.heap.size) HB5.out.z (.int .i64 (q : Int)) (.int .i64 8)) (HB7.out.2.set2 (.int .i64 (q : Int)) (.int .i64 8)))
      refine hKK.out _ _ HLB.out.1.held (fun hHeld => ?_)
      clear hKK KK
      (try simp only [Act.put, List.getElem_toArray, List.getElem_cons_zero, List.getElem_cons_succ, List.setIfInBounds_toArray, List.set_cons_zero, List.set_cons_succ])
      refine wpAnyF_ready (rs := [13]) (by kernel_rfl) (by simp) ?_
      refine AllReadyF.last (by kernel_rfl) rfl (fun KK hKK => ?_) AllReadyF.nil
      go_simp
      have HL := HLB
      clear m0 m1 mf mz
      refine hKK.out _ _ ?_
      clear hKK KK
      (try simp only [Act.put, List.getElem_toArray, List.getElem_cons_zero, List.getElem_cons_succ, List.setIfInBounds_toArray, List.set_cons_zero, List.set_cons_succ])
      refine wpAnyF_done (by kernel_rfl) ?_ _
      refine NoPanic.normal ?_
      have HMz := hi (show w.heap.size ≤ w5.heap.size from HB5.out.below.size)
      go_wp2
      refine wp_region_noPanic ?_
      refine wp_region_last_drew (S := (fun V => V.cell? ⟨w5.heap.size, 0, none⟩ = some (.int .i64 (q : Int)) ∧ V.cell? ⟨w5.heap.size, 1, none⟩ = some (.int .i64 8))) [] (by kernel_rfl) (CB.two HL.out.2.drew) (fun hHeld => ?_)
      (try simp only [Array.replicate_succ, Array.replicate_zero, List.push_toArray, List.nil_append, List.cons_append])
      refine wpAnyF_take (i := 0) (v := ?_) (by kernel_rfl) (by kernel_rfl) rfl (by kernel_rfl) (by kernel_rfl) (by kernel_rfl) (fun _ _ _ h => h) (Or.inl ⟨by rfl, ?_⟩) (by assumption) ?_
      rotate_left
      · intro w' hSw; (try dsimp only at hSw); clear hSw; go_simp; (try with_reducible rfl)
      (try simp only [Act.put, List.getElem_toArray, List.getElem_cons_zero, List.getElem_cons_succ, List.setIfInBounds_toArray, List.set_cons_zero, List.set_cons_succ])
      refine wpAnyF_take (i := 1) (v := ?_) (by kernel_rfl) (by kernel_rfl) rfl (by kernel_rfl) (by kernel_rfl) (by kernel_rfl) (fun _ _ _ h => h) (Or.inl ⟨by rfl, ?_⟩) (by assumption) ?_
      rotate_left
      · intro w' hSw; (try dsimp only at hSw); obtain ⟨y0, y1⟩ := hSw; go_simp; (try with_reducible rfl)
      (try simp only [Act.put, List.getElem_toArray, List.getElem_cons_zero, List.getElem_cons_succ, List.setIfInBounds_toArray, List.set_cons_zero, List.set_cons_succ])
      refine wpAnyF_take (i := 2) (v := ?_) (by kernel_rfl) (by kernel_rfl) rfl (by kernel_rfl) (by kernel_rfl) (by kernel_rfl) (fun _ _ _ h => h) (Or.inl ⟨by rfl, ?_⟩) (by assumption) ?_
      rotate_left
      · intro w' hSw; (try dsimp only at hSw); clear hSw; go_simp; (try with_reducible rfl)
      (try simp only [Act.put, List.getElem_toArray, List.getElem_cons_zero, List.getElem_cons_succ, List.setIfInBounds_toArray, List.set_cons_zero, List.set_cons_succ])
      refine wpAnyF_ready (rs := [3]) (by kernel_rfl) (by simp) ?_
      refine AllReadyF.cons rfl (fun KK hKK => ?_) AllReadyF.nil
      go_simp
      ((with_reducible refine (HOF.out _).mono ?_); rintro e' x3 ⟨rfl, hbb⟩; have HY3 := hi (And.intro (HL.out.2.drew.below hbb) ((HL.out.1.below.more (below_dr _)).more hbb)); clear hbb)
      (try go_simp)
      refine hKK.out _ _ (CB.two HY3.out.1) (fun hHeld => ?_)
      clear hKK KK
      (try simp only [Act.put, List.getElem_toArray, List.getElem_cons_zero, List.getElem_cons_succ, List.setIfInBounds_toArray, List.set_cons_zero, List.set_cons_succ])
      refine wpAnyF_take (i := 4) (v := ?_) (by kernel_rfl) (by kernel_rfl) rfl (by kernel_rfl) (by kernel_rfl) (by kernel_rfl) (fun _ _ _ h => h) (Or.inl ⟨by rfl, ?_⟩) (by assumption) ?_
      rotate_left
      · intro w' hSw; (try dsimp only at hSw); clear hSw; go_simp; (try with_reducible rfl)
      (try simp only [Act.put, List.getElem_toArray, List.getElem_cons_zero, List.getElem_cons_succ, List.setIfInBounds_toArray, List.set_cons_zero, List.set_cons_succ])
      refine wpAnyF_ready (rs := [5]) (by kernel_rfl) (by simp) ?_
      refine AllReadyF.cons rfl (fun KK hKK => ?_) AllReadyF.nil
      go_simp
      ((with_reducible refine (HST.out _ HY3.out.2).mono ?_); rintro e' x5 ⟨rfl, hm4, hk4⟩; have HE := hi (And.intro (HY3.out.1.keptB hk4 (fun e => by have := HMz.out; omega)) (And.intro hm4 (Kept.more HY3.out.2 hk4))); clear hm4 hk4)
      (try go_simp)
      refine hKK.out _ _ (CB.two HE.out.1) (fun hHeld => ?_)
      clear hKK KK
      (try simp only [Act.put, List.getElem_toArray, List.getElem_cons_zero, List.getElem_cons_succ, List.setIfInBounds_toArray, List.set_cons_zero, List.set_cons_succ])
      refine wpAnyF_take (i := 6) (v := ?_) (by kernel_rfl) (by kernel_rfl) rfl (by kernel_rfl) (by kernel_rfl) (by kernel_rfl) (fun _ _ _ h => h) (Or.inl ⟨by rfl, ?_⟩) (by assumption) ?_
      rotate_left
      · intro w' hSw; (try dsimp only at hSw); clear hSw; go_simp; (try with_reducible rfl)
      (try simp only [Act.put, List.getElem_toArray, List.getElem_cons_zero, List.getElem_cons_succ, List.setIfInBounds_toArray, List.set_cons_zero, List.set_cons_succ])
      refine wpAnyF_done (by kernel_rfl) ?_ _
      refine NoPanic.normal ?_
      go_wp2
      go_ret
      exact ⟨rfl, HE.out.2⟩
  · go_simp
    have HA1 := hi (And.intro ((H3.out.later (below_dr _)).later (bal _ (.cells #[.int .i64 0, .int .i64 0] 30))) (show CB (w3.drew.alloc (.cells #[.int .i64 0, .int .i64 0] 30)) w3.heap.size 30 #[.int .i64 0, .int .i64 0] from CB.new w3.drew 30 #[.int .i64 0, .int .i64 0]))
    refine hKK.out _ _ HA1.out.1.held (fun hHeld => ?_)
    clear hKK KK
    (try simp only [Act.put, List.getElem_toArray, List.getElem_cons_zero, List.getElem_cons_succ, List.setIfInBounds_toArray, List.set_cons_zero, List.set_cons_succ])
    refine wpAnyF_ready (rs := [5]) (by kernel_rfl) (by simp) ?_
    refine AllReadyF.cons rfl (fun KK hKK => ?_) AllReadyF.nil
    go_simp
    ((with_reducible refine (HPR.out _).mono ?_); rintro e' w5 ⟨rfl, hbb⟩; have HA5 := hi (And.intro (HA1.out.1.later hbb) (HA1.out.2.below hbb)); clear hbb)
    (try go_simp)
    refine hKK.out _ _ HA5.out.1.held (fun hHeld => ?_)
    clear hKK KK
    (try simp only [Act.put, List.getElem_toArray, List.getElem_cons_zero, List.getElem_cons_succ, List.setIfInBounds_toArray, List.set_cons_zero, List.set_cons_succ])
    refine wpAnyF_take (i := 6) (v := ?_) (by kernel_rfl) (by kernel_rfl) rfl (by kernel_rfl) (by kernel_rfl) (by kernel_rfl) (fun _ _ _ h => h) (Or.inl ⟨by rfl, ?_⟩) (by assumption) ?_
    rotate_left
    · intro w' hSw; (try dsimp only at hSw); clear hSw; go_simp; (try with_reducible rfl)
    (try simp only [Act.put, List.getElem_toArray, List.getElem_cons_zero, List.getElem_cons_succ, List.setIfInBounds_toArray, List.set_cons_zero, List.set_cons_succ])
    refine wpAnyF_ready (rs := [7]) (by kernel_rfl) (by simp) ?_
    refine AllReadyF.cons rfl (fun KK hKK => ?_) AllReadyF.nil
    go_simp
    ((with_reducible refine (HNT.out _ HA5.out.1.below).mono ?_); rintro e' w7 ⟨rfl, hbb⟩; have HA7 := hi (And.intro (HA5.out.1.later hbb) (HA5.out.2.below hbb)); clear hbb)
    (try go_simp)
    refine hKK.out _ _ HA7.out.1.held (fun hHeld => ?_)
    clear hKK KK
    (try simp only [Act.put, List.getElem_toArray, List.getElem_cons_zero, List.getElem_cons_succ, List.setIfInBounds_toArray, List.set_cons_zero, List.set_cons_succ])
    refine wpAnyF_take (i := 8) (v := ?_) (by kernel_rfl) (by kernel_rfl) rfl (by kernel_rfl) (by kernel_rfl) (by kernel_rfl) (fun _ _ _ h => h) (Or.inl ⟨by rfl, ?_⟩) (by assumption) ?_
    rotate_left
    · intro w' hSw; (try dsimp only at hSw); clear hSw; go_simp; (try with_reducible rfl)
    (try simp only [Act.put, List.getElem_toArray, List.getElem_cons_zero, List.getElem_cons_succ, List.setIfInBounds_toArray, List.set_cons_zero, List.set_cons_succ])
    refine wpAnyF_take (i := 9) (v := ?_) (by kernel_rfl) (by kernel_rfl) rfl (by kernel_rfl) (by kernel_rfl) (by kernel_rfl) (fun _ _ _ h => h) (Or.inl ⟨by rfl, ?_⟩) (by assumption) ?_
    rotate_left
    · intro w' hSw; (try dsimp only at hSw); clear hSw; go_simp; (try with_reducible rfl)
    (try simp only [Act.put, List.getElem_toArray, List.getElem_cons_zero, List.getElem_cons_succ, List.setIfInBounds_toArray, List.set_cons_zero, List.set_cons_succ])
    refine wpAnyF_take (i := 10) (v := ?_) (by kernel_rfl) (by kernel_rfl) rfl (by kernel_rfl) (by kernel_rfl) (by kernel_rfl) (fun _ _ _ h => h) (Or.inl ⟨by rfl, ?_⟩) (by assumption) ?_
    rotate_left
    · intro w' hSw; (try dsimp only at hSw); clear hSw; go_simp; (try with_reducible rfl)
    (try simp only [Act.put, List.getElem_toArray, List.getElem_cons_zero, List.getElem_cons_succ, List.setIfInBounds_toArray, List.set_cons_zero, List.set_cons_succ])
    refine wpAnyF_ready (rs := [12]) (by kernel_rfl) (by simp) ?_
    refine AllReadyF.cons rfl (fun KK hKK => ?_) AllReadyF.nil
    obtain ⟨m0, m1⟩ := CB.two HA7.out.2
    have mf := HA7.out.2.frozen
    have mz := HA7.out.2.lt
    go_simp
    have HLA := hi (And.intro (HA7.out.1.set2 (M := w3.heap.size) H3.out.z (.int .i64 (q : Int)) (.int .i64 8)) (HA7.out.2.set2 (.int .i64 (q : Int)) (.int .i64 8)))
    refine hKK.out _ _ HLA.out.1.held (fun hHeld => ?_)
    clear hKK KK
    (try simp only [Act.put, List.getElem_toArray, List.getElem_cons_zero, List.getElem_cons_succ, List.setIfInBounds_toArray, List.set_cons_zero, List.set_cons_succ])
    refine wpAnyF_ready (rs := [13]) (by kernel_rfl) (by simp) ?_
    refine AllReadyF.last (by kernel_rfl) rfl (fun KK hKK => ?_) AllReadyF.nil
    go_simp
    have HL := HLA
    clear m0 m1 mf mz
    refine hKK.out _ _ ?_
    clear hKK KK
    (try simp only [Act.put, List.getElem_toArray, List.getElem_cons_zero, List.getElem_cons_succ, List.setIfInBounds_toArray, List.set_cons_zero, List.set_cons_succ])
    refine wpAnyF_done (by kernel_rfl) ?_ _
    refine NoPanic.normal ?_
    have HMz := hi (show w.heap.size ≤ w3.heap.size from H3.out.below.size)
    go_wp2
    refine wp_region_noPanic ?_
    refine wp_region_last_drew (S := (fun V => V.cell? ⟨w3.heap.size, 0, none⟩ = some (.int .i64 (q : Int)) ∧ V.cell? ⟨w3.heap.size, 1, none⟩ = some (.int .i64 8))) [] (by kernel_rfl) (CB.two HL.out.2.drew) (fun hHeld => ?_)
    (try simp only [Array.replicate_succ, Array.replicate_zero, List.push_toArray, List.nil_append, List.cons_append])
    refine wpAnyF_take (i := 0) (v := ?_) (by kernel_rfl) (by kernel_rfl) rfl (by kernel_rfl) (by kernel_rfl) (by kernel_rfl) (fun _ _ _ h => h) (Or.inl ⟨by rfl, ?_⟩) (by assumption) ?_
    rotate_left
    · intro w' hSw; (try dsimp only at hSw); clear hSw; go_simp; (try with_reducible rfl)
    (try simp only [Act.put, List.getElem_toArray, List.getElem_cons_zero, List.getElem_cons_succ, List.setIfInBounds_toArray, List.set_cons_zero, List.set_cons_succ])
    refine wpAnyF_take (i := 1) (v := ?_) (by kernel_rfl) (by kernel_rfl) rfl (by kernel_rfl) (by kernel_rfl) (by kernel_rfl) (fun _ _ _ h => h) (Or.inl ⟨by rfl, ?_⟩) (by assumption) ?_
    rotate_left
    · intro w' hSw; (try dsimp only at hSw); obtain ⟨y0, y1⟩ := hSw; go_simp; (try with_reducible rfl)
    (try simp only [Act.put, List.getElem_toArray, List.getElem_cons_zero, List.getElem_cons_succ, List.setIfInBounds_toArray, List.set_cons_zero, List.set_cons_succ])
    refine wpAnyF_take (i := 2) (v := ?_) (by kernel_rfl) (by kernel_rfl) rfl (by kernel_rfl) (by kernel_rfl) (by kernel_rfl) (fun _ _ _ h => h) (Or.inl ⟨by rfl, ?_⟩) (by assumption) ?_
    rotate_left
    · intro w' hSw; (try dsimp only at hSw); clear hSw; go_simp; (try with_reducible rfl)
    (try simp only [Act.put, List.getElem_toArray, List.getElem_cons_zero, List.getElem_cons_succ, List.setIfInBounds_toArray, List.set_cons_zero, List.set_cons_succ])
    refine wpAnyF_ready (rs := [3]) (by kernel_rfl) (by simp) ?_
    refine AllReadyF.cons rfl (fun KK hKK => ?_) AllReadyF.nil
    go_simp
    ((with_reducible refine (HOF.out _).mono ?_); rintro e' x3 ⟨rfl, hbb⟩; have HY3 := hi (And.intro (HL.out.2.drew.below hbb) ((HL.out.1.below.more (below_dr _)).more hbb)); clear hbb)
    (try go_simp)
    refine hKK.out _ _ (CB.two HY3.out.1) (fun hHeld => ?_)
    clear hKK KK
    (try simp only [Act.put, List.getElem_toArray, List.getElem_cons_zero, List.getElem_cons_succ, List.setIfInBounds_toArray, List.set_cons_zero, List.set_cons_succ])
    refine wpAnyF_take (i := 4) (v := ?_) (by kernel_rfl) (by kernel_rfl) rfl (by kernel_rfl) (by kernel_rfl) (by kernel_rfl) (fun _ _ _ h => h) (Or.inl ⟨by rfl, ?_⟩) (by assumption) ?_
    rotate_left
    · intro w' hSw; (try dsimp only at hSw); clear hSw; go_simp; (try with_reducible rfl)
    (try simp only [Act.put, List.getElem_toArray, List.getElem_cons_zero, List.getElem_cons_succ, List.setIfInBounds_toArray, List.set_cons_zero, List.set_cons_succ])
    refine wpAnyF_ready (rs := [5]) (by kernel_rfl) (by simp) ?_
    refine AllReadyF.cons rfl (fun KK hKK => ?_) AllReadyF.nil
    go_simp
    ((with_reducible refine (HST.out _ HY3.out.2).mono ?_); rintro e' x5 ⟨rfl, hm4, hk4⟩; have HE := hi (And.intro (HY3.out.1.keptB hk4 (fun e => by have := HMz.out; omega)) (And.intro hm4 (Kept.more HY3.out.2 hk4))); clear hm4 hk4)
    (try go_simp)
    refine hKK.out _ _ (CB.two HE.out.1) (fun hHeld => ?_)
    clear hKK KK
    (try simp only [Act.put, List.getElem_toArray, List.getElem_cons_zero, List.getElem_cons_succ, List.setIfInBounds_toArray, List.set_cons_zero, List.set_cons_succ])
    refine wpAnyF_take (i := 6) (v := ?_) (by kernel_rfl) (by kernel_rfl) rfl (by kernel_rfl) (by kernel_rfl) (by kernel_rfl) (fun _ _ _ h => h) (Or.inl ⟨by rfl, ?_⟩) (by assumption) ?_
    rotate_left
    · intro w' hSw; (try dsimp only at hSw); clear hSw; go_simp; (try with_reducible rfl)
    (try simp only [Act.put, List.getElem_toArray, List.getElem_cons_zero, List.getElem_cons_succ, List.setIfInBounds_toArray, List.set_cons_zero, List.set_cons_succ])
    refine wpAnyF_done (by kernel_rfl) ?_ _
    refine NoPanic.normal ?_
    go_wp2
    go_ret
    exact ⟨rfl, HE.out.2⟩

theorem lead_any (p g cap : Nat) (bs : List Nat) (t : Tb) (hF : t.Fair) (id at_ : Int) (hA : i64B at_) (w : World) (hM : MemAt 89 w p g cap bs) :
    Calls Try.prog 9 #[t.v, .pointer (some ⟨p, 0, none⟩), .int .i64 id, .int .i64 at_] w fun e w' => e = .returned (.int .i64 (leadE bs t id at_)) ∧ MemAt 89 w' p g cap (leadB bs t id at_) ∧ Kept (· = g) w w' := by
  have hno : leadE bs t id at_ ≠ 0 → leadB bs t id at_ = bs := fun h => by rw [leadB, if_neg h]
  have close : ∀ (c : Int), leadE bs t id at_ = c → c ≠ 0 → (Calls Try.prog 9 #[t.v, .pointer (some ⟨p, 0, none⟩), .int .i64 id, .int .i64 at_] w fun e w' => e = .returned (.int .i64 c) ∧ Below w.heap.size w w') →
      Calls Try.prog 9 #[t.v, .pointer (some ⟨p, 0, none⟩), .int .i64 id, .int .i64 at_] w fun e w' => e = .returned (.int .i64 (leadE bs t id at_)) ∧ MemAt 89 w' p g cap (leadB bs t id at_) ∧ Kept (· = g) w w' := fun c hc h0 hcalls => by
    rw [hno (by rw [hc]; exact h0), hc]
    exact hcalls.mono fun e w' ⟨h1, h2⟩ => ⟨h1, hM.below h2, Kept.of h2⟩
  by_cases h0 : rightE bs.length t = 0
  · have hE : leadE bs t id at_ = if (leadP bs t id at_).isSome = true then 0 else 180 := by rw [leadE, if_pos h0]
    have hn : leadP bs t id at_ = none → leadE bs t id at_ = 180 := fun h => by rw [hE, h]; rfl
    obtain ⟨_, hp⟩ := rightE_holds h0
    by_cases h1 : t.page = 0
    · exact close 180 (hn (by rw [leadP, if_neg (by simp [h1])])) (by decide) (lead_flat p g cap bs t hF id at_ w hM h0 h1)
    have hpg : 8 ≤ t.page ∧ t.page ≤ 131072 := by omega
    obtain ⟨hn1, hn2⟩ := perN_pos hpg.1 hpg.2
    by_cases h2 : 0 ≤ id ∧ id < 131072
    · have hnu : nuB id = true := by simpa [nuB] using h2
      cases h3 : holdsB bs.length at_ t.page
      · exact close 180 (hn (by rw [leadP, if_neg (by simp [h3])])) (by decide) (lead_away p g cap bs t hF id at_ hA w hM h0 h1 hnu h3)
      · have hP : leadP bs t id at_ = nthP bs.length t.at_ t.size (id.tdiv (perN t)) := by rw [leadP, if_pos ⟨h1, h2, h3⟩]
        have hx : IntKind.i64.wrap (id.tdiv (perN t)) = id.tdiv (perN t) := (tdiv_i64 ⟨by omega, by omega⟩ _ (by omega)).1
        have HP := fun W => per_any t hF.p W
        have HN := fun W (hb : Below w.heap.size w W) => nth_pt p g cap bs t.at_ t.size (id.tdiv (perN t)) W (hM.below hb) hF.a hF.s
        cases ho : nthP bs.length t.at_ t.size (id.tdiv (perN t)) with
        | none =>
          rw [ho] at HN
          exact close 180 (hn (by rw [hP, ho])) (by decide) (lead_none p g cap bs t hF id at_ hA w hM h0 h1 hnu h3 (perN t) _ hn1 hx HP HN)
        | some q =>
          rw [ho] at HN
          have hql := (nthP_some ho).2.2
          have hlen := hM.len
          obtain ⟨A, S, rfl, hS, hAS⟩ := holdsB_out h3
          have e1 : leadE bs t id (A : Int) = 0 := by rw [hE, hP, ho]; rfl
          have e2 : leadB bs t id (A : Int) = s8 bs q (9223372036854775808 + A) := by rw [leadB, if_pos e1, hP, ho]; simp
          rw [e2, e1]
          have hof := of_any 0 A (by decide) (by simp [fF]; omega) (by omega)
          exact lead_yes p g cap bs _ t hF id A hA w hM h0 h1 hnu h3 (perN t) _ hn1 hx q A (9223372036854775808 + A) (or_two A 0 (by omega)) HP HN
            (fun W => by have := hof W; rwa [show ofN 0 A = A by simp [ofN, fF]] at this)
            (fun W hb => store_any p g cap bs q (9223372036854775808 + A) q rfl hql (by omega) W (hM.below hb))
    · have hnu : nuB id = false := by simpa [nuB] using h2
      exact close 180 (hn (by rw [leadP, if_neg (fun h => h2 h.2.1)])) (by decide) (lead_out p g cap bs t hF id at_ w hM h0 h1 hnu)
  · exact close (rightE bs.length t) (by rw [leadE, if_neg h0]) h0 (lead_wrong p g cap bs t hF id at_ w hM h0)

end Go.Proofs.Ytjcjblmaceooaaa
