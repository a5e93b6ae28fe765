/-
  Package tables: find, at every call.
-/
import Derived.Test.YtjcjblmaceooaaaTbF
namespace Go.Proofs.Ytjcjblmaceooaaa
open Go.ChangeShapes Go.WideShapes Go.ChangeAt Go.RowKit
set_option linter.unusedVariables false
set_option linter.unusedSimpArgs false

/-- What nth and find answer. -/
def ptV (o : Option Nat) : Value := match o with
  | some P => .tuple #[.agg #[.int .i64 (P : Int), .int .i64 8], .bool true]
  | none => .tuple #[.agg #[.int .i64 0, .int .i64 0], .bool false]
theorem nth_pt (p g cap : Nat) (bs : List Nat) (a s k : Int) (w : World) (hM : MemAt 89 w p g cap bs) (ha : i64B a) (hs : i64B s) :
    Calls Try.prog 26 #[.pointer (some ⟨p, 0, none⟩), .agg #[.int .i64 a, .int .i64 s], .int .i64 k] w fun e w' => e = .returned (ptV (nthP bs.length a s k)) ∧ Below w.heap.size w w' := by
  have h := nth_any p g cap bs a s k w hM ha hs
  cases hp : nthP bs.length a s k with
  | none =>
    have e : nthV bs.length a s k = ptV none := by rw [nthV, nthP_none hp]; rfl
    rwa [e] at h
  | some P =>
    obtain ⟨h1, h2, _⟩ := nthP_some hp
    have e : nthV bs.length a s k = ptV (some P) := by rw [nthV, if_pos h1, ptV, h2]
    rwa [e] at h
theorem perN_pos {t : Tb} (hp : 8 ≤ t.page) (h2 : t.page ≤ 131072) : 1 ≤ perN t ∧ perN t ≤ 16384 := by
  unfold perN
  rw [Int.tdiv_eq_ediv_of_nonneg (by omega)]
  omega

theorem cb_drew3 {w : World} {o o' : Obj} {t : TypeId} {cs : Array Value} : CB ((((w.alloc o).alloc o').drew).alloc (.cells cs t)) (w.heap.size + 1 + 1) t cs := by
  have h := CB.new (((w.alloc o).alloc o').drew) t cs
  rwa [show (((w.alloc o).alloc o').drew).heap.size = w.heap.size + 1 + 1 from by show ((w.alloc o).alloc o').heap.size = _; simp] at h
/-- find's boxes. -/
structure FdB (w : World) (t : Tb) (W : World) : Prop where
  t : CB W w.heap.size 32 (Tb.cs t)
  r : CB W (w.heap.size + 1) 30 #[.int .i64 0, .int .i64 0]
  below : Below w.heap.size w W
theorem FdB.later {w : World} {t : Tb} {W W' : World} (h : FdB w t W) (k : Below W.heap.size W W') : FdB w t W' := ⟨h.t.below k, h.r.below k, h.below.more k⟩
theorem FdB.new (w : World) (t : Tb) : FdB w t ((w.alloc (.cells (Tb.cs t) 32)).alloc (.cells #[.int .i64 0, .int .i64 0] 30)) :=
  ⟨(CB.new w 32 (Tb.cs t)).alloc _, cb_second, bal_two w _ _⟩
theorem FdB.held {w : World} {t : Tb} {W : World} (h : FdB w t W) : (W.cell? ⟨w.heap.size, 0, none⟩ = some (.int .i64 t.at_) ∧ W.cell? ⟨w.heap.size, 1, none⟩ = some (.int .i64 t.size) ∧ W.cell? ⟨w.heap.size, 2, none⟩ = some (.int .i64 t.page)) ∧ FdB w t W := ⟨CB.three h.t, h⟩
theorem FdB.set2 {w : World} {t : Tb} {W : World} (h : FdB w t W) {M : Nat} (hM : w.heap.size + 2 ≤ M) (x y : Value) : FdB w t (set2 W M x y) :=
  ⟨((h.t.other M 0 x (by omega)).other M 1 y (by omega)), ((h.r.other M 0 x (by omega)).other M 1 y (by omega)), below_s2 h.below (by omega) _ _⟩
theorem FdB.z {w : World} {t : Tb} {W : World} (h : FdB w t W) : w.heap.size + 2 ≤ W.heap.size := h.r.lt

set_option maxRecDepth 100000 in
set_option maxHeartbeats 4000000 in
theorem find_flat (p g cap : Nat) (bs : List Nat) (t : Tb) (hF : t.Fair) (id : Int) (w : World) (hM : MemAt 89 w p g cap bs) (h0 : t.page = 0) :
    Calls Try.prog 49 #[t.v, .pointer (some ⟨p, 0, none⟩), .int .i64 id] w fun e w' => e = .returned (ptV (findP bs t id)) ∧ Below w.heap.size w w' := by
  have HM := hi hM
  have H0 := hi (FdB.new w t)
  have HN := hi (fun W (hb : Below w.heap.size w W) => nth_pt p g cap bs t.at_ t.size id W (hM.below hb) hF.a hF.s)
  have hf : findP bs t id = nthP bs.length t.at_ t.size id := by rw [findP, if_pos h0]
  rw [hf]
  obtain ⟨o, ho⟩ : ∃ o, nthP bs.length t.at_ t.size id = o := ⟨_, rfl⟩
  rw [ho] at HN ⊢
  obtain ⟨a, s, pg⟩ := t
  dsimp only at h0 HN H0 ⊢
  subst h0
  clear hf ho hF hM
  obtain ⟨a0, a1, a2⟩ := CB.three H0.out.t
  cases o with
  | none =>
    unfold ptV at HN ⊢
    dsimp only at HN ⊢
    go_enter Try.func49, Try.ntmps49
    go_wp2_with (go_at_call 26; ((with_reducible refine (HN.out _ H0.out.below).mono ?_); rintro e w1 ⟨rfl, hb1⟩; have H1 := hi (H0.out.later hb1); clear hb1 a0 a1 a2; obtain ⟨q0, q1⟩ := CB.two H1.out.r; have qf := H1.out.r.frozen; have hz := H1.out.r.lt))
    exact bodyPost_ret (results_wt rfl _ _ (w.heap.size + 1) _ _ _ rfl rfl (H1.out.r.set2 _ _)) rfl ⟨rfl, below_s2 H1.out.below (by omega) _ _⟩
  | some P =>
    unfold ptV at HN ⊢
    dsimp only at HN ⊢
    go_enter Try.func49, Try.ntmps49
    go_wp2_with (go_at_call 26; ((with_reducible refine (HN.out _ H0.out.below).mono ?_); rintro e w1 ⟨rfl, hb1⟩; have H1 := hi (H0.out.later hb1); clear hb1 a0 a1 a2; obtain ⟨q0, q1⟩ := CB.two H1.out.r; have qf := H1.out.r.frozen; have hz := H1.out.r.lt))
    exact bodyPost_ret (results_wt rfl _ _ (w.heap.size + 1) _ _ _ rfl rfl (H1.out.r.set2 _ _)) rfl ⟨rfl, below_s2 H1.out.below (by omega) _ _⟩

set_option maxRecDepth 100000 in
set_option maxHeartbeats 8000000 in
theorem find_out (p g cap : Nat) (bs : List Nat) (t : Tb) (id : Int) (w : World) (h0 : t.page ≠ 0) (h1 : nuB id = false) :
    Calls Try.prog 49 #[t.v, .pointer (some ⟨p, 0, none⟩), .int .i64 id] w fun e w' => e = .returned (ptV none) ∧ Below w.heap.size w w' := by
  have H0 := hi (FdB.new w t)
  have HU := hi (fun W => numbered_any id W)
  rw [h1] at HU
  obtain ⟨a, s, pg⟩ := t
  dsimp only at h0 H0 ⊢
  have g0 : (pg == 0) = false := by simpa using h0
  clear h1 h0
  unfold ptV
  dsimp only
  obtain ⟨a0, a1, a2⟩ := CB.three H0.out.t
  obtain ⟨q0, q1⟩ := CB.two H0.out.r
  have qf := H0.out.r.frozen
  go_enter Try.func49, Try.ntmps49
  go_wp2_with (go_at_call 24; ((with_reducible refine (HU.out _).mono ?_); rintro e w1 ⟨rfl, rfl⟩))
  exact bodyPost_ret (results_wt rfl _ _ (w.heap.size + 1) _ _ _ rfl rfl H0.out.r) rfl ⟨rfl, H0.out.below⟩

set_option maxRecDepth 100000 in
set_option maxHeartbeats 8000000 in
theorem find_none (p g cap : Nat) (bs : List Nat) (t : Tb) (id : Int) (w : World) (h0 : t.page ≠ 0) (h1 : nuB id = true) (per x : Int) (hper : 1 ≤ per) (hx : IntKind.i64.wrap (id.tdiv per) = x)
    (HP : ∀ W, Calls Try.prog 27 #[t.v] W fun e w' => e = .returned (.int .i64 per) ∧ Below W.heap.size W w')
    (HN : ∀ W, Below w.heap.size w W → Calls Try.prog 26 #[.pointer (some ⟨p, 0, none⟩), .agg #[.int .i64 t.at_, .int .i64 t.size], .int .i64 x] W fun e w' => e = .returned (ptV none) ∧ Below W.heap.size W w') :
    Calls Try.prog 49 #[t.v, .pointer (some ⟨p, 0, none⟩), .int .i64 id] w fun e w' => e = .returned (ptV none) ∧ Below w.heap.size w w' := by
  have H0 := hi (FdB.new w t)
  have HU := hi (fun W => numbered_any id W)
  rw [h1] at HU
  have HPR := hi HP
  have HNT := hi HN
  obtain ⟨a, s, pg⟩ := t
  dsimp only at h0 H0 HPR HNT ⊢
  have g0 : (pg == 0) = false := by simpa using h0
  have g1 : (per == 0) = false := by simp; omega
  have g2 : per ≠ 0 := by omega
  clear h1 h0 HP HN hper
  unfold ptV at HNT ⊢
  dsimp only at HNT ⊢
  obtain ⟨a0, a1, a2⟩ := CB.three H0.out.t
  go_enter Try.func49, Try.ntmps49
  go_wp2_with (go_at_call 24; ((with_reducible refine (HU.out _).mono ?_); rintro e w1 ⟨rfl, rfl⟩))
  clear a0 a1 a2
  refine wp_region_noPanic ?_
  refine wp_region_last_drew (S := (fun V => (V.cell? ⟨w.heap.size, 0, none⟩ = some (.int .i64 a) ∧ V.cell? ⟨w.heap.size, 1, none⟩ = some (.int .i64 s) ∧ V.cell? ⟨w.heap.size, 2, none⟩ = some (.int .i64 pg)) ∧ FdB w ⟨a, s, pg⟩ V)) [13] (by kernel_rfl) ((H0.out.later (below_dr _)).held) (fun hHeld => ?_)
  (try simp only [Array.replicate_succ, Array.replicate_zero, List.push_toArray, List.nil_append, List.cons_append])
  refine wpAnyF_take (i := 0) (v := ?_) (by kernel_rfl) (by kernel_rfl) rfl (by kernel_rfl) (by kernel_rfl) (by kernel_rfl) (fun _ _ _ h => h) (Or.inl ⟨by rfl, ?_⟩) (by assumption) ?_
  rotate_left
  · intro w' hSw; (try dsimp only at hSw); clear hSw; go_simp; (try with_reducible rfl)
  (try simp only [Act.put, List.getElem_toArray, List.getElem_cons_zero, List.getElem_cons_succ, List.setIfInBounds_toArray, List.set_cons_zero, List.set_cons_succ])
  refine wpAnyF_take (i := 1) (v := ?_) (by kernel_rfl) (by kernel_rfl) rfl (by kernel_rfl) (by kernel_rfl) (by kernel_rfl) (fun _ _ _ h => h) (Or.inl ⟨by rfl, ?_⟩) (by assumption) ?_
  rotate_left
  · intro w' hSw; (try dsimp only at hSw); clear hSw; go_simp; (try with_reducible rfl)
  (try simp only [Act.put, List.getElem_toArray, List.getElem_cons_zero, List.getElem_cons_succ, List.setIfInBounds_toArray, List.set_cons_zero, List.set_cons_succ])
  refine wpAnyF_take (i := 2) (v := ?_) (by kernel_rfl) (by kernel_rfl) rfl (by kernel_rfl) (by kernel_rfl) (by kernel_rfl) (fun _ _ _ h => h) (Or.inl ⟨by rfl, ?_⟩) (by assumption) ?_
  rotate_left
  · intro w' hSw; (try dsimp only at hSw); have hq := hSw.1; clear hSw; obtain ⟨a0, a1, a2⟩ := hq; go_simp; (try with_reducible rfl)
  (try simp only [Act.put, List.getElem_toArray, List.getElem_cons_zero, List.getElem_cons_succ, List.setIfInBounds_toArray, List.set_cons_zero, List.set_cons_succ])
  refine wpAnyF_take (i := 3) (v := ?_) (by kernel_rfl) (by kernel_rfl) rfl (by kernel_rfl) (by kernel_rfl) (by kernel_rfl) (fun _ _ _ h => h) (Or.inl ⟨by rfl, ?_⟩) (by assumption) ?_
  rotate_left
  · intro w' hSw; (try dsimp only at hSw); clear hSw; go_simp; (try with_reducible rfl)
  (try simp only [Act.put, List.getElem_toArray, List.getElem_cons_zero, List.getElem_cons_succ, List.setIfInBounds_toArray, List.set_cons_zero, List.set_cons_succ])
  refine wpAnyF_take (i := 4) (v := ?_) (by kernel_rfl) (by kernel_rfl) rfl (by kernel_rfl) (by kernel_rfl) (by kernel_rfl) (fun _ _ _ h => h) (Or.inl ⟨by rfl, ?_⟩) (by assumption) ?_
  rotate_left
  · intro w' hSw; (try dsimp only at hSw); have hq := hSw.1; clear hSw; obtain ⟨a0, a1, a2⟩ := hq; go_simp; (try with_reducible rfl)
  (try simp only [Act.put, List.getElem_toArray, List.getElem_cons_zero, List.getElem_cons_succ, List.setIfInBounds_toArray, List.set_cons_zero, List.set_cons_succ])
  refine wpAnyF_ready (rs := [5, 11]) (by kernel_rfl) (by simp) ?_
  refine (AllReadyF.cons rfl (fun KK hKK => ?_) (AllReadyF.cons rfl (fun KK hKK => ?_) AllReadyF.nil))
  · go_simp
    ((with_reducible refine (HPR.out _).mono ?_); rintro e' w5 ⟨rfl, hbb⟩; have HB5 := hi ((H0.out.later (below_dr _)).later hbb); clear hbb)
    (try go_simp)
    refine hKK.out _ _ HB5.out.held (fun hHeld => ?_)
    clear hKK KK
    (try simp only [Act.put, List.getElem_toArray, List.getElem_cons_zero, List.getElem_cons_succ, List.setIfInBounds_toArray, List.set_cons_zero, List.set_cons_succ])
    refine wpAnyF_take (i := 6) (v := ?_) (by kernel_rfl) (by kernel_rfl) rfl (by kernel_rfl) (by kernel_rfl) (by kernel_rfl) (fun _ _ _ h => h) (Or.inl ⟨by rfl, ?_⟩) (by assumption) ?_
    rotate_left
    · intro w' hSw; (try dsimp only at hSw); clear hSw; go_simp; (try with_reducible rfl)
    (try simp only [Act.put, List.getElem_toArray, List.getElem_cons_zero, List.getElem_cons_succ, List.setIfInBounds_toArray, List.set_cons_zero, List.set_cons_succ])
    refine wpAnyF_ready (rs := [7, 11]) (by kernel_rfl) (by simp) ?_
    refine (AllReadyF.cons rfl (fun KK hKK => ?_) (AllReadyF.cons rfl (fun KK hKK => ?_) AllReadyF.nil))
    · go_simp
      ((with_reducible refine (HNT.out _ HB5.out.below).mono ?_); rintro e' w7 ⟨rfl, hbb⟩; have HC7 := hi (HB5.out.later hbb); clear hbb)
      (try go_simp)
      refine hKK.out _ _ HC7.out.held (fun hHeld => ?_)
      clear hKK KK
      (try simp only [Act.put, List.getElem_toArray, List.getElem_cons_zero, List.getElem_cons_succ, List.setIfInBounds_toArray, List.set_cons_zero, List.set_cons_succ])
      refine wpAnyF_take (i := 8) (v := ?_) (by kernel_rfl) (by kernel_rfl) rfl (by kernel_rfl) (by kernel_rfl) (by kernel_rfl) (fun _ _ _ h => h) (Or.inl ⟨by rfl, ?_⟩) (by assumption) ?_
      rotate_left
      · intro w' hSw; (try dsimp only at hSw); clear hSw; go_simp; (try with_reducible rfl)
      (try simp only [Act.put, List.getElem_toArray, List.getElem_cons_zero, List.getElem_cons_succ, List.setIfInBounds_toArray, List.set_cons_zero, List.set_cons_succ])
      refine wpAnyF_take (i := 9) (v := ?_) (by kernel_rfl) (by kernel_rfl) rfl (by kernel_rfl) (by kernel_rfl) (by kernel_rfl) (fun _ _ _ h => h) (Or.inl ⟨by rfl, ?_⟩) (by assumption) ?_
      rotate_left
      · intro w' hSw; (try dsimp only at hSw); clear hSw; go_simp; (try with_reducible rfl)
      (try simp only [Act.put, List.getElem_toArray, List.getElem_cons_zero, List.getElem_cons_succ, List.setIfInBounds_toArray, List.set_cons_zero, List.set_cons_succ])
      refine wpAnyF_take (i := 10) (v := ?_) (by kernel_rfl) (by kernel_rfl) rfl (by kernel_rfl) (by kernel_rfl) (by kernel_rfl) (fun _ _ _ h => h) (Or.inl ⟨by rfl, ?_⟩) (by assumption) ?_
      rotate_left
      · intro w' hSw; (try dsimp only at hSw); clear hSw; go_simp; (try with_reducible rfl)
      (try simp only [Act.put, List.getElem_toArray, List.getElem_cons_zero, List.getElem_cons_succ, List.setIfInBounds_toArray, List.set_cons_zero, List.set_cons_succ])
      refine wpAnyF_ready (rs := [11]) (by kernel_rfl) (by simp) ?_
      refine AllReadyF.cons rfl (fun KK hKK => ?_) AllReadyF.nil
      go_simp
      have HC8 := hi (And.intro (HC7.out.later (bal _ (.cells #[.int .i64 0, .int .i64 0] 30))) (CB.new w7 30 #[.int .i64 0, .int .i64 0]))
      refine hKK.out _ _ HC8.out.1.held (fun hHeld => ?_)
      clear hKK KK
      (try simp only [Act.put, List.getElem_toArray, List.getElem_cons_zero, List.getElem_cons_succ, List.setIfInBounds_toArray, List.set_cons_zero, List.set_cons_succ])
      refine wpAnyF_ready (rs := [12]) (by kernel_rfl) (by simp) ?_
      refine AllReadyF.cons rfl (fun KK hKK => ?_) AllReadyF.nil
      obtain ⟨m0, m1⟩ := CB.two HC8.out.2
      have mf := HC8.out.2.frozen
      have mz := HC8.out.2.lt
      go_simp
      have HLC := hi (And.intro (HC7.out.later (bal _ (.cells #[(.int .i64 0), (.int .i64 0)] 30))) (CB.new w7 30 #[(.int .i64 0), (.int .i64 0)]))
      refine hKK.out _ _ HLC.out.1.held (fun hHeld => ?_)
      clear hKK KK
      (try simp only [Act.put, List.getElem_toArray, List.getElem_cons_zero, List.getElem_cons_succ, List.setIfInBounds_toArray, List.set_cons_zero, List.set_cons_succ])
      refine wpAnyF_ready (rs := [13]) (by kernel_rfl) (by simp) ?_
      refine AllReadyF.last (by kernel_rfl) rfl (fun KK hKK => ?_) AllReadyF.nil
      go_simp
      have HL := HLC
      clear m0 m1 mf mz
      refine hKK.out _ _ ?_
      clear hKK KK
      (try simp only [Act.put, List.getElem_toArray, List.getElem_cons_zero, List.getElem_cons_succ, List.setIfInBounds_toArray, List.set_cons_zero, List.set_cons_succ])
      refine wpAnyF_done (by kernel_rfl) ?_ _
      refine NoPanic.normal ?_
      obtain ⟨q0, q1⟩ := CB.two HL.out.1.r
      have qf := HL.out.1.r.frozen
      have hz := HL.out.1.r.lt
      go_wp2
      exact bodyPost_ret (results_wt rfl _ _ (w.heap.size + 1) _ _ _ rfl rfl (HL.out.1.r.set2 _ _)) rfl ⟨rfl, below_s2 HL.out.1.below (by omega) _ _⟩
    · go_simp
      have HB6 := hi (And.intro (HB5.out.later (bal _ (.cells #[.int .i64 0, .int .i64 0] 30))) (CB.new w5 30 #[.int .i64 0, .int .i64 0]))
      refine hKK.out _ _ HB6.out.1.held (fun hHeld => ?_)
      clear hKK KK
      (try simp only [Act.put, List.getElem_toArray, List.getElem_cons_zero, List.getElem_cons_succ, List.setIfInBounds_toArray, List.set_cons_zero, List.set_cons_succ])
      refine wpAnyF_ready (rs := [7]) (by kernel_rfl) (by simp) ?_
      refine AllReadyF.cons rfl (fun KK hKK => ?_) AllReadyF.nil
      go_simp
      ((with_reducible refine (HNT.out _ HB6.out.1.below).mono ?_); rintro e' w7 ⟨rfl, hbb⟩; have HB7 := hi (And.intro (HB6.out.1.later hbb) (HB6.out.2.below hbb)); clear hbb)
      (try go_simp)
      refine hKK.out _ _ HB7.out.1.held (fun hHeld => ?_)
      clear hKK KK
      (try simp only [Act.put, List.getElem_toArray, List.getElem_cons_zero, List.getElem_cons_succ, List.setIfInBounds_toArray, List.set_cons_zero, List.set_cons_succ])
      refine wpAnyF_take (i := 8) (v := ?_) (by kernel_rfl) (by kernel_rfl) rfl (by kernel_rfl) (by kernel_rfl) (by kernel_rfl) (fun _ _ _ h => h) (Or.inl ⟨by rfl, ?_⟩) (by assumption) ?_
      rotate_left
      · intro w' hSw; (try dsimp only at hSw); clear hSw; go_simp; (try with_reducible rfl)
      (try simp only [Act.put, List.getElem_toArray, List.getElem_cons_zero, List.getElem_cons_succ, List.setIfInBounds_toArray, List.set_cons_zero, List.set_cons_succ])
      refine wpAnyF_take (i := 9) (v := ?_) (by kernel_rfl) (by kernel_rfl) rfl (by kernel_rfl) (by kernel_rfl) (by kernel_rfl) (fun _ _ _ h => h) (Or.inl ⟨by rfl, ?_⟩) (by assumption) ?_
      rotate_left
      · intro w' hSw; (try dsimp only at hSw); clear hSw; go_simp; (try with_reducible rfl)
      (try simp only [Act.put, List.getElem_toArray, List.getElem_cons_zero, List.getElem_cons_succ, List.setIfInBounds_toArray, List.set_cons_zero, List.set_cons_succ])
      refine wpAnyF_take (i := 10) (v := ?_) (by kernel_rfl) (by kernel_rfl) rfl (by kernel_rfl) (by kernel_rfl) (by kernel_rfl) (fun _ _ _ h => h) (Or.inl ⟨by rfl, ?_⟩) (by assumption) ?_
      rotate_left
      · intro w' hSw; (try dsimp only at hSw); clear hSw; go_simp; (try with_reducible rfl)
      (try simp only [Act.put, List.getElem_toArray, List.getElem_cons_zero, List.getElem_cons_succ, List.setIfInBounds_toArray, List.set_cons_zero, List.set_cons_succ])
      refine wpAnyF_ready (rs := [12]) (by kernel_rfl) (by simp) ?_
      refine AllReadyF.cons rfl (fun KK hKK => ?_) AllReadyF.nil
      obtain ⟨m0, m1⟩ := CB.two HB7.out.2
      have mf := HB7.out.2.frozen
      have mz := HB7.out.2.lt
      go_simp
      have HLB := hi (And.intro (HB7.out.1.set2 (M := w5.heap.size) HB5.out.z (.int .i64 0) (.int .i64 0)) (HB7.out.2.set2 (.int .i64 0) (.int .i64 0)))
      refine hKK.out _ _ HLB.out.1.held (fun hHeld => ?_)
      clear hKK KK
      (try simp only [Act.put, List.getElem_toArray, List.getElem_cons_zero, List.getElem_cons_succ, List.setIfInBounds_toArray, List.set_cons_zero, List.set_cons_succ])
      refine wpAnyF_ready (rs := [13]) (by kernel_rfl) (by simp) ?_
      refine AllReadyF.last (by kernel_rfl) rfl (fun KK hKK => ?_) AllReadyF.nil
      go_simp
      have HL := HLB
      clear m0 m1 mf mz
      refine hKK.out _ _ ?_
      clear hKK KK
      (try simp only [Act.put, List.getElem_toArray, List.getElem_cons_zero, List.getElem_cons_succ, List.setIfInBounds_toArray, List.set_cons_zero, List.set_cons_succ])
      refine wpAnyF_done (by kernel_rfl) ?_ _
      refine NoPanic.normal ?_
      obtain ⟨q0, q1⟩ := CB.two HL.out.1.r
      have qf := HL.out.1.r.frozen
      have hz := HL.out.1.r.lt
      go_wp2
      exact bodyPost_ret (results_wt rfl _ _ (w.heap.size + 1) _ _ _ rfl rfl (HL.out.1.r.set2 _ _)) rfl ⟨rfl, below_s2 HL.out.1.below (by omega) _ _⟩
  · go_simp
    have HA1 := hi (And.intro ((H0.out.later (below_dr _)).later (bal _ (.cells #[.int .i64 0, .int .i64 0] 30))) (cb_drew3 (w := w) (o := .cells (Tb.cs ⟨a, s, pg⟩) 32) (o' := (.cells #[.int .i64 0, .int .i64 0] 30)) (t := 30) (cs := #[.int .i64 0, .int .i64 0])))
    refine hKK.out _ _ HA1.out.1.held (fun hHeld => ?_)
    clear hKK KK
    (try simp only [Act.put, List.getElem_toArray, List.getElem_cons_zero, List.getElem_cons_succ, List.setIfInBounds_toArray, List.set_cons_zero, List.set_cons_succ])
    refine wpAnyF_ready (rs := [5]) (by kernel_rfl) (by simp) ?_
    refine AllReadyF.cons rfl (fun KK hKK => ?_) AllReadyF.nil
    go_simp
    ((with_reducible refine (HPR.out _).mono ?_); rintro e' w5 ⟨rfl, hbb⟩; have HA5 := hi (And.intro (HA1.out.1.later hbb) (HA1.out.2.below hbb)); clear hbb)
    (try go_simp)
    refine hKK.out _ _ HA5.out.1.held (fun hHeld => ?_)
    clear hKK KK
    (try simp only [Act.put, List.getElem_toArray, List.getElem_cons_zero, List.getElem_cons_succ, List.setIfInBounds_toArray, List.set_cons_zero, List.set_cons_succ])
    refine wpAnyF_take (i := 6) (v := ?_) (by kernel_rfl) (by kernel_rfl) rfl (by kernel_rfl) (by kernel_rfl) (by kernel_rfl) (fun _ _ _ h => h) (Or.inl ⟨by rfl, ?_⟩) (by assumption) ?_
    rotate_left
    · intro w' hSw; (try dsimp only at hSw); clear hSw; go_simp; (try with_reducible rfl)
    (try simp only [Act.put, List.getElem_toArray, List.getElem_cons_zero, List.getElem_cons_succ, List.setIfInBounds_toArray, List.set_cons_zero, List.set_cons_succ])
    refine wpAnyF_ready (rs := [7]) (by kernel_rfl) (by simp) ?_
    refine AllReadyF.cons rfl (fun KK hKK => ?_) AllReadyF.nil
    go_simp
    ((with_reducible refine (HNT.out _ HA5.out.1.below).mono ?_); rintro e' w7 ⟨rfl, hbb⟩; have HA7 := hi (And.intro (HA5.out.1.later hbb) (HA5.out.2.below hbb)); clear hbb)
    (try go_simp)
    refine hKK.out _ _ HA7.out.1.held (fun hHeld => ?_)
    clear hKK KK
    (try simp only [Act.put, List.getElem_toArray, List.getElem_cons_zero, List.getElem_cons_succ, List.setIfInBounds_toArray, List.set_cons_zero, List.set_cons_succ])
    refine wpAnyF_take (i := 8) (v := ?_) (by kernel_rfl) (by kernel_rfl) rfl (by kernel_rfl) (by kernel_rfl) (by kernel_rfl) (fun _ _ _ h => h) (Or.inl ⟨by rfl, ?_⟩) (by assumption) ?_
    rotate_left
    · intro w' hSw; (try dsimp only at hSw); clear hSw; go_simp; (try with_reducible rfl)
    (try simp only [Act.put, List.getElem_toArray, List.getElem_cons_zero, List.getElem_cons_succ, List.setIfInBounds_toArray, List.set_cons_zero, List.set_cons_succ])
    refine wpAnyF_take (i := 9) (v := ?_) (by kernel_rfl) (by kernel_rfl) rfl (by kernel_rfl) (by kernel_rfl) (by kernel_rfl) (fun _ _ _ h => h) (Or.inl ⟨by rfl, ?_⟩) (by assumption) ?_
    rotate_left
    · intro w' hSw; (try dsimp only at hSw); clear hSw; go_simp; (try with_reducible rfl)
    (try simp only [Act.put, List.getElem_toArray, List.getElem_cons_zero, List.getElem_cons_succ, List.setIfInBounds_toArray, List.set_cons_zero, List.set_cons_succ])
    refine wpAnyF_take (i := 10) (v := ?_) (by kernel_rfl) (by kernel_rfl) rfl (by kernel_rfl) (by kernel_rfl) (by kernel_rfl) (fun _ _ _ h => h) (Or.inl ⟨by rfl, ?_⟩) (by assumption) ?_
    rotate_left
    · intro w' hSw; (try dsimp only at hSw); clear hSw; go_simp; (try with_reducible rfl)
    (try simp only [Act.put, List.getElem_toArray, List.getElem_cons_zero, List.getElem_cons_succ, List.setIfInBounds_toArray, List.set_cons_zero, List.set_cons_succ])
    refine wpAnyF_ready (rs := [12]) (by kernel_rfl) (by simp) ?_
    refine AllReadyF.cons rfl (fun KK hKK => ?_) AllReadyF.nil
    obtain ⟨m0, m1⟩ := CB.two HA7.out.2
    have mf := HA7.out.2.frozen
    have mz := HA7.out.2.lt
    go_simp
    have HLA := hi (And.intro (HA7.out.1.set2 (M := w.heap.size + 1 + 1) (Nat.le_refl _) (.int .i64 0) (.int .i64 0)) (HA7.out.2.set2 (.int .i64 0) (.int .i64 0)))
    refine hKK.out _ _ HLA.out.1.held (fun hHeld => ?_)
    clear hKK KK
    (try simp only [Act.put, List.getElem_toArray, List.getElem_cons_zero, List.getElem_cons_succ, List.setIfInBounds_toArray, List.set_cons_zero, List.set_cons_succ])
    refine wpAnyF_ready (rs := [13]) (by kernel_rfl) (by simp) ?_
    refine AllReadyF.last (by kernel_rfl) rfl (fun KK hKK => ?_) AllReadyF.nil
    go_simp
    have HL := HLA
    clear m0 m1 mf mz
    refine hKK.out _ _ ?_
    clear hKK KK
    (try simp only [Act.put, List.getElem_toArray, List.getElem_cons_zero, List.getElem_cons_succ, List.setIfInBounds_toArray, List.set_cons_zero, List.set_cons_succ])
    refine wpAnyF_done (by kernel_rfl) ?_ _
    refine NoPanic.normal ?_
    obtain ⟨q0, q1⟩ := CB.two HL.out.1.r
    have qf := HL.out.1.r.frozen
    have hz := HL.out.1.r.lt
    go_wp2
    exact bodyPost_ret (results_wt rfl _ _ (w.heap.size + 1) _ _ _ rfl rfl (HL.out.1.r.set2 _ _)) rfl ⟨rfl, below_s2 HL.out.1.below (by omega) _ _⟩

set_option maxRecDepth 100000 in
set_option maxHeartbeats 8000000 in
theorem find_inv (p g cap : Nat) (bs : List Nat) (t : Tb) (id : Int) (w : World) (h0 : t.page ≠ 0) (h1 : nuB id = true) (per x : Int) (hper : 1 ≤ per) (hx : IntKind.i64.wrap (id.tdiv per) = x) (q v : Nat)
    (HP : ∀ W, Calls Try.prog 27 #[t.v] W fun e w' => e = .returned (.int .i64 per) ∧ Below W.heap.size W w')
    (HN : ∀ W, Below w.heap.size w W → Calls Try.prog 26 #[.pointer (some ⟨p, 0, none⟩), .agg #[.int .i64 t.at_, .int .i64 t.size], .int .i64 x] W fun e w' => e = .returned (ptV (some q)) ∧ Below W.heap.size W w')
    (HL : ∀ W, Below w.heap.size w W → Calls Try.prog 32 #[.pointer (some ⟨p, 0, none⟩), .agg #[.int .i64 q, .int .i64 8]] W fun e w' => e = .returned (.int .u64 v) ∧ Below W.heap.size W w')
    (HV : ∀ W, Calls Try.prog 34 #[.int .u64 v] W fun e w' => e = .returned (.bool false) ∧ W = w') :
    Calls Try.prog 49 #[t.v, .pointer (some ⟨p, 0, none⟩), .int .i64 id] w fun e w' => e = .returned (ptV none) ∧ Below w.heap.size w w' := by
  have H0 := hi (FdB.new w t)
  have HU := hi (fun W => numbered_any id W)
  rw [h1] at HU
  have HPR := hi HP
  have HNT := hi HN
  have HLD := hi HL
  have HVD := hi HV
  obtain ⟨a, s, pg⟩ := t
  dsimp only at h0 H0 HPR HNT ⊢
  have g0 : (pg == 0) = false := by simpa using h0
  have g1 : (per == 0) = false := by simp; omega
  have g2 : per ≠ 0 := by omega
  clear h1 h0 HP HN HL HV hper
  unfold ptV at HNT ⊢
  dsimp only at HNT ⊢
  obtain ⟨a0, a1, a2⟩ := CB.three H0.out.t
  go_enter Try.func49, Try.ntmps49
  go_wp2_with (go_at_call 24; ((with_reducible refine (HU.out _).mono ?_); rintro e w1 ⟨rfl, rfl⟩))
  clear a0 a1 a2
  refine wp_region_noPanic ?_
  refine wp_region_last_drew (S := (fun V => (V.cell? ⟨w.heap.size, 0, none⟩ = some (.int .i64 a) ∧ V.cell? ⟨w.heap.size, 1, none⟩ = some (.int .i64 s) ∧ V.cell? ⟨w.heap.size, 2, none⟩ = some (.int .i64 pg)) ∧ FdB w ⟨a, s, pg⟩ V)) [13] (by kernel_rfl) ((H0.out.later (below_dr _)).held) (fun hHeld => ?_)
  (try simp only [Array.replicate_succ, Array.replicate_zero, List.push_toArray, List.nil_append, List.cons_append])
  refine wpAnyF_take (i := 0) (v := ?_) (by kernel_rfl) (by kernel_rfl) rfl (by kernel_rfl) (by kernel_rfl) (by kernel_rfl) (fun _ _ _ h => h) (Or.inl ⟨by rfl, ?_⟩) (by assumption) ?_
  rotate_left
  · intro w' hSw; (try dsimp only at hSw); clear hSw; go_simp; (try with_reducible rfl)
  (try simp only [Act.put, List.getElem_toArray, List.getElem_cons_zero, List.getElem_cons_succ, List.setIfInBounds_toArray, List.set_cons_zero, List.set_cons_succ])
  refine wpAnyF_take (i := 1) (v := ?_) (by kernel_rfl) (by kernel_rfl) rfl (by kernel_rfl) (by kernel_rfl) (by kernel_rfl) (fun _ _ _ h => h) (Or.inl ⟨by rfl, ?_⟩) (by assumption) ?_
  rotate_left
  · intro w' hSw; (try dsimp only at hSw); clear hSw; go_simp; (try with_reducible rfl)
  (try simp only [Act.put, List.getElem_toArray, List.getElem_cons_zero, List.getElem_cons_succ, List.setIfInBounds_toArray, List.set_cons_zero, List.set_cons_succ])
  refine wpAnyF_take (i := 2) (v := ?_) (by kernel_rfl) (by kernel_rfl) rfl (by kernel_rfl) (by kernel_rfl) (by kernel_rfl) (fun _ _ _ h => h) (Or.inl ⟨by rfl, ?_⟩) (by assumption) ?_
  rotate_left
  · intro w' hSw; (try dsimp only at hSw); have hq := hSw.1; clear hSw; obtain ⟨a0, a1, a2⟩ := hq; go_simp; (try with_reducible rfl)
  (try simp only [Act.put, List.getElem_toArray, List.getElem_cons_zero, List.getElem_cons_succ, List.setIfInBounds_toArray, List.set_cons_zero, List.set_cons_succ])
  refine wpAnyF_take (i := 3) (v := ?_) (by kernel_rfl) (by kernel_rfl) rfl (by kernel_rfl) (by kernel_rfl) (by kernel_rfl) (fun _ _ _ h => h) (Or.inl ⟨by rfl, ?_⟩) (by assumption) ?_
  rotate_left
  · intro w' hSw; (try dsimp only at hSw); clear hSw; go_simp; (try with_reducible rfl)
  (try simp only [Act.put, List.getElem_toArray, List.getElem_cons_zero, List.getElem_cons_succ, List.setIfInBounds_toArray, List.set_cons_zero, List.set_cons_succ])
  refine wpAnyF_take (i := 4) (v := ?_) (by kernel_rfl) (by kernel_rfl) rfl (by kernel_rfl) (by kernel_rfl) (by kernel_rfl) (fun _ _ _ h => h) (Or.inl ⟨by rfl, ?_⟩) (by assumption) ?_
  rotate_left
  · intro w' hSw; (try dsimp only at hSw); have hq := hSw.1; clear hSw; obtain ⟨a0, a1, a2⟩ := hq; go_simp; (try with_reducible rfl)
  (try simp only [Act.put, List.getElem_toArray, List.getElem_cons_zero, List.getElem_cons_succ, List.setIfInBounds_toArray, List.set_cons_zero, List.set_cons_succ])
  refine wpAnyF_ready (rs := [5, 11]) (by kernel_rfl) (by simp) ?_
  refine (AllReadyF.cons rfl (fun KK hKK => ?_) (AllReadyF.cons rfl (fun KK hKK => ?_) AllReadyF.nil))
  · go_simp
    ((with_reducible refine (HPR.out _).mono ?_); rintro e' w5 ⟨rfl, hbb⟩; have HB5 := hi ((H0.out.later (below_dr _)).later hbb); clear hbb)
    (try go_simp)
    refine hKK.out _ _ HB5.out.held (fun hHeld => ?_)
    clear hKK KK
    (try simp only [Act.put, List.getElem_toArray, List.getElem_cons_zero, List.getElem_cons_succ, List.setIfInBounds_toArray, List.set_cons_zero, List.set_cons_succ])
    refine wpAnyF_take (i := 6) (v := ?_) (by kernel_rfl) (by kernel_rfl) rfl (by kernel_rfl) (by kernel_rfl) (by kernel_rfl) (fun _ _ _ h => h) (Or.inl ⟨by rfl, ?_⟩) (by assumption) ?_
    rotate_left
    · intro w' hSw; (try dsimp only at hSw); clear hSw; go_simp; (try with_reducible rfl)
    (try simp only [Act.put, List.getElem_toArray, List.getElem_cons_zero, List.getElem_cons_succ, List.setIfInBounds_toArray, List.set_cons_zero, List.set_cons_succ])
    refine wpAnyF_ready (rs := [7, 11]) (by kernel_rfl) (by simp) ?_
    refine (AllReadyF.cons rfl (fun KK hKK => ?_) (AllReadyF.cons rfl (fun KK hKK => ?_) AllReadyF.nil))
    · go_simp
      ((with_reducible refine (HNT.out _ HB5.out.below).mono ?_); rintro e' w7 ⟨rfl, hbb⟩; have HC7 := hi (HB5.out.later hbb); clear hbb)
      (try go_simp)
      refine hKK.out _ _ HC7.out.held (fun hHeld => ?_)
      clear hKK KK
      (try simp only [Act.put, List.getElem_toArray, List.getElem_cons_zero, List.getElem_cons_succ, List.setIfInBounds_toArray, List.set_cons_zero, List.set_cons_succ])
      refine wpAnyF_take (i := 8) (v := ?_) (by kernel_rfl) (by kernel_rfl) rfl (by kernel_rfl) (by kernel_rfl) (by kernel_rfl) (fun _ _ _ h => h) (Or.inl ⟨by rfl, ?_⟩) (by assumption) ?_
      rotate_left
      · intro w' hSw; (try dsimp only at hSw); clear hSw; go_simp; (try with_reducible rfl)
      (try simp only [Act.put, List.getElem_toArray, List.getElem_cons_zero, List.getElem_cons_succ, List.setIfInBounds_toArray, List.set_cons_zero, List.set_cons_succ])
      refine wpAnyF_take (i := 9) (v := ?_) (by kernel_rfl) (by kernel_rfl) rfl (by kernel_rfl) (by kernel_rfl) (by kernel_rfl) (fun _ _ _ h => h) (Or.inl ⟨by rfl, ?_⟩) (by assumption) ?_
      rotate_left
      · intro w' hSw; (try dsimp only at hSw); clear hSw; go_simp; (try with_reducible rfl)
      (try simp only [Act.put, List.getElem_toArray, List.getElem_cons_zero, List.getElem_cons_succ, List.setIfInBounds_toArray, List.set_cons_zero, List.set_cons_succ])
      refine wpAnyF_take (i := 10) (v := ?_) (by kernel_rfl) (by kernel_rfl) rfl (by kernel_rfl) (by kernel_rfl) (by kernel_rfl) (fun _ _ _ h => h) (Or.inl ⟨by rfl, ?_⟩) (by assumption) ?_
      rotate_left
      · intro w' hSw; (try dsimp only at hSw); clear hSw; go_simp; (try with_reducible rfl)
      (try simp only [Act.put, List.getElem_toArray, List.getElem_cons_zero, List.getElem_cons_succ, List.setIfInBounds_toArray, List.set_cons_zero, List.set_cons_succ])
      refine wpAnyF_ready (rs := [11]) (by kernel_rfl) (by simp) ?_
      refine AllReadyF.cons rfl (fun KK hKK => ?_) AllReadyF.nil
      go_simp
      have HC8 := hi (And.intro (HC7.out.later (bal _ (.cells #[.int .i64 0, .int .i64 0] 30))) (CB.new w7 30 #[.int .i64 0, .int .i64 0]))
      refine hKK.out _ _ HC8.out.1.held (fun hHeld => ?_)
      clear hKK KK
      (try simp only [Act.put, List.getElem_toArray, List.getElem_cons_zero, List.getElem_cons_succ, List.setIfInBounds_toArray, List.set_cons_zero, List.set_cons_succ])
      refine wpAnyF_ready (rs := [12]) (by kernel_rfl) (by simp) ?_
      refine AllReadyF.cons rfl (fun KK hKK => ?_) AllReadyF.nil
      obtain ⟨m0, m1⟩ := CB.two HC8.out.2
      have mf := HC8.out.2.frozen
      have mz := HC8.out.2.lt
      go_simp
      have HLC := hi (And.intro (HC7.out.later (bal _ (.cells #[(.int .i64 (q : Int)), (.int .i64 8)] 30))) (CB.new w7 30 #[(.int .i64 (q : Int)), (.int .i64 8)]))
      refine hKK.out _ _ HLC.out.1.held (fun hHeld => ?_)
      clear hKK KK
      (try simp only [Act.put, List.getElem_toArray, List.getElem_cons_zero, List.getElem_cons_succ, List.setIfInBounds_toArray, List.set_cons_zero, List.set_cons_succ])
      refine wpAnyF_ready (rs := [13]) (by kernel_rfl) (by simp) ?_
      refine AllReadyF.last (by kernel_rfl) rfl (fun KK hKK => ?_) AllReadyF.nil
      go_simp
      have HL := HLC
      clear m0 m1 mf mz
      refine hKK.out _ _ ?_
      clear hKK KK
      (try simp only [Act.put, List.getElem_toArray, List.getElem_cons_zero, List.getElem_cons_succ, List.setIfInBounds_toArray, List.set_cons_zero, List.set_cons_succ])
      refine wpAnyF_done (by kernel_rfl) ?_ _
      refine NoPanic.normal ?_
      obtain ⟨n0, n1⟩ := CB.two HL.out.2
      go_wp2_with (first
          | (go_at_call 32; ((with_reducible refine (HLD.out _ HL.out.1.below).mono ?_); rintro e wl ⟨rfl, hbb⟩; have HQ := hi (HL.out.1.later hbb); clear hbb n0 n1; obtain ⟨q0, q1⟩ := CB.two HQ.out.r; have qf := HQ.out.r.frozen; have hz := HQ.out.r.lt))
          | (go_at_call 34; ((with_reducible refine (HVD.out _).mono ?_); rintro e wv ⟨rfl, rfl⟩)))
      exact bodyPost_ret (results_wt rfl _ _ (w.heap.size + 1) _ _ _ rfl rfl (HQ.out.r.set2 _ _)) rfl ⟨rfl, below_s2 HQ.out.below (by omega) _ _⟩
    · go_simp
      have HB6 := hi (And.intro (HB5.out.later (bal _ (.cells #[.int .i64 0, .int .i64 0] 30))) (CB.new w5 30 #[.int .i64 0, .int .i64 0]))
      refine hKK.out _ _ HB6.out.1.held (fun hHeld => ?_)
      clear hKK KK
      (try simp only [Act.put, List.getElem_toArray, List.getElem_cons_zero, List.getElem_cons_succ, List.setIfInBounds_toArray, List.set_cons_zero, List.set_cons_succ])
      refine wpAnyF_ready (rs := [7]) (by kernel_rfl) (by simp) ?_
      refine AllReadyF.cons rfl (fun KK hKK => ?_) AllReadyF.nil
      go_simp
      ((with_reducible refine (HNT.out _ HB6.out.1.below).mono ?_); rintro e' w7 ⟨rfl, hbb⟩; have HB7 := hi (And.intro (HB6.out.1.later hbb) (HB6.out.2.below hbb)); clear hbb)
      (try go_simp)
      refine hKK.out _ _ HB7.out.1.held (fun hHeld => ?_)
      clear hKK KK
      (try simp only [Act.put, List.getElem_toArray, List.getElem_cons_zero, List.getElem_cons_succ, List.setIfInBounds_toArray, List.set_cons_zero, List.set_cons_succ])
      refine wpAnyF_take (i := 8) (v := ?_) (by kernel_rfl) (by kernel_rfl) rfl (by kernel_rfl) (by kernel_rfl) (by kernel_rfl) (fun _ _ _ h => h) (Or.inl ⟨by rfl, ?_⟩) (by assumption) ?_
      rotate_left
      · intro w' hSw; (try dsimp only at hSw); clear hSw; go_simp; (try with_reducible rfl)
      (try simp only [Act.put, List.getElem_toArray, List.getElem_cons_zero, List.getElem_cons_succ, List.setIfInBounds_toArray, List.set_cons_zero, List.set_cons_succ])
      refine wpAnyF_take (i := 9) (v := ?_) (by kernel_rfl) (by kernel_rfl) rfl (by kernel_rfl) (by kernel_rfl) (by kernel_rfl) (fun _ _ _ h => h) (Or.inl ⟨by rfl, ?_⟩) (by assumption) ?_
      rotate_left
      · intro w' hSw; (try dsimp only at hSw); clear hSw; go_simp; (try with_reducible rfl)
      (try simp only [Act.put, List.getElem_toArray, List.getElem_cons_zero, List.getElem_cons_succ, List.setIfInBounds_toArray, List.set_cons_zero, List.set_cons_succ])
      refine wpAnyF_take (i := 10) (v := ?_) (by kernel_rfl) (by kernel_rfl) rfl (by kernel_rfl) (by kernel_rfl) (by kernel_rfl) (fun _ _ _ h => h) (Or.inl ⟨by rfl, ?_⟩) (by assumption) ?_
      rotate_left
      · intro w' hSw; (try dsimp only at hSw); clear hSw; go_simp; (try with_reducible rfl)
      (try simp only [Act.put, List.getElem_toArray, List.getElem_cons_zero, List.getElem_cons_succ, List.setIfInBounds_toArray, List.set_cons_zero, List.set_cons_succ])
      refine wpAnyF_ready (rs := [12]) (by kernel_rfl) (by simp) ?_
      refine AllReadyF.cons rfl (fun KK hKK => ?_) AllReadyF.nil
      obtain ⟨m0, m1⟩ := CB.two HB7.out.2
      have mf := HB7.out.2.frozen
      have mz := HB7.out.2.lt
      go_simp
      have HLB := hi (And.intro (HB7.out.1.set2 (M := w5.heap.size) HB5.out.z (.int .i64 (q : Int)) (.int .i64 8)) (HB7.out.2.set2 (.int .i64 (q : Int)) (.int .i64 8)))
      refine hKK.out _ _ HLB.out.1.held (fun hHeld => ?_)
      clear hKK KK
      (try simp only [Act.put, List.getElem_toArray, List.getElem_cons_zero, List.getElem_cons_succ, List.setIfInBounds_toArray, List.set_cons_zero, List.set_cons_succ])
      refine wpAnyF_ready (rs := [13]) (by kernel_rfl) (by simp) ?_
      refine AllReadyF.last (by kernel_rfl) rfl (fun KK hKK => ?_) AllReadyF.nil
      go_simp
      have HL := HLB
      clear m0 m1 mf mz
      refine hKK.out _ _ ?_
      clear hKK KK
      (try simp only [Act.put, List.getElem_toArray, List.getElem_cons_zero, List.getElem_cons_succ, List.setIfInBounds_toArray, List.set_cons_zero, List.set_cons_succ])
      refine wpAnyF_done (by kernel_rfl) ?_ _
      refine NoPanic.normal ?_
      obtain ⟨n0, n1⟩ := CB.two HL.out.2
      go_wp2_with (first
          | (go_at_call 32; ((with_reducible refine (HLD.out _ HL.out.1.below).mono ?_); rintro e wl ⟨rfl, hbb⟩; have HQ := hi (HL.out.1.later hbb); clear hbb n0 n1; obtain ⟨q0, q1⟩ := CB.two HQ.out.r; have qf := HQ.out.r.frozen; have hz := HQ.out.r.lt))
          | (go_at_call 34; ((with_reducible refine (HVD.out _).mono ?_); rintro e wv ⟨rfl, rfl⟩)))
      exact bodyPost_ret (results_wt rfl _ _ (w.heap.size + 1) _ _ _ rfl rfl (HQ.out.r.set2 _ _)) rfl ⟨rfl, below_s2 HQ.out.below (by omega) _ _⟩
  · go_simp
    have HA1 := hi (And.intro ((H0.out.later (below_dr _)).later (bal _ (.cells #[.int .i64 0, .int .i64 0] 30))) (cb_drew3 (w := w) (o := .cells (Tb.cs ⟨a, s, pg⟩) 32) (o' := (.cells #[.int .i64 0, .int .i64 0] 30)) (t := 30) (cs := #[.int .i64 0, .int .i64 0])))
    refine hKK.out _ _ HA1.out.1.held (fun hHeld => ?_)
    clear hKK KK
    (try simp only [Act.put, List.getElem_toArray, List.getElem_cons_zero, List.getElem_cons_succ, List.setIfInBounds_toArray, List.set_cons_zero, List.set_cons_succ])
    refine wpAnyF_ready (rs := [5]) (by kernel_rfl) (by simp) ?_
    refine AllReadyF.cons rfl (fun KK hKK => ?_) AllReadyF.nil
    go_simp
    ((with_reducible refine (HPR.out _).mono ?_); rintro e' w5 ⟨rfl, hbb⟩; have HA5 := hi (And.intro (HA1.out.1.later hbb) (HA1.out.2.below hbb)); clear hbb)
    (try go_simp)
    refine hKK.out _ _ HA5.out.1.held (fun hHeld => ?_)
    clear hKK KK
    (try simp only [Act.put, List.getElem_toArray, List.getElem_cons_zero, List.getElem_cons_succ, List.setIfInBounds_toArray, List.set_cons_zero, List.set_cons_succ])
    refine wpAnyF_take (i := 6) (v := ?_) (by kernel_rfl) (by kernel_rfl) rfl (by kernel_rfl) (by kernel_rfl) (by kernel_rfl) (fun _ _ _ h => h) (Or.inl ⟨by rfl, ?_⟩) (by assumption) ?_
    rotate_left
    · intro w' hSw; (try dsimp only at hSw); clear hSw; go_simp; (try with_reducible rfl)
    (try simp only [Act.put, List.getElem_toArray, List.getElem_cons_zero, List.getElem_cons_succ, List.setIfInBounds_toArray, List.set_cons_zero, List.set_cons_succ])
    refine wpAnyF_ready (rs := [7]) (by kernel_rfl) (by simp) ?_
    refine AllReadyF.cons rfl (fun KK hKK => ?_) AllReadyF.nil
    go_simp
    ((with_reducible refine (HNT.out _ HA5.out.1.below).mono ?_); rintro e' w7 ⟨rfl, hbb⟩; have HA7 := hi (And.intro (HA5.out.1.later hbb) (HA5.out.2.below hbb)); clear hbb)
    (try go_simp)
    refine hKK.out _ _ HA7.out.1.held (fun hHeld => ?_)
    clear hKK KK
    (try simp only [Act.put, List.getElem_toArray, List.getElem_cons_zero, List.getElem_cons_succ, List.setIfInBounds_toArray, List.set_cons_zero, List.set_cons_succ])
    refine wpAnyF_take (i := 8) (v := ?_) (by kernel_rfl) (by kernel_rfl) rfl (by kernel_rfl) (by kernel_rfl) (by kernel_rfl) (fun _ _ _ h => h) (Or.inl ⟨by rfl, ?_⟩) (by assumption) ?_
    rotate_left
    · intro w' hSw; (try dsimp only at hSw); clear hSw; go_simp; (try with_reducible rfl)
    (try simp only [Act.put, List.getElem_toArray, List.getElem_cons_zero, List.getElem_cons_succ, List.setIfInBounds_toArray, List.set_cons_zero, List.set_cons_succ])
    refine wpAnyF_take (i := 9) (v := ?_) (by kernel_rfl) (by kernel_rfl) rfl (by kernel_rfl) (by kernel_rfl) (by kernel_rfl) (fun _ _ _ h => h) (Or.inl ⟨by rfl, ?_⟩) (by assumption) ?_
    rotate_left
    · intro w' hSw; (try dsimp only at hSw); clear hSw; go_simp; (try with_reducible rfl)
    (try simp only [Act.put, List.getElem_toArray, List.getElem_cons_zero, List.getElem_cons_succ, List.setIfInBounds_toArray, List.set_cons_zero, List.set_cons_succ])
    refine wpAnyF_take (i := 10) (v := ?_) (by kernel_rfl) (by kernel_rfl) rfl (by kernel_rfl) (by kernel_rfl) (by kernel_rfl) (fun _ _ _ h => h) (Or.inl ⟨by rfl, ?_⟩) (by assumption) ?_
    rotate_left
    · intro w' hSw; (try dsimp only at hSw); clear hSw; go_simp; (try with_reducible rfl)
    (try simp only [Act.put, List.getElem_toArray, List.getElem_cons_zero, List.getElem_cons_succ, List.setIfInBounds_toArray, List.set_cons_zero, List.set_cons_succ])
    refine wpAnyF_ready (rs := [12]) (by kernel_rfl) (by simp) ?_
    refine AllReadyF.cons rfl (fun KK hKK => ?_) AllReadyF.nil
    obtain ⟨m0, m1⟩ := CB.two HA7.out.2
    have mf := HA7.out.2.frozen
    have mz := HA7.out.2.lt
    go_simp
    have HLA := hi (And.intro (HA7.out.1.set2 (M := w.heap.size + 1 + 1) (Nat.le_refl _) (.int .i64 (q : Int)) (.int .i64 8)) (HA7.out.2.set2 (.int .i64 (q : Int)) (.int .i64 8)))
    refine hKK.out _ _ HLA.out.1.held (fun hHeld => ?_)
    clear hKK KK
    (try simp only [Act.put, List.getElem_toArray, List.getElem_cons_zero, List.getElem_cons_succ, List.setIfInBounds_toArray, List.set_cons_zero, List.set_cons_succ])
    refine wpAnyF_ready (rs := [13]) (by kernel_rfl) (by simp) ?_
    refine AllReadyF.last (by kernel_rfl) rfl (fun KK hKK => ?_) AllReadyF.nil
    go_simp
    have HL := HLA
    clear m0 m1 mf mz
    refine hKK.out _ _ ?_
    clear hKK KK
    (try simp only [Act.put, List.getElem_toArray, List.getElem_cons_zero, List.getElem_cons_succ, List.setIfInBounds_toArray, List.set_cons_zero, List.set_cons_succ])
    refine wpAnyF_done (by kernel_rfl) ?_ _
    refine NoPanic.normal ?_
    obtain ⟨n0, n1⟩ := CB.two HL.out.2
    go_wp2_with (first
        | (go_at_call 32; ((with_reducible refine (HLD.out _ HL.out.1.below).mono ?_); rintro e wl ⟨rfl, hbb⟩; have HQ := hi (HL.out.1.later hbb); clear hbb n0 n1; obtain ⟨q0, q1⟩ := CB.two HQ.out.r; have qf := HQ.out.r.frozen; have hz := HQ.out.r.lt))
        | (go_at_call 34; ((with_reducible refine (HVD.out _).mono ?_); rintro e wv ⟨rfl, rfl⟩)))
    exact bodyPost_ret (results_wt rfl _ _ (w.heap.size + 1) _ _ _ rfl rfl (HQ.out.r.set2 _ _)) rfl ⟨rfl, below_s2 HQ.out.below (by omega) _ _⟩

set_option maxRecDepth 100000 in
set_option maxHeartbeats 8000000 in
theorem find_yes (p g cap : Nat) (bs : List Nat) (t : Tb) (id : Int) (w : World) (h0 : t.page ≠ 0) (h1 : nuB id = true) (per x y z : Int) (hper : 1 ≤ per) (hx : IntKind.i64.wrap (id.tdiv per) = x) (hy : id.tmod per = y) (q v : Nat) (o : Option Nat)
    (HP : ∀ W, Calls Try.prog 27 #[t.v] W fun e w' => e = .returned (.int .i64 per) ∧ Below W.heap.size W w')
    (HN : ∀ W, Below w.heap.size w W → Calls Try.prog 26 #[.pointer (some ⟨p, 0, none⟩), .agg #[.int .i64 t.at_, .int .i64 t.size], .int .i64 x] W fun e w' => e = .returned (ptV (some q)) ∧ Below W.heap.size W w')
    (HL : ∀ W, Below w.heap.size w W → Calls Try.prog 32 #[.pointer (some ⟨p, 0, none⟩), .agg #[.int .i64 q, .int .i64 8]] W fun e w' => e = .returned (.int .u64 v) ∧ Below W.heap.size W w')
    (HV : ∀ W, Calls Try.prog 34 #[.int .u64 v] W fun e w' => e = .returned (.bool true) ∧ W = w')
    (HI : ∀ W, Calls Try.prog 35 #[.int .i64 0, .int .u64 v] W fun e w' => e = .returned (.int .i64 z) ∧ Below W.heap.size W w')
    (HN2 : ∀ W, Below w.heap.size w W → Calls Try.prog 26 #[.pointer (some ⟨p, 0, none⟩), .agg #[.int .i64 z, .int .i64 t.page], .int .i64 y] W fun e w' => e = .returned (ptV o) ∧ Below W.heap.size W w') :
    Calls Try.prog 49 #[t.v, .pointer (some ⟨p, 0, none⟩), .int .i64 id] w fun e w' => e = .returned (ptV o) ∧ Below w.heap.size w w' := by
  obtain ⟨c0, c1, cb, hpt⟩ : ∃ c0 c1 cb, ptV o = .tuple #[.agg #[.int .i64 c0, .int .i64 c1], .bool cb] := by
    cases o with
    | none => exact ⟨_, _, _, rfl⟩
    | some P => exact ⟨_, _, _, rfl⟩
  rw [hpt] at HN2 ⊢
  clear hpt
  have H0 := hi (FdB.new w t)
  have HU := hi (fun W => numbered_any id W)
  rw [h1] at HU
  have HPR := hi HP
  have HNT := hi HN
  have HLD := hi HL
  have HVD := hi HV
  have HIN := hi HI
  have HN3 := hi HN2
  obtain ⟨a, s, pg⟩ := t
  dsimp only at h0 H0 HPR HNT HN3 ⊢
  have g0 : (pg == 0) = false := by simpa using h0
  have g1 : (per == 0) = false := by simp; omega
  have g2 : per ≠ 0 := by omega
  clear h1 h0 HP HN HL HV HI HN2 hper
  unfold ptV at HNT
  dsimp only at HNT
  obtain ⟨a0, a1, a2⟩ := CB.three H0.out.t
  go_enter Try.func49, Try.ntmps49
  go_wp2_with (go_at_call 24; ((with_reducible refine (HU.out _).mono ?_); rintro e w1 ⟨rfl, rfl⟩))
  clear a0 a1 a2
  refine wp_region_noPanic ?_
  refine wp_region_last_drew (S := (fun V => (V.cell? ⟨w.heap.size, 0, none⟩ = some (.int .i64 a) ∧ V.cell? ⟨w.heap.size, 1, none⟩ = some (.int .i64 s) ∧ V.cell? ⟨w.heap.size, 2, none⟩ = some (.int .i64 pg)) ∧ FdB w ⟨a, s, pg⟩ V)) [13] (by kernel_rfl) ((H0.out.later (below_dr _)).held) (fun hHeld => ?_)
  (try simp only [Array.replicate_succ, Array.replicate_zero, List.push_toArray, List.nil_append, List.cons_append])
  refine wpAnyF_take (i := 0) (v := ?_) (by kernel_rfl) (by kernel_rfl) rfl (by kernel_rfl) (by kernel_rfl) (by kernel_rfl) (fun _ _ _ h => h) (Or.inl ⟨by rfl, ?_⟩) (by assumption) ?_
  rotate_left
  · intro w' hSw; (try dsimp only at hSw); clear hSw; go_simp; (try with_reducible rfl)
  (try simp only [Act.put, List.getElem_toArray, List.getElem_cons_zero, List.getElem_cons_succ, List.setIfInBounds_toArray, List.set_cons_zero, List.set_cons_succ])
  refine wpAnyF_take (i := 1) (v := ?_) (by kernel_rfl) (by kernel_rfl) rfl (by kernel_rfl) (by kernel_rfl) (by kernel_rfl) (fun _ _ _ h => h) (Or.inl ⟨by rfl, ?_⟩) (by assumption) ?_
  rotate_left
  · intro w' hSw; (try dsimp only at hSw); clear hSw; go_simp; (try with_reducible rfl)
  (try simp only [Act.put, List.getElem_toArray, List.getElem_cons_zero, List.getElem_cons_succ, List.setIfInBounds_toArray, List.set_cons_zero, List.set_cons_succ])
  refine wpAnyF_take (i := 2) (v := ?_) (by kernel_rfl) (by kernel_rfl) rfl (by kernel_rfl) (by kernel_rfl) (by kernel_rfl) (fun _ _ _ h => h) (Or.inl ⟨by rfl, ?_⟩) (by assumption) ?_
  rotate_left
  · intro w' hSw; (try dsimp only at hSw); have hq := hSw.1; clear hSw; obtain ⟨a0, a1, a2⟩ := hq; go_simp; (try with_reducible rfl)
  (try simp only [Act.put, List.getElem_toArray, List.getElem_cons_zero, List.getElem_cons_succ, List.setIfInBounds_toArray, List.set_cons_zero, List.set_cons_succ])
  refine wpAnyF_take (i := 3) (v := ?_) (by kernel_rfl) (by kernel_rfl) rfl (by kernel_rfl) (by kernel_rfl) (by kernel_rfl) (fun _ _ _ h => h) (Or.inl ⟨by rfl, ?_⟩) (by assumption) ?_
  rotate_left
  · intro w' hSw; (try dsimp only at hSw); clear hSw; go_simp; (try with_reducible rfl)
  (try simp only [Act.put, List.getElem_toArray, List.getElem_cons_zero, List.getElem_cons_succ, List.setIfInBounds_toArray, List.set_cons_zero, List.set_cons_succ])
  refine wpAnyF_take (i := 4) (v := ?_) (by kernel_rfl) (by kernel_rfl) rfl (by kernel_rfl) (by kernel_rfl) (by kernel_rfl) (fun _ _ _ h => h) (Or.inl ⟨by rfl, ?_⟩) (by assumption) ?_
  rotate_left
  · intro w' hSw; (try dsimp only at hSw); have hq := hSw.1; clear hSw; obtain ⟨a0, a1, a2⟩ := hq; go_simp; (try with_reducible rfl)
  (try simp only [Act.put, List.getElem_toArray, List.getElem_cons_zero, List.getElem_cons_succ, List.setIfInBounds_toArray, List.set_cons_zero, List.set_cons_succ])
  refine wpAnyF_ready (rs := [5, 11]) (by kernel_rfl) (by simp) ?_
  refine (AllReadyF.cons rfl (fun KK hKK => ?_) (AllReadyF.cons rfl (fun KK hKK => ?_) AllReadyF.nil))
  · go_simp
    ((with_reducible refine (HPR.out _).mono ?_); rintro e' w5 ⟨rfl, hbb⟩; have HB5 := hi ((H0.out.later (below_dr _)).later hbb); clear hbb)
    (try go_simp)
    refine hKK.out _ _ HB5.out.held (fun hHeld => ?_)
    clear hKK KK
    (try simp only [Act.put, List.getElem_toArray, List.getElem_cons_zero, List.getElem_cons_succ, List.setIfInBounds_toArray, List.set_cons_zero, List.set_cons_succ])
    refine wpAnyF_take (i := 6) (v := ?_) (by kernel_rfl) (by kernel_rfl) rfl (by kernel_rfl) (by kernel_rfl) (by kernel_rfl) (fun _ _ _ h => h) (Or.inl ⟨by rfl, ?_⟩) (by assumption) ?_
    rotate_left
    · intro w' hSw; (try dsimp only at hSw); clear hSw; go_simp; (try with_reducible rfl)
    (try simp only [Act.put, List.getElem_toArray, List.getElem_cons_zero, List.getElem_cons_succ, List.setIfInBounds_toArray, List.set_cons_zero, List.set_cons_succ])
    refine wpAnyF_ready (rs := [7, 11]) (by kernel_rfl) (by simp) ?_
    refine (AllReadyF.cons rfl (fun KK hKK => ?_) (AllReadyF.cons rfl (fun KK hKK => ?_) AllReadyF.nil))
    · go_simp
      ((with_reducible refine (HNT.out _ HB5.out.below).mono ?_); rintro e' w7 ⟨rfl, hbb⟩; have HC7 := hi (HB5.out.later hbb); clear hbb)
      (try go_simp)
      refine hKK.out _ _ HC7.out.held (fun hHeld => ?_)
      clear hKK KK
      (try simp only [Act.put, List.getElem_toArray, List.getElem_cons_zero, List.getElem_cons_succ, List.setIfInBounds_toArray, List.set_cons_zero, List.set_cons_succ])
      refine wpAnyF_take (i := 8) (v := ?_) (by kernel_rfl) (by kernel_rfl) rfl (by kernel_rfl) (by kernel_rfl) (by kernel_rfl) (fun _ _ _ h => h) (Or.inl ⟨by rfl, ?_⟩) (by assumption) ?_
      rotate_left
      · intro w' hSw; (try dsimp only at hSw); clear hSw; go_simp; (try with_reducible rfl)
      (try simp only [Act.put, List.getElem_toArray, List.getElem_cons_zero, List.getElem_cons_succ, List.setIfInBounds_toArray, List.set_cons_zero, List.set_cons_succ])
      refine wpAnyF_take (i := 9) (v := ?_) (by kernel_rfl) (by kernel_rfl) rfl (by kernel_rfl) (by kernel_rfl) (by kernel_rfl) (fun _ _ _ h => h) (Or.inl ⟨by rfl, ?_⟩) (by assumption) ?_
      rotate_left
      · intro w' hSw; (try dsimp only at hSw); clear hSw; go_simp; (try with_reducible rfl)
      (try simp only [Act.put, List.getElem_toArray, List.getElem_cons_zero, List.getElem_cons_succ, List.setIfInBounds_toArray, List.set_cons_zero, List.set_cons_succ])
      refine wpAnyF_take (i := 10) (v := ?_) (by kernel_rfl) (by kernel_rfl) rfl (by kernel_rfl) (by kernel_rfl) (by kernel_rfl) (fun _ _ _ h => h) (Or.inl ⟨by rfl, ?_⟩) (by assumption) ?_
      rotate_left
      · intro w' hSw; (try dsimp only at hSw); clear hSw; go_simp; (try with_reducible rfl)
      (try simp only [Act.put, List.getElem_toArray, List.getElem_cons_zero, List.getElem_cons_succ, List.setIfInBounds_toArray, List.set_cons_zero, List.set_cons_succ])
      refine wpAnyF_ready (rs := [11]) (by kernel_rfl) (by simp) ?_
      refine AllReadyF.cons rfl (fun KK hKK => ?_) AllReadyF.nil
      go_simp
      have HC8 := hi (And.intro (HC7.out.later (bal _ (.cells #[.int .i64 0, .int .i64 0] 30))) (CB.new w7 30 #[.int .i64 0, .int .i64 0]))
      refine hKK.out _ _ HC8.out.1.held (fun hHeld => ?_)
      clear hKK KK
      (try simp only [Act.put, List.getElem_toArray, List.getElem_cons_zero, List.getElem_cons_succ, List.setIfInBounds_toArray, List.set_cons_zero, List.set_cons_succ])
      refine wpAnyF_ready (rs := [12]) (by kernel_rfl) (by simp) ?_
      refine AllReadyF.cons rfl (fun KK hKK => ?_) AllReadyF.nil
      obtain ⟨m0, m1⟩ := CB.two HC8.out.2
      have mf := HC8.out.2.frozen
      have mz := HC8.out.2.lt
      go_simp
      have HLC := hi (And.intro (HC7.out.later (bal _ (.cells #[(.int .i64 (q : Int)), (.int .i64 8)] 30))) (CB.new w7 30 #[(.int .i64 (q : Int)), (.int .i64 8)]))
      refine hKK.out _ _ HLC.out.1.held (fun hHeld => ?_)
      clear hKK KK
      (try simp only [Act.put, List.getElem_toArray, List.getElem_cons_zero, List.getElem_cons_succ, List.setIfInBounds_toArray, List.set_cons_zero, List.set_cons_succ])
      refine wpAnyF_ready (rs := [13]) (by kernel_rfl) (by simp) ?_
      refine AllReadyF.last (by kernel_rfl) rfl (fun KK hKK => ?_) AllReadyF.nil
      go_simp
      have HL := HLC
      clear m0 m1 mf mz
      refine hKK.out _ _ ?_
      clear hKK KK
      (try simp only [Act.put, List.getElem_toArray, List.getElem_cons_zero, List.getElem_cons_succ, List.setIfInBounds_toArray, List.set_cons_zero, List.set_cons_succ])
      refine wpAnyF_done (by kernel_rfl) ?_ _
      refine NoPanic.normal ?_
      obtain ⟨n0, n1⟩ := CB.two HL.out.2
      go_wp2_with (first
          | (go_at_call 32; ((with_reducible refine (HLD.out _ HL.out.1.below).mono ?_); rintro e wl ⟨rfl, hbb⟩; have HQ := hi (HL.out.1.later hbb); clear hbb n0 n1))
          | (go_at_call 34; ((with_reducible refine (HVD.out _).mono ?_); rintro e wv ⟨rfl, rfl⟩)))
      refine wp_region_noPanic ?_
      refine wp_region_last_drew (S := (fun V => (V.cell? ⟨w.heap.size, 0, none⟩ = some (.int .i64 a) ∧ V.cell? ⟨w.heap.size, 1, none⟩ = some (.int .i64 s) ∧ V.cell? ⟨w.heap.size, 2, none⟩ = some (.int .i64 pg)) ∧ FdB w ⟨a, s, pg⟩ V)) [13, 14] (by kernel_rfl) ((HQ.out.later (below_dr _)).held) (fun hHeld => ?_)
      (try simp only [Array.replicate_succ, Array.replicate_zero, List.push_toArray, List.nil_append, List.cons_append])
      refine wpAnyF_take (i := 0) (v := ?_) (by kernel_rfl) (by kernel_rfl) rfl (by kernel_rfl) (by kernel_rfl) (by kernel_rfl) (fun _ _ _ h => h) (Or.inl ⟨by rfl, ?_⟩) (by assumption) ?_
      rotate_left
      · intro w' hSw; (try dsimp only at hSw); clear hSw; go_simp; (try with_reducible rfl)
      (try simp only [Act.put, List.getElem_toArray, List.getElem_cons_zero, List.getElem_cons_succ, List.setIfInBounds_toArray, List.set_cons_zero, List.set_cons_succ])
      refine wpAnyF_take (i := 1) (v := ?_) (by kernel_rfl) (by kernel_rfl) rfl (by kernel_rfl) (by kernel_rfl) (by kernel_rfl) (fun _ _ _ h => h) (Or.inl ⟨by rfl, ?_⟩) (by assumption) ?_
      rotate_left
      · intro w' hSw; (try dsimp only at hSw); clear hSw; go_simp; (try with_reducible rfl)
      (try simp only [Act.put, List.getElem_toArray, List.getElem_cons_zero, List.getElem_cons_succ, List.setIfInBounds_toArray, List.set_cons_zero, List.set_cons_succ])
      refine wpAnyF_take (i := 3) (v := ?_) (by kernel_rfl) (by kernel_rfl) rfl (by kernel_rfl) (by kernel_rfl) (by kernel_rfl) (fun _ _ _ h => h) (Or.inl ⟨by rfl, ?_⟩) (by assumption) ?_
      rotate_left
      · intro w' hSw; (try dsimp only at hSw); clear hSw; go_simp; (try with_reducible rfl)
      (try simp only [Act.put, List.getElem_toArray, List.getElem_cons_zero, List.getElem_cons_succ, List.setIfInBounds_toArray, List.set_cons_zero, List.set_cons_succ])
      refine wpAnyF_take (i := 4) (v := ?_) (by kernel_rfl) (by kernel_rfl) rfl (by kernel_rfl) (by kernel_rfl) (by kernel_rfl) (fun _ _ _ h => h) (Or.inl ⟨by rfl, ?_⟩) (by assumption) ?_
      rotate_left
      · intro w' hSw; (try dsimp only at hSw); have hq := hSw.1; clear hSw; obtain ⟨a0, a1, a2⟩ := hq; go_simp; (try with_reducible rfl)
      (try simp only [Act.put, List.getElem_toArray, List.getElem_cons_zero, List.getElem_cons_succ, List.setIfInBounds_toArray, List.set_cons_zero, List.set_cons_succ])
      refine wpAnyF_take (i := 6) (v := ?_) (by kernel_rfl) (by kernel_rfl) rfl (by kernel_rfl) (by kernel_rfl) (by kernel_rfl) (fun _ _ _ h => h) (Or.inl ⟨by rfl, ?_⟩) (by assumption) ?_
      rotate_left
      · intro w' hSw; (try dsimp only at hSw); clear hSw; go_simp; (try with_reducible rfl)
      (try simp only [Act.put, List.getElem_toArray, List.getElem_cons_zero, List.getElem_cons_succ, List.setIfInBounds_toArray, List.set_cons_zero, List.set_cons_succ])
      refine wpAnyF_take (i := 7) (v := ?_) (by kernel_rfl) (by kernel_rfl) rfl (by kernel_rfl) (by kernel_rfl) (by kernel_rfl) (fun _ _ _ h => h) (Or.inl ⟨by rfl, ?_⟩) (by assumption) ?_
      rotate_left
      · intro w' hSw; (try dsimp only at hSw); have hq := hSw.1; clear hSw; obtain ⟨a0, a1, a2⟩ := hq; go_simp; (try with_reducible rfl)
      (try simp only [Act.put, List.getElem_toArray, List.getElem_cons_zero, List.getElem_cons_succ, List.setIfInBounds_toArray, List.set_cons_zero, List.set_cons_succ])
      refine wpAnyF_ready (rs := [2]) (by kernel_rfl) (by simp) ?_
      refine AllReadyF.cons rfl (fun KK hKK => ?_) AllReadyF.nil
      go_simp
      ((with_reducible refine (HIN.out _).mono ?_); rintro e' x2 ⟨rfl, hbb⟩; have G2 := hi ((HQ.out.later (below_dr _)).later hbb); clear hbb)
      (try go_simp)
      refine hKK.out _ _ G2.out.held (fun hHeld => ?_)
      clear hKK KK
      (try simp only [Act.put, List.getElem_toArray, List.getElem_cons_zero, List.getElem_cons_succ, List.setIfInBounds_toArray, List.set_cons_zero, List.set_cons_succ])
      refine wpAnyF_take (i := 5) (v := ?_) (by kernel_rfl) (by kernel_rfl) rfl (by kernel_rfl) (by kernel_rfl) (by kernel_rfl) (fun _ _ _ h => h) (Or.inl ⟨by rfl, ?_⟩) (by assumption) ?_
      rotate_left
      · intro w' hSw; (try dsimp only at hSw); clear hSw; go_simp; (try with_reducible rfl)
      (try simp only [Act.put, List.getElem_toArray, List.getElem_cons_zero, List.getElem_cons_succ, List.setIfInBounds_toArray, List.set_cons_zero, List.set_cons_succ])
      refine wpAnyF_ready (rs := [8]) (by kernel_rfl) (by simp) ?_
      refine AllReadyF.cons rfl (fun KK hKK => ?_) AllReadyF.nil
      go_simp
      ((with_reducible refine (HPR.out _).mono ?_); rintro e' x8 ⟨rfl, hbb⟩; have G8 := hi (G2.out.later hbb); clear hbb)
      (try go_simp)
      refine hKK.out _ _ G8.out.held (fun hHeld => ?_)
      clear hKK KK
      (try simp only [Act.put, List.getElem_toArray, List.getElem_cons_zero, List.getElem_cons_succ, List.setIfInBounds_toArray, List.set_cons_zero, List.set_cons_succ])
      refine wpAnyF_take (i := 9) (v := ?_) (by kernel_rfl) (by kernel_rfl) rfl (by kernel_rfl) (by kernel_rfl) (by kernel_rfl) (fun _ _ _ h => h) (Or.inl ⟨by rfl, ?_⟩) (by assumption) ?_
      rotate_left
      · intro w' hSw; (try dsimp only at hSw); clear hSw; go_simp; (try with_reducible rfl)
      (try simp only [Act.put, List.getElem_toArray, List.getElem_cons_zero, List.getElem_cons_succ, List.setIfInBounds_toArray, List.set_cons_zero, List.set_cons_succ])
      refine wpAnyF_ready (rs := [10]) (by kernel_rfl) (by simp) ?_
      refine AllReadyF.cons rfl (fun KK hKK => ?_) AllReadyF.nil
      go_simp
      ((with_reducible refine (HN3.out _ G8.out.below).mono ?_); rintro e' xa ⟨rfl, hbb⟩; have GA := hi (G8.out.later hbb); clear hbb)
      (try go_simp)
      refine hKK.out _ _ GA.out.held (fun hHeld => ?_)
      clear hKK KK
      (try simp only [Act.put, List.getElem_toArray, List.getElem_cons_zero, List.getElem_cons_succ, List.setIfInBounds_toArray, List.set_cons_zero, List.set_cons_succ])
      refine wpAnyF_take (i := 11) (v := ?_) (by kernel_rfl) (by kernel_rfl) rfl (by kernel_rfl) (by kernel_rfl) (by kernel_rfl) (fun _ _ _ h => h) (Or.inl ⟨by rfl, ?_⟩) (by assumption) ?_
      rotate_left
      · intro w' hSw; (try dsimp only at hSw); clear hSw; go_simp; (try with_reducible rfl)
      (try simp only [Act.put, List.getElem_toArray, List.getElem_cons_zero, List.getElem_cons_succ, List.setIfInBounds_toArray, List.set_cons_zero, List.set_cons_succ])
      refine wpAnyF_take (i := 12) (v := ?_) (by kernel_rfl) (by kernel_rfl) rfl (by kernel_rfl) (by kernel_rfl) (by kernel_rfl) (fun _ _ _ h => h) (Or.inl ⟨by rfl, ?_⟩) (by assumption) ?_
      rotate_left
      · intro w' hSw; (try dsimp only at hSw); clear hSw; go_simp; (try with_reducible rfl)
      (try simp only [Act.put, List.getElem_toArray, List.getElem_cons_zero, List.getElem_cons_succ, List.setIfInBounds_toArray, List.set_cons_zero, List.set_cons_succ])
      refine wpAnyF_ready (rs := [13]) (by kernel_rfl) (by simp) ?_
      refine AllReadyF.last (by kernel_rfl) rfl (fun KK hKK => ?_) AllReadyF.nil
      obtain ⟨q0, q1⟩ := CB.two GA.out.r
      have qf := GA.out.r.frozen
      have hz := GA.out.r.lt
      go_simp
      refine hKK.out _ _ ?_
      clear hKK KK
      (try simp only [Act.put, List.getElem_toArray, List.getElem_cons_zero, List.getElem_cons_succ, List.setIfInBounds_toArray, List.set_cons_zero, List.set_cons_succ])
      refine wpAnyF_ready (rs := [14]) (by kernel_rfl) (by simp) ?_
      refine AllReadyF.last (by kernel_rfl) rfl (fun KK hKK => ?_) AllReadyF.nil
      go_simp
      refine hKK.out _ _ ?_
      clear hKK KK
      (try simp only [Act.put, List.getElem_toArray, List.getElem_cons_zero, List.getElem_cons_succ, List.setIfInBounds_toArray, List.set_cons_zero, List.set_cons_succ])
      refine wpAnyF_done (by kernel_rfl) ?_ _
      refine NoPanic.normal ?_
      go_wp2
      exact bodyPost_ret (results_wt rfl _ _ (w.heap.size + 1) _ _ _ rfl rfl (GA.out.r.set2 _ _)) rfl ⟨rfl, below_s2 GA.out.below (by omega) _ _⟩
    · go_simp
      have HB6 := hi (And.intro (HB5.out.later (bal _ (.cells #[.int .i64 0, .int .i64 0] 30))) (CB.new w5 30 #[.int .i64 0, .int .i64 0]))
      refine hKK.out _ _ HB6.out.1.held (fun hHeld => ?_)
      clear hKK KK
      (try simp only [Act.put, List.getElem_toArray, List.getElem_cons_zero, List.getElem_cons_succ, List.setIfInBounds_toArray, List.set_cons_zero, List.set_cons_succ])
      refine wpAnyF_ready (rs := [7]) (by kernel_rfl) (by simp) ?_
      refine AllReadyF.cons rfl (fun KK hKK => ?_) AllReadyF.nil
      go_simp
      ((with_reducible refine (HNT.out _ HB6.out.1.below).mono ?_); rintro e' w7 ⟨rfl, hbb⟩; have HB7 := hi (And.intro (HB6.out.1.later hbb) (HB6.out.2.below hbb)); clear hbb)
      (try go_simp)
      refine hKK.out _ _ HB7.out.1.held (fun hHeld => ?_)
      clear hKK KK
      (try simp only [Act.put, List.getElem_toArray, List.getElem_cons_zero, List.getElem_cons_succ, List.setIfInBounds_toArray, List.set_cons_zero, List.set_cons_succ])
      refine wpAnyF_take (i := 8) (v := ?_) (by kernel_rfl) (by kernel_rfl) rfl (by kernel_rfl) (by kernel_rfl) (by kernel_rfl) (fun _ _ _ h => h) (Or.inl ⟨by rfl, ?_⟩) (by assumption) ?_
      rotate_left
      · intro w' hSw; (try dsimp only at hSw); clear hSw; go_simp; (try with_reducible rfl)
      (try simp only [Act.put, List.getElem_toArray, List.getElem_cons_zero, List.getElem_cons_succ, List.setIfInBounds_toArray, List.set_cons_zero, List.set_cons_succ])
      refine wpAnyF_take (i := 9) (v := ?_) (by kernel_rfl) (by kernel_rfl) rfl (by kernel_rfl) (by kernel_rfl) (by kernel_rfl) (fun _ _ _ h => h) (Or.inl ⟨by rfl, ?_⟩) (by assumption) ?_
      rotate_left
      · intro w' hSw; (try dsimp only at hSw); clear hSw; go_simp; (try with_reducible rfl)
      (try simp only [Act.put, List.getElem_toArray, List.getElem_cons_zero, List.getElem_cons_succ, List.setIfInBounds_toArray, List.set_cons_zero, List.set_cons_succ])
      refine wpAnyF_take (i := 10) (v := ?_) (by kernel_rfl) (by kernel_rfl) rfl (by kernel_rfl) (by kernel_rfl) (by kernel_rfl) (fun _ _ _ h => h) (Or.inl ⟨by rfl, ?_⟩) (by assumption) ?_
      rotate_left
      · intro w' hSw; (try dsimp only at hSw); clear hSw; go_simp; (try with_reducible rfl)
      (try simp only [Act.put, List.getElem_toArray, List.getElem_cons_zero, List.getElem_cons_succ, List.setIfInBounds_toArray, List.set_cons_zero, List.set_cons_succ])
      refine wpAnyF_ready (rs := [12]) (by kernel_rfl) (by simp) ?_
      refine AllReadyF.cons rfl (fun KK hKK => ?_) AllReadyF.nil
      obtain ⟨m0, m1⟩ := CB.two HB7.out.2
      have mf := HB7.out.2.frozen
      have mz := HB7.out.2.lt
      go_simp
      have HLB := hi (And.intro (HB7.out.1.set2 (M := w5.heap.size) HB5.out.z (.int .i64 (q : Int)) (.int .i64 8)) (HB7.out.2.set2 (.int .i64 (q : Int)) (.int .i64 8)))
      refine hKK.out _ _ HLB.out.1.held (fun hHeld => ?_)
      clear hKK KK
      (try simp only [Act.put, List.getElem_toArray, List.getElem_cons_zero, List.getElem_cons_succ, List.setIfInBounds_toArray, List.set_cons_zero, List.set_cons_succ])
      refine wpAnyF_ready (rs := [13]) (by kernel_rfl) (by simp) ?_
      refine AllReadyF.last (by kernel_rfl) rfl (fun KK hKK => ?_) AllReadyF.nil
      go_simp
      have HL := HLB
      clear m0 m1 mf mz
      refine hKK.out _ _ ?_
      clear hKK KK
      (try simp only [Act.put, List.getElem_toArray, List.getElem_cons_zero, List.getElem_cons_succ, List.setIfInBounds_toArray, List.set_cons_zero, List.set_cons_succ])
      refine wpAnyF_done (by kernel_rfl) ?_ _
      refine NoPanic.normal ?_
      obtain ⟨n0, n1⟩ := CB.two HL.out.2
      go_wp2_with (first
          | (go_at_call 32; ((with_reducible refine (HLD.out _ HL.out.1.below).mono ?_); rintro e wl ⟨rfl, hbb⟩; have HQ := hi (HL.out.1.later hbb); clear hbb n0 n1))
          | (go_at_call 34; ((with_reducible refine (HVD.out _).mono ?_); rintro e wv ⟨rfl, rfl⟩)))
      refine wp_region_noPanic ?_
      refine wp_region_last_drew (S := (fun V => (V.cell? ⟨w.heap.size, 0, none⟩ = some (.int .i64 a) ∧ V.cell? ⟨w.heap.size, 1, none⟩ = some (.int .i64 s) ∧ V.cell? ⟨w.heap.size, 2, none⟩ = some (.int .i64 pg)) ∧ FdB w ⟨a, s, pg⟩ V)) [13, 14] (by kernel_rfl) ((HQ.out.later (below_dr _)).held) (fun hHeld => ?_)
      (try simp only [Array.replicate_succ, Array.replicate_zero, List.push_toArray, List.nil_append, List.cons_append])
      refine wpAnyF_take (i := 0) (v := ?_) (by kernel_rfl) (by kernel_rfl) rfl (by kernel_rfl) (by kernel_rfl) (by kernel_rfl) (fun _ _ _ h => h) (Or.inl ⟨by rfl, ?_⟩) (by assumption) ?_
      rotate_left
      · intro w' hSw; (try dsimp only at hSw); clear hSw; go_simp; (try with_reducible rfl)
      (try simp only [Act.put, List.getElem_toArray, List.getElem_cons_zero, List.getElem_cons_succ, List.setIfInBounds_toArray, List.set_cons_zero, List.set_cons_succ])
      refine wpAnyF_take (i := 1) (v := ?_) (by kernel_rfl) (by kernel_rfl) rfl (by kernel_rfl) (by kernel_rfl) (by kernel_rfl) (fun _ _ _ h => h) (Or.inl ⟨by rfl, ?_⟩) (by assumption) ?_
      rotate_left
      · intro w' hSw; (try dsimp only at hSw); clear hSw; go_simp; (try with_reducible rfl)
      (try simp only [Act.put, List.getElem_toArray, List.getElem_cons_zero, List.getElem_cons_succ, List.setIfInBounds_toArray, List.set_cons_zero, List.set_cons_succ])
      refine wpAnyF_take (i := 3) (v := ?_) (by kernel_rfl) (by kernel_rfl) rfl (by kernel_rfl) (by kernel_rfl) (by kernel_rfl) (fun _ _ _ h => h) (Or.inl ⟨by rfl, ?_⟩) (by assumption) ?_
      rotate_left
      · intro w' hSw; (try dsimp only at hSw); clear hSw; go_simp; (try with_reducible rfl)
      (try simp only [Act.put, List.getElem_toArray, List.getElem_cons_zero, List.getElem_cons_succ, List.setIfInBounds_toArray, List.set_cons_zero, List.set_cons_succ])
      refine wpAnyF_take (i := 4) (v := ?_) (by kernel_rfl) (by kernel_rfl) rfl (by kernel_rfl) (by kernel_rfl) (by kernel_rfl) (fun _ _ _ h => h) (Or.inl ⟨by rfl, ?_⟩) (by assumption) ?_
      rotate_left
      · intro w' hSw; (try dsimp only at hSw); have hq := hSw.1; clear hSw; obtain ⟨a0, a1, a2⟩ := hq; go_simp; (try with_reducible rfl)
      (try simp only [Act.put, List.getElem_toArray, List.getElem_cons_zero, List.getElem_cons_succ, List.setIfInBounds_toArray, List.set_cons_zero, List.set_cons_succ])
      refine wpAnyF_take (i := 6) (v := ?_) (by kernel_rfl) (by kernel_rfl) rfl (by kernel_rfl) (by kernel_rfl) (by kernel_rfl) (fun _ _ _ h => h) (Or.inl ⟨by rfl, ?_⟩) (by assumption) ?_
      rotate_left
      · intro w' hSw; (try dsimp only at hSw); clear hSw; go_simp; (try with_reducible rfl)
      (try simp only [Act.put, List.getElem_toArray, List.getElem_cons_zero, List.getElem_cons_succ, List.setIfInBounds_toArray, List.set_cons_zero, List.set_cons_succ])
      refine wpAnyF_take (i := 7) (v := ?_) (by kernel_rfl) (by kernel_rfl) rfl (by kernel_rfl) (by kernel_rfl) (by kernel_rfl) (fun _ _ _ h => h) (Or.inl ⟨by rfl, ?_⟩) (by assumption) ?_
      rotate_left
      · intro w' hSw; (try dsimp only at hSw); have hq := hSw.1; clear hSw; obtain ⟨a0, a1, a2⟩ := hq; go_simp; (try with_reducible rfl)
      (try simp only [Act.put, List.getElem_toArray, List.getElem_cons_zero, List.getElem_cons_succ, List.setIfInBounds_toArray, List.set_cons_zero, List.set_cons_succ])
      refine wpAnyF_ready (rs := [2]) (by kernel_rfl) (by simp) ?_
      refine AllReadyF.cons rfl (fun KK hKK => ?_) AllReadyF.nil
      go_simp
      ((with_reducible refine (HIN.out _).mono ?_); rintro e' x2 ⟨rfl, hbb⟩; have G2 := hi ((HQ.out.later (below_dr _)).later hbb); clear hbb)
      (try go_simp)
      refine hKK.out _ _ G2.out.held (fun hHeld => ?_)
      clear hKK KK
      (try simp only [Act.put, List.getElem_toArray, List.getElem_cons_zero, List.getElem_cons_succ, List.setIfInBounds_toArray, List.set_cons_zero, List.set_cons_succ])
      refine wpAnyF_take (i := 5) (v := ?_) (by kernel_rfl) (by kernel_rfl) rfl (by kernel_rfl) (by kernel_rfl) (by kernel_rfl) (fun _ _ _ h => h) (Or.inl ⟨by rfl, ?_⟩) (by assumption) ?_
      rotate_left
      · intro w' hSw; (try dsimp only at hSw); clear hSw; go_simp; (try with_reducible rfl)
      (try simp only [Act.put, List.getElem_toArray, List.getElem_cons_zero, List.getElem_cons_succ, List.setIfInBounds_toArray, List.set_cons_zero, List.set_cons_succ])
      refine wpAnyF_ready (rs := [8]) (by kernel_rfl) (by simp) ?_
      refine AllReadyF.cons rfl (fun KK hKK => ?_) AllReadyF.nil
      go_simp
      ((with_reducible refine (HPR.out _).mono ?_); rintro e' x8 ⟨rfl, hbb⟩; have G8 := hi (G2.out.later hbb); clear hbb)
      (try go_simp)
      refine hKK.out _ _ G8.out.held (fun hHeld => ?_)
      clear hKK KK
      (try simp only [Act.put, List.getElem_toArray, List.getElem_cons_zero, List.getElem_cons_succ, List.setIfInBounds_toArray, List.set_cons_zero, List.set_cons_succ])
      refine wpAnyF_take (i := 9) (v := ?_) (by kernel_rfl) (by kernel_rfl) rfl (by kernel_rfl) (by kernel_rfl) (by kernel_rfl) (fun _ _ _ h => h) (Or.inl ⟨by rfl, ?_⟩) (by assumption) ?_
      rotate_left
      · intro w' hSw; (try dsimp only at hSw); clear hSw; go_simp; (try with_reducible rfl)
      (try simp only [Act.put, List.getElem_toArray, List.getElem_cons_zero, List.getElem_cons_succ, List.setIfInBounds_toArray, List.set_cons_zero, List.set_cons_succ])
      refine wpAnyF_ready (rs := [10]) (by kernel_rfl) (by simp) ?_
      refine AllReadyF.cons rfl (fun KK hKK => ?_) AllReadyF.nil
      go_simp
      ((with_reducible refine (HN3.out _ G8.out.below).mono ?_); rintro e' xa ⟨rfl, hbb⟩; have GA := hi (G8.out.later hbb); clear hbb)
      (try go_simp)
      refine hKK.out _ _ GA.out.held (fun hHeld => ?_)
      clear hKK KK
      (try simp only [Act.put, List.getElem_toArray, List.getElem_cons_zero, List.getElem_cons_succ, List.setIfInBounds_toArray, List.set_cons_zero, List.set_cons_succ])
      refine wpAnyF_take (i := 11) (v := ?_) (by kernel_rfl) (by kernel_rfl) rfl (by kernel_rfl) (by kernel_rfl) (by kernel_rfl) (fun _ _ _ h => h) (Or.inl ⟨by rfl, ?_⟩) (by assumption) ?_
      rotate_left
      · intro w' hSw; (try dsimp only at hSw); clear hSw; go_simp; (try with_reducible rfl)
      (try simp only [Act.put, List.getElem_toArray, List.getElem_cons_zero, List.getElem_cons_succ, List.setIfInBounds_toArray, List.set_cons_zero, List.set_cons_succ])
      refine wpAnyF_take (i := 12) (v := ?_) (by kernel_rfl) (by kernel_rfl) rfl (by kernel_rfl) (by kernel_rfl) (by kernel_rfl) (fun _ _ _ h => h) (Or.inl ⟨by rfl, ?_⟩) (by assumption) ?_
      rotate_left
      · intro w' hSw; (try dsimp only at hSw); clear hSw; go_simp; (try with_reducible rfl)
      (try simp only [Act.put, List.getElem_toArray, List.getElem_cons_zero, List.getElem_cons_succ, List.setIfInBounds_toArray, List.set_cons_zero, List.set_cons_succ])
      refine wpAnyF_ready (rs := [13]) (by kernel_rfl) (by simp) ?_
      refine AllReadyF.last (by kernel_rfl) rfl (fun KK hKK => ?_) AllReadyF.nil
      obtain ⟨q0, q1⟩ := CB.two GA.out.r
      have qf := GA.out.r.frozen
      have hz := GA.out.r.lt
      go_simp
      refine hKK.out _ _ ?_
      clear hKK KK
      (try simp only [Act.put, List.getElem_toArray, List.getElem_cons_zero, List.getElem_cons_succ, List.setIfInBounds_toArray, List.set_cons_zero, List.set_cons_succ])
      refine wpAnyF_ready (rs := [14]) (by kernel_rfl) (by simp) ?_
      refine AllReadyF.last (by kernel_rfl) rfl (fun KK hKK => ?_) AllReadyF.nil
      go_simp
      refine hKK.out _ _ ?_
      clear hKK KK
      (try simp only [Act.put, List.getElem_toArray, List.getElem_cons_zero, List.getElem_cons_succ, List.setIfInBounds_toArray, List.set_cons_zero, List.set_cons_succ])
      refine wpAnyF_done (by kernel_rfl) ?_ _
      refine NoPanic.normal ?_
      go_wp2
      exact bodyPost_ret (results_wt rfl _ _ (w.heap.size + 1) _ _ _ rfl rfl (GA.out.r.set2 _ _)) rfl ⟨rfl, below_s2 GA.out.below (by omega) _ _⟩
  · go_simp
    have HA1 := hi (And.intro ((H0.out.later (below_dr _)).later (bal _ (.cells #[.int .i64 0, .int .i64 0] 30))) (cb_drew3 (w := w) (o := .cells (Tb.cs ⟨a, s, pg⟩) 32) (o' := (.cells #[.int .i64 0, .int .i64 0] 30)) (t := 30) (cs := #[.int .i64 0, .int .i64 0])))
    refine hKK.out _ _ HA1.out.1.held (fun hHeld => ?_)
    clear hKK KK
    (try simp only [Act.put, List.getElem_toArray, List.getElem_cons_zero, List.getElem_cons_succ, List.setIfInBounds_toArray, List.set_cons_zero, List.set_cons_succ])
    refine wpAnyF_ready (rs := [5]) (by kernel_rfl) (by simp) ?_
    refine AllReadyF.cons rfl (fun KK hKK => ?_) AllReadyF.nil
    go_simp
    ((with_reducible refine (HPR.out _).mono ?_); rintro e' w5 ⟨rfl, hbb⟩; have HA5 := hi (And.intro (HA1.out.1.later hbb) (HA1.out.2.below hbb)); clear hbb)
    (try go_simp)
    refine hKK.out _ _ HA5.out.1.held (fun hHeld => ?_)
    clear hKK KK
    (try simp only [Act.put, List.getElem_toArray, List.getElem_cons_zero, List.getElem_cons_succ, List.setIfInBounds_toArray, List.set_cons_zero, List.set_cons_succ])
    refine wpAnyF_take (i := 6) (v := ?_) (by kernel_rfl) (by kernel_rfl) rfl (by kernel_rfl) (by kernel_rfl) (by kernel_rfl) (fun _ _ _ h => h) (Or.inl ⟨by rfl, ?_⟩) (by assumption) ?_
    rotate_left
    · intro w' hSw; (try dsimp only at hSw); clear hSw; go_simp; (try with_reducible rfl)
    (try simp only [Act.put, List.getElem_toArray, List.getElem_cons_zero, List.getElem_cons_succ, List.setIfInBounds_toArray, List.set_cons_zero, List.set_cons_succ])
    refine wpAnyF_ready (rs := [7]) (by kernel_rfl) (by simp) ?_
    refine AllReadyF.cons rfl (fun KK hKK => ?_) AllReadyF.nil
    go_simp
    ((with_reducible refine (HNT.out _ HA5.out.1.below).mono ?_); rintro e' w7 ⟨rfl, hbb⟩; have HA7 := hi (And.intro (HA5.out.1.later hbb) (HA5.out.2.below hbb)); clear hbb)
    (try go_simp)
    refine hKK.out _ _ HA7.out.1.held (fun hHeld => ?_)
    clear hKK KK
    (try simp only [Act.put, List.getElem_toArray, List.getElem_cons_zero, List.getElem_cons_succ, List.setIfInBounds_toArray, List.set_cons_zero, List.set_cons_succ])
    refine wpAnyF_take (i := 8) (v := ?_) (by kernel_rfl) (by kernel_rfl) rfl (by kernel_rfl) (by kernel_rfl) (by kernel_rfl) (fun _ _ _ h => h) (Or.inl ⟨by rfl, ?_⟩) (by assumption) ?_
    rotate_left
    · intro w' hSw; (try dsimp only at hSw); clear hSw; go_simp; (try with_reducible rfl)
    (try simp only [Act.put, List.getElem_toArray, List.getElem_cons_zero, List.getElem_cons_succ, List.setIfInBounds_toArray, List.set_cons_zero, List.set_cons_succ])
    refine wpAnyF_take (i := 9) (v := ?_) (by kernel_rfl) (by kernel_rfl) rfl (by kernel_rfl) (by kernel_rfl) (by kernel_rfl) (fun _ _ _ h => h) (Or.inl ⟨by rfl, ?_⟩) (by assumption) ?_
    rotate_left
    · intro w' hSw; (try dsimp only at hSw); clear hSw; go_simp; (try with_reducible rfl)
    (try simp only [Act.put, List.getElem_toArray, List.getElem_cons_zero, List.getElem_cons_succ, List.setIfInBounds_toArray, List.set_cons_zero, List.set_cons_succ])
    refine wpAnyF_take (i := 10) (v := ?_) (by kernel_rfl) (by kernel_rfl) rfl (by kernel_rfl) (by kernel_rfl) (by kernel_rfl) (fun _ _ _ h => h) (Or.inl ⟨by rfl, ?_⟩) (by assumption) ?_
    rotate_left
    · intro w' hSw; (try dsimp only at hSw); clear hSw; go_simp; (try with_reducible rfl)
    (try simp only [Act.put, List.getElem_toArray, List.getElem_cons_zero, List.getElem_cons_succ, List.setIfInBounds_toArray, List.set_cons_zero, List.set_cons_succ])
    refine wpAnyF_ready (rs := [12]) (by kernel_rfl) (by simp) ?_
    refine AllReadyF.cons rfl (fun KK hKK => ?_) AllReadyF.nil
    obtain ⟨m0, m1⟩ := CB.two HA7.out.2
    have mf := HA7.out.2.frozen
    have mz := HA7.out.2.lt
    go_simp
    have HLA := hi (And.intro (HA7.out.1.set2 (M := w.heap.size + 1 + 1) (Nat.le_refl _) (.int .i64 (q : Int)) (.int .i64 8)) (HA7.out.2.set2 (.int .i64 (q : Int)) (.int .i64 8)))
    refine hKK.out _ _ HLA.out.1.held (fun hHeld => ?_)
    clear hKK KK
    (try simp only [Act.put, List.getElem_toArray, List.getElem_cons_zero, List.getElem_cons_succ, List.setIfInBounds_toArray, List.set_cons_zero, List.set_cons_succ])
    refine wpAnyF_ready (rs := [13]) (by kernel_rfl) (by simp) ?_
    refine AllReadyF.last (by kernel_rfl) rfl (fun KK hKK => ?_) AllReadyF.nil
    go_simp
    have HL := HLA
    clear m0 m1 mf mz
    refine hKK.out _ _ ?_
    clear hKK KK
    (try simp only [Act.put, List.getElem_toArray, List.getElem_cons_zero, List.getElem_cons_succ, List.setIfInBounds_toArray, List.set_cons_zero, List.set_cons_succ])
    refine wpAnyF_done (by kernel_rfl) ?_ _
    refine NoPanic.normal ?_
    obtain ⟨n0, n1⟩ := CB.two HL.out.2
    go_wp2_with (first
        | (go_at_call 32; ((with_reducible refine (HLD.out _ HL.out.1.below).mono ?_); rintro e wl ⟨rfl, hbb⟩; have HQ := hi (HL.out.1.later hbb); clear hbb n0 n1))
        | (go_at_call 34; ((with_reducible refine (HVD.out _).mono ?_); rintro e wv ⟨rfl, rfl⟩)))
    refine wp_region_noPanic ?_
    refine wp_region_last_drew (S := (fun V => (V.cell? ⟨w.heap.size, 0, none⟩ = some (.int .i64 a) ∧ V.cell? ⟨w.heap.size, 1, none⟩ = some (.int .i64 s) ∧ V.cell? ⟨w.heap.size, 2, none⟩ = some (.int .i64 pg)) ∧ FdB w ⟨a, s, pg⟩ V)) [13, 14] (by kernel_rfl) ((HQ.out.later (below_dr _)).held) (fun hHeld => ?_)
    (try simp only [Array.replicate_succ, Array.replicate_zero, List.push_toArray, List.nil_append, List.cons_append])
    refine wpAnyF_take (i := 0) (v := ?_) (by kernel_rfl) (by kernel_rfl) rfl (by kernel_rfl) (by kernel_rfl) (by kernel_rfl) (fun _ _ _ h => h) (Or.inl ⟨by rfl, ?_⟩) (by assumption) ?_
    rotate_left
    · intro w' hSw; (try dsimp only at hSw); clear hSw; go_simp; (try with_reducible rfl)
    (try simp only [Act.put, List.getElem_toArray, List.getElem_cons_zero, List.getElem_cons_succ, List.setIfInBounds_toArray, List.set_cons_zero, List.set_cons_succ])
    refine wpAnyF_take (i := 1) (v := ?_) (by kernel_rfl) (by kernel_rfl) rfl (by kernel_rfl) (by kernel_rfl) (by kernel_rfl) (fun _ _ _ h => h) (Or.inl ⟨by rfl, ?_⟩) (by assumption) ?_
    rotate_left
    · intro w' hSw; (try dsimp only at hSw); clear hSw; go_simp; (try with_reducible rfl)
    (try simp only [Act.put, List.getElem_toArray, List.getElem_cons_zero, List.getElem_cons_succ, List.setIfInBounds_toArray, List.set_cons_zero, List.set_cons_succ])
    refine wpAnyF_take (i := 3) (v := ?_) (by kernel_rfl) (by kernel_rfl) rfl (by kernel_rfl) (by kernel_rfl) (by kernel_rfl) (fun _ _ _ h => h) (Or.inl ⟨by rfl, ?_⟩) (by assumption) ?_
    rotate_left
    · intro w' hSw; (try dsimp only at hSw); clear hSw; go_simp; (try with_reducible rfl)
    (try simp only [Act.put, List.getElem_toArray, List.getElem_cons_zero, List.getElem_cons_succ, List.setIfInBounds_toArray, List.set_cons_zero, List.set_cons_succ])
    refine wpAnyF_take (i := 4) (v := ?_) (by kernel_rfl) (by kernel_rfl) rfl (by kernel_rfl) (by kernel_rfl) (by kernel_rfl) (fun _ _ _ h => h) (Or.inl ⟨by rfl, ?_⟩) (by assumption) ?_
    rotate_left
    · intro w' hSw; (try dsimp only at hSw); have hq := hSw.1; clear hSw; obtain ⟨a0, a1, a2⟩ := hq; go_simp; (try with_reducible rfl)
    (try simp only [Act.put, List.getElem_toArray, List.getElem_cons_zero, List.getElem_cons_succ, List.setIfInBounds_toArray, List.set_cons_zero, List.set_cons_succ])
    refine wpAnyF_take (i := 6) (v := ?_) (by kernel_rfl) (by kernel_rfl) rfl (by kernel_rfl) (by kernel_rfl) (by kernel_rfl) (fun _ _ _ h => h) (Or.inl ⟨by rfl, ?_⟩) (by assumption) ?_
    rotate_left
    · intro w' hSw; (try dsimp only at hSw); clear hSw; go_simp; (try with_reducible rfl)
    (try simp only [Act.put, List.getElem_toArray, List.getElem_cons_zero, List.getElem_cons_succ, List.setIfInBounds_toArray, List.set_cons_zero, List.set_cons_succ])
    refine wpAnyF_take (i := 7) (v := ?_) (by kernel_rfl) (by kernel_rfl) rfl (by kernel_rfl) (by kernel_rfl) (by kernel_rfl) (fun _ _ _ h => h) (Or.inl ⟨by rfl, ?_⟩) (by assumption) ?_
    rotate_left
    · intro w' hSw; (try dsimp only at hSw); have hq := hSw.1; clear hSw; obtain ⟨a0, a1, a2⟩ := hq; go_simp; (try with_reducible rfl)
    (try simp only [Act.put, List.getElem_toArray, List.getElem_cons_zero, List.getElem_cons_succ, List.setIfInBounds_toArray, List.set_cons_zero, List.set_cons_succ])
    refine wpAnyF_ready (rs := [2]) (by kernel_rfl) (by simp) ?_
    refine AllReadyF.cons rfl (fun KK hKK => ?_) AllReadyF.nil
    go_simp
    ((with_reducible refine (HIN.out _).mono ?_); rintro e' x2 ⟨rfl, hbb⟩; have G2 := hi ((HQ.out.later (below_dr _)).later hbb); clear hbb)
    (try go_simp)
    refine hKK.out _ _ G2.out.held (fun hHeld => ?_)
    clear hKK KK
    (try simp only [Act.put, List.getElem_toArray, List.getElem_cons_zero, List.getElem_cons_succ, List.setIfInBounds_toArray, List.set_cons_zero, List.set_cons_succ])
    refine wpAnyF_take (i := 5) (v := ?_) (by kernel_rfl) (by kernel_rfl) rfl (by kernel_rfl) (by kernel_rfl) (by kernel_rfl) (fun _ _ _ h => h) (Or.inl ⟨by rfl, ?_⟩) (by assumption) ?_
    rotate_left
    · intro w' hSw; (try dsimp only at hSw); clear hSw; go_simp; (try with_reducible rfl)
    (try simp only [Act.put, List.getElem_toArray, List.getElem_cons_zero, List.getElem_cons_succ, List.setIfInBounds_toArray, List.set_cons_zero, List.set_cons_succ])
    refine wpAnyF_ready (rs := [8]) (by kernel_rfl) (by simp) ?_
    refine AllReadyF.cons rfl (fun KK hKK => ?_) AllReadyF.nil
    go_simp
    ((with_reducible refine (HPR.out _).mono ?_); rintro e' x8 ⟨rfl, hbb⟩; have G8 := hi (G2.out.later hbb); clear hbb)
    (try go_simp)
    refine hKK.out _ _ G8.out.held (fun hHeld => ?_)
    clear hKK KK
    (try simp only [Act.put, List.getElem_toArray, List.getElem_cons_zero, List.getElem_cons_succ, List.setIfInBounds_toArray, List.set_cons_zero, List.set_cons_succ])
    refine wpAnyF_take (i := 9) (v := ?_) (by kernel_rfl) (by kernel_rfl) rfl (by kernel_rfl) (by kernel_rfl) (by kernel_rfl) (fun _ _ _ h => h) (Or.inl ⟨by rfl, ?_⟩) (by assumption) ?_
    rotate_left
    · intro w' hSw; (try dsimp only at hSw); clear hSw; go_simp; (try with_reducible rfl)
    (try simp only [Act.put, List.getElem_toArray, List.getElem_cons_zero, List.getElem_cons_succ, List.setIfInBounds_toArray, List.set_cons_zero, List.set_cons_succ])
    refine wpAnyF_ready (rs := [10]) (by kernel_rfl) (by simp) ?_
    refine AllReadyF.cons rfl (fun KK hKK => ?_) AllReadyF.nil
    go_simp
    ((with_reducible refine (HN3.out _ G8.out.below).mono ?_); rintro e' xa ⟨rfl, hbb⟩; have GA := hi (G8.out.later hbb); clear hbb)
    (try go_simp)
    refine hKK.out _ _ GA.out.held (fun hHeld => ?_)
    clear hKK KK
    (try simp only [Act.put, List.getElem_toArray, List.getElem_cons_zero, List.getElem_cons_succ, List.setIfInBounds_toArray, List.set_cons_zero, List.set_cons_succ])
    refine wpAnyF_take (i := 11) (v := ?_) (by kernel_rfl) (by kernel_rfl) rfl (by kernel_rfl) (by kernel_rfl) (by kernel_rfl) (fun _ _ _ h => h) (Or.inl ⟨by rfl, ?_⟩) (by assumption) ?_
    rotate_left
    · intro w' hSw; (try dsimp only at hSw); clear hSw; go_simp; (try with_reducible rfl)
    (try simp only [Act.put, List.getElem_toArray, List.getElem_cons_zero, List.getElem_cons_succ, List.setIfInBounds_toArray, List.set_cons_zero, List.set_cons_succ])
    refine wpAnyF_take (i := 12) (v := ?_) (by kernel_rfl) (by kernel_rfl) rfl (by kernel_rfl) (by kernel_rfl) (by kernel_rfl) (fun _ _ _ h => h) (Or.inl ⟨by rfl, ?_⟩) (by assumption) ?_
    rotate_left
    · intro w' hSw; (try dsimp only at hSw); clear hSw; go_simp; (try with_reducible rfl)
    (try simp only [Act.put, List.getElem_toArray, List.getElem_cons_zero, List.getElem_cons_succ, List.setIfInBounds_toArray, List.set_cons_zero, List.set_cons_succ])
    refine wpAnyF_ready (rs := [13]) (by kernel_rfl) (by simp) ?_
    refine AllReadyF.last (by kernel_rfl) rfl (fun KK hKK => ?_) AllReadyF.nil
    obtain ⟨q0, q1⟩ := CB.two GA.out.r
    have qf := GA.out.r.frozen
    have hz := GA.out.r.lt
    go_simp
    refine hKK.out _ _ ?_
    clear hKK KK
    (try simp only [Act.put, List.getElem_toArray, List.getElem_cons_zero, List.getElem_cons_succ, List.setIfInBounds_toArray, List.set_cons_zero, List.set_cons_succ])
    refine wpAnyF_ready (rs := [14]) (by kernel_rfl) (by simp) ?_
    refine AllReadyF.last (by kernel_rfl) rfl (fun KK hKK => ?_) AllReadyF.nil
    go_simp
    refine hKK.out _ _ ?_
    clear hKK KK
    (try simp only [Act.put, List.getElem_toArray, List.getElem_cons_zero, List.getElem_cons_succ, List.setIfInBounds_toArray, List.set_cons_zero, List.set_cons_succ])
    refine wpAnyF_done (by kernel_rfl) ?_ _
    refine NoPanic.normal ?_
    go_wp2
    exact bodyPost_ret (results_wt rfl _ _ (w.heap.size + 1) _ _ _ rfl rfl (GA.out.r.set2 _ _)) rfl ⟨rfl, below_s2 GA.out.below (by omega) _ _⟩

theorem find_any (p g cap : Nat) (bs : List Nat) (t : Tb) (hF : t.Fair) (id : Int) (w : World) (hM : MemAt 89 w p g cap bs) (hp : t.page = 0 ∨ (8 ≤ t.page ∧ t.page ≤ 131072)) :
    Calls Try.prog 49 #[t.v, .pointer (some ⟨p, 0, none⟩), .int .i64 id] w fun e w' => e = .returned (ptV (findP bs t id)) ∧ Below w.heap.size w w' := by
  by_cases h0 : t.page = 0
  · exact find_flat p g cap bs t hF id w hM h0
  have hpg : 8 ≤ t.page ∧ t.page ≤ 131072 := by omega
  obtain ⟨hn1, hn2⟩ := perN_pos hpg.1 hpg.2
  by_cases h1 : 0 ≤ id ∧ id < 131072
  · have hnu : nuB id = true := by simpa [nuB] using h1
    have hx : IntKind.i64.wrap (id.tdiv (perN t)) = id.tdiv (perN t) := (tdiv_i64 ⟨by omega, by omega⟩ _ (by omega)).1
    have HP := fun W => per_any t hF.p W
    have HN := fun W (hb : Below w.heap.size w W) => nth_pt p g cap bs t.at_ t.size (id.tdiv (perN t)) W (hM.below hb) hF.a hF.s
    have hfp : findP bs t id = match nthP bs.length t.at_ t.size (id.tdiv (perN t)) with
      | none => none
      | some q => if 9223372036854775808 ≤ w8 bs q then nthP bs.length ((w8 bs q % 4294967296 : Nat) : Int) t.page (id.tmod (perN t)) else none := by rw [findP, if_neg h0, if_pos h1]; rfl
    cases ho : nthP bs.length t.at_ t.size (id.tdiv (perN t)) with
    | none =>
      rw [ho] at HN hfp
      rw [hfp]
      exact find_none p g cap bs t id w h0 hnu (perN t) _ hn1 hx HP HN
    | some q =>
      rw [ho] at HN hfp
      dsimp only at hfp
      have hql := (nthP_some ho).2.2
      have hv := w8_lt (o := q) hM.bytes.2
      have HL := fun W (hb : Below w.heap.size w W) => load_any p g cap bs q q rfl hql W (hM.below hb)
      by_cases hval : 9223372036854775808 ≤ w8 bs q
      · rw [if_pos hval] at hfp
        rw [hfp]
        have HI : ∀ W, Calls Try.prog 35 #[.int .i64 0, .int .u64 (w8 bs q)] W fun e w' => e = .returned (.int .i64 ((w8 bs q % 4294967296 : Nat) : Int)) ∧ Below W.heap.size W w' := fun W => by
          have := fin_any 0 (w8 bs q) (by decide) hv W
          rwa [show inN 0 (w8 bs q) = w8 bs q % 4294967296 by simp [inN, fF, fB]] at this
        exact find_yes p g cap bs t id w h0 hnu (perN t) _ _ _ hn1 hx rfl q (w8 bs q) _ HP HN HL (fun W => valid_yes _ hv hval W) HI (fun W hb => nth_pt p g cap bs _ t.page _ W (hM.below hb) ⟨by omega, by omega⟩ hF.p)
      · rw [if_neg hval] at hfp
        rw [hfp]
        exact find_inv p g cap bs t id w h0 hnu (perN t) _ hn1 hx q (w8 bs q) HP HN HL (fun W => valid_no _ hv hval W)
  · have hnu : nuB id = false := by simpa [nuB] using h1
    have hfp : findP bs t id = none := by rw [findP, if_neg h0, if_neg h1]
    rw [hfp]
    exact find_out p g cap bs t id w h0 hnu

end Go.Proofs.Ytjcjblmaceooaaa
