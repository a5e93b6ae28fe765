import Derived.Test.YtggeakkofcaklaaGreatMg09
namespace Go.Proofs.YtggeakkofcaklaaGreat
open Go.ChangeShapes Go.WideShapes Go.ChangeAt Go.RowKit
set_option linter.unusedVariables false
theorem shr_one_bit (x : Nat) (hx : x < 18446744073709551616) : bits .and .u64 ((x : Int) / 2) 1 = ((if x.testBit 1 then 1 else 0 : Nat) : Int) := by
  have := and_one x 1 hx
  simpa using this
structure ThL (w : World) (l m : Ln) (W : World) : Prop where
  a : CB W w.heap.size 58 l.ca
  z : CB W (w.heap.size + 1) 58 Ln.zero.ca
  o : CB W (w.heap.size + 2) 58 m.ca
  below : Below w.heap.size w W
theorem ThL.new (w : World) (l : Ln) : ThL w l l (((w.alloc (.cells l.ca 58)).alloc (.cells Ln.zero.ca 58)).alloc (.cells l.ca 58)) :=
  ⟨((CB.new w _ _).alloc _).alloc _, cb_mid, by have := CB.new ((w.alloc (.cells l.ca 58)).alloc (.cells Ln.zero.ca 58)) 58 l.ca; simpa using this, bal_three w _ _ _⟩
theorem ThL.later {w W W' : World} {l m : Ln} (h : ThL w l m W) (k : Below W.heap.size W W') : ThL w l m W' := ⟨h.a.below k, h.z.below k, h.o.below k, h.below.trans (k.mono h.below.size)⟩
theorem ThL.end_ {w W : World} {l m : Ln} (h : ThL w l m W) (x : St) : CB (setL (setI W (w.heap.size + 2) 0 x) (w.heap.size + 1) 0 { m with st := x }) (w.heap.size + 1) 58 (Ln.ca { m with st := x }) ∧ Below w.heap.size w (setL (setI W (w.heap.size + 2) 0 x) (w.heap.size + 1) 0 { m with st := x }) :=
  ⟨(h.z.otherI (by omega) x).putL _, below_putL (below_putI h.below (by omega) x) (by omega) _⟩
set_option maxHeartbeats 2000000 in
theorem rchg_group (id : Int) (l : Ln) (x : Nat) (w : World) (hx : x < 9223372036854775808) : Calls Tryz.prog 128 #[.int .i64 id, l.v, .int .i64 4, .int .u64 x] w fun e w' => e = .returned ({ l with g := (x : Int) } : Ln).v ∧ Below w.heap.size w w' := by
  obtain ⟨⟨e, lb, q, a⟩, en, g, p⟩ := l
  dsimp only [Ln.v]
  by_cases h1 : x = 1
  · subst h1
    go_enter Tryz.func128, Tryz.ntmps128
    go_wp2
    exact bodyPost_ret (results_ln rfl _ _ (w.heap.size + 1) ⟨⟨e, lb, q, a⟩, en, 1, p⟩ rfl cb_mid) rfl ⟨rfl, bal_three _ _ _ _⟩
  · have hw : IntKind.i64.wrap (x : Int) = x := by rw [IntKind.wrap_i64]; omega
    have hq : ((x : Int) == 1) = false := by simp; omega
    go_enter Tryz.func128, Tryz.ntmps128
    go_wp2
    exact bodyPost_ret (results_ln rfl _ _ (w.heap.size + 1) ⟨⟨e, lb, q, a⟩, en, (x : Int), p⟩ rfl cb_mid) rfl ⟨rfl, bal_three _ _ _ _⟩
set_option maxHeartbeats 2000000 in
theorem rchg_prio (id : Int) (l : Ln) (x : Nat) (w : World) (hx : x < 9223372036854775808) : Calls Tryz.prog 128 #[.int .i64 id, l.v, .int .i64 11, .int .u64 x] w fun e w' => e = .returned ({ l with p := realV x } : Ln).v ∧ Below w.heap.size w w' := by
  have hw : IntKind.i64.wrap (x : Int) = x := by rw [IntKind.wrap_i64]; omega
  have HR := hi (fun W => refReal_any x W)
  obtain ⟨p2, hp2⟩ : ∃ p2, realV x = p2 := ⟨_, rfl⟩
  rw [hp2] at HR ⊢
  clear hp2
  obtain ⟨⟨e, lb, q, a⟩, en, g, p⟩ := l
  dsimp only [Ln.v]
  go_enter Tryz.func128, Tryz.ntmps128
  go_wp2_with (go_at_call 141; ((with_reducible refine (HR.out _).mono ?_); rintro e' w1 ⟨rfl, rfl⟩))
  all_goals
    exact bodyPost_ret (results_ln rfl _ _ (w.heap.size + 1) ⟨⟨e, lb, q, a⟩, en, g, p2⟩ rfl cb_mid) rfl ⟨rfl, bal_three _ _ _ _⟩
set_option maxHeartbeats 2000000 in
theorem rchg_en (id : Int) (l : Ln) (r : Int) (x : Nat) (w : World) (hr : r = 5 ∨ r = 6) (hx : x < 9223372036854775808) : Calls Tryz.prog 128 #[.int .i64 id, l.v, .int .i64 r, .int .u64 x] w fun e w' => e = .returned (if x = 1 then { l with en := decide (r = 5) } else l : Ln).v ∧ Below w.heap.size w w' := by
  obtain ⟨⟨e, lb, q, a⟩, en, g, p⟩ := l
  by_cases h1 : x = 1
  · subst h1
    rw [if_pos rfl]
    rcases hr with rfl | rfl
    · dsimp only [Ln.v]
      go_enter Tryz.func128, Tryz.ntmps128
      go_wp2
      exact bodyPost_ret (results_ln rfl _ _ (w.heap.size + 1) ⟨⟨e, lb, q, a⟩, true, g, p⟩ rfl cb_mid) rfl ⟨rfl, bal_three _ _ _ _⟩
    · dsimp only [Ln.v]
      go_enter Tryz.func128, Tryz.ntmps128
      go_wp2
      exact bodyPost_ret (results_ln rfl _ _ (w.heap.size + 1) ⟨⟨e, lb, q, a⟩, false, g, p⟩ rfl cb_mid) rfl ⟨rfl, bal_three _ _ _ _⟩
  · rw [if_neg h1]
    have hq : ((x : Int) == 1) = false := by simp; omega
    clear h1
    dsimp only [Ln.v]
    rcases hr with rfl | rfl
    all_goals
      go_enter Tryz.func128, Tryz.ntmps128
      go_wp2
      exact bodyPost_ret (results_ln rfl _ _ (w.heap.size + 1) ⟨⟨e, lb, q, a⟩, en, g, p⟩ rfl cb_mid) rfl ⟨rfl, bal_three _ _ _ _⟩
set_option maxRecDepth 100000 in
set_option maxHeartbeats 4000000 in
theorem rchg_cfg (id : Int) (l : Ln) (x : Nat) (w : World) (hx : x < 9223372036854775808) : Calls Tryz.prog 128 #[.int .i64 id, l.v, .int .i64 12, .int .u64 x] w fun e w' => e = .returned ({ l with st := l.st.step (trigV id x) } : Ln).v ∧ Below w.heap.size w w' := by
  have h := shr_one_bit x (by omega)
  by_cases hid : id < 16
  · have ht : trigV id x = 0 := by simp [trigV, hid]
    rw [ht, show l.st.step 0 = l.st from step_odd (by decide)]
    have hd : decide (16 ≤ id) = false := by simp; omega
    clear ht hid
    obtain ⟨⟨e, lb, q, a⟩, en, g, p⟩ := l
    dsimp only [Ln.v]
    cases hb : x.testBit 1
    all_goals
      rw [hb] at h
      simp only [Bool.false_eq_true, if_false, if_true, Int.cast_ofNat_Int] at h
      clear hb
      go_enter Tryz.func128, Tryz.ntmps128
      go_wp2
      all_goals
        exact bodyPost_ret (results_ln rfl _ _ (w.heap.size + 1) ⟨⟨e, lb, q, a⟩, en, g, p⟩ rfl cb_mid) rfl ⟨rfl, bal_three _ _ _ _⟩
  · have hd : decide (16 ≤ id) = true := by simp; omega
    cases hb : x.testBit 1
    · have HS := hi (fun W => rstep_any l.st 9 W)
      rw [show trigV id x = 9 by simp [trigV, hid, hb]]
      obtain ⟨y, hy⟩ : ∃ y, l.st.step 9 = y := ⟨_, rfl⟩
      rw [hy] at HS ⊢
      rw [hb] at h
      simp only [Bool.false_eq_true, if_false, Int.cast_ofNat_Int] at h
      clear hb hid hy
      obtain ⟨⟨e, lb, q, a⟩, en, g, p⟩ := l
      obtain ⟨ye, yl, yh, ya⟩ := y
      have HT := hi (ThL.new w ⟨⟨e, lb, q, a⟩, en, g, p⟩)
      dsimp only [Ln.v, St.v, Ln.zero, St.zero] at HS HT ⊢
      go_enter Tryz.func128, Tryz.ntmps128
      go_wp2_with (go_at_call 103; ((with_reducible refine (HS.out _).mono ?_); rintro e' w2 ⟨rfl, hb⟩; have HT2 := hi (HT.out.later hb); obtain ⟨d0, d1, d2, d3, d4, d5, d6⟩ := CB.cells7 (l := ⟨⟨e, lb, q, a⟩, en, g, p⟩) HT2.out.o; have fo := HT2.out.o.frozen; obtain ⟨z0, z1, z2, z3, z4, z5, z6⟩ := CB.cells7 (l := Ln.zero) HT2.out.z; have fz := HT2.out.z.frozen; dsimp only [Ln.zero, St.zero] at d0 d1 d2 d3 d4 d5 d6 z0 z1 z2 z3 z4 z5 z6; clear hb))
      all_goals
        obtain ⟨hcb, hbl⟩ := HT2.out.end_ ⟨ye, yl, yh, ya⟩
        exact bodyPost_ret (results_ln rfl _ _ (w.heap.size + 1) ⟨⟨ye, yl, yh, ya⟩, en, g, p⟩ rfl hcb) rfl ⟨rfl, hbl⟩
    · have HS := hi (fun W => rstep_any l.st 8 W)
      rw [show trigV id x = 8 by simp [trigV, hid, hb]]
      obtain ⟨y, hy⟩ : ∃ y, l.st.step 8 = y := ⟨_, rfl⟩
      rw [hy] at HS ⊢
      rw [hb] at h
      simp only [if_true, Int.cast_ofNat_Int] at h
      clear hb hid hy
      obtain ⟨⟨e, lb, q, a⟩, en, g, p⟩ := l
      obtain ⟨ye, yl, yh, ya⟩ := y
      have HT := hi (ThL.new w ⟨⟨e, lb, q, a⟩, en, g, p⟩)
      dsimp only [Ln.v, St.v, Ln.zero, St.zero] at HS HT ⊢
      go_enter Tryz.func128, Tryz.ntmps128
      go_wp2_with (go_at_call 103; ((with_reducible refine (HS.out _).mono ?_); rintro e' w2 ⟨rfl, hb⟩; have HT2 := hi (HT.out.later hb); obtain ⟨d0, d1, d2, d3, d4, d5, d6⟩ := CB.cells7 (l := ⟨⟨e, lb, q, a⟩, en, g, p⟩) HT2.out.o; have fo := HT2.out.o.frozen; obtain ⟨z0, z1, z2, z3, z4, z5, z6⟩ := CB.cells7 (l := Ln.zero) HT2.out.z; have fz := HT2.out.z.frozen; dsimp only [Ln.zero, St.zero] at d0 d1 d2 d3 d4 d5 d6 z0 z1 z2 z3 z4 z5 z6; clear hb))
      all_goals
        obtain ⟨hcb, hbl⟩ := HT2.out.end_ ⟨ye, yl, yh, ya⟩
        exact bodyPost_ret (results_ln rfl _ _ (w.heap.size + 1) ⟨⟨ye, yl, yh, ya⟩, en, g, p⟩ rfl hcb) rfl ⟨rfl, hbl⟩
set_option maxRecDepth 100000 in
set_option maxHeartbeats 4000000 in
theorem rchg_act7 (id : Int) (l : Ln) (w : World) : Calls Tryz.prog 128 #[.int .i64 id, l.v, .int .i64 7, .int .u64 1] w fun e w' => e = .returned ({ l with st := l.st.step 3 } : Ln).v ∧ Below w.heap.size w w' := by
  have HS := hi (fun W => rstep_any l.st 3 W)
  obtain ⟨y, hy⟩ : ∃ y, l.st.step 3 = y := ⟨_, rfl⟩
  rw [hy] at HS ⊢
  clear hy
  obtain ⟨⟨e, lb, q, a⟩, en, g, p⟩ := l
  obtain ⟨ye, yl, yh, ya⟩ := y
  have HT := hi (ThL.new w ⟨⟨e, lb, q, a⟩, en, g, p⟩)
  dsimp only [Ln.v, St.v, Ln.zero, St.zero] at HS HT ⊢
  go_enter Tryz.func128, Tryz.ntmps128
  go_wp2_with (go_at_call 103; ((with_reducible refine (HS.out _).mono ?_); rintro e' w2 ⟨rfl, hb⟩; have HT2 := hi (HT.out.later hb); obtain ⟨d0, d1, d2, d3, d4, d5, d6⟩ := CB.cells7 (l := ⟨⟨e, lb, q, a⟩, en, g, p⟩) HT2.out.o; have fo := HT2.out.o.frozen; obtain ⟨z0, z1, z2, z3, z4, z5, z6⟩ := CB.cells7 (l := Ln.zero) HT2.out.z; have fz := HT2.out.z.frozen; dsimp only [Ln.zero, St.zero] at d0 d1 d2 d3 d4 d5 d6 z0 z1 z2 z3 z4 z5 z6; clear hb))
  all_goals
    obtain ⟨hcb, hbl⟩ := HT2.out.end_ ⟨ye, yl, yh, ya⟩
    exact bodyPost_ret (results_ln rfl _ _ (w.heap.size + 1) ⟨⟨ye, yl, yh, ya⟩, en, g, p⟩ rfl hcb) rfl ⟨rfl, hbl⟩
set_option maxRecDepth 100000 in
set_option maxHeartbeats 4000000 in
theorem rchg_act8 (id : Int) (l : Ln) (w : World) : Calls Tryz.prog 128 #[.int .i64 id, l.v, .int .i64 8, .int .u64 1] w fun e w' => e = .returned ({ l with st := l.st.step 4 } : Ln).v ∧ Below w.heap.size w w' := by
  have HS := hi (fun W => rstep_any l.st 4 W)
  obtain ⟨y, hy⟩ : ∃ y, l.st.step 4 = y := ⟨_, rfl⟩
  rw [hy] at HS ⊢
  clear hy
  obtain ⟨⟨e, lb, q, a⟩, en, g, p⟩ := l
  obtain ⟨ye, yl, yh, ya⟩ := y
  have HT := hi (ThL.new w ⟨⟨e, lb, q, a⟩, en, g, p⟩)
  dsimp only [Ln.v, St.v, Ln.zero, St.zero] at HS HT ⊢
  go_enter Tryz.func128, Tryz.ntmps128
  go_wp2_with (go_at_call 103; ((with_reducible refine (HS.out _).mono ?_); rintro e' w2 ⟨rfl, hb⟩; have HT2 := hi (HT.out.later hb); obtain ⟨d0, d1, d2, d3, d4, d5, d6⟩ := CB.cells7 (l := ⟨⟨e, lb, q, a⟩, en, g, p⟩) HT2.out.o; have fo := HT2.out.o.frozen; obtain ⟨z0, z1, z2, z3, z4, z5, z6⟩ := CB.cells7 (l := Ln.zero) HT2.out.z; have fz := HT2.out.z.frozen; dsimp only [Ln.zero, St.zero] at d0 d1 d2 d3 d4 d5 d6 z0 z1 z2 z3 z4 z5 z6; clear hb))
  all_goals
    obtain ⟨hcb, hbl⟩ := HT2.out.end_ ⟨ye, yl, yh, ya⟩
    exact bodyPost_ret (results_ln rfl _ _ (w.heap.size + 1) ⟨⟨ye, yl, yh, ya⟩, en, g, p⟩ rfl hcb) rfl ⟨rfl, hbl⟩
set_option maxRecDepth 100000 in
set_option maxHeartbeats 4000000 in
theorem rchg_act9 (id : Int) (l : Ln) (w : World) : Calls Tryz.prog 128 #[.int .i64 id, l.v, .int .i64 9, .int .u64 1] w fun e w' => e = .returned ({ l with st := l.st.step 7 } : Ln).v ∧ Below w.heap.size w w' := by
  have HS := hi (fun W => rstep_any l.st 7 W)
  obtain ⟨y, hy⟩ : ∃ y, l.st.step 7 = y := ⟨_, rfl⟩
  rw [hy] at HS ⊢
  clear hy
  obtain ⟨⟨e, lb, q, a⟩, en, g, p⟩ := l
  obtain ⟨ye, yl, yh, ya⟩ := y
  have HT := hi (ThL.new w ⟨⟨e, lb, q, a⟩, en, g, p⟩)
  dsimp only [Ln.v, St.v, Ln.zero, St.zero] at HS HT ⊢
  go_enter Tryz.func128, Tryz.ntmps128
  go_wp2_with (go_at_call 103; ((with_reducible refine (HS.out _).mono ?_); rintro e' w2 ⟨rfl, hb⟩; have HT2 := hi (HT.out.later hb); obtain ⟨d0, d1, d2, d3, d4, d5, d6⟩ := CB.cells7 (l := ⟨⟨e, lb, q, a⟩, en, g, p⟩) HT2.out.o; have fo := HT2.out.o.frozen; obtain ⟨z0, z1, z2, z3, z4, z5, z6⟩ := CB.cells7 (l := Ln.zero) HT2.out.z; have fz := HT2.out.z.frozen; dsimp only [Ln.zero, St.zero] at d0 d1 d2 d3 d4 d5 d6 z0 z1 z2 z3 z4 z5 z6; clear hb))
  all_goals
    obtain ⟨hcb, hbl⟩ := HT2.out.end_ ⟨ye, yl, yh, ya⟩
    exact bodyPost_ret (results_ln rfl _ _ (w.heap.size + 1) ⟨⟨ye, yl, yh, ya⟩, en, g, p⟩ rfl hcb) rfl ⟨rfl, hbl⟩
set_option maxRecDepth 100000 in
set_option maxHeartbeats 4000000 in
theorem rchg_act10 (id : Int) (l : Ln) (w : World) : Calls Tryz.prog 128 #[.int .i64 id, l.v, .int .i64 10, .int .u64 1] w fun e w' => e = .returned ({ l with st := l.st.step 6 } : Ln).v ∧ Below w.heap.size w w' := by
  have HS := hi (fun W => rstep_any l.st 6 W)
  obtain ⟨y, hy⟩ : ∃ y, l.st.step 6 = y := ⟨_, rfl⟩
  rw [hy] at HS ⊢
  clear hy
  obtain ⟨⟨e, lb, q, a⟩, en, g, p⟩ := l
  obtain ⟨ye, yl, yh, ya⟩ := y
  have HT := hi (ThL.new w ⟨⟨e, lb, q, a⟩, en, g, p⟩)
  dsimp only [Ln.v, St.v, Ln.zero, St.zero] at HS HT ⊢
  go_enter Tryz.func128, Tryz.ntmps128
  go_wp2_with (go_at_call 103; ((with_reducible refine (HS.out _).mono ?_); rintro e' w2 ⟨rfl, hb⟩; have HT2 := hi (HT.out.later hb); obtain ⟨d0, d1, d2, d3, d4, d5, d6⟩ := CB.cells7 (l := ⟨⟨e, lb, q, a⟩, en, g, p⟩) HT2.out.o; have fo := HT2.out.o.frozen; obtain ⟨z0, z1, z2, z3, z4, z5, z6⟩ := CB.cells7 (l := Ln.zero) HT2.out.z; have fz := HT2.out.z.frozen; dsimp only [Ln.zero, St.zero] at d0 d1 d2 d3 d4 d5 d6 z0 z1 z2 z3 z4 z5 z6; clear hb))
  all_goals
    obtain ⟨hcb, hbl⟩ := HT2.out.end_ ⟨ye, yl, yh, ya⟩
    exact bodyPost_ret (results_ln rfl _ _ (w.heap.size + 1) ⟨⟨ye, yl, yh, ya⟩, en, g, p⟩ rfl hcb) rfl ⟨rfl, hbl⟩
set_option maxHeartbeats 4000000 in
theorem rchg_odd (id : Int) (l : Ln) (r : Int) (x : Nat) (w : World) (h4 : r ≠ 4) (h5 : r ≠ 5) (h6 : r ≠ 6) (h7 : r ≠ 7) (h8 : r ≠ 8) (h9 : r ≠ 9) (h10 : r ≠ 10) (h11 : r ≠ 11) (h12 : r ≠ 12) : Calls Tryz.prog 128 #[.int .i64 id, l.v, .int .i64 r, .int .u64 x] w fun e w' => e = .returned (l : Ln).v ∧ Below w.heap.size w w' := by
  have q4 : (r == 4) = false := by simpa using h4
  have q5 : (r == 5) = false := by simpa using h5
  have q6 : (r == 6) = false := by simpa using h6
  have q7 : (r == 7) = false := by simpa using h7
  have q8 : (r == 8) = false := by simpa using h8
  have q9 : (r == 9) = false := by simpa using h9
  have q10 : (r == 10) = false := by simpa using h10
  have q11 : (r == 11) = false := by simpa using h11
  have q12 : (r == 12) = false := by simpa using h12
  clear h4 h5 h6 h7 h8 h9 h10 h11 h12
  obtain ⟨⟨e, lb, q, a⟩, en, g, p⟩ := l
  dsimp only [Ln.v]
  go_enter Tryz.func128, Tryz.ntmps128
  go_wp2
  all_goals
    exact bodyPost_ret (results_ln rfl _ _ (w.heap.size + 1) ⟨⟨e, lb, q, a⟩, en, g, p⟩ rfl cb_mid) rfl ⟨rfl, bal_three _ _ _ _⟩
set_option maxHeartbeats 4000000 in
theorem rchg_none (id : Int) (l : Ln) (r : Int) (x : Nat) (w : World) (h4 : r ≠ 4) (h5 : r ≠ 5) (h6 : r ≠ 6) (h11 : r ≠ 11) (h12 : r ≠ 12) (hx : x ≠ 1) : Calls Tryz.prog 128 #[.int .i64 id, l.v, .int .i64 r, .int .u64 x] w fun e w' => e = .returned (l : Ln).v ∧ Below w.heap.size w w' := by
  have q4 : (r == 4) = false := by simpa using h4
  have q5 : (r == 5) = false := by simpa using h5
  have q6 : (r == 6) = false := by simpa using h6
  have q11 : (r == 11) = false := by simpa using h11
  have q12 : (r == 12) = false := by simpa using h12
  have hq : ((x : Int) == 1) = false := by simp; omega
  clear h4 h5 h6 h11 h12 hx
  obtain ⟨⟨e, lb, q, a⟩, en, g, p⟩ := l
  dsimp only [Ln.v]
  go_enter Tryz.func128, Tryz.ntmps128
  go_wp2
  all_goals
    exact bodyPost_ret (results_ln rfl _ _ (w.heap.size + 1) ⟨⟨e, lb, q, a⟩, en, g, p⟩ rfl cb_mid) rfl ⟨rfl, bal_three _ _ _ _⟩
theorem rchanged_any (id : Int) (l : Ln) (r : Int) (x : Nat) (w : World) (hx : x < 9223372036854775808) : Calls Tryz.prog 128 #[.int .i64 id, l.v, .int .i64 r, .int .u64 x] w fun e w' => e = .returned (chgV id l r x : Ln).v ∧ Below w.heap.size w w' := by
  by_cases h4 : r = 4
  · subst h4; rw [show chgV id l 4 x = { l with g := (x : Int) } from rfl]; exact rchg_group id l x w hx
  · by_cases h5 : r = 5 ∨ r = 6
    · rw [show chgV id l r x = if x = 1 then { l with en := decide (r = 5) } else l by rw [chgV, if_neg h4, if_pos h5]]; exact rchg_en id l r x w h5 hx
    · by_cases h11 : r = 11
      · subst h11; rw [show chgV id l 11 x = { l with p := realV x } from rfl]; exact rchg_prio id l x w hx
      · by_cases h12 : r = 12
        · subst h12; rw [show chgV id l 12 x = { l with st := l.st.step (trigV id x) } from rfl]; exact rchg_cfg id l x w hx
        · have h5' : r ≠ 5 := fun e => h5 (.inl e)
          have h6' : r ≠ 6 := fun e => h5 (.inr e)
          by_cases h1 : x = 1
          · subst h1; rw [show chgV id l r 1 = { l with st := l.st.step (actV r) } by rw [chgV, if_neg h4, if_neg h5, if_neg h11, if_neg h12, if_pos rfl]]
            by_cases h7 : r = 7
            · subst h7; exact rchg_act7 id l w
            · by_cases h8 : r = 8
              · subst h8; exact rchg_act8 id l w
              · by_cases h9 : r = 9
                · subst h9; exact rchg_act9 id l w
                · by_cases h10 : r = 10
                  · subst h10; exact rchg_act10 id l w
                  · rw [show actV r = 0 by rw [actV, if_neg h7, if_neg h8, if_neg h9, if_neg h10], show l.st.step 0 = l.st from step_odd (by decide)]
                    exact rchg_odd id l r 1 w h4 h5' h6' h7 h8 h9 h10 h11 h12
          · rw [show chgV id l r x = l by rw [chgV, if_neg h4, if_neg h5, if_neg h11, if_neg h12, if_neg h1]]; exact rchg_none id l r x w h4 h5' h6' h11 h12 h1
end Go.Proofs.YtggeakkofcaklaaGreat
