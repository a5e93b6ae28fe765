import Derived.Test.YtggeakkofcaklaaGreatMg04
namespace Go.Proofs.YtggeakkofcaklaaGreat
open Go.ChangeShapes Go.WideShapes Go.ChangeAt Go.RowKit
set_option linter.unusedVariables false
def trigV (id : Int) (x : Nat) : Int := if id < 16 then 0 else if x.testBit 1 then 8 else 9
def actV (r : Int) : Int := if r = 7 then 3 else if r = 8 then 4 else if r = 9 then 7 else if r = 10 then 6 else 0
def chgV (id : Int) (l : Ln) (r : Int) (x : Nat) : Ln :=
  if r = 4 then { l with g := x } else if r = 5 ∨ r = 6 then (if x = 1 then { l with en := decide (r = 5) } else l) else if r = 11 then { l with p := realV x }
  else if r = 12 then { l with st := l.st.step (trigV id x) } else if x = 1 then { l with st := l.st.step (actV r) } else l
theorem and_two (x : Nat) (hx : x < 18446744073709551616) : (bits .and .u64 (x : Int) 2 != 0) = x.testBit 1 := by
  rw [show (2 : Int) = ((2 : Nat) : Int) from rfl, u64_and_nat _ _ hx (by decide)]
  have e : x &&& 2 = if x.testBit 1 then 2 else 0 := by
    apply Nat.eq_of_testBit_eq
    intro i
    rw [Nat.testBit_and, show (2 : Nat) = 2 ^ 1 from rfl, Nat.testBit_two_pow]
    by_cases h : i = 1
    · subst h; cases x.testBit 1 <;> rfl
    · have : ¬ 1 = i := fun e => h e.symm
      cases x.testBit 1
      · simp [this]
      · rw [if_pos rfl, Nat.testBit_two_pow]; simp [this]
  rw [e]
  cases x.testBit 1 <;> rfl
theorem trigger_any (id : Int) (x : Nat) (w : World) (hx : x < 18446744073709551616) : Calls Tryz.prog 124 #[.int .i64 id, .int .u64 x] w fun e w' => e = .returned (.int .i64 (trigV id x)) ∧ w = w' := by
  have h := and_two x hx
  obtain ⟨b, hb⟩ : ∃ b, x.testBit 1 = b := ⟨_, rfl⟩
  have HB := hi hb
  rw [hb] at h
  clear hb
  cases b
  all_goals
    go_enter Tryz.func124, Tryz.ntmps124
    go_wp2
    all_goals
      go_ret
      refine ⟨ret_int ?_, rfl⟩
      rw [trigV, HB.out]
      simp_all
theorem act_any (r : Int) (w : World) : Calls Tryz.prog 125 #[.int .i64 r] w fun e w' => e = .returned (.int .i64 (actV r)) ∧ w = w' := by
  go_enter Tryz.func125, Tryz.ntmps125
  go_wp2
  all_goals
    go_ret
    refine ⟨ret_int ?_, rfl⟩
    simp_all [actV]
theorem results_ln {fn : Func} {c : Tmp} (h : fn.results = #[.cell c 58]) (tmps : Array Value) (w : World) (b : Nat) (x : Ln) (hp : tmps.getD c undef = .pointer (some ⟨b, 0, none⟩))
    (hb : CB w b 58 x.ca) : (results fn tmps).run Tryz.prog w = .ok x.v w := by
  have hp' : tmps[c]?.getD undef = .pointer (some ⟨b, 0, none⟩) := by simpa using hp
  have c0 := hb.cell 0
  have c1 := hb.cell 1
  have c2 := hb.cell 2
  have c3 := hb.cell 3
  have c4 := hb.cell 4
  have c5 := hb.cell 5
  have c6 := hb.cell 6
  simp at c0 c1 c2 c3 c4 c5 c6
  simp [results, h, go_sem, hp', c0, c1, c2, c3, c4, c5, c6]
abbrev setL (W : World) (B o : Nat) (x : Ln) : World := ((((((W.setCell ⟨B, o, none⟩ (.bool x.st.e)).setCell ⟨B, o + 1, none⟩ (.bool x.st.l)).setCell ⟨B, o + 2, none⟩ (.bool x.st.h)).setCell ⟨B, o + 3, none⟩ (.bool x.st.a)).setCell ⟨B, o + 4, none⟩ (.bool x.en)).setCell ⟨B, o + 5, none⟩ (.int .i64 x.g)).setCell ⟨B, o + 6, none⟩ (.int .i64 x.p)
theorem CB.put7 {W : World} {B : Nat} {t : TypeId} {a0 a1 a2 a3 a4 a5 a6 : Value} (h : CB W B t #[a0, a1, a2, a3, a4, a5, a6]) (v0 v1 v2 v3 v4 v5 v6 : Value) :
    CB (((((((W.setCell ⟨B, 0, none⟩ v0).setCell ⟨B, 1, none⟩ v1).setCell ⟨B, 2, none⟩ v2).setCell ⟨B, 3, none⟩ v3).setCell ⟨B, 4, none⟩ v4).setCell ⟨B, 5, none⟩ v5).setCell ⟨B, 6, none⟩ v6) B t #[v0, v1, v2, v3, v4, v5, v6] := by
  have := (((((((h.set 0 v0).set 1 v1).set 2 v2).set 3 v3).set 4 v4).set 5 v5).set 6 v6)
  simpa only [List.setIfInBounds_toArray, List.set_cons_zero, List.set_cons_succ] using this
theorem CB.putL {W : World} {B : Nat} {t : TypeId} {y : Ln} (h : CB W B t y.ca) (x : Ln) : CB (setL W B 0 x) B t x.ca := h.put7 _ _ _ _ _ _ _
theorem below_putL {n : Nat} {w W : World} (h : Below n w W) {B o : Nat} (hb : n ≤ B) (x : Ln) : Below n w (setL W B o x) :=
  below_set (below_set (below_set (below_set (below_set (below_set (below_set h hb _) hb _) hb _) hb _) hb _) hb _) hb _
abbrev setI (W : World) (B o : Nat) (x : St) : World := (((W.setCell ⟨B, o, none⟩ (.bool x.e)).setCell ⟨B, o + 1, none⟩ (.bool x.l)).setCell ⟨B, o + 2, none⟩ (.bool x.h)).setCell ⟨B, o + 3, none⟩ (.bool x.a)
theorem CB.putI {W : World} {B : Nat} {t : TypeId} {y : Ln} (h : CB W B t y.ca) (x : St) : CB (setI W B 0 x) B t (Ln.ca { y with st := x }) := by
  have := ((((h.set 0 (.bool x.e)).set 1 (.bool x.l)).set 2 (.bool x.h)).set 3 (.bool x.a))
  simpa only [List.setIfInBounds_toArray, List.set_cons_zero, List.set_cons_succ] using this
theorem CB.otherI {W : World} {B : Nat} {t : TypeId} {cs : Array Value} (h : CB W B t cs) {b o : Nat} (hne : B ≠ b) (x : St) : CB (setI W b o x) B t cs := (((h.other b _ _ hne).other b _ _ hne).other b _ _ hne).other b _ _ hne
theorem CB.otherL {W : World} {B : Nat} {t : TypeId} {cs : Array Value} (h : CB W B t cs) {b o : Nat} (hne : B ≠ b) (x : Ln) : CB (setL W b o x) B t cs := ((((((h.other b _ _ hne).other b _ _ hne).other b _ _ hne).other b _ _ hne).other b _ _ hne).other b _ _ hne).other b _ _ hne
theorem below_putI {n : Nat} {w W : World} (h : Below n w W) {B o : Nat} (hb : n ≤ B) (x : St) : Below n w (setI W B o x) := below_set (below_set (below_set (below_set h hb _) hb _) hb _) hb _
structure TwL (w : World) (l : Ln) (W : World) : Prop where
  a : CB W w.heap.size 58 l.ca
  z : CB W (w.heap.size + 1) 58 Ln.zero.ca
  below : Below w.heap.size w W
theorem TwL.new (w : World) (l : Ln) : TwL w l ((w.alloc (.cells l.ca 58)).alloc (.cells Ln.zero.ca 58)) := ⟨(CB.new w _ _).alloc _, cb_second, bal_two w _ _⟩
theorem TwL.later {w W W' : World} {l : Ln} (h : TwL w l W) (k : Below W.heap.size W W') : TwL w l W' := ⟨h.a.below k, h.z.below k, h.below.trans (k.mono h.below.size)⟩
theorem TwL.drew {w W : World} {l : Ln} (h : TwL w l W) : TwL w l W.drew := ⟨h.a, h.z, Below.drewN (m := 1) h.below⟩
theorem TwL.putI {w W : World} {l : Ln} (h : TwL w l W) (x : St) : TwL w { l with st := x } (setI W w.heap.size 0 x) := ⟨h.a.putI x, h.z.otherI (by omega) x, below_putI h.below (Nat.le_refl _) x⟩
theorem TwL.end_ {w W : World} {l : Ln} (h : TwL w l W) : CB (setL W (w.heap.size + 1) 0 l) (w.heap.size + 1) 58 l.ca ∧ Below w.heap.size w (setL W (w.heap.size + 1) 0 l) := ⟨h.z.putL l, below_putL h.below (by omega) l⟩
theorem CB.cells7 {W : World} {B : Nat} {t : TypeId} {l : Ln} (h : CB W B t l.ca) : W.cell? ⟨B, 0, none⟩ = some (.bool l.st.e) ∧ W.cell? ⟨B, 1, none⟩ = some (.bool l.st.l) ∧ W.cell? ⟨B, 2, none⟩ = some (.bool l.st.h) ∧ W.cell? ⟨B, 3, none⟩ = some (.bool l.st.a) ∧ W.cell? ⟨B, 4, none⟩ = some (.bool l.en) ∧ W.cell? ⟨B, 5, none⟩ = some (.int .i64 l.g) ∧ W.cell? ⟨B, 6, none⟩ = some (.int .i64 l.p) :=
  ⟨h.cell 0, h.cell 1, h.cell 2, h.cell 3, h.cell 4, h.cell 5, h.cell 6⟩
set_option maxHeartbeats 2000000 in
theorem chg_group (id : Int) (l : Ln) (x : Nat) (w : World) (hx : x < 9223372036854775808) : Calls Tryz.prog 87 #[l.v, .int .i64 id, .int .i64 4, .int .u64 x] w fun e w' => e = .returned ({ l with g := (x : Int) }).v ∧ Below w.heap.size w w' := by
  have hw : IntKind.i64.wrap (x : Int) = x := by rw [IntKind.wrap_i64]; omega
  obtain ⟨⟨e, lb, q, a⟩, en, g, p⟩ := l
  dsimp only [Ln.v]
  go_enter Tryz.func87, Tryz.ntmps87
  go_wp2
  exact bodyPost_ret (results_ln rfl _ _ (w.heap.size + 1) ⟨⟨e, lb, q, a⟩, en, (x : Int), p⟩ rfl cb_second) rfl ⟨rfl, bal_two _ _ _⟩
set_option maxHeartbeats 2000000 in
theorem chg_prio (id : Int) (l : Ln) (x : Nat) (w : World) (hx : x < 9223372036854775808) : Calls Tryz.prog 87 #[l.v, .int .i64 id, .int .i64 11, .int .u64 x] w fun e w' => e = .returned ({ l with p := realV x }).v ∧ Below w.heap.size w w' := by
  have hw : IntKind.i64.wrap (x : Int) = x := by rw [IntKind.wrap_i64]; omega
  have HR := hi (fun W => real_any x W)
  obtain ⟨p2, hp2⟩ : ∃ p2, realV x = p2 := ⟨_, rfl⟩
  rw [hp2] at HR ⊢
  clear hp2
  obtain ⟨⟨e, lb, q, a⟩, en, g, p⟩ := l
  dsimp only [Ln.v]
  go_enter Tryz.func87, Tryz.ntmps87
  go_wp2_with (go_at_call 121; ((with_reducible refine (HR.out _).mono ?_); rintro e' w1 ⟨rfl, rfl⟩))
  exact bodyPost_ret (results_ln rfl _ _ (w.heap.size + 1) ⟨⟨e, lb, q, a⟩, en, g, p2⟩ rfl cb_second) rfl ⟨rfl, bal_two _ _ _⟩
set_option maxHeartbeats 2000000 in
theorem chg_en (id : Int) (l : Ln) (r : Int) (x : Nat) (w : World) (hr : r = 5 ∨ r = 6) (hx : x < 9223372036854775808) : Calls Tryz.prog 87 #[l.v, .int .i64 id, .int .i64 r, .int .u64 x] w fun e w' => e = .returned (if x = 1 then { l with en := decide (r = 5) } else l).v ∧ Below w.heap.size w w' := by
  obtain ⟨⟨e, lb, q, a⟩, en, g, p⟩ := l
  by_cases h1 : x = 1
  · subst h1
    rw [if_pos rfl]
    rcases hr with rfl | rfl
    · dsimp only [Ln.v]
      go_enter Tryz.func87, Tryz.ntmps87
      go_wp2
      exact bodyPost_ret (results_ln rfl _ _ (w.heap.size + 1) ⟨⟨e, lb, q, a⟩, true, g, p⟩ rfl cb_second) rfl ⟨rfl, bal_two _ _ _⟩
    · dsimp only [Ln.v]
      go_enter Tryz.func87, Tryz.ntmps87
      go_wp2
      exact bodyPost_ret (results_ln rfl _ _ (w.heap.size + 1) ⟨⟨e, lb, q, a⟩, false, g, p⟩ rfl cb_second) rfl ⟨rfl, bal_two _ _ _⟩
  · rw [if_neg h1]
    have hq : ((x : Int) == 1) = false := by simp; omega
    clear h1
    dsimp only [Ln.v]
    rcases hr with rfl | rfl
    all_goals
      go_enter Tryz.func87, Tryz.ntmps87
      go_wp2
      exact bodyPost_ret (results_ln rfl _ _ (w.heap.size + 1) ⟨⟨e, lb, q, a⟩, en, g, p⟩ rfl cb_second) rfl ⟨rfl, bal_two _ _ _⟩
set_option maxRecDepth 100000 in
set_option maxHeartbeats 4000000 in
theorem chg_cfg (id : Int) (l : Ln) (x : Nat) (w : World) (hx : x < 9223372036854775808) : Calls Tryz.prog 87 #[l.v, .int .i64 id, .int .i64 12, .int .u64 x] w fun e w' => e = .returned ({ l with st := l.st.step (trigV id x) }).v ∧ Below w.heap.size w w' := by
  have HS := hi (fun W => step_any l.st (trigV id x) W)
  have HG := hi (fun W => trigger_any id x W (by omega))
  obtain ⟨y, hy⟩ : ∃ y, l.st.step (trigV id x) = y := ⟨_, rfl⟩
  rw [hy] at HS ⊢
  obtain ⟨t, ht⟩ : ∃ t, trigV id x = t := ⟨_, rfl⟩
  rw [ht] at HS HG
  clear ht hy
  obtain ⟨⟨e, lb, q, a⟩, en, g, p⟩ := l
  obtain ⟨ye, yl, yh, ya⟩ := y
  dsimp only [St.v] at HS
  dsimp only [Ln.v]
  have HT := hi (TwL.new w ⟨⟨e, lb, q, a⟩, en, g, p⟩).drew
  dsimp only [Ln.zero, St.zero] at HT
  go_enter Tryz.func87, Tryz.ntmps87
  go_wp2
  obtain ⟨W1, hW1⟩ : ∃ W1, (w.alloc (.cells #[.bool e, .bool lb, .bool q, .bool a, .bool en, .int .i64 g, .int .i64 p] 58)).alloc (.cells #[.bool false, .bool false, .bool false, .bool false, .bool false, .int .i64 0, .int .i64 0] 58) = W1 := ⟨_, rfl⟩
  rw [hW1] at HT ⊢
  clear hW1
  refine wp_region_noPanic ?_
  refine wp_region_last_drew (S := (fun W' => CB W' w.heap.size 58 #[.bool e, .bool lb, .bool q, .bool a, .bool en, .int .i64 g, .int .i64 p])) [7] (by kernel_rfl) HT.out.a (fun hHeld => ?_)
  (try simp only [Array.replicate_succ, Array.replicate_zero, List.push_toArray, List.nil_append, List.cons_append])
  refine wpAnyF_take (i := 0) (v := ?_) (by kernel_rfl) (by kernel_rfl) rfl (by kernel_rfl) (by kernel_rfl) (by kernel_rfl) (fun _ _ _ h => h) (Or.inl ⟨by rfl, ?_⟩) (by assumption) ?_
  rotate_left
  · intro w' hSw; (try dsimp only at hSw); obtain ⟨d0, d1, d2, d3, d4, d5, d6⟩ := CB.cells7 (l := ⟨⟨e, lb, q, a⟩, en, g, p⟩) hSw; dsimp only at d0 d1 d2 d3 d4 d5 d6; go_simp; (try with_reducible rfl)
  (try simp only [Act.put, List.getElem_toArray, List.getElem_cons_zero, List.setIfInBounds_toArray, List.set_cons_zero, List.set_cons_succ])
  refine wpAnyF_take (i := 1) (v := ?_) (by kernel_rfl) (by kernel_rfl) rfl (by kernel_rfl) (by kernel_rfl) (by kernel_rfl) (fun _ _ _ h => h) (Or.inl ⟨by rfl, ?_⟩) (by assumption) ?_
  rotate_left
  · intro w' hSw; (try dsimp only at hSw); obtain ⟨d0, d1, d2, d3, d4, d5, d6⟩ := CB.cells7 (l := ⟨⟨e, lb, q, a⟩, en, g, p⟩) hSw; dsimp only at d0 d1 d2 d3 d4 d5 d6; go_simp; (try with_reducible rfl)
  (try simp only [Act.put, List.getElem_toArray, List.getElem_cons_zero, List.getElem_cons_succ, List.setIfInBounds_toArray, List.set_cons_zero, List.set_cons_succ])
  refine wpAnyF_take (i := 2) (v := ?_) (by kernel_rfl) (by kernel_rfl) rfl (by kernel_rfl) (by kernel_rfl) (by kernel_rfl) (fun _ _ _ h => h) (Or.inl ⟨by rfl, ?_⟩) (by assumption) ?_
  rotate_left
  · intro w' hSw; (try dsimp only at hSw); obtain ⟨d0, d1, d2, d3, d4, d5, d6⟩ := CB.cells7 (l := ⟨⟨e, lb, q, a⟩, en, g, p⟩) hSw; dsimp only at d0 d1 d2 d3 d4 d5 d6; go_simp; (try with_reducible rfl)
  (try simp only [Act.put, List.getElem_toArray, List.getElem_cons_zero, List.getElem_cons_succ, List.setIfInBounds_toArray, List.set_cons_zero, List.set_cons_succ])
  refine wpAnyF_take (i := 3) (v := ?_) (by kernel_rfl) (by kernel_rfl) rfl (by kernel_rfl) (by kernel_rfl) (by kernel_rfl) (fun _ _ _ h => h) (Or.inl ⟨by rfl, ?_⟩) (by assumption) ?_
  rotate_left
  · intro w' hSw; (try dsimp only at hSw); obtain ⟨d0, d1, d2, d3, d4, d5, d6⟩ := CB.cells7 (l := ⟨⟨e, lb, q, a⟩, en, g, p⟩) hSw; dsimp only at d0 d1 d2 d3 d4 d5 d6; go_simp; (try with_reducible rfl)
  (try simp only [Act.put, List.getElem_toArray, List.getElem_cons_zero, List.getElem_cons_succ, List.setIfInBounds_toArray, List.set_cons_zero, List.set_cons_succ])
  refine wpAnyF_ready (rs := [4]) (by kernel_rfl) (by simp) ?_
  refine AllReadyF.cons rfl (fun KK hKK => ?_) AllReadyF.nil
  go_simp
  ((with_reducible refine (HG.out _).mono ?_); rintro e' w1 ⟨rfl, rfl⟩)
  (try go_simp)
  refine hKK.out _ _ hHeld (fun hHeld => ?_)
  clear hKK KK
  (try simp only [Act.put, List.getElem_toArray, List.getElem_cons_zero, List.getElem_cons_succ, List.setIfInBounds_toArray, List.set_cons_zero, List.set_cons_succ])
  refine wpAnyF_ready (rs := [5]) (by kernel_rfl) (by simp) ?_
  refine AllReadyF.cons rfl (fun KK hKK => ?_) AllReadyF.nil
  go_simp
  ((with_reducible refine (HS.out _).mono ?_); rintro e' w2 ⟨rfl, hb⟩; have HT2 := hi (HT.out.later hb))
  (try go_simp)
  refine hKK.out _ _ HT2.out.a (fun hHeld => ?_)
  clear hKK KK
  (try simp only [Act.put, List.getElem_toArray, List.getElem_cons_zero, List.getElem_cons_succ, List.setIfInBounds_toArray, List.set_cons_zero, List.set_cons_succ])
  refine wpAnyF_take (i := 6) (v := ?_) (by kernel_rfl) (by kernel_rfl) rfl (by kernel_rfl) (by kernel_rfl) (by kernel_rfl) (fun _ _ _ h => h) (Or.inl ⟨by rfl, ?_⟩) (by assumption) ?_
  rotate_left
  · intro w' hSw; (try dsimp only at hSw); obtain ⟨d0, d1, d2, d3, d4, d5, d6⟩ := CB.cells7 (l := ⟨⟨e, lb, q, a⟩, en, g, p⟩) hSw; dsimp only at d0 d1 d2 d3 d4 d5 d6; go_simp; (try with_reducible rfl)
  (try simp only [Act.put, List.getElem_toArray, List.getElem_cons_zero, List.getElem_cons_succ, List.setIfInBounds_toArray, List.set_cons_zero, List.set_cons_succ])
  refine wpAnyF_ready (rs := [7]) (by kernel_rfl) (by simp) ?_
  refine AllReadyF.last (by kernel_rfl) rfl (fun KK hKK => ?_) AllReadyF.nil
  obtain ⟨d0, d1, d2, d3, d4, d5, d6⟩ := CB.cells7 (l := ⟨⟨e, lb, q, a⟩, en, g, p⟩) HT2.out.a
  have f0 := HT2.out.a.frozen
  dsimp only at d0 d1 d2 d3 d4 d5 d6
  go_simp
  refine hKK.out _ _ ?_
  clear hKK KK
  (try simp only [Act.put, List.getElem_toArray, List.getElem_cons_zero, List.getElem_cons_succ, List.setIfInBounds_toArray, List.set_cons_zero, List.set_cons_succ])
  refine wpAnyF_done (by kernel_rfl) ?_ _
  refine NoPanic.normal ?_
  have HT3 := hi (HT2.out.putI ⟨ye, yl, yh, ya⟩)
  dsimp only [setI] at HT3
  obtain ⟨W4, hW4⟩ : ∃ W4, (((w2.setCell ⟨w.heap.size, 0, none⟩ (.bool ye)).setCell ⟨w.heap.size, 1, none⟩ (.bool yl)).setCell ⟨w.heap.size, 2, none⟩ (.bool yh)).setCell ⟨w.heap.size, 3, none⟩ (.bool ya) = W4 := ⟨_, rfl⟩
  rw [hW4] at HT3 ⊢
  obtain ⟨d0, d1, d2, d3, d4, d5, d6⟩ := CB.cells7 (l := ⟨⟨ye, yl, yh, ya⟩, en, g, p⟩) HT3.out.a
  obtain ⟨z0, z1, z2, z3, z4, z5, z6⟩ := CB.cells7 (l := Ln.zero) HT3.out.z
  have fz := HT3.out.z.frozen
  dsimp only [Ln.zero, St.zero] at d0 d1 d2 d3 d4 d5 d6 z0 z1 z2 z3 z4 z5 z6
  clear hW4 hHeld HT2 HT hb
  go_wp2
  obtain ⟨hcb, hbl⟩ := TwL.end_ HT3.out
  exact bodyPost_ret (results_ln rfl _ _ (w.heap.size + 1) ⟨⟨ye, yl, yh, ya⟩, en, g, p⟩ rfl hcb) rfl ⟨rfl, hbl⟩
set_option maxRecDepth 100000 in
set_option maxHeartbeats 4000000 in
theorem chg_act (id : Int) (l : Ln) (r : Int) (w : World) (h4 : r ≠ 4) (h5 : r ≠ 5) (h6 : r ≠ 6) (h11 : r ≠ 11) (h12 : r ≠ 12) : Calls Tryz.prog 87 #[l.v, .int .i64 id, .int .i64 r, .int .u64 1] w fun e w' => e = .returned ({ l with st := l.st.step (actV r) }).v ∧ Below w.heap.size w w' := by
  have q4 : (r == 4) = false := by simpa using h4
  have q5 : (r == 5) = false := by simpa using h5
  have q6 : (r == 6) = false := by simpa using h6
  have q11 : (r == 11) = false := by simpa using h11
  have q12 : (r == 12) = false := by simpa using h12
  have HS := hi (fun W => step_any l.st (actV r) W)
  have HG := hi (fun W => act_any r W)
  obtain ⟨y, hy⟩ : ∃ y, l.st.step (actV r) = y := ⟨_, rfl⟩
  rw [hy] at HS ⊢
  obtain ⟨t, ht⟩ : ∃ t, actV r = t := ⟨_, rfl⟩
  rw [ht] at HS HG
  clear ht hy h4 h5 h6 h11 h12
  obtain ⟨⟨e, lb, q, a⟩, en, g, p⟩ := l
  obtain ⟨ye, yl, yh, ya⟩ := y
  dsimp only [St.v] at HS
  dsimp only [Ln.v]
  have HT := hi (TwL.new w ⟨⟨e, lb, q, a⟩, en, g, p⟩).drew
  dsimp only [Ln.zero, St.zero] at HT
  go_enter Tryz.func87, Tryz.ntmps87
  go_wp2
  obtain ⟨W1, hW1⟩ : ∃ W1, (w.alloc (.cells #[.bool e, .bool lb, .bool q, .bool a, .bool en, .int .i64 g, .int .i64 p] 58)).alloc (.cells #[.bool false, .bool false, .bool false, .bool false, .bool false, .int .i64 0, .int .i64 0] 58) = W1 := ⟨_, rfl⟩
  rw [hW1] at HT ⊢
  clear hW1
  refine wp_region_noPanic ?_
  refine wp_region_last_drew (S := (fun W' => CB W' w.heap.size 58 #[.bool e, .bool lb, .bool q, .bool a, .bool en, .int .i64 g, .int .i64 p])) [6] (by kernel_rfl) HT.out.a (fun hHeld => ?_)
  (try simp only [Array.replicate_succ, Array.replicate_zero, List.push_toArray, List.nil_append, List.cons_append])
  refine wpAnyF_take (i := 0) (v := ?_) (by kernel_rfl) (by kernel_rfl) rfl (by kernel_rfl) (by kernel_rfl) (by kernel_rfl) (fun _ _ _ h => h) (Or.inl ⟨by rfl, ?_⟩) (by assumption) ?_
  rotate_left
  · intro w' hSw; (try dsimp only at hSw); obtain ⟨d0, d1, d2, d3, d4, d5, d6⟩ := CB.cells7 (l := ⟨⟨e, lb, q, a⟩, en, g, p⟩) hSw; dsimp only at d0 d1 d2 d3 d4 d5 d6; go_simp; (try with_reducible rfl)
  (try simp only [Act.put, List.getElem_toArray, List.getElem_cons_zero, List.setIfInBounds_toArray, List.set_cons_zero, List.set_cons_succ])
  refine wpAnyF_take (i := 1) (v := ?_) (by kernel_rfl) (by kernel_rfl) rfl (by kernel_rfl) (by kernel_rfl) (by kernel_rfl) (fun _ _ _ h => h) (Or.inl ⟨by rfl, ?_⟩) (by assumption) ?_
  rotate_left
  · intro w' hSw; (try dsimp only at hSw); obtain ⟨d0, d1, d2, d3, d4, d5, d6⟩ := CB.cells7 (l := ⟨⟨e, lb, q, a⟩, en, g, p⟩) hSw; dsimp only at d0 d1 d2 d3 d4 d5 d6; go_simp; (try with_reducible rfl)
  (try simp only [Act.put, List.getElem_toArray, List.getElem_cons_zero, List.getElem_cons_succ, List.setIfInBounds_toArray, List.set_cons_zero, List.set_cons_succ])
  refine wpAnyF_take (i := 2) (v := ?_) (by kernel_rfl) (by kernel_rfl) rfl (by kernel_rfl) (by kernel_rfl) (by kernel_rfl) (fun _ _ _ h => h) (Or.inl ⟨by rfl, ?_⟩) (by assumption) ?_
  rotate_left
  · intro w' hSw; (try dsimp only at hSw); obtain ⟨d0, d1, d2, d3, d4, d5, d6⟩ := CB.cells7 (l := ⟨⟨e, lb, q, a⟩, en, g, p⟩) hSw; dsimp only at d0 d1 d2 d3 d4 d5 d6; go_simp; (try with_reducible rfl)
  (try simp only [Act.put, List.getElem_toArray, List.getElem_cons_zero, List.getElem_cons_succ, List.setIfInBounds_toArray, List.set_cons_zero, List.set_cons_succ])
  refine wpAnyF_ready (rs := [3]) (by kernel_rfl) (by simp) ?_
  refine AllReadyF.cons rfl (fun KK hKK => ?_) AllReadyF.nil
  go_simp
  ((with_reducible refine (HG.out _).mono ?_); rintro e' w1 ⟨rfl, rfl⟩)
  (try go_simp)
  refine hKK.out _ _ hHeld (fun hHeld => ?_)
  clear hKK KK
  (try simp only [Act.put, List.getElem_toArray, List.getElem_cons_zero, List.getElem_cons_succ, List.setIfInBounds_toArray, List.set_cons_zero, List.set_cons_succ])
  refine wpAnyF_ready (rs := [4]) (by kernel_rfl) (by simp) ?_
  refine AllReadyF.cons rfl (fun KK hKK => ?_) AllReadyF.nil
  go_simp
  ((with_reducible refine (HS.out _).mono ?_); rintro e' w2 ⟨rfl, hb⟩; have HT2 := hi (HT.out.later hb))
  (try go_simp)
  refine hKK.out _ _ HT2.out.a (fun hHeld => ?_)
  clear hKK KK
  (try simp only [Act.put, List.getElem_toArray, List.getElem_cons_zero, List.getElem_cons_succ, List.setIfInBounds_toArray, List.set_cons_zero, List.set_cons_succ])
  refine wpAnyF_take (i := 5) (v := ?_) (by kernel_rfl) (by kernel_rfl) rfl (by kernel_rfl) (by kernel_rfl) (by kernel_rfl) (fun _ _ _ h => h) (Or.inl ⟨by rfl, ?_⟩) (by assumption) ?_
  rotate_left
  · intro w' hSw; (try dsimp only at hSw); obtain ⟨d0, d1, d2, d3, d4, d5, d6⟩ := CB.cells7 (l := ⟨⟨e, lb, q, a⟩, en, g, p⟩) hSw; dsimp only at d0 d1 d2 d3 d4 d5 d6; go_simp; (try with_reducible rfl)
  (try simp only [Act.put, List.getElem_toArray, List.getElem_cons_zero, List.getElem_cons_succ, List.setIfInBounds_toArray, List.set_cons_zero, List.set_cons_succ])
  refine wpAnyF_ready (rs := [6]) (by kernel_rfl) (by simp) ?_
  refine AllReadyF.last (by kernel_rfl) rfl (fun KK hKK => ?_) AllReadyF.nil
  obtain ⟨d0, d1, d2, d3, d4, d5, d6⟩ := CB.cells7 (l := ⟨⟨e, lb, q, a⟩, en, g, p⟩) HT2.out.a
  have f0 := HT2.out.a.frozen
  dsimp only at d0 d1 d2 d3 d4 d5 d6
  go_simp
  refine hKK.out _ _ ?_
  clear hKK KK
  (try simp only [Act.put, List.getElem_toArray, List.getElem_cons_zero, List.getElem_cons_succ, List.setIfInBounds_toArray, List.set_cons_zero, List.set_cons_succ])
  refine wpAnyF_done (by kernel_rfl) ?_ _
  refine NoPanic.normal ?_
  have HT3 := hi (HT2.out.putI ⟨ye, yl, yh, ya⟩)
  dsimp only [setI] at HT3
  obtain ⟨W4, hW4⟩ : ∃ W4, (((w2.setCell ⟨w.heap.size, 0, none⟩ (.bool ye)).setCell ⟨w.heap.size, 1, none⟩ (.bool yl)).setCell ⟨w.heap.size, 2, none⟩ (.bool yh)).setCell ⟨w.heap.size, 3, none⟩ (.bool ya) = W4 := ⟨_, rfl⟩
  rw [hW4] at HT3 ⊢
  obtain ⟨d0, d1, d2, d3, d4, d5, d6⟩ := CB.cells7 (l := ⟨⟨ye, yl, yh, ya⟩, en, g, p⟩) HT3.out.a
  obtain ⟨z0, z1, z2, z3, z4, z5, z6⟩ := CB.cells7 (l := Ln.zero) HT3.out.z
  have fz := HT3.out.z.frozen
  dsimp only [Ln.zero, St.zero] at d0 d1 d2 d3 d4 d5 d6 z0 z1 z2 z3 z4 z5 z6
  clear hW4 hHeld HT2 HT hb
  go_wp2
  obtain ⟨hcb, hbl⟩ := TwL.end_ HT3.out
  exact bodyPost_ret (results_ln rfl _ _ (w.heap.size + 1) ⟨⟨ye, yl, yh, ya⟩, en, g, p⟩ rfl hcb) rfl ⟨rfl, hbl⟩
set_option maxHeartbeats 4000000 in
theorem chg_none (id : Int) (l : Ln) (r : Int) (x : Nat) (w : World) (h4 : r ≠ 4) (h5 : r ≠ 5) (h6 : r ≠ 6) (h11 : r ≠ 11) (h12 : r ≠ 12) (hx : x ≠ 1) : Calls Tryz.prog 87 #[l.v, .int .i64 id, .int .i64 r, .int .u64 x] w fun e w' => e = .returned (l).v ∧ Below w.heap.size w w' := by
  have q4 : (r == 4) = false := by simpa using h4
  have q5 : (r == 5) = false := by simpa using h5
  have q6 : (r == 6) = false := by simpa using h6
  have q11 : (r == 11) = false := by simpa using h11
  have q12 : (r == 12) = false := by simpa using h12
  have hq : ((x : Int) == 1) = false := by simp; omega
  clear h4 h5 h6 h11 h12 hx
  obtain ⟨⟨e, lb, q, a⟩, en, g, p⟩ := l
  dsimp only [Ln.v]
  go_enter Tryz.func87, Tryz.ntmps87
  go_wp2
  exact bodyPost_ret (results_ln rfl _ _ (w.heap.size + 1) ⟨⟨e, lb, q, a⟩, en, g, p⟩ rfl cb_second) rfl ⟨rfl, bal_two _ _ _⟩
theorem changed_any (id : Int) (l : Ln) (r : Int) (x : Nat) (w : World) (hx : x < 9223372036854775808) : Calls Tryz.prog 87 #[l.v, .int .i64 id, .int .i64 r, .int .u64 x] w fun e w' => e = .returned (chgV id l r x).v ∧ Below w.heap.size w w' := by
  by_cases h4 : r = 4
  · subst h4; rw [show chgV id l 4 x = { l with g := (x : Int) } from rfl]; exact chg_group id l x w hx
  · by_cases h5 : r = 5 ∨ r = 6
    · rw [show chgV id l r x = if x = 1 then { l with en := decide (r = 5) } else l by rw [chgV, if_neg h4, if_pos h5]]; exact chg_en id l r x w h5 hx
    · by_cases h11 : r = 11
      · subst h11; rw [show chgV id l 11 x = { l with p := realV x } from rfl]; exact chg_prio id l x w hx
      · by_cases h12 : r = 12
        · subst h12; rw [show chgV id l 12 x = { l with st := l.st.step (trigV id x) } from rfl]; exact chg_cfg id l x w hx
        · by_cases h1 : x = 1
          · subst h1; rw [show chgV id l r 1 = { l with st := l.st.step (actV r) } by rw [chgV, if_neg h4, if_neg h5, if_neg h11, if_neg h12, if_pos rfl]]; exact chg_act id l r w h4 (fun e => h5 (.inl e)) (fun e => h5 (.inr e)) h11 h12
          · rw [show chgV id l r x = l by rw [chgV, if_neg h4, if_neg h5, if_neg h11, if_neg h12, if_neg h1]]; exact chg_none id l r x w h4 (fun e => h5 (.inl e)) (fun e => h5 (.inr e)) h11 h12 h1
end Go.Proofs.YtggeakkofcaklaaGreat
