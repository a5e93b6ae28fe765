/-
  QueueEmpty.
-/
import Derived.Test.YtheajnfbphkigaaQuL
namespace Go.Proofs.Ytheajnfbphkigaa
open Go.ChangeShapes Go.WideShapes Go.ChangeAt Go.RowKit
set_option linter.unusedVariables false
set_option linter.unusedSimpArgs false
attribute [local go_sem high] eql_cm neq_cm guard_cm eql_qu neq_qu guard_qu

theorem passQ_yes {q : Qu} (h : lefN q < 1) : passQ q = q := by rw [passQ, if_pos h]
set_option maxRecDepth 100000 in
set_option maxHeartbeats 8000000 in
theorem empty_law (q : Qu) (size : Int) (c : Cm) (hF : q.Fair) (hs : -9223372036854775808 ≤ size ∧ size ≤ 9223372036854775807) (hc : c.Fair) (w : World) : Calls Try.prog 7 #[q.v, .int .i64 size, c.v] w fun e w' => e = .returned (.bool true) ∧ Below w.heap.size w w' := by
  have HA := hi (fun W => awake_any W)
  have HN := hi (fun W => lawNew_any size W)
  obtain ⟨N, hN⟩ : ∃ N, newN size = N := ⟨_, rfl⟩
  rw [hN] at HN
  have HHD := hi (fun p g W hM => head_any p g N (List.replicate N 0) q W hM hF)
  have HPS := hi (fun b W hQ => pass_any b q W hQ hF)
  have HLF := hi (fun W => left_q q hF.s.2 W)
  have HRM := hi (fun W => room_q q hF.s.2 W)
  have HPU := hi (fun p g b W hM hQ => put_any p g N (List.replicate N 0) b q c W hM hQ hF hc.addr)
  have HSM := hi (fun p g q h W hM hR => same_eq p g N q h N (List.replicate N 0) W hM hR)
  have hfull : rooN q < 1 → quE (List.replicate N 0).length q c = 2 ∧ quL (List.replicate N 0) q c = List.replicate N 0 ∧ quQ (List.replicate N 0).length q c = q := fun h => by
    have e : quE (List.replicate N 0).length q c = 2 := by rw [quE, if_pos h]
    exact ⟨e, by rw [quL, if_pos h], by rw [quQ, e]; rfl⟩
  have HPF : Hi (rooN q < 1 → ∀ p g b W, MemAt 104 W p g N (List.replicate N 0) → CB W b 25 (Qu.cs q) → Calls Try.prog 18 #[.pointer (some ⟨b, 0, none⟩), .pointer (some ⟨p, 0, none⟩), c.v] W fun e w' => e = .returned (.int .i64 2) ∧ QM W p g N b (List.replicate N 0) q w') := hi fun h p g b W hM hQ => by
    obtain ⟨e1, e2, e3⟩ := hfull h
    have := HPU.out p g b W hM hQ
    rw [e1, e2, e3] at this
    exact this
  have hnone : lefN q = 0 → headV (List.replicate N 0) q = Cm.zero ∧ headE (List.replicate N 0) q = 170 ∧ passE q = 170 ∧ passQ q = q := fun h => by
    have h1 : lefN q < 1 := by omega
    exact ⟨by rw [headV, if_pos h1], by rw [headE, if_pos h1], by rw [passE, if_pos h1], passQ_yes h1⟩
  have hfx : (passQ q).Fair := passQ_fair hF
  clear HPU hfull
  obtain ⟨y, hy⟩ : ∃ y, headV (List.replicate N 0) q = y := ⟨_, rfl⟩
  obtain ⟨e1, he⟩ : ∃ e, headE (List.replicate N 0) q = e := ⟨_, rfl⟩
  obtain ⟨f1, hf⟩ : ∃ e, passE q = e := ⟨_, rfl⟩
  obtain ⟨x, hx⟩ : ∃ e, passQ q = e := ⟨_, rfl⟩
  obtain ⟨n, hn⟩ : ∃ e, lefN q = e := ⟨_, rfl⟩
  obtain ⟨m, hm⟩ : ∃ e, rooN q = e := ⟨_, rfl⟩
  have hn0 : 0 ≤ n := by rw [← hn]; exact (lefN_bd q).1
  rw [hy, he] at HHD
  rw [hf, hx] at HPS
  rw [hn] at HLF
  rw [hm] at HRM HPF
  rw [hy, he, hf, hx, hn] at hnone
  rw [hx] at hfx
  clear hy he hf hx hn hm hN
  have zz : eqCm ⟨0, 0, 0, 0, 0, 0, 0, 0, false⟩ ⟨0, 0, 0, 0, 0, 0, 0, 0, false⟩ = true := by decide
  have qq : eqQu ⟨q.at_, q.size, q.read, q.write⟩ ⟨q.at_, q.size, q.read, q.write⟩ = true := by rw [eqQu_iff]; simp
  have HC := hi (And.intro ((CB.new w 25 (Qu.cs q)).alloc (.cells (Cm.cs c) 36)) (And.intro (cb_second (w := w) (o := .cells (Qu.cs q) 25) (cs := Cm.cs c) (t := 36)) (bal_two w (.cells (Qu.cs q) 25) (.cells (Cm.cs c) 36))))
  by_cases h0 : n = 0
  · obtain ⟨r1, r2, r3, r4⟩ := hnone h0
    rw [r1, r2] at HHD
    rw [r3, r4] at HPS
    rw [h0] at HLF
    clear r1 r2 r3 r4 hnone hfx h0 hn0
    obtain ⟨a, s, r, v⟩ := q
    obtain ⟨c1, c2, c3, c4, c5, c6, c7, c8, c9⟩ := c
    dsimp only [Cm.v, Cm.zero] at *
    go_enter Try.func7, Try.ntmps7
    go_wp2_with (first
      | (go_at_call 9; ((with_reducible refine (HA.out _).mono ?_); rintro e w1 ⟨rfl, hb1⟩; have H1 := hi (And.intro (HC.out.1.below hb1) (And.intro (HC.out.2.1.below hb1) (HC.out.2.2.trans (hb1.mono HC.out.2.2.size)))); have z1 := H1.out.1.lt; clear hb1))
      | (go_at_call 10; ((with_reducible refine (HN.out _).mono ?_); rintro e w2 ⟨p, g, q', h, rfl, hb2⟩; have z2 := hb2.mem.below.size; have H2 := hi (And.intro (And.intro (H1.out.1.below hb2.mem.below) (H1.out.2.1.below hb2.mem.below)) (Two.of_both hb2 H1.out.2.2)); clear hb2; obtain ⟨a0, a1, a2, a3⟩ := CB.four H2.out.1.1; obtain ⟨d0, d1, d2, d3⟩ := CB.four (H2.out.1.1.alloc (.cells #[.int .i64 a, .int .i64 s, .int .i64 r, .int .i64 v] 25)); have qf := (CB.new w2 25 #[.int .i64 0, .int .i64 0, .int .i64 0, .int .i64 0]).frozen))
      | (go_at_call 19; (have H3 := hi (show EmS w p g N q' h N w.heap.size (w.heap.size + 1) w2.heap.size (List.replicate N 0) (List.replicate N 0) ⟨a, s, r, v⟩ ⟨a, s, r, v⟩ ⟨c1, c2, c3, c4, c5, c6, c7, c8, c9⟩ (w2.alloc (.cells #[.int .i64 a, .int .i64 s, .int .i64 r, .int .i64 v] 25)) from ⟨⟨H2.out.2.later (bal w2 _), H2.out.1.1.alloc _, Nat.le_refl _⟩, H2.out.1.2.alloc _, CB.new w2 _ _, by omega⟩); (with_reducible refine (HHD.out p g _ H3.out.s.t.mem).mono ?_); rintro e w3 ⟨rfl, hb3⟩; have z3 := hb3.size; simp only [World.size_alloc] at z3; have hk3 := hb3.alloc hb3.size (.cells #[.int .i64 0, .int .i64 0, .int .i64 0, .int .i64 0, .int .i64 0, .int .i64 0, .int .i64 0, .int .i64 0, .bool false] 36); have H4 := hi (And.intro (H3.out.later hk3) (CB.new w3 36 #[.int .i64 0, .int .i64 0, .int .i64 0, .int .i64 0, .int .i64 0, .int .i64 0, .int .i64 0, .int .i64 0, .bool false])); have qg := (CB.new w3 36 #[.int .i64 0, .int .i64 0, .int .i64 0, .int .i64 0, .int .i64 0, .int .i64 0, .int .i64 0, .int .i64 0, .bool false]).frozen; clear hb3 hk3 a0 a1 a2 a3 d0 d1 d2 d3))
      | (go_at_call 20; ((with_reducible refine (HPS.out _ _ H4.out.1.s.q).mono ?_); rintro e w4 ⟨rfl, hq4⟩; have H5 := hi (And.intro (H4.out.1.qk hq4) (H4.out.2.keptB hq4.kept (fun e => by omega))); clear hq4; obtain ⟨a0, a1, a2, a3⟩ := H5.out.1.was))
      | (go_at_call 15; ((with_reducible refine (HLF.out _).mono ?_); rintro e w5 ⟨rfl, hb5⟩; have H6 := hi (And.intro (H5.out.1.later hb5) (H5.out.2.below hb5)); have H7 := hi (H6.out.1.qk (((((QK.refl H6.out.1.s.q).put (q' := ⟨a, s, r, v⟩) 0 (.int .i64 a) rfl).put (q' := ⟨a, s, r, v⟩) 1 (.int .i64 s) rfl).put (q' := ⟨a, s, r, v⟩) 2 (.int .i64 r) rfl).put (q' := ⟨a, s, r, v⟩) 3 (.int .i64 v) rfl)); clear hb5 a0 a1 a2 a3; obtain ⟨a0, a1, a2, a3⟩ := H6.out.1.was; obtain ⟨b0, b1, b2, b3⟩ := H6.out.1.four; obtain ⟨e0, e1, e2, e3, e4, e5, e6, e7, e8⟩ := CB.nine H6.out.2; obtain ⟨d0, d1, d2, d3⟩ := H7.out.was; have bf := H6.out.1.s.q.frozen; have bz := H6.out.1.s.q.lt))
      | (go_at_call 16; ((with_reducible refine (HRM.out _).mono ?_); rintro e w6 ⟨rfl, hb6⟩; have H8 := hi (H7.out.later hb6); clear hb6 a0 a1 a2 a3 b0 b1 b2 b3 d0 d1 d2 d3 e0 e1 e2 e3 e4 e5 e6 e7 e8; obtain ⟨e0, e1, e2, e3, e4, e5, e6, e7, e8⟩ := CB.nine H8.out.c))
      | (go_at_call 18; ((with_reducible refine (HPF.out (by omega) p g _ _ H8.out.s.t.mem H8.out.s.q).mono ?_); rintro e w7 ⟨rfl, hq7⟩; have H9 := hi (H8.out.qm hq7); clear hq7; obtain ⟨a0, a1, a2, a3⟩ := H9.out.was; obtain ⟨b0, b1, b2, b3⟩ := H9.out.four))
      | (go_at_call 24; ((with_reducible refine (HSM.out p g q' h _ H9.out.s.t.mem H9.out.s.t.ref).mono ?_); rintro e w8 ⟨rfl, hb8⟩; have HH := hi (H9.out.later hb8); clear hb8)))
    all_goals first | (go_ret; exact ⟨rfl, HH.out.s.t.below⟩) | (go_ret; exact ⟨rfl, H8.out.s.t.below⟩)
  · clear hnone hfx
    have hn1 : (n == 0) = false := by simpa using h0
    obtain ⟨a, s, r, v⟩ := q
    obtain ⟨xa, xs, xr, xv⟩ := x
    obtain ⟨c1, c2, c3, c4, c5, c6, c7, c8, c9⟩ := c
    obtain ⟨y1, y2, y3, y4, y5, y6, y7, y8, y9⟩ := y
    dsimp only [Cm.v, Cm.zero] at *
    go_enter Try.func7, Try.ntmps7
    go_wp2_with (first
      | (go_at_call 9; ((with_reducible refine (HA.out _).mono ?_); rintro e w1 ⟨rfl, hb1⟩; have H1 := hi (And.intro (HC.out.1.below hb1) (And.intro (HC.out.2.1.below hb1) (HC.out.2.2.trans (hb1.mono HC.out.2.2.size)))); have z1 := H1.out.1.lt; clear hb1))
      | (go_at_call 10; ((with_reducible refine (HN.out _).mono ?_); rintro e w2 ⟨p, g, q', h, rfl, hb2⟩; have z2 := hb2.mem.below.size; have H2 := hi (And.intro (And.intro (H1.out.1.below hb2.mem.below) (H1.out.2.1.below hb2.mem.below)) (Two.of_both hb2 H1.out.2.2)); clear hb2; obtain ⟨a0, a1, a2, a3⟩ := CB.four H2.out.1.1; obtain ⟨d0, d1, d2, d3⟩ := CB.four (H2.out.1.1.alloc (.cells #[.int .i64 a, .int .i64 s, .int .i64 r, .int .i64 v] 25)); have qf := (CB.new w2 25 #[.int .i64 0, .int .i64 0, .int .i64 0, .int .i64 0]).frozen))
      | (go_at_call 19; (have H3 := hi (show EmS w p g N q' h N w.heap.size (w.heap.size + 1) w2.heap.size (List.replicate N 0) (List.replicate N 0) ⟨a, s, r, v⟩ ⟨a, s, r, v⟩ ⟨c1, c2, c3, c4, c5, c6, c7, c8, c9⟩ (w2.alloc (.cells #[.int .i64 a, .int .i64 s, .int .i64 r, .int .i64 v] 25)) from ⟨⟨H2.out.2.later (bal w2 _), H2.out.1.1.alloc _, Nat.le_refl _⟩, H2.out.1.2.alloc _, CB.new w2 _ _, by omega⟩); (with_reducible refine (HHD.out p g _ H3.out.s.t.mem).mono ?_); rintro e w3 ⟨rfl, hb3⟩; have z3 := hb3.size; simp only [World.size_alloc] at z3; have hk3 := hb3.alloc hb3.size (.cells #[.int .i64 y1, .int .i64 y2, .int .i64 y3, .int .i64 y4, .int .i64 y5, .int .i64 y6, .int .i64 y7, .int .i64 y8, .bool y9] 36); have H4 := hi (And.intro (H3.out.later hk3) (CB.new w3 36 #[.int .i64 y1, .int .i64 y2, .int .i64 y3, .int .i64 y4, .int .i64 y5, .int .i64 y6, .int .i64 y7, .int .i64 y8, .bool y9])); have qg := (CB.new w3 36 #[.int .i64 0, .int .i64 0, .int .i64 0, .int .i64 0, .int .i64 0, .int .i64 0, .int .i64 0, .int .i64 0, .bool false]).frozen; clear hb3 hk3 a0 a1 a2 a3 d0 d1 d2 d3))
      | (go_at_call 20; ((with_reducible refine (HPS.out _ _ H4.out.1.s.q).mono ?_); rintro e w4 ⟨rfl, hq4⟩; have H5 := hi (And.intro (H4.out.1.qk hq4) (H4.out.2.keptB hq4.kept (fun e => by omega))); clear hq4; obtain ⟨a0, a1, a2, a3⟩ := H5.out.1.was))
      | (go_at_call 15; ((with_reducible refine (HLF.out _).mono ?_); rintro e w5 ⟨rfl, hb5⟩; have H6 := hi (And.intro (H5.out.1.later hb5) (H5.out.2.below hb5)); have H7 := hi (H6.out.1.qk (((((QK.refl H6.out.1.s.q).put (q' := ⟨a, xs, xr, xv⟩) 0 (.int .i64 a) rfl).put (q' := ⟨a, s, xr, xv⟩) 1 (.int .i64 s) rfl).put (q' := ⟨a, s, r, xv⟩) 2 (.int .i64 r) rfl).put (q' := ⟨a, s, r, v⟩) 3 (.int .i64 v) rfl)); clear hb5 a0 a1 a2 a3; obtain ⟨a0, a1, a2, a3⟩ := H6.out.1.was; obtain ⟨b0, b1, b2, b3⟩ := H6.out.1.four; obtain ⟨e0, e1, e2, e3, e4, e5, e6, e7, e8⟩ := CB.nine H6.out.2; obtain ⟨d0, d1, d2, d3⟩ := H7.out.was; have bf := H6.out.1.s.q.frozen; have bz := H6.out.1.s.q.lt))
      | (go_at_call 16; ((with_reducible refine (HRM.out _).mono ?_); rintro e w6 ⟨rfl, hb6⟩; have H8 := hi (H7.out.later hb6); clear hb6 a0 a1 a2 a3 b0 b1 b2 b3 d0 d1 d2 d3 e0 e1 e2 e3 e4 e5 e6 e7 e8; obtain ⟨e0, e1, e2, e3, e4, e5, e6, e7, e8⟩ := CB.nine H8.out.c))
      | (go_at_call 18; ((with_reducible refine (HPF.out (by omega) p g _ _ H8.out.s.t.mem H8.out.s.q).mono ?_); rintro e w7 ⟨rfl, hq7⟩; have H9 := hi (H8.out.qm hq7); clear hq7; obtain ⟨a0, a1, a2, a3⟩ := H9.out.was; obtain ⟨b0, b1, b2, b3⟩ := H9.out.four))
      | (go_at_call 24; ((with_reducible refine (HSM.out p g q' h _ H9.out.s.t.mem H9.out.s.t.ref).mono ?_); rintro e w8 ⟨rfl, hb8⟩; have HH := hi (H9.out.later hb8); clear hb8)))
    all_goals first | (go_ret; exact ⟨rfl, HH.out.s.t.below⟩) | (go_ret; exact ⟨rfl, H8.out.s.t.below⟩)

end Go.Proofs.Ytheajnfbphkigaa
