import Derived.Test.YtieedhdmpabfkaaGreatMg02
import Derived.Test.YtieedhdmpabfkaaGreatMg45
set_option linter.unusedSimpArgs false
namespace Go.Proofs.YtieedhdmpabfkaaGreat
open Go.ChangeShapes Go.WideShapes Go.ChangeAt Go.RowKit Go.Shelf
set_option linter.unusedVariables false
attribute [local go_sem] Oper.semAt_some
attribute [local go_sem high] eqlLn neqLn guardL
structure AskS (w : World) (p q : Nat) (b c : Nat → Nat) (p2 q2 : Nat) (b2 c2 : Nat → Nat) (D : Ds) (x : Xa) (W : World) : Prop where
 tw : TwD W p q p2 q2 b c b2 c2 D
 bx : CB W w.heap.size 33 x.cs
 below : Below w.heap.size w W
theorem AskS.later {w : World} {p q : Nat} {b c : Nat → Nat} {p2 q2 : Nat} {b2 c2 : Nat → Nat} {D : Ds} {x : Xa} {W W' : World} (h : AskS w p q b c p2 q2 b2 c2 D x W) (k : Below W.heap.size W W') : AskS w p q b c p2 q2 b2 c2 D x W' := ⟨h.tw.below k, h.bx.below k, h.below.trans (k.mono h.below.size)⟩
set_option maxRecDepth 100000 in
set_option maxHeartbeats 16000000 in
theorem asks_any {w : World} {p q p2 q2 : Nat} {b c b2 c2 : Nat → Nat} {D : Ds} (h : TwD w p q p2 q2 b c b2 c2 D) (ok : D.Ok) (x : Xa) (hx : x.Ok) :
  Calls Tryz.prog 17 #[.pointer (some ⟨b 0, 0, none⟩), .pointer (some ⟨b2 0, 0, none⟩), x.v_] w fun e w' => e = .returned (.bool true) ∧ Below w.heap.size w w' := by
 have WI0 := fun W => wide_any x W
 obtain ⟨wd, hwd⟩ : ∃ wd, wideV x = wd := ⟨_, rfl⟩
 rw [hwd] at WI0
 obtain ⟨hx1, hx2, hx3, hx4⟩ := hx
 obtain ⟨d, off, K, id, vv, ac, ⟨se, sl, sh, sa⟩, hb9⟩ := x
 dsimp only at hx1 hx2 hx3 hx4
 have WI := hi WI0
 have HS0 := hi (show AskS w p q b c p2 q2 b2 c2 D ⟨d, off, K, id, vv, ac, ⟨se, sl, sh, sa⟩, hb9⟩ (w.alloc (.cells #[.int .i64 d, .int .i64 off, .int .i64 K, .int .i64 id, .int .u64 vv, .int .i64 ac, .bool se, .bool sl, .bool sh, .bool sa, .bool hb9] 33)) from ⟨h.below (bal w _), CB.new w _ _, bal w _⟩)
 have RD := hi (fun W (z : DiAt W p q b c D) => read_dist z ok (off := off) (wd := wd) hx1)
 have RRD := hi (fun W (z : RdAt W p2 q2 b2 c2 D) => rread_dist z ok (off := off) (wd := wd) hx1)
 obtain ⟨⟨rv, re⟩, hrv⟩ : ∃ R, readDV D off wd = R := ⟨_, rfl⟩
 rw [hrv] at RD RRD
 have GT := hi (fun W (z : DiAt W p q b c D) => get_dist z ok (k := K) (id := id) hx3)
 have RGT := hi (fun W (z : RdAt W p2 q2 b2 c2 D) => rget_dist z ok K id)
 obtain ⟨⟨⟨⟨ee, ll, hh, aa⟩, nn, gg, pp⟩, ge⟩, hgv⟩ : ∃ R, getV D K id = R := ⟨_, rfl⟩
 rw [hgv] at GT RGT
 dsimp only [Ln.v] at GT RGT
 have TG := hi (fun W (z : DiAt W p q b c D) => target_dist z ok (id := id) hx3)
 have RTG := hi (fun W (z : RdAt W p2 q2 b2 c2 D) => rtarget_dist z ok id)
 obtain ⟨tv, htv⟩ : ∃ tv, targetV D id = tv := ⟨_, rfl⟩
 rw [htv] at TG RTG
 have ASL := hi (fun W (z : DiAt W p q b c D) => asleep_dist z K)
 have THR := hi (fun W (z : RdAt W p2 q2 b2 c2 D) => z.there K)
 have FR := hi (fun W => refRedist_any off 4 W hx1)
 obtain ⟨cc, hfew⟩ := fr_few off 4
 obtain ⟨⟨⟨fr, ff, fc⟩, fe⟩, hfr⟩ : ∃ R, frV off 4 = R := ⟨_, rfl⟩
 rw [hfr] at FR hfew
 have RO := hi (fun W (z : DiAt W p q b c D) => readOwn_dist z ok (k := K) (p := ⟨fr, ff, fc⟩) ⟨cc, hfew⟩)
 have RRO := hi (fun W (z : RdAt W p2 q2 b2 c2 D) => rreadOwn_dist z ok (k := K) (p := ⟨fr, ff, fc⟩) ⟨cc, hfew⟩)
 obtain ⟨⟨ov, oe⟩, hov⟩ : ∃ R, readOwnV D K ⟨fr, ff, fc⟩ = R := ⟨_, rfl⟩
 rw [hov] at RO RRO
 unfold Finds at FR
 dsimp only at RD RRD RO RRO FR
 have el1 := eqLn_it ee ll hh aa nn gg pp
 clear hwd WI0 hrv hgv htv hfew hfr hov h hx1 hx2 hx3 hx4
 go_enter Tryz.func17, Tryz.ntmps17
 go_wp2
 refine wp_region_noPanic ?_
 refine wp_region_last_drew (S := (fun W' => AskS w p q b c p2 q2 b2 c2 D ⟨d, off, K, id, vv, ac, ⟨se, sl, sh, sa⟩, hb9⟩ W')) [] (by kernel_rfl) (HS0.out.later (Below.drewN (m := 1) (Below.refl _ _))) (fun hHeld => ?_)
 (try simp only [r1, r2, r3, r4, r5])
 refine tk 0 (v := ?_) rfl (Or.inl ⟨by rfl, ?_⟩) ?_
 rotate_left
 ·intro w' hSw; (try dsimp only at hSw); go_simp; (try with_reducible rfl)
 (try simp only [Act.put, n1, n2, n3, n4, n5, n6])
 refine tk 1 (v := ?_) rfl (Or.inl ⟨by rfl, ?_⟩) ?_
 rotate_left
 ·intro w' hSw; (try dsimp only at hSw); go_simp; (try with_reducible rfl)
 (try simp only [Act.put, n1, n2, n3, n4, n5, n6])
 refine tk 2 (v := ?_) rfl (Or.inl ⟨by rfl, ?_⟩) ?_
 rotate_left
 ·intro w' hSw; (try dsimp only at hSw); have c1 := hSw.bx.cell 1; go_simp; (try with_reducible rfl)
 (try simp only [Act.put, n1, n2, n3, n4, n5, n6])
 refine tk 3 (v := ?_) rfl (Or.inl ⟨by rfl, ?_⟩) ?_
 rotate_left
 ·intro w' hSw; (try dsimp only at hSw); have c0 := hSw.bx.cell 0; have c1 := hSw.bx.cell 1; have c2 := hSw.bx.cell 2; have c3 := hSw.bx.cell 3; have c4 := hSw.bx.cell 4; have c5 := hSw.bx.cell 5; have c6 := hSw.bx.cell 6; have c7 := hSw.bx.cell 7; have c8 := hSw.bx.cell 8; have c9 := hSw.bx.cell 9; have c10 := hSw.bx.cell 10; go_simp; (try with_reducible rfl)
 (try simp only [Act.put, n1, n2, n3, n4, n5, n6])
 refine wpAnyF_ready (rs := [4]) (by kernel_rfl) (by simp) ?_
 refine AllReadyF.cons rfl (fun KK hKK => ?_) AllReadyF.nil
 go_simp
 ((with_reducible refine (WI.out _).mono ?_); rintro e' w31 ⟨rfl, hb⟩; have hSS := hHeld.later hb; clear hb)
 (try go_simp)
 refine hKK.out _ _ hSS (fun hHeld => ?_)
 clear hKK KK
 (try simp only [Act.put, n1, n2, n3, n4, n5, n6])
 refine wpAnyF_ready (rs := [5]) (by kernel_rfl) (by simp) ?_
 refine AllReadyF.cons rfl (fun KK hKK => ?_) AllReadyF.nil
 go_simp
 ((with_reducible refine (RD.out _ hHeld.tw.di).mono ?_); rintro e' w32 ⟨rfl, hb⟩; have hSS := hHeld.later hb; clear hb)
 (try go_simp)
 refine hKK.out _ _ hSS (fun hHeld => ?_)
 clear hKK KK
 (try simp only [Act.put, n1, n2, n3, n4, n5, n6])
 refine tk 6 (v := ?_) rfl (Or.inl ⟨by rfl, ?_⟩) ?_
 rotate_left
 ·intro w' hSw; (try dsimp only at hSw); go_simp; (try with_reducible rfl)
 (try simp only [Act.put, n1, n2, n3, n4, n5, n6])
 refine tk 7 (v := ?_) rfl (Or.inl ⟨by rfl, ?_⟩) ?_
 rotate_left
 ·intro w' hSw; (try dsimp only at hSw); go_simp; (try with_reducible rfl)
 (try simp only [Act.put, n1, n2, n3, n4, n5, n6])
 refine tk 8 (v := ?_) rfl (Or.inl ⟨by rfl, ?_⟩) ?_
 rotate_left
 ·intro w' hSw; (try dsimp only at hSw); go_simp; (try with_reducible rfl)
 (try simp only [Act.put, n1, n2, n3, n4, n5, n6])
 refine tk 9 (v := ?_) rfl (Or.inl ⟨by rfl, ?_⟩) ?_
 rotate_left
 ·intro w' hSw; (try dsimp only at hSw); go_simp; (try with_reducible rfl)
 (try simp only [Act.put, n1, n2, n3, n4, n5, n6])
 refine tk 10 (v := ?_) rfl (Or.inl ⟨by rfl, ?_⟩) ?_
 rotate_left
 ·intro w' hSw; (try dsimp only at hSw); go_simp; (try with_reducible rfl)
 (try simp only [Act.put, n1, n2, n3, n4, n5, n6])
 refine wpAnyF_done (by kernel_rfl) ?_ _
 refine NoPanic.normal ?_
 have HS1 := hi (hHeld.later (Below.drewN (m := 1) (Below.refl _ _)))
 clear hHeld
 go_wp2
 refine wp_region_noPanic ?_
 refine wp_region_last_drew (S := (fun W' => AskS w p q b c p2 q2 b2 c2 D ⟨d, off, K, id, vv, ac, ⟨se, sl, sh, sa⟩, hb9⟩ W')) [] (by kernel_rfl) HS1.out (fun hHeld => ?_)
 (try simp only [r1, r2, r3, r4, r5])
 refine tk 0 (v := ?_) rfl (Or.inl ⟨by rfl, ?_⟩) ?_
 rotate_left
 ·intro w' hSw; (try dsimp only at hSw); go_simp; (try with_reducible rfl)
 (try simp only [Act.put, n1, n2, n3, n4, n5, n6])
 refine tk 1 (v := ?_) rfl (Or.inl ⟨by rfl, ?_⟩) ?_
 rotate_left
 ·intro w' hSw; (try dsimp only at hSw); go_simp; (try with_reducible rfl)
 (try simp only [Act.put, n1, n2, n3, n4, n5, n6])
 refine tk 2 (v := ?_) rfl (Or.inl ⟨by rfl, ?_⟩) ?_
 rotate_left
 ·intro w' hSw; (try dsimp only at hSw); have c1 := hSw.bx.cell 1; go_simp; (try with_reducible rfl)
 (try simp only [Act.put, n1, n2, n3, n4, n5, n6])
 refine tk 3 (v := ?_) rfl (Or.inl ⟨by rfl, ?_⟩) ?_
 rotate_left
 ·intro w' hSw; (try dsimp only at hSw); have c0 := hSw.bx.cell 0; have c1 := hSw.bx.cell 1; have c2 := hSw.bx.cell 2; have c3 := hSw.bx.cell 3; have c4 := hSw.bx.cell 4; have c5 := hSw.bx.cell 5; have c6 := hSw.bx.cell 6; have c7 := hSw.bx.cell 7; have c8 := hSw.bx.cell 8; have c9 := hSw.bx.cell 9; have c10 := hSw.bx.cell 10; go_simp; (try with_reducible rfl)
 (try simp only [Act.put, n1, n2, n3, n4, n5, n6])
 refine wpAnyF_ready (rs := [4]) (by kernel_rfl) (by simp) ?_
 refine AllReadyF.cons rfl (fun KK hKK => ?_) AllReadyF.nil
 go_simp
 ((with_reducible refine (WI.out _).mono ?_); rintro e' w31 ⟨rfl, hb⟩; have hSS := hHeld.later hb; clear hb)
 (try go_simp)
 refine hKK.out _ _ hSS (fun hHeld => ?_)
 clear hKK KK
 (try simp only [Act.put, n1, n2, n3, n4, n5, n6])
 refine wpAnyF_ready (rs := [5]) (by kernel_rfl) (by simp) ?_
 refine AllReadyF.cons rfl (fun KK hKK => ?_) AllReadyF.nil
 go_simp
 ((with_reducible refine (RRD.out _ hHeld.tw.rd).mono ?_); rintro e' w32 ⟨rfl, hb⟩; have hSS := hHeld.later hb; clear hb)
 (try go_simp)
 refine hKK.out _ _ hSS (fun hHeld => ?_)
 clear hKK KK
 (try simp only [Act.put, n1, n2, n3, n4, n5, n6])
 refine tk 6 (v := ?_) rfl (Or.inl ⟨by rfl, ?_⟩) ?_
 rotate_left
 ·intro w' hSw; (try dsimp only at hSw); go_simp; (try with_reducible rfl)
 (try simp only [Act.put, n1, n2, n3, n4, n5, n6])
 refine tk 7 (v := ?_) rfl (Or.inl ⟨by rfl, ?_⟩) ?_
 rotate_left
 ·intro w' hSw; (try dsimp only at hSw); go_simp; (try with_reducible rfl)
 (try simp only [Act.put, n1, n2, n3, n4, n5, n6])
 refine tk 8 (v := ?_) rfl (Or.inl ⟨by rfl, ?_⟩) ?_
 rotate_left
 ·intro w' hSw; (try dsimp only at hSw); go_simp; (try with_reducible rfl)
 (try simp only [Act.put, n1, n2, n3, n4, n5, n6])
 refine tk 9 (v := ?_) rfl (Or.inl ⟨by rfl, ?_⟩) ?_
 rotate_left
 ·intro w' hSw; (try dsimp only at hSw); go_simp; (try with_reducible rfl)
 (try simp only [Act.put, n1, n2, n3, n4, n5, n6])
 refine tk 10 (v := ?_) rfl (Or.inl ⟨by rfl, ?_⟩) ?_
 rotate_left
 ·intro w' hSw; (try dsimp only at hSw); go_simp; (try with_reducible rfl)
 (try simp only [Act.put, n1, n2, n3, n4, n5, n6])
 refine wpAnyF_done (by kernel_rfl) ?_ _
 refine NoPanic.normal ?_
 have HS2 := hi hHeld
 clear hHeld
 have u2 := HS2.out.bx.cell 2
 have u3 := HS2.out.bx.cell 3
 go_wp2_with (first
  | (go_at_call 26; ((with_reducible refine (GT.out _ HS2.out.tw.di).mono ?_); rintro e w41 ⟨rfl, hb⟩; have hb1 := hb.alloc hb.size (.cells #[.bool ee, .bool ll, .bool hh, .bool aa, .bool nn, .int .i64 gg, .int .i64 pp] 58); have HS3 := hi (HS2.out.later hb1); have LB1 := hi (CB.new w41 58 #[.bool ee, .bool ll, .bool hh, .bool aa, .bool nn, .int .i64 gg, .int .i64 pp]); have r2 := HS3.out.bx.cell 2; have r3 := HS3.out.bx.cell 3; clear hb hb1))
  | (go_at_call 57; ((with_reducible refine (RGT.out _ HS3.out.tw.rd).mono ?_); rintro e w42 ⟨rfl, hb⟩; have hb1 := hb.alloc hb.size (.cells #[.bool ee, .bool ll, .bool hh, .bool aa, .bool nn, .int .i64 gg, .int .i64 pp] 58); have HS5 := hi (show (fun W' => AskS w p q b c p2 q2 b2 c2 D ⟨d, off, K, id, vv, ac, ⟨se, sl, sh, sa⟩, hb9⟩ W' ∧ CB W' w41.heap.size 58 #[.bool ee, .bool ll, .bool hh, .bool aa, .bool nn, .int .i64 gg, .int .i64 pp] ∧ CB W' w42.heap.size 58 #[.bool ee, .bool ll, .bool hh, .bool aa, .bool nn, .int .i64 gg, .int .i64 pp]) (w42.alloc (.cells #[.bool ee, .bool ll, .bool hh, .bool aa, .bool nn, .int .i64 gg, .int .i64 pp] 58)) from ⟨HS3.out.later hb1, LB1.out.below hb1, CB.new w42 58 #[.bool ee, .bool ll, .bool hh, .bool aa, .bool nn, .int .i64 gg, .int .i64 pp]⟩); clear hb hb1)))
 cases hk : hasN D.cs.length K
 ·have hal : asleepV D K = true := by unfold asleepV; rw [hk]; rfl
  rw [hal] at ASL
  rw [hk] at THR
  clear hk hal
  refine wp_region_noPanic ?_
  refine wp_region_last_drew (S := (fun W' => AskS w p q b c p2 q2 b2 c2 D ⟨d, off, K, id, vv, ac, ⟨se, sl, sh, sa⟩, hb9⟩ W' ∧ CB W' w41.heap.size 58 #[.bool ee, .bool ll, .bool hh, .bool aa, .bool nn, .int .i64 gg, .int .i64 pp] ∧ CB W' w42.heap.size 58 #[.bool ee, .bool ll, .bool hh, .bool aa, .bool nn, .int .i64 gg, .int .i64 pp])) [] (by kernel_rfl) ⟨HS5.out.1.later (Below.drewN (m := 1) (Below.refl _ _)), HS5.out.2.1.drew, HS5.out.2.2.drew⟩ (fun hHeld => ?_)
  (try simp only [r1, r2, r3, r4, r5])
  refine tk 0 (v := ?_) rfl (Or.inl ⟨by rfl, ?_⟩) ?_
  rotate_left
  ·intro w' hSw; (try dsimp only at hSw); go_simp; (try with_reducible rfl)
  (try simp only [Act.put, n1, n2, n3, n4, n5, n6])
  refine tk 1 (v := ?_) rfl (Or.inl ⟨by rfl, ?_⟩) ?_
  rotate_left
  ·intro w' hSw; (try dsimp only at hSw); go_simp; (try with_reducible rfl)
  (try simp only [Act.put, n1, n2, n3, n4, n5, n6])
  refine tk 2 (v := ?_) rfl (Or.inl ⟨by rfl, ?_⟩) ?_
  rotate_left
  ·intro w' hSw; (try dsimp only at hSw); go_simp; (try with_reducible rfl)
  (try simp only [Act.put, n1, n2, n3, n4, n5, n6])
  refine tk 3 (v := ?_) rfl (Or.inl ⟨by rfl, ?_⟩) ?_
  rotate_left
  ·intro w' hSw; (try dsimp only at hSw); go_simp; (try with_reducible rfl)
  (try simp only [Act.put, n1, n2, n3, n4, n5, n6])
  refine tk 4 (v := ?_) rfl (Or.inl ⟨by rfl, ?_⟩) ?_
  rotate_left
  ·intro w' hSw; (try dsimp only at hSw); go_simp; (try with_reducible rfl)
  (try simp only [Act.put, n1, n2, n3, n4, n5, n6])
  refine tk 5 (v := ?_) rfl (Or.inl ⟨by rfl, ?_⟩) ?_
  rotate_left
  ·intro w' hSw; (try dsimp only at hSw); go_simp; (try with_reducible rfl)
  (try simp only [Act.put, n1, n2, n3, n4, n5, n6])
  refine tk 6 (v := ?_) rfl (Or.inl ⟨by rfl, ?_⟩) ?_
  rotate_left
  ·intro w' hSw; (try dsimp only at hSw); go_simp; (try with_reducible rfl)
  (try simp only [Act.put, n1, n2, n3, n4, n5, n6])
  refine tk 7 (v := ?_) rfl (Or.inl ⟨by rfl, ?_⟩) ?_
  rotate_left
  ·intro w' hSw; (try dsimp only at hSw); go_simp; (try with_reducible rfl)
  (try simp only [Act.put, n1, n2, n3, n4, n5, n6])
  refine tk 8 (v := ?_) rfl (Or.inl ⟨by rfl, ?_⟩) ?_
  rotate_left
  ·intro w' hSw; (try dsimp only at hSw); go_simp; (try with_reducible rfl)
  (try simp only [Act.put, n1, n2, n3, n4, n5, n6])
  refine tk 9 (v := ?_) rfl (Or.inl ⟨by rfl, ?_⟩) ?_
  rotate_left
  ·intro w' hSw; (try dsimp only at hSw); have x0 := hSw.2.1.cell 0; have x1 := hSw.2.1.cell 1; have x2 := hSw.2.1.cell 2; have x3 := hSw.2.1.cell 3; have x4 := hSw.2.1.cell 4; have x5 := hSw.2.1.cell 5; have x6 := hSw.2.1.cell 6; go_simp; (try with_reducible rfl)
  (try simp only [Act.put, n1, n2, n3, n4, n5, n6])
  refine tk 10 (v := ?_) rfl (Or.inl ⟨by rfl, ?_⟩) ?_
  rotate_left
  ·intro w' hSw; (try dsimp only at hSw); have y0 := hSw.2.2.cell 0; have y1 := hSw.2.2.cell 1; have y2 := hSw.2.2.cell 2; have y3 := hSw.2.2.cell 3; have y4 := hSw.2.2.cell 4; have y5 := hSw.2.2.cell 5; have y6 := hSw.2.2.cell 6; go_simp; (try with_reducible rfl)
  (try simp only [Act.put, n1, n2, n3, n4, n5, n6])
  refine tk 11 (v := ?_) rfl (Or.inl ⟨by rfl, ?_⟩) ?_
  rotate_left
  ·intro w' hSw; (try dsimp only at hSw); go_simp; (try with_reducible rfl)
  (try simp only [Act.put, n1, n2, n3, n4, n5, n6])
  refine tk 12 (v := ?_) rfl (Or.inl ⟨by rfl, ?_⟩) ?_
  rotate_left
  ·intro w' hSw; (try dsimp only at hSw); go_simp; (try with_reducible rfl)
  (try simp only [Act.put, n1, n2, n3, n4, n5, n6])
  refine tk 13 (v := ?_) rfl (Or.inl ⟨by rfl, ?_⟩) ?_
  rotate_left
  ·intro w' hSw; (try dsimp only at hSw); go_simp; (try with_reducible rfl)
  (try simp only [Act.put, n1, n2, n3, n4, n5, n6])
  refine tk 14 (v := ?_) rfl (Or.inl ⟨by rfl, ?_⟩) ?_
  rotate_left
  ·intro w' hSw; (try dsimp only at hSw); go_simp; (try with_reducible rfl)
  (try simp only [Act.put, n1, n2, n3, n4, n5, n6])
  refine tk 15 (v := ?_) rfl (Or.inl ⟨by rfl, ?_⟩) ?_
  rotate_left
  ·intro w' hSw; (try dsimp only at hSw); go_simp; (try with_reducible rfl)
  (try simp only [Act.put, n1, n2, n3, n4, n5, n6])
  refine tk 16 (v := ?_) rfl (Or.inl ⟨by rfl, ?_⟩) ?_
  rotate_left
  ·intro w' hSw; (try dsimp only at hSw); go_simp; (try with_reducible rfl)
  (try simp only [Act.put, n1, n2, n3, n4, n5, n6])
  refine tk 17 (v := ?_) rfl (Or.inl ⟨by rfl, ?_⟩) ?_
  rotate_left
  ·intro w' hSw; (try dsimp only at hSw); go_simp; (try with_reducible rfl)
  (try simp only [Act.put, n1, n2, n3, n4, n5, n6])
  refine tk 18 (v := ?_) rfl (Or.inl ⟨by rfl, ?_⟩) ?_
  rotate_left
  ·intro w' hSw; (try dsimp only at hSw); go_simp; (try with_reducible rfl)
  (try simp only [Act.put, n1, n2, n3, n4, n5, n6])
  refine tk 19 (v := ?_) rfl (Or.inl ⟨by rfl, ?_⟩) ?_
  rotate_left
  ·intro w' hSw; (try dsimp only at hSw); go_simp; (try with_reducible rfl)
  (try simp only [Act.put, n1, n2, n3, n4, n5, n6])
  refine tk 20 (v := ?_) rfl (Or.inl ⟨by rfl, ?_⟩) ?_
  rotate_left
  ·intro w' hSw; (try dsimp only at hSw); go_simp; (try with_reducible rfl)
  (try simp only [Act.put, n1, n2, n3, n4, n5, n6])
  refine tk 21 (v := ?_) rfl (Or.inl ⟨by rfl, ?_⟩) ?_
  rotate_left
  ·intro w' hSw; (try dsimp only at hSw); have c3 := hSw.1.bx.cell 3; go_simp; (try with_reducible rfl)
  (try simp only [Act.put, n1, n2, n3, n4, n5, n6])
  refine tk 23 (v := ?_) rfl (Or.inl ⟨by rfl, ?_⟩) ?_
  rotate_left
  ·intro w' hSw; (try dsimp only at hSw); go_simp; (try with_reducible rfl)
  (try simp only [Act.put, n1, n2, n3, n4, n5, n6])
  refine tk 24 (v := ?_) rfl (Or.inl ⟨by rfl, ?_⟩) ?_
  rotate_left
  ·intro w' hSw; (try dsimp only at hSw); go_simp; (try with_reducible rfl)
  (try simp only [Act.put, n1, n2, n3, n4, n5, n6])
  refine tk 25 (v := ?_) rfl (Or.inl ⟨by rfl, ?_⟩) ?_
  rotate_left
  ·intro w' hSw; (try dsimp only at hSw); have c3 := hSw.1.bx.cell 3; go_simp; (try with_reducible rfl)
  (try simp only [Act.put, n1, n2, n3, n4, n5, n6])
  refine wpAnyF_ready (rs := [22]) (by kernel_rfl) (by simp) ?_
  refine AllReadyF.cons rfl (fun KK hKK => ?_) AllReadyF.nil
  go_simp
  ((with_reducible refine (TG.out _ hHeld.1.tw.di).mono ?_); rintro e' w51 ⟨rfl, hb⟩; have hSS := And.intro (hHeld.1.later hb) (And.intro (hHeld.2.1.below hb) (hHeld.2.2.below hb)); clear hb)
  (try go_simp)
  refine hKK.out _ _ hSS (fun hHeld => ?_)
  clear hKK KK
  (try simp only [Act.put, n1, n2, n3, n4, n5, n6])
  refine wpAnyF_ready (rs := [26]) (by kernel_rfl) (by simp) ?_
  refine AllReadyF.cons rfl (fun KK hKK => ?_) AllReadyF.nil
  go_simp
  ((with_reducible refine (RTG.out _ hHeld.1.tw.rd).mono ?_); rintro e' w52 ⟨rfl, rfl⟩)
  (try go_simp)
  refine hKK.out _ _ hHeld (fun hHeld => ?_)
  clear hKK KK
  (try simp only [Act.put, n1, n2, n3, n4, n5, n6])
  refine tk 27 (v := ?_) rfl (Or.inl ⟨by rfl, ?_⟩) ?_
  rotate_left
  ·intro w' hSw; (try dsimp only at hSw); go_simp; (try with_reducible rfl)
  (try simp only [Act.put, n1, n2, n3, n4, n5, n6])
  refine tk 28 (v := ?_) rfl (Or.inl ⟨by rfl, ?_⟩) ?_
  rotate_left
  ·intro w' hSw; (try dsimp only at hSw); go_simp; (try with_reducible rfl)
  (try simp only [Act.put, n1, n2, n3, n4, n5, n6])
  refine tk 29 (v := ?_) rfl (Or.inl ⟨by rfl, ?_⟩) ?_
  rotate_left
  ·intro w' hSw; (try dsimp only at hSw); go_simp; (try with_reducible rfl)
  (try simp only [Act.put, n1, n2, n3, n4, n5, n6])
  refine tk 30 (v := ?_) rfl (Or.inl ⟨by rfl, ?_⟩) ?_
  rotate_left
  ·intro w' hSw; (try dsimp only at hSw); go_simp; (try with_reducible rfl)
  (try simp only [Act.put, n1, n2, n3, n4, n5, n6])
  refine tk 31 (v := ?_) rfl (Or.inl ⟨by rfl, ?_⟩) ?_
  rotate_left
  ·intro w' hSw; (try dsimp only at hSw); go_simp; (try with_reducible rfl)
  (try simp only [Act.put, n1, n2, n3, n4, n5, n6])
  refine tk 32 (v := ?_) rfl (Or.inl ⟨by rfl, ?_⟩) ?_
  rotate_left
  ·intro w' hSw; (try dsimp only at hSw); have c2 := hSw.1.bx.cell 2; go_simp; (try with_reducible rfl)
  (try simp only [Act.put, n1, n2, n3, n4, n5, n6])
  refine tk 34 (v := ?_) rfl (Or.inl ⟨by rfl, ?_⟩) ?_
  rotate_left
  ·intro w' hSw; (try dsimp only at hSw); go_simp; (try with_reducible rfl)
  (try simp only [Act.put, n1, n2, n3, n4, n5, n6])
  refine tk 35 (v := ?_) rfl (Or.inl ⟨by rfl, ?_⟩) ?_
  rotate_left
  ·intro w' hSw; (try dsimp only at hSw); go_simp; (try with_reducible rfl)
  (try simp only [Act.put, n1, n2, n3, n4, n5, n6])
  refine tk 36 (v := ?_) rfl (Or.inl ⟨by rfl, ?_⟩) ?_
  rotate_left
  ·intro w' hSw; (try dsimp only at hSw); have c2 := hSw.1.bx.cell 2; go_simp; (try with_reducible rfl)
  (try simp only [Act.put, n1, n2, n3, n4, n5, n6])
  refine wpAnyF_ready (rs := [33]) (by kernel_rfl) (by simp) ?_
  refine AllReadyF.cons rfl (fun KK hKK => ?_) AllReadyF.nil
  go_simp
  ((with_reducible refine (ASL.out _ hHeld.1.tw.di).mono ?_); rintro e' w53 ⟨rfl, rfl⟩)
  (try go_simp)
  refine hKK.out _ _ hHeld (fun hHeld => ?_)
  clear hKK KK
  (try simp only [Act.put, n1, n2, n3, n4, n5, n6])
  refine wpAnyF_ready (rs := [37]) (by kernel_rfl) (by simp) ?_
  refine AllReadyF.cons rfl (fun KK hKK => ?_) AllReadyF.nil
  go_simp
  ((with_reducible refine (THR.out _ hHeld.1.tw.rd).mono ?_); rintro e' w54 ⟨rfl, rfl⟩)
  (try go_simp)
  refine hKK.out _ _ hHeld (fun hHeld => ?_)
  clear hKK KK
  (try simp only [Act.put, n1, n2, n3, n4, n5, n6])
  refine tk 38 (v := ?_) rfl (Or.inl ⟨by rfl, ?_⟩) ?_
  rotate_left
  ·intro w' hSw; (try dsimp only at hSw); go_simp; (try with_reducible rfl)
  (try simp only [Act.put, n1, n2, n3, n4, n5, n6])
  refine tk 39 (v := ?_) rfl (Or.inl ⟨by rfl, ?_⟩) ?_
  rotate_left
  ·intro w' hSw; (try dsimp only at hSw); go_simp; (try with_reducible rfl)
  (try simp only [Act.put, n1, n2, n3, n4, n5, n6])
  refine tk 40 (v := undef) rfl (Or.inr ⟨by rfl, rfl⟩) ?_
  (try simp only [Act.put, n1, n2, n3, n4, n5, n6])
  refine tk 41 (v := undef) rfl (Or.inr ⟨by rfl, rfl⟩) ?_
  (try simp only [Act.put, n1, n2, n3, n4, n5, n6])
  refine tk 42 (v := undef) rfl (Or.inr ⟨by rfl, rfl⟩) ?_
  (try simp only [Act.put, n1, n2, n3, n4, n5, n6])
  refine tk 43 (v := undef) rfl (Or.inr ⟨by rfl, rfl⟩) ?_
  (try simp only [Act.put, n1, n2, n3, n4, n5, n6])
  refine tk 44 (v := undef) rfl (Or.inr ⟨by rfl, rfl⟩) ?_
  (try simp only [Act.put, n1, n2, n3, n4, n5, n6])
  refine tk 45 (v := undef) rfl (Or.inr ⟨by rfl, rfl⟩) ?_
  (try simp only [Act.put, n1, n2, n3, n4, n5, n6])
  refine tk 46 (v := undef) rfl (Or.inr ⟨by rfl, rfl⟩) ?_
  (try simp only [Act.put, n1, n2, n3, n4, n5, n6])
  refine tk 47 (v := undef) rfl (Or.inr ⟨by rfl, rfl⟩) ?_
  (try simp only [Act.put, n1, n2, n3, n4, n5, n6])
  refine tk 48 (v := ?_) rfl (Or.inl ⟨by rfl, ?_⟩) ?_
  rotate_left
  ·intro w' hSw; (try dsimp only at hSw); go_simp; (try with_reducible rfl)
  (try simp only [Act.put, n1, n2, n3, n4, n5, n6])
  refine tk 49 (v := ?_) rfl (Or.inl ⟨by rfl, ?_⟩) ?_
  rotate_left
  ·intro w' hSw; (try dsimp only at hSw); go_simp; (try with_reducible rfl)
  (try simp only [Act.put, n1, n2, n3, n4, n5, n6])
  refine tk 50 (v := ?_) rfl (Or.inl ⟨by rfl, ?_⟩) ?_
  rotate_left
  ·intro w' hSw; (try dsimp only at hSw); go_simp; (try with_reducible rfl)
  (try simp only [Act.put, n1, n2, n3, n4, n5, n6])
  refine wpAnyF_done (by kernel_rfl) ?_ _
  refine NoPanic.normal ?_
  have HS6 := hi hHeld.1
  clear hHeld
  have hx1 := HS6.out.bx.cell 1
  have hx2 := HS6.out.bx.cell 2
  by_cases hfe : fe = 0
  ·subst hfe
   go_wp2_with (first
    | (go_at_call 47; ((with_reducible refine (FR.out _).mono ?_); rintro e w61 ⟨rfl, hb⟩; have hb1 := hb.alloc hb.size (.cells #[.int .i64 fr, .int .i64 ff, .int .i64 fc] 70); have HS7 := hi (HS6.out.later hb1); have pp0 := CB.new w61 70 #[.int .i64 fr, .int .i64 ff, .int .i64 fc]; have HPP := hi pp0; have g2 := HS7.out.bx.cell 2; clear hb hb1 pp0))
    | (go_at_call 32; ((with_reducible refine (RO.out _ HS7.out.tw.di).mono ?_); rintro e w62 ⟨rfl, hb⟩; have HS8 := hi (HS7.out.later hb); have q2' := HPP.out.below hb; have s0 := q2'.cell 0; have s1 := q2'.cell 1; have s2 := q2'.cell 2; have g2 := HS8.out.bx.cell 2; clear hb q2'))
    | (go_at_call 61; ((with_reducible refine (RRO.out _ HS8.out.tw.rd).mono ?_); rintro e w63 ⟨rfl, hb⟩; have HS9 := hi (HS8.out.later hb); clear hb)))
   go_ret
   exact ⟨rfl, HS9.out.below⟩
  ·have dfe : (fe != 0) = true := by simpa using hfe
   go_wp2_with (go_at_call 47; ((with_reducible refine (FR.out _).mono ?_); rintro e w61 ⟨rfl, hb⟩; have hb1 := hb.alloc hb.size (.cells #[.int .i64 fr, .int .i64 ff, .int .i64 fc] 70); have HS7 := hi (HS6.out.later hb1); clear hb hb1))
   go_ret
   exact ⟨rfl, HS7.out.below⟩
 ·obtain ⟨j, rfl, hj⟩ := hasN_at hk
  have HJ := hi hj
  have hal : asleepV D (j : Int) = (D.nth j).sl := by unfold asleepV; rw [hk, Int.toNat_natCast]; simp
  rw [hal] at ASL
  rw [hk] at THR
  obtain ⟨sl9, hsl9⟩ : ∃ sl9, (D.nth j).sl = sl9 := ⟨_, rfl⟩
  rw [hsl9] at ASL
  have hj' : (j : Int) < D.cs.length := by omega
  clear hk hal hj
  refine wp_region_noPanic ?_
  refine wp_region_last_drew (S := (fun W' => AskS w p q b c p2 q2 b2 c2 D ⟨d, off, (j : Int), id, vv, ac, ⟨se, sl, sh, sa⟩, hb9⟩ W' ∧ CB W' w41.heap.size 58 #[.bool ee, .bool ll, .bool hh, .bool aa, .bool nn, .int .i64 gg, .int .i64 pp] ∧ CB W' w42.heap.size 58 #[.bool ee, .bool ll, .bool hh, .bool aa, .bool nn, .int .i64 gg, .int .i64 pp])) [] (by kernel_rfl) ⟨HS5.out.1.later (Below.drewN (m := 1) (Below.refl _ _)), HS5.out.2.1.drew, HS5.out.2.2.drew⟩ (fun hHeld => ?_)
  (try simp only [r1, r2, r3, r4, r5])
  refine tk 0 (v := ?_) rfl (Or.inl ⟨by rfl, ?_⟩) ?_
  rotate_left
  ·intro w' hSw; (try dsimp only at hSw); go_simp; (try with_reducible rfl)
  (try simp only [Act.put, n1, n2, n3, n4, n5, n6])
  refine tk 1 (v := ?_) rfl (Or.inl ⟨by rfl, ?_⟩) ?_
  rotate_left
  ·intro w' hSw; (try dsimp only at hSw); go_simp; (try with_reducible rfl)
  (try simp only [Act.put, n1, n2, n3, n4, n5, n6])
  refine tk 2 (v := ?_) rfl (Or.inl ⟨by rfl, ?_⟩) ?_
  rotate_left
  ·intro w' hSw; (try dsimp only at hSw); go_simp; (try with_reducible rfl)
  (try simp only [Act.put, n1, n2, n3, n4, n5, n6])
  refine tk 3 (v := ?_) rfl (Or.inl ⟨by rfl, ?_⟩) ?_
  rotate_left
  ·intro w' hSw; (try dsimp only at hSw); go_simp; (try with_reducible rfl)
  (try simp only [Act.put, n1, n2, n3, n4, n5, n6])
  refine tk 4 (v := ?_) rfl (Or.inl ⟨by rfl, ?_⟩) ?_
  rotate_left
  ·intro w' hSw; (try dsimp only at hSw); go_simp; (try with_reducible rfl)
  (try simp only [Act.put, n1, n2, n3, n4, n5, n6])
  refine tk 5 (v := ?_) rfl (Or.inl ⟨by rfl, ?_⟩) ?_
  rotate_left
  ·intro w' hSw; (try dsimp only at hSw); go_simp; (try with_reducible rfl)
  (try simp only [Act.put, n1, n2, n3, n4, n5, n6])
  refine tk 6 (v := ?_) rfl (Or.inl ⟨by rfl, ?_⟩) ?_
  rotate_left
  ·intro w' hSw; (try dsimp only at hSw); go_simp; (try with_reducible rfl)
  (try simp only [Act.put, n1, n2, n3, n4, n5, n6])
  refine tk 7 (v := ?_) rfl (Or.inl ⟨by rfl, ?_⟩) ?_
  rotate_left
  ·intro w' hSw; (try dsimp only at hSw); go_simp; (try with_reducible rfl)
  (try simp only [Act.put, n1, n2, n3, n4, n5, n6])
  refine tk 8 (v := ?_) rfl (Or.inl ⟨by rfl, ?_⟩) ?_
  rotate_left
  ·intro w' hSw; (try dsimp only at hSw); go_simp; (try with_reducible rfl)
  (try simp only [Act.put, n1, n2, n3, n4, n5, n6])
  refine tk 9 (v := ?_) rfl (Or.inl ⟨by rfl, ?_⟩) ?_
  rotate_left
  ·intro w' hSw; (try dsimp only at hSw); have x0 := hSw.2.1.cell 0; have x1 := hSw.2.1.cell 1; have x2 := hSw.2.1.cell 2; have x3 := hSw.2.1.cell 3; have x4 := hSw.2.1.cell 4; have x5 := hSw.2.1.cell 5; have x6 := hSw.2.1.cell 6; go_simp; (try with_reducible rfl)
  (try simp only [Act.put, n1, n2, n3, n4, n5, n6])
  refine tk 10 (v := ?_) rfl (Or.inl ⟨by rfl, ?_⟩) ?_
  rotate_left
  ·intro w' hSw; (try dsimp only at hSw); have y0 := hSw.2.2.cell 0; have y1 := hSw.2.2.cell 1; have y2 := hSw.2.2.cell 2; have y3 := hSw.2.2.cell 3; have y4 := hSw.2.2.cell 4; have y5 := hSw.2.2.cell 5; have y6 := hSw.2.2.cell 6; go_simp; (try with_reducible rfl)
  (try simp only [Act.put, n1, n2, n3, n4, n5, n6])
  refine tk 11 (v := ?_) rfl (Or.inl ⟨by rfl, ?_⟩) ?_
  rotate_left
  ·intro w' hSw; (try dsimp only at hSw); go_simp; (try with_reducible rfl)
  (try simp only [Act.put, n1, n2, n3, n4, n5, n6])
  refine tk 12 (v := ?_) rfl (Or.inl ⟨by rfl, ?_⟩) ?_
  rotate_left
  ·intro w' hSw; (try dsimp only at hSw); go_simp; (try with_reducible rfl)
  (try simp only [Act.put, n1, n2, n3, n4, n5, n6])
  refine tk 13 (v := ?_) rfl (Or.inl ⟨by rfl, ?_⟩) ?_
  rotate_left
  ·intro w' hSw; (try dsimp only at hSw); go_simp; (try with_reducible rfl)
  (try simp only [Act.put, n1, n2, n3, n4, n5, n6])
  refine tk 14 (v := ?_) rfl (Or.inl ⟨by rfl, ?_⟩) ?_
  rotate_left
  ·intro w' hSw; (try dsimp only at hSw); go_simp; (try with_reducible rfl)
  (try simp only [Act.put, n1, n2, n3, n4, n5, n6])
  refine tk 15 (v := ?_) rfl (Or.inl ⟨by rfl, ?_⟩) ?_
  rotate_left
  ·intro w' hSw; (try dsimp only at hSw); go_simp; (try with_reducible rfl)
  (try simp only [Act.put, n1, n2, n3, n4, n5, n6])
  refine tk 16 (v := ?_) rfl (Or.inl ⟨by rfl, ?_⟩) ?_
  rotate_left
  ·intro w' hSw; (try dsimp only at hSw); go_simp; (try with_reducible rfl)
  (try simp only [Act.put, n1, n2, n3, n4, n5, n6])
  refine tk 17 (v := ?_) rfl (Or.inl ⟨by rfl, ?_⟩) ?_
  rotate_left
  ·intro w' hSw; (try dsimp only at hSw); go_simp; (try with_reducible rfl)
  (try simp only [Act.put, n1, n2, n3, n4, n5, n6])
  refine tk 18 (v := ?_) rfl (Or.inl ⟨by rfl, ?_⟩) ?_
  rotate_left
  ·intro w' hSw; (try dsimp only at hSw); go_simp; (try with_reducible rfl)
  (try simp only [Act.put, n1, n2, n3, n4, n5, n6])
  refine tk 19 (v := ?_) rfl (Or.inl ⟨by rfl, ?_⟩) ?_
  rotate_left
  ·intro w' hSw; (try dsimp only at hSw); go_simp; (try with_reducible rfl)
  (try simp only [Act.put, n1, n2, n3, n4, n5, n6])
  refine tk 20 (v := ?_) rfl (Or.inl ⟨by rfl, ?_⟩) ?_
  rotate_left
  ·intro w' hSw; (try dsimp only at hSw); go_simp; (try with_reducible rfl)
  (try simp only [Act.put, n1, n2, n3, n4, n5, n6])
  refine tk 21 (v := ?_) rfl (Or.inl ⟨by rfl, ?_⟩) ?_
  rotate_left
  ·intro w' hSw; (try dsimp only at hSw); have c3 := hSw.1.bx.cell 3; go_simp; (try with_reducible rfl)
  (try simp only [Act.put, n1, n2, n3, n4, n5, n6])
  refine tk 23 (v := ?_) rfl (Or.inl ⟨by rfl, ?_⟩) ?_
  rotate_left
  ·intro w' hSw; (try dsimp only at hSw); go_simp; (try with_reducible rfl)
  (try simp only [Act.put, n1, n2, n3, n4, n5, n6])
  refine tk 24 (v := ?_) rfl (Or.inl ⟨by rfl, ?_⟩) ?_
  rotate_left
  ·intro w' hSw; (try dsimp only at hSw); go_simp; (try with_reducible rfl)
  (try simp only [Act.put, n1, n2, n3, n4, n5, n6])
  refine tk 25 (v := ?_) rfl (Or.inl ⟨by rfl, ?_⟩) ?_
  rotate_left
  ·intro w' hSw; (try dsimp only at hSw); have c3 := hSw.1.bx.cell 3; go_simp; (try with_reducible rfl)
  (try simp only [Act.put, n1, n2, n3, n4, n5, n6])
  refine wpAnyF_ready (rs := [22]) (by kernel_rfl) (by simp) ?_
  refine AllReadyF.cons rfl (fun KK hKK => ?_) AllReadyF.nil
  go_simp
  ((with_reducible refine (TG.out _ hHeld.1.tw.di).mono ?_); rintro e' w51 ⟨rfl, hb⟩; have hSS := And.intro (hHeld.1.later hb) (And.intro (hHeld.2.1.below hb) (hHeld.2.2.below hb)); clear hb)
  (try go_simp)
  refine hKK.out _ _ hSS (fun hHeld => ?_)
  clear hKK KK
  (try simp only [Act.put, n1, n2, n3, n4, n5, n6])
  refine wpAnyF_ready (rs := [26]) (by kernel_rfl) (by simp) ?_
  refine AllReadyF.cons rfl (fun KK hKK => ?_) AllReadyF.nil
  go_simp
  ((with_reducible refine (RTG.out _ hHeld.1.tw.rd).mono ?_); rintro e' w52 ⟨rfl, rfl⟩)
  (try go_simp)
  refine hKK.out _ _ hHeld (fun hHeld => ?_)
  clear hKK KK
  (try simp only [Act.put, n1, n2, n3, n4, n5, n6])
  refine tk 27 (v := ?_) rfl (Or.inl ⟨by rfl, ?_⟩) ?_
  rotate_left
  ·intro w' hSw; (try dsimp only at hSw); go_simp; (try with_reducible rfl)
  (try simp only [Act.put, n1, n2, n3, n4, n5, n6])
  refine tk 28 (v := ?_) rfl (Or.inl ⟨by rfl, ?_⟩) ?_
  rotate_left
  ·intro w' hSw; (try dsimp only at hSw); go_simp; (try with_reducible rfl)
  (try simp only [Act.put, n1, n2, n3, n4, n5, n6])
  refine tk 29 (v := ?_) rfl (Or.inl ⟨by rfl, ?_⟩) ?_
  rotate_left
  ·intro w' hSw; (try dsimp only at hSw); go_simp; (try with_reducible rfl)
  (try simp only [Act.put, n1, n2, n3, n4, n5, n6])
  refine tk 30 (v := ?_) rfl (Or.inl ⟨by rfl, ?_⟩) ?_
  rotate_left
  ·intro w' hSw; (try dsimp only at hSw); go_simp; (try with_reducible rfl)
  (try simp only [Act.put, n1, n2, n3, n4, n5, n6])
  refine tk 31 (v := ?_) rfl (Or.inl ⟨by rfl, ?_⟩) ?_
  rotate_left
  ·intro w' hSw; (try dsimp only at hSw); go_simp; (try with_reducible rfl)
  (try simp only [Act.put, n1, n2, n3, n4, n5, n6])
  refine tk 32 (v := ?_) rfl (Or.inl ⟨by rfl, ?_⟩) ?_
  rotate_left
  ·intro w' hSw; (try dsimp only at hSw); have c2 := hSw.1.bx.cell 2; go_simp; (try with_reducible rfl)
  (try simp only [Act.put, n1, n2, n3, n4, n5, n6])
  refine tk 34 (v := ?_) rfl (Or.inl ⟨by rfl, ?_⟩) ?_
  rotate_left
  ·intro w' hSw; (try dsimp only at hSw); go_simp; (try with_reducible rfl)
  (try simp only [Act.put, n1, n2, n3, n4, n5, n6])
  refine tk 35 (v := ?_) rfl (Or.inl ⟨by rfl, ?_⟩) ?_
  rotate_left
  ·intro w' hSw; (try dsimp only at hSw); go_simp; (try with_reducible rfl)
  (try simp only [Act.put, n1, n2, n3, n4, n5, n6])
  refine tk 36 (v := ?_) rfl (Or.inl ⟨by rfl, ?_⟩) ?_
  rotate_left
  ·intro w' hSw; (try dsimp only at hSw); have c2 := hSw.1.bx.cell 2; go_simp; (try with_reducible rfl)
  (try simp only [Act.put, n1, n2, n3, n4, n5, n6])
  refine wpAnyF_ready (rs := [33]) (by kernel_rfl) (by simp) ?_
  refine AllReadyF.cons rfl (fun KK hKK => ?_) AllReadyF.nil
  go_simp
  ((with_reducible refine (ASL.out _ hHeld.1.tw.di).mono ?_); rintro e' w53 ⟨rfl, rfl⟩)
  (try go_simp)
  refine hKK.out _ _ hHeld (fun hHeld => ?_)
  clear hKK KK
  (try simp only [Act.put, n1, n2, n3, n4, n5, n6])
  refine wpAnyF_ready (rs := [37]) (by kernel_rfl) (by simp) ?_
  refine AllReadyF.cons rfl (fun KK hKK => ?_) AllReadyF.nil
  go_simp
  ((with_reducible refine (THR.out _ hHeld.1.tw.rd).mono ?_); rintro e' w54 ⟨rfl, rfl⟩)
  (try go_simp)
  refine hKK.out _ _ hHeld (fun hHeld => ?_)
  clear hKK KK
  (try simp only [Act.put, n1, n2, n3, n4, n5, n6])
  refine tk 38 (v := ?_) rfl (Or.inl ⟨by rfl, ?_⟩) ?_
  rotate_left
  ·intro w' hSw; (try dsimp only at hSw); go_simp; (try with_reducible rfl)
  (try simp only [Act.put, n1, n2, n3, n4, n5, n6])
  refine tk 39 (v := ?_) rfl (Or.inl ⟨by rfl, ?_⟩) ?_
  rotate_left
  ·intro w' hSw; (try dsimp only at hSw); go_simp; (try with_reducible rfl)
  (try simp only [Act.put, n1, n2, n3, n4, n5, n6])
  refine tk 40 (v := ?_) rfl (Or.inl ⟨by rfl, ?_⟩) ?_
  rotate_left
  ·intro w' hSw; (try dsimp only at hSw); go_simp; (try with_reducible rfl)
  (try simp only [Act.put, n1, n2, n3, n4, n5, n6])
  refine tk 41 (v := ?_) rfl (Or.inl ⟨by rfl, ?_⟩) ?_
  rotate_left
  ·intro w' hSw; (try dsimp only at hSw); go_simp; (try with_reducible rfl)
  (try simp only [Act.put, n1, n2, n3, n4, n5, n6])
  refine tk 42 (v := ?_) rfl (Or.inl ⟨by rfl, ?_⟩) ?_
  rotate_left
  ·intro w' hSw; (try dsimp only at hSw); go_simp; (try with_reducible rfl)
  (try simp only [Act.put, n1, n2, n3, n4, n5, n6])
  refine tk 43 (v := ?_) rfl (Or.inl ⟨by rfl, ?_⟩) ?_
  rotate_left
  ·intro w' hSw; (try dsimp only at hSw); have z6 := hSw.1.tw.rd.box.cell 6; go_simp; (try with_reducible rfl)
  (try simp only [Act.put, n1, n2, n3, n4, n5, n6])
  refine tk 44 (v := ?_) rfl (Or.inl ⟨by rfl, ?_⟩) ?_
  rotate_left
  ·intro w' hSw; (try dsimp only at hSw); go_simp; (try with_reducible rfl)
  (try simp only [Act.put, n1, n2, n3, n4, n5, n6])
  refine tk 45 (v := ?_) rfl (Or.inl ⟨by rfl, ?_⟩) ?_
  rotate_left
  ·intro w' hSw; (try dsimp only at hSw); have c2 := hSw.1.bx.cell 2; go_simp; (try with_reducible rfl)
  (try simp only [Act.put, n1, n2, n3, n4, n5, n6])
  refine tk 46 (v := ?_) rfl (Or.inl ⟨by rfl, ?_⟩) ?_
  rotate_left
  ·intro w' hSw; (try dsimp only at hSw); go_simp; (try with_reducible rfl)
  (try simp only [Act.put, n1, n2, n3, n4, n5, n6])
  refine tk 47 (v := ?_) rfl (Or.inl ⟨by rfl, ?_⟩) ?_
  rotate_left
  ·intro w' hSw; (try dsimp only at hSw); have zs := hSw.1.tw.rd.slpc HJ.out; go_simp; (try with_reducible rfl)
  (try simp only [Act.put, n1, n2, n3, n4, n5, n6])
  refine tk 48 (v := ?_) rfl (Or.inl ⟨by rfl, ?_⟩) ?_
  rotate_left
  ·intro w' hSw; (try dsimp only at hSw); go_simp; (try with_reducible rfl)
  (try simp only [Act.put, n1, n2, n3, n4, n5, n6])
  refine tk 49 (v := ?_) rfl (Or.inl ⟨by rfl, ?_⟩) ?_
  rotate_left
  ·intro w' hSw; (try dsimp only at hSw); go_simp; (try with_reducible rfl)
  (try simp only [Act.put, n1, n2, n3, n4, n5, n6])
  refine tk 50 (v := ?_) rfl (Or.inl ⟨by rfl, ?_⟩) ?_
  rotate_left
  ·intro w' hSw; (try dsimp only at hSw); go_simp; (try with_reducible rfl)
  (try simp only [Act.put, n1, n2, n3, n4, n5, n6])
  refine wpAnyF_done (by kernel_rfl) ?_ _
  refine NoPanic.normal ?_
  have HS6 := hi hHeld.1
  clear hHeld
  have hx1 := HS6.out.bx.cell 1
  have hx2 := HS6.out.bx.cell 2
  by_cases hfe : fe = 0
  ·subst hfe
   go_wp2_with (first
    | (go_at_call 47; ((with_reducible refine (FR.out _).mono ?_); rintro e w61 ⟨rfl, hb⟩; have hb1 := hb.alloc hb.size (.cells #[.int .i64 fr, .int .i64 ff, .int .i64 fc] 70); have HS7 := hi (HS6.out.later hb1); have pp0 := CB.new w61 70 #[.int .i64 fr, .int .i64 ff, .int .i64 fc]; have HPP := hi pp0; have g2 := HS7.out.bx.cell 2; clear hb hb1 pp0))
    | (go_at_call 32; ((with_reducible refine (RO.out _ HS7.out.tw.di).mono ?_); rintro e w62 ⟨rfl, hb⟩; have HS8 := hi (HS7.out.later hb); have q2' := HPP.out.below hb; have s0 := q2'.cell 0; have s1 := q2'.cell 1; have s2 := q2'.cell 2; have g2 := HS8.out.bx.cell 2; clear hb q2'))
    | (go_at_call 61; ((with_reducible refine (RRO.out _ HS8.out.tw.rd).mono ?_); rintro e w63 ⟨rfl, hb⟩; have HS9 := hi (HS8.out.later hb); clear hb)))
   go_ret
   exact ⟨rfl, HS9.out.below⟩
  ·have dfe : (fe != 0) = true := by simpa using hfe
   go_wp2_with (go_at_call 47; ((with_reducible refine (FR.out _).mono ?_); rintro e w61 ⟨rfl, hb⟩; have hb1 := hb.alloc hb.size (.cells #[.int .i64 fr, .int .i64 ff, .int .i64 fc] 70); have HS7 := hi (HS6.out.later hb1); clear hb hb1))
   go_ret
   exact ⟨rfl, HS7.out.below⟩
end Go.Proofs.YtieedhdmpabfkaaGreat
