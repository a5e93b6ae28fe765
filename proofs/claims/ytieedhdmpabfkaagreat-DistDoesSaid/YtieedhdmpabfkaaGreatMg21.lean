import Derived.Test.YtieedhdmpabfkaaGreatMg02
import Derived.Test.YtieedhdmpabfkaaGreatMg20
set_option linter.unusedSimpArgs false
namespace Go.Proofs.YtieedhdmpabfkaaGreat
open Go.ChangeShapes Go.WideShapes Go.ChangeAt Go.RowKit Go.Shelf
set_option linter.unusedVariables false
attribute [local go_sem] Oper.semAt_some
theorem rfb_read {x lg xg : Nat} {f : Int} {es : List En} {p : Pl} {n : Nat} {w : World} (h : RfB w x lg xg f es) (hf : Fit f es.length) (hfine : FineAll es) (hp : PlOk p n) :
  Calls Tryz.prog 101 #[.pointer (some ⟨x, 0, none⟩), p.v] w fun e w' => e = .returned (.int .u64 (readV p n f es : Nat)) ∧ Below w.heap.size w w' := by
 obtain ⟨la, xa, lc, xc, h⟩ := h
 exact rread_any h hf hfine hp
theorem rfb_write {x lg xg : Nat} {f : Int} {es : List En} {p : Pl} {n v : Nat} {w : World} (h : RfB w x lg xg f es) (hf : Fit f es.length) (hfine : FineAll es) (hp : PlOk p n) (hv : v < 18446744073709551616) :
  Calls Tryz.prog 91 #[.pointer (some ⟨x, 0, none⟩), p.v, .int .u64 v] w fun e w' => e = .returned (.int .i64 ((writeV p n f v es).2 : Nat)) ∧ RfAf w x lg xg f (writeV p n f v es).1 w' := by
 obtain ⟨la, xa, lc, xc, h⟩ := h
 exact (rwrite_any h hf hfine hp hv).mono fun e w' q => ⟨q.1, q.2.af⟩
section
variable {w : World} {lo hi' : Nat} {b c : Nat → Nat} {D : Ds}
set_option maxRecDepth 100000 in
set_option maxHeartbeats 2000000 in
theorem rreadOwn_dist (h : RdAt w lo hi' b c D) (ok : D.Ok) {k : Int} {p : Pl} (hp : ∃ n, PlOk p n) :
  Calls Tryz.prog 61 #[.pointer (some ⟨b 0, 0, none⟩), .int .i64 k, p.v] w fun e w' => e = .returned (.tuple #[.int .u64 (readOwnV D k p).1, .int .i64 (readOwnV D k p).2]) ∧ Below w.heap.size w w' := by
 obtain ⟨n0, hp⟩ := hp
 have hp := hp.cn
 have hbal := bal w (.cells p.cs 70)
 have HB0 := hi hbal
 have H1 := h.below hbal
 have hlt := h.box.lt
 unfold readOwnV
 cases hk : hasN D.cs.length k
 ·have HH := hi (H1.there k)
  rw [hk] at HH
  clear h hk ok H1 hp
  obtain ⟨r, f, n⟩ := p
  dsimp only [Pl.cs] at HH HB0
  dsimp only [Pl.v]
  go_enter Tryz.func61, Tryz.ntmps61
  go_wp2_with (go_at_call 60; ((with_reducible refine HH.out.mono ?_); rintro e w1 ⟨rfl, rfl⟩))
  go_ret2
  exact ⟨rfl, HB0.out⟩
 ·obtain ⟨j, rfl, hj⟩ := hasN_at hk
  simp only [if_true, Int.toNat_natCast]
  have HH := hi (H1.thereNat hj)
  by_cases hr : p.r = 3
  ·rw [if_pos hr]
   have c6 := H1.box.cell 6
   have q1 := H1.slpc hj
   obtain ⟨s, hs⟩ : ∃ s, (D.nth j).sl = s := ⟨_, rfl⟩
   obtain ⟨n9, hn9⟩ : ∃ n9, D.cs.length = n9 := ⟨_, rfl⟩
   rw [hn9] at c6 hj
   rw [hs] at q1 ⊢
   have HO := hi (show ∀ W, Calls Tryz.prog 100 #[.bool s, .int .u64 6] W fun e w' => e = .returned (.int .u64 ((slN s : Nat) : Int)) ∧ W = w' from fun W => rone_any s 6 W)
   obtain ⟨V, hV⟩ : ∃ V, slN s = V := ⟨_, rfl⟩
   rw [hV] at HO ⊢
   clear h hk ok H1 hp hs hn9 hbal hV
   obtain ⟨r, f, n⟩ := p
   dsimp only at hr
   subst hr
   dsimp only [Pl.cs] at HH HB0 c6 q1
   dsimp only [Pl.v]
   go_enter Tryz.func61, Tryz.ntmps61
   go_wp2_with (first
    | (go_at_call 60; ((with_reducible refine HH.out.mono ?_); rintro e w1 ⟨rfl, rfl⟩))
    | (go_at_call 100; ((with_reducible refine (HO.out _).mono ?_); rintro e w1 ⟨rfl, rfl⟩)))
   go_ret2
   exact ⟨rfl, HB0.out⟩
  ·rw [if_neg hr]
   have HRD := hi (fun W (q : Below w.heap.size w W) => rfb_read ((h.below q).own j hj) (ok.fitO hj) (ok.fine j hj) hp)
   have HPB := hi (CB.new w 70 p.cs)
   obtain ⟨V, hV⟩ : ∃ V, readV p p.c.toNat 0 (D.nth j).es = V := ⟨_, rfl⟩
   rw [hV] at HRD ⊢
   have hq : (p.r == 3) = false := by simpa using hr
   have HD := hi H1
   obtain ⟨n9, hn9⟩ : ∃ n9, D.cs.length = n9 := ⟨_, rfl⟩
   have HN9 := hi hn9
   rw [hn9] at hj
   clear h hk ok H1 hp hV hr hn9 hbal
   obtain ⟨r, f, n⟩ := p
   dsimp only at hq
   dsimp only [Pl.cs] at HH HB0 HPB HD
   dsimp only [Pl.v] at HRD ⊢
   go_enter Tryz.func61, Tryz.ntmps61
   go_wp2_with (go_at_call 60; ((with_reducible refine HH.out.mono ?_); rintro e w1 ⟨rfl, rfl⟩))
   obtain ⟨W1, hW1⟩ : ∃ W1, w.alloc (.cells #[.int .i64 r, .int .i64 f, .int .i64 n] 70) = W1 := ⟨_, rfl⟩
   rw [hW1] at HB0 HPB HD ⊢
   have HB1 := hi (show Below w.heap.size w W1.drew from Below.drewN (m := 1) HB0.out)
   clear hW1 HH
   refine wp_region_noPanic ?_
   refine wp_region_last_drew (S := (fun W' => RdAt W' lo hi' b c D ∧ CB W' w.heap.size 70 #[.int .i64 r, .int .i64 f, .int .i64 n])) [] (by kernel_rfl) ⟨HD.out.drew, HPB.out.drew⟩ (fun hHeld => ?_)
   (try simp only [r1, r2, r3, r4, r5])
   refine tk 0 (v := ?_) rfl (Or.inl ⟨by rfl, ?_⟩) ?_
   rotate_left
   ·intro w' hSw; (try dsimp only at hSw); have k2 := hSw.1.box.cell 5; rw [HN9.out] at k2; have k0 := hSw.1.ptr (k := j) (by rw [HN9.out]; exact hj); have p0 := hSw.2.cell 0; have p1 := hSw.2.cell 1; have p2 := hSw.2.cell 2; go_simp; (try with_reducible rfl)
   (try simp only [Act.put, n1, n2, n4, n5, n6])
   refine tk 1 (v := ?_) rfl (Or.inl ⟨by rfl, ?_⟩) ?_
   rotate_left
   ·intro w' hSw; (try dsimp only at hSw); have k2 := hSw.1.box.cell 5; rw [HN9.out] at k2; have k0 := hSw.1.ptr (k := j) (by rw [HN9.out]; exact hj); have p0 := hSw.2.cell 0; have p1 := hSw.2.cell 1; have p2 := hSw.2.cell 2; go_simp; (try with_reducible rfl)
   (try simp only [Act.put, n1, n2, n3, n4, n5, n6])
   refine tk 2 (v := ?_) rfl (Or.inl ⟨by rfl, ?_⟩) ?_
   rotate_left
   ·intro w' hSw; (try dsimp only at hSw); have k2 := hSw.1.box.cell 5; rw [HN9.out] at k2; have k0 := hSw.1.ptr (k := j) (by rw [HN9.out]; exact hj); have p0 := hSw.2.cell 0; have p1 := hSw.2.cell 1; have p2 := hSw.2.cell 2; go_simp; (try with_reducible rfl)
   (try simp only [Act.put, n1, n2, n3, n4, n5, n6])
   refine tk 3 (v := ?_) rfl (Or.inl ⟨by rfl, ?_⟩) ?_
   rotate_left
   ·intro w' hSw; (try dsimp only at hSw); have k2 := hSw.1.box.cell 5; rw [HN9.out] at k2; have k0 := hSw.1.ptr (k := j) (by rw [HN9.out]; exact hj); have p0 := hSw.2.cell 0; have p1 := hSw.2.cell 1; have p2 := hSw.2.cell 2; go_simp; (try with_reducible rfl)
   (try simp only [Act.put, n1, n2, n3, n4, n5, n6])
   refine tk 4 (v := ?_) rfl (Or.inl ⟨by rfl, ?_⟩) ?_
   rotate_left
   ·intro w' hSw; (try dsimp only at hSw); have k2 := hSw.1.box.cell 5; rw [HN9.out] at k2; have k0 := hSw.1.ptr (k := j) (by rw [HN9.out]; exact hj); have p0 := hSw.2.cell 0; have p1 := hSw.2.cell 1; have p2 := hSw.2.cell 2; go_simp; (try with_reducible rfl)
   (try simp only [Act.put, n1, n2, n3, n4, n5, n6])
   refine tk 5 (v := ?_) rfl (Or.inl ⟨by rfl, ?_⟩) ?_
   rotate_left
   ·intro w' hSw; (try dsimp only at hSw); have k2 := hSw.1.box.cell 5; rw [HN9.out] at k2; have k0 := hSw.1.ptr (k := j) (by rw [HN9.out]; exact hj); have p0 := hSw.2.cell 0; have p1 := hSw.2.cell 1; have p2 := hSw.2.cell 2; go_simp; (try with_reducible rfl)
   (try simp only [Act.put, n1, n2, n3, n4, n5, n6])
   refine tk 6 (v := ?_) rfl (Or.inl ⟨by rfl, ?_⟩) ?_
   rotate_left
   ·intro w' hSw; (try dsimp only at hSw); have k2 := hSw.1.box.cell 5; rw [HN9.out] at k2; have k0 := hSw.1.ptr (k := j) (by rw [HN9.out]; exact hj); have p0 := hSw.2.cell 0; have p1 := hSw.2.cell 1; have p2 := hSw.2.cell 2; go_simp; (try with_reducible rfl)
   (try simp only [Act.put, n1, n2, n3, n4, n5, n6])
   refine tk 7 (v := ?_) rfl (Or.inl ⟨by rfl, ?_⟩) ?_
   rotate_left
   ·intro w' hSw; (try dsimp only at hSw); have k2 := hSw.1.box.cell 5; rw [HN9.out] at k2; have k0 := hSw.1.ptr (k := j) (by rw [HN9.out]; exact hj); have p0 := hSw.2.cell 0; have p1 := hSw.2.cell 1; have p2 := hSw.2.cell 2; go_simp; (try with_reducible rfl)
   (try simp only [Act.put, n1, n2, n3, n4, n5, n6])
   refine wpAnyF_ready (rs := [8]) (by kernel_rfl) (by simp) ?_
   refine AllReadyF.cons rfl (fun KK hKK => ?_) AllReadyF.nil
   go_simp
   ((with_reducible refine (HRD.out _ HB1.out).mono ?_); rintro e' w4 ⟨rfl, hb⟩; have HB4 := hi (HB1.out.trans (hb.mono HB1.out.size)); have hSS := And.intro (hHeld.1.below hb) (hHeld.2.below hb); clear hb)
   (try go_simp)
   refine hKK.out _ _ hSS (fun hHeld => ?_)
   clear hKK KK
   (try simp only [Act.put, n1, n2, n3, n4, n5, n6])
   refine tk 9 (v := ?_) rfl (Or.inl ⟨by rfl, ?_⟩) ?_
   rotate_left
   ·intro w' hSw; (try dsimp only at hSw); have k2 := hSw.1.box.cell 5; rw [HN9.out] at k2; have k0 := hSw.1.ptr (k := j) (by rw [HN9.out]; exact hj); have p0 := hSw.2.cell 0; have p1 := hSw.2.cell 1; have p2 := hSw.2.cell 2; go_simp; (try with_reducible rfl)
   (try simp only [Act.put, n1, n2, n3, n4, n5, n6])
   refine tk 10 (v := ?_) rfl (Or.inl ⟨by rfl, ?_⟩) ?_
   rotate_left
   ·intro w' hSw; (try dsimp only at hSw); have k2 := hSw.1.box.cell 5; rw [HN9.out] at k2; have k0 := hSw.1.ptr (k := j) (by rw [HN9.out]; exact hj); have p0 := hSw.2.cell 0; have p1 := hSw.2.cell 1; have p2 := hSw.2.cell 2; go_simp; (try with_reducible rfl)
   (try simp only [Act.put, n1, n2, n3, n4, n5, n6])
   refine wpAnyF_done (by kernel_rfl) ?_ _
   refine NoPanic.normal ?_
   go_wp2
   go_ret2
   exact ⟨rfl, HB4.out⟩
set_option maxRecDepth 100000 in
set_option maxHeartbeats 2000000 in
theorem rwriteOwn_dist (h : RdAt w lo hi' b c D) (ok : D.Ok) {k : Int} {p : Pl} (v : Nat) (hv : v < 18446744073709551616) (hp : ∃ n, PlOk p n) :
  Calls Tryz.prog 48 #[.pointer (some ⟨b 0, 0, none⟩), .int .i64 k, p.v, .int .u64 v] w fun e w' => e = .returned (.int .i64 (writeOwnV D k p v).2) ∧ RdAf w lo hi' b c (writeOwnV D k p v).1 w' := by
 obtain ⟨n0, hp⟩ := hp
 have hp := hp.cn
 have hbal := bal w (.cells p.cs 70)
 have HB0 := hi hbal
 have H1 := h.below hbal
 have hlt := h.box.lt
 have hle := h.le
 unfold writeOwnV
 cases hk : hasN D.cs.length k
 ·have HH := hi (H1.there k)
  rw [hk] at HH
  have HF := hi (RdAf.of h hbal)
  clear h hk ok H1 hp hbal
  obtain ⟨r, f, n⟩ := p
  dsimp only [Pl.cs] at HH HB0 HF
  dsimp only [Pl.v]
  go_enter Tryz.func48, Tryz.ntmps48
  go_wp2_with (go_at_call 60; ((with_reducible refine HH.out.mono ?_); rintro e w1 ⟨rfl, rfl⟩))
  go_ret
  exact ⟨rfl, HF.out⟩
 ·obtain ⟨j, rfl, hj⟩ := hasN_at hk
  simp only [if_true, Int.toNat_natCast]
  have HH := hi (H1.thereNat hj)
  have HPB := hi (CB.new w 70 p.cs)
  have HD := hi H1
  obtain ⟨n9, hn9⟩ : ∃ n9, D.cs.length = n9 := ⟨_, rfl⟩
  have HN9 := hi hn9
  have HJ := hi hj
  by_cases hr : p.r = 3
  ·rw [if_pos hr]
   have c6 := H1.box.cell 6
   have q1 := H1.slpc hj
   rw [hn9] at c6 hj
   have w1 : (v : Int).tdiv 2 = ((v / 2 : Nat) : Int) := by rw [Int.tdiv_eq_ediv_of_nonneg (by omega)]; omega
   obtain ⟨t, ht⟩ : ∃ t, v / 2 = t := ⟨_, rfl⟩
   rw [ht] at w1
   have w2 : IntKind.u64.wrap (t : Int) = t := by rw [IntKind.wrap_u64]; omega
   have w3 : (t : Int).tmod 2 = ((t % 2 : Nat) : Int) := by rw [Int.tmod_eq_emod_of_nonneg (by omega)]; omega
   obtain ⟨u, hu⟩ : ∃ u, t % 2 = u := ⟨_, rfl⟩
   rw [hu] at w3
   obtain ⟨s, hs⟩ : ∃ s, onB v 1 = s := ⟨_, rfl⟩
   have w4 : ((u : Int) == 1) = s := by
    rw [← hs, onB, Nat.pow_one, ht, hu]
    by_cases e : u = 1
    ·subst e; rfl
    ·have : ((u : Int) == 1) = false := by simpa using fun q => e (by omega)
     rw [this]; simp [e]
   rw [hs]
   obtain ⟨x, hx⟩ : ∃ x, (D.nth j).sl = x := ⟨_, rfl⟩
   rw [hx] at q1
   clear h hk ok H1 hp hs hn9 hbal ht hu hx
   obtain ⟨r, f, n⟩ := p
   dsimp only at hr
   subst hr
   dsimp only [Pl.cs] at HH HB0 HPB HD c6 q1
   dsimp only [Pl.v]
   go_enter Tryz.func48, Tryz.ntmps48
   have fz := HD.out.slp.frozen j
   go_wp2_with (go_at_call 60; ((with_reducible refine HH.out.mono ?_); rintro e w1 ⟨rfl, rfl⟩))
   go_ret
   have hS := HD.out.setSlp HJ.out s
   exact ⟨rfl, ⟨hS.1, (Kept.of HB0.out).trans hS.2⟩⟩
  ·rw [if_neg hr]
   have HRD := hi (fun W (q : Below w.heap.size w W) => rfb_write ((h.below q).own j hj) (ok.fitO hj) (ok.fine j hj) hp hv)
   obtain ⟨V, hV⟩ : ∃ V, writeV p p.c.toNat 0 v (D.nth j).es = V := ⟨_, rfl⟩
   rw [hV] at HRD ⊢
   have hq : (p.r == 3) = false := by simpa using hr
   rw [hn9] at hj
   clear h hk ok H1 hp hV hr hn9 hbal
   obtain ⟨r, f, n⟩ := p
   dsimp only at hq
   dsimp only [Pl.cs] at HH HB0 HPB HD
   dsimp only [Pl.v] at HRD ⊢
   go_enter Tryz.func48, Tryz.ntmps48
   go_wp2_with (go_at_call 60; ((with_reducible refine HH.out.mono ?_); rintro e w1 ⟨rfl, rfl⟩))
   obtain ⟨W1, hW1⟩ : ∃ W1, w.alloc (.cells #[.int .i64 r, .int .i64 f, .int .i64 n] 70) = W1 := ⟨_, rfl⟩
   rw [hW1] at HB0 HPB HD ⊢
   have HB1 := hi (show Below w.heap.size w W1.drew from Below.drewN (m := 1) HB0.out)
   have HD1 := hi HD.out.drew
   clear hW1 HH
   refine wp_region_noPanic ?_
   refine wp_region_last_drew (S := (fun W' => (∃ D', RdAt W' lo hi' b c D' ∧ D'.cs.length = n9) ∧ CB W' w.heap.size 70 #[.int .i64 r, .int .i64 f, .int .i64 n])) [] (by kernel_rfl) ⟨⟨D, HD1.out, HN9.out⟩, HPB.out.drew⟩ (fun hHeld => ?_)
   (try simp only [r1, r2, r3, r4, r5])
   refine tk 0 (v := ?_) rfl (Or.inl ⟨by rfl, ?_⟩) ?_
   rotate_left
   ·intro w' hSw; (try dsimp only at hSw); obtain ⟨⟨D', hd1, hd2⟩, hpb⟩ := hSw; have k2 := hd1.box.cell 5; rw [hd2] at k2; have k0 := hd1.ptr (k := j) (by rw [hd2]; exact hj); have p0 := hpb.cell 0; have p1 := hpb.cell 1; have p2 := hpb.cell 2; go_simp; (try with_reducible rfl)
   (try simp only [Act.put, n1, n2, n4, n5, n6])
   refine tk 1 (v := ?_) rfl (Or.inl ⟨by rfl, ?_⟩) ?_
   rotate_left
   ·intro w' hSw; (try dsimp only at hSw); obtain ⟨⟨D', hd1, hd2⟩, hpb⟩ := hSw; have k2 := hd1.box.cell 5; rw [hd2] at k2; have k0 := hd1.ptr (k := j) (by rw [hd2]; exact hj); have p0 := hpb.cell 0; have p1 := hpb.cell 1; have p2 := hpb.cell 2; go_simp; (try with_reducible rfl)
   (try simp only [Act.put, n1, n2, n3, n4, n5, n6])
   refine tk 2 (v := ?_) rfl (Or.inl ⟨by rfl, ?_⟩) ?_
   rotate_left
   ·intro w' hSw; (try dsimp only at hSw); obtain ⟨⟨D', hd1, hd2⟩, hpb⟩ := hSw; have k2 := hd1.box.cell 5; rw [hd2] at k2; have k0 := hd1.ptr (k := j) (by rw [hd2]; exact hj); have p0 := hpb.cell 0; have p1 := hpb.cell 1; have p2 := hpb.cell 2; go_simp; (try with_reducible rfl)
   (try simp only [Act.put, n1, n2, n3, n4, n5, n6])
   refine tk 3 (v := ?_) rfl (Or.inl ⟨by rfl, ?_⟩) ?_
   rotate_left
   ·intro w' hSw; (try dsimp only at hSw); obtain ⟨⟨D', hd1, hd2⟩, hpb⟩ := hSw; have k2 := hd1.box.cell 5; rw [hd2] at k2; have k0 := hd1.ptr (k := j) (by rw [hd2]; exact hj); have p0 := hpb.cell 0; have p1 := hpb.cell 1; have p2 := hpb.cell 2; go_simp; (try with_reducible rfl)
   (try simp only [Act.put, n1, n2, n3, n4, n5, n6])
   refine tk 4 (v := ?_) rfl (Or.inl ⟨by rfl, ?_⟩) ?_
   rotate_left
   ·intro w' hSw; (try dsimp only at hSw); obtain ⟨⟨D', hd1, hd2⟩, hpb⟩ := hSw; have k2 := hd1.box.cell 5; rw [hd2] at k2; have k0 := hd1.ptr (k := j) (by rw [hd2]; exact hj); have p0 := hpb.cell 0; have p1 := hpb.cell 1; have p2 := hpb.cell 2; go_simp; (try with_reducible rfl)
   (try simp only [Act.put, n1, n2, n3, n4, n5, n6])
   refine tk 5 (v := ?_) rfl (Or.inl ⟨by rfl, ?_⟩) ?_
   rotate_left
   ·intro w' hSw; (try dsimp only at hSw); obtain ⟨⟨D', hd1, hd2⟩, hpb⟩ := hSw; have k2 := hd1.box.cell 5; rw [hd2] at k2; have k0 := hd1.ptr (k := j) (by rw [hd2]; exact hj); have p0 := hpb.cell 0; have p1 := hpb.cell 1; have p2 := hpb.cell 2; go_simp; (try with_reducible rfl)
   (try simp only [Act.put, n1, n2, n3, n4, n5, n6])
   refine tk 6 (v := ?_) rfl (Or.inl ⟨by rfl, ?_⟩) ?_
   rotate_left
   ·intro w' hSw; (try dsimp only at hSw); obtain ⟨⟨D', hd1, hd2⟩, hpb⟩ := hSw; have k2 := hd1.box.cell 5; rw [hd2] at k2; have k0 := hd1.ptr (k := j) (by rw [hd2]; exact hj); have p0 := hpb.cell 0; have p1 := hpb.cell 1; have p2 := hpb.cell 2; go_simp; (try with_reducible rfl)
   (try simp only [Act.put, n1, n2, n3, n4, n5, n6])
   refine tk 7 (v := ?_) rfl (Or.inl ⟨by rfl, ?_⟩) ?_
   rotate_left
   ·intro w' hSw; (try dsimp only at hSw); obtain ⟨⟨D', hd1, hd2⟩, hpb⟩ := hSw; have k2 := hd1.box.cell 5; rw [hd2] at k2; have k0 := hd1.ptr (k := j) (by rw [hd2]; exact hj); have p0 := hpb.cell 0; have p1 := hpb.cell 1; have p2 := hpb.cell 2; go_simp; (try with_reducible rfl)
   (try simp only [Act.put, n1, n2, n3, n4, n5, n6])
   refine tk 8 (v := ?_) rfl (Or.inl ⟨by rfl, ?_⟩) ?_
   rotate_left
   ·intro w' hSw; (try dsimp only at hSw); obtain ⟨⟨D', hd1, hd2⟩, hpb⟩ := hSw; have k2 := hd1.box.cell 5; rw [hd2] at k2; have k0 := hd1.ptr (k := j) (by rw [hd2]; exact hj); have p0 := hpb.cell 0; have p1 := hpb.cell 1; have p2 := hpb.cell 2; go_simp; (try with_reducible rfl)
   (try simp only [Act.put, n1, n2, n3, n4, n5, n6])
   refine wpAnyF_ready (rs := [9]) (by kernel_rfl) (by simp) ?_
   refine AllReadyF.cons rfl (fun KK hKK => ?_) AllReadyF.nil
   go_simp
   ((with_reducible refine (HRD.out _ HB1.out).mono ?_); rintro e' w4 ⟨rfl, hA⟩; have hS4 := HD1.out.setOwn HJ.out hA; have HF4 := hi (show RdAf w lo hi' b c (D.setOwn j V.1) w4 from ⟨hS4.1, (Kept.of HB1.out).trans hS4.2⟩); have hSS := And.intro (show ∃ D', RdAt w4 lo hi' b c D' ∧ D'.cs.length = n9 from ⟨D.setOwn j V.1, hS4.1, (Ds.own_len _ _ _).trans HN9.out⟩) (hHeld.2.keptB hS4.2 (fun e => by have := e.2; omega)); clear hA hS4)
   (try go_simp)
   refine hKK.out _ _ hSS (fun hHeld => ?_)
   clear hKK KK
   (try simp only [Act.put, n1, n2, n3, n4, n5, n6])
   refine wpAnyF_done (by kernel_rfl) ?_ _
   refine NoPanic.normal ?_
   go_wp2
   go_ret
   exact ⟨rfl, HF4.out⟩
end
end Go.Proofs.YtieedhdmpabfkaaGreat
namespace Go.Proofs.YtieedhdmpabfkaaGreat
open Go.ChangeShapes Go.WideShapes Go.ChangeAt Go.RowKit Go.Shelf
set_option linter.unusedVariables false
attribute [local go_sem] Oper.semAt_some
theorem odd_is (u : Nat) (s : Bool) (h : decide (u = 1) = s) : ((u : Int) == 1) = s := by
 rw [← h]
 by_cases e : u = 1
 ·subst e; rfl
 ·have : ((u : Int) == 1) = false := by simpa using fun q => e (by omega)
  rw [this]; simp [e]
section
variable {w : World} {lo hi' : Nat} {b c : Nat → Nat} {D : Ds}
set_option maxRecDepth 100000 in
set_option maxHeartbeats 2000000 in
theorem rwrite_ctlr (h : RdAt w lo hi' b c D) {off wd : Int} (v : Nat) (hv : v < 18446744073709551616) (f n : Int)
  (HF : Hi (Calls Tryz.prog 89 #[.int .i64 off, .int .i64 wd] w (Finds w (⟨1, f, n⟩, 0)))) :
  Calls Tryz.prog 46 #[.pointer (some ⟨b 0, 0, none⟩), .int .i64 off, .int .i64 wd, .int .u64 v] w fun e w' => e = .returned (.int .i64 0) ∧ RdAf w lo hi' b c (D.setOn (onB v 0) (onB v 1)) w' := by
 unfold Finds at HF
 dsimp only [Pl.v] at HF
 have HD := hi h
 have hlt := h.box.lt
 have w0 : (v : Int).tmod 2 = ((v % 2 : Nat) : Int) := by rw [Int.tmod_eq_emod_of_nonneg (by omega)]; omega
 have w1 : (v : Int).tdiv 2 = ((v / 2 : Nat) : Int) := by rw [Int.tdiv_eq_ediv_of_nonneg (by omega)]; omega
 obtain ⟨s0, hs0⟩ : ∃ s, onB v 0 = s := ⟨_, rfl⟩
 obtain ⟨s1, hs1⟩ : ∃ s, onB v 1 = s := ⟨_, rfl⟩
 have w5 := odd_is (v % 2) s0 (by rw [← hs0]; simp [onB])
 have w6 := odd_is (v / 2 % 2) s1 (by rw [← hs1]; simp [onB])
 rw [hs0, hs1]
 obtain ⟨u, hu⟩ : ∃ u, v % 2 = u := ⟨_, rfl⟩
 rw [hu] at w0 w5
 obtain ⟨t, ht⟩ : ∃ t, v / 2 = t := ⟨_, rfl⟩
 rw [ht] at w1 w6
 have w2 : IntKind.u64.wrap (t : Int) = t := by rw [IntKind.wrap_u64]; omega
 have w3 : (t : Int).tmod 2 = ((t % 2 : Nat) : Int) := by rw [Int.tmod_eq_emod_of_nonneg (by omega)]; omega
 obtain ⟨y, hy⟩ : ∃ y, t % 2 = y := ⟨_, rfl⟩
 rw [hy] at w3 w6
 obtain ⟨g0, hg0⟩ : ∃ g, D.g0 = g := ⟨_, rfl⟩
 obtain ⟨g1, hg1⟩ : ∃ g, D.g1 = g := ⟨_, rfl⟩
 have HG1 := hi hg1
 have HK := hi (fun W (q : Below w.heap.size w W) => show W.cell? ⟨b 0, 0, none⟩ = some (.bool g0) ∧ W.cell? ⟨b 0, 1, none⟩ = some (.bool g1) from ⟨by rw [← hg0]; exact (h.below q).box.cell 0, by rw [← hg1]; exact (h.below q).box.cell 1⟩)
 clear h hs0 hs1 hu ht hy hg0 hg1
 go_enter Tryz.func46, Tryz.ntmps46
 go_wp2_with (first
  | (go_at_call 89; ((with_reducible refine HF.out.mono ?_); rintro e' wF ⟨rfl, hb⟩; have HB := hi (hb.alloc hb.size (.cells #[.int .i64 1, .int .i64 f, .int .i64 n] 70)); have hsz := hb.size; obtain ⟨k0, k1⟩ := HK.out _ HB.out; have fz := (HD.out.below HB.out).box.frozen; clear hb)))
 go_ret
 have hS := (HD.out.below HB.out).setG s0 D.g1 0 (.bool s0) rfl
 have hS2 := hS.1.setG s0 s1 1 (.bool s1) rfl
 exact ⟨rfl, ⟨hS2.1, ((Kept.of HB.out).trans hS.2).trans hS2.2⟩⟩
set_option maxRecDepth 100000 in
set_option maxHeartbeats 2000000 in
theorem rwrite_rout (h : RdAt w lo hi' b c D) (ok : D.Ok) {off wd : Int} (v : Nat) (hv : v < 18446744073709551616) (f n : Int)
  (HF : Hi (Calls Tryz.prog 89 #[.int .i64 off, .int .i64 wd] w (Finds w (⟨13, f, n⟩, 0)))) :
  Calls Tryz.prog 46 #[.pointer (some ⟨b 0, 0, none⟩), .int .i64 off, .int .i64 wd, .int .u64 v] w fun e w' => e = .returned (.int .i64 0) ∧ RdAf w lo hi' b c (directV D f (rtV v)) w' := by
 unfold Finds at HF
 dsimp only [Pl.v] at HF
 have HD := hi h
 have HOK := hi ok
 have HA := hi (fun W (q : Below w.heap.size w W) => rfb_at f (h.below q).shr ok.fitS)
 have hlt := h.box.lt
 have n01 := h.inj 0 1 (real_low (by omega)) (real_low (by omega)) (by omega)
 have n02 := h.inj 0 2 (real_low (by omega)) (real_low (by omega)) (by omega)
 have n12 := h.inj 1 2 (real_low (by omega)) (real_low (by omega)) (by omega)
 have w0 : (v : Int).tmod 256 = ((v % 256 : Nat) : Int) := by rw [Int.tmod_eq_emod_of_nonneg (by omega)]; omega
 obtain ⟨u, hu⟩ : ∃ u, v % 256 = u := ⟨_, rfl⟩
 have hu8 : u < 256 := by omega
 rw [hu] at w0
 have w1 : IntKind.i64.wrap (u : Int) = u := by rw [IntKind.wrap_i64]; omega
 obtain ⟨s, hs⟩ : ∃ s, decide (v / 2147483648 % 2 = 1) = s := ⟨_, rfl⟩
 have w6 := odd_is (v / 2147483648 % 2) s hs
 have w7 : ((v : Int) / 2147483648 % 2 == 1) = s := by
  rw [← w6]
  congr 1
 have hrt : rtV v = ⟨(u : Int), s⟩ := by rw [← hs, rtV, hu]
 rw [hrt]
 unfold directV
 clear hrt hs hu hv w6
 cases hb : hasB 32 D.sh.length f
 ·simp only [Bool.false_eq_true, if_false]
  rw [atI_no hb] at HA
  clear h ok hb
  go_enter Tryz.func46, Tryz.ntmps46
  go_wp2_with (first
   | (go_at_call 89; ((with_reducible refine HF.out.mono ?_); rintro e' wF ⟨rfl, hb⟩; have HB := hi (hb.alloc hb.size (.cells #[.int .i64 13, .int .i64 f, .int .i64 n] 70)); have HPB := hi (CB.new wF 70 #[.int .i64 13, .int .i64 f, .int .i64 n]); have hsz := hb.size; clear hb)))
  obtain ⟨W1, hW1⟩ : ∃ W1, wF.alloc (.cells #[.int .i64 13, .int .i64 f, .int .i64 n] 70) = W1 := ⟨_, rfl⟩
  obtain ⟨N, hN⟩ : ∃ N, wF.heap.size = N := ⟨_, rfl⟩
  rw [hW1] at HB HPB ⊢
  rw [hN] at HPB hsz ⊢
  have HB1 := hi (show Below w.heap.size w W1.drew from Below.drewN (m := 1) HB.out)
  have HD1 := hi (HD.out.below HB1.out)
  clear hW1 hN
  refine wp_region_noPanic ?_
  refine wp_region_last_drew (S := (fun W' => CB W' (b 0) 105 #[.bool D.g0, .bool D.g1, .pointer (some ⟨b 5, 0, none⟩), .slice (some ⟨b 1, 0, none⟩) D.sh.length (c 0), .slice (some ⟨b 2, 0, none⟩) D.sh.length (c 1), .slice (some ⟨b 3, 0, none⟩) D.cs.length (c 2), .slice (some ⟨b 4, 0, none⟩) D.cs.length (c 3)] ∧ CB W' N 70 #[.int .i64 13, .int .i64 f, .int .i64 n])) [] (by kernel_rfl) ⟨HD1.out.box, HPB.out.drew⟩ (fun hHeld => ?_)
  (try simp only [r1, r2, r3, r4, r5])
  obtain ⟨Wd, hWd⟩ : ∃ Wd, W1.drew = Wd := ⟨_, rfl⟩
  rw [hWd] at HD1 HB1 hHeld ⊢
  clear hWd
  refine tk 0 (v := ?_) rfl (Or.inl ⟨by rfl, ?_⟩) ?_
  rotate_left
  ·intro w' hSw; (try dsimp only at hSw); have k2 := hSw.1.cell 2; have p1 := hSw.2.cell 1; go_simp; (try with_reducible rfl)
  (try simp only [Act.put, n1, n2, n4, n5, n6])
  refine tk 1 (v := ?_) rfl (Or.inl ⟨by rfl, ?_⟩) ?_
  rotate_left
  ·intro w' hSw; (try dsimp only at hSw); have k2 := hSw.1.cell 2; have p1 := hSw.2.cell 1; go_simp; (try with_reducible rfl)
  (try simp only [Act.put, n1, n2, n3, n4, n5, n6])
  refine tk 2 (v := ?_) rfl (Or.inl ⟨by rfl, ?_⟩) ?_
  rotate_left
  ·intro w' hSw; (try dsimp only at hSw); have k2 := hSw.1.cell 2; have p1 := hSw.2.cell 1; go_simp; (try with_reducible rfl)
  (try simp only [Act.put, n1, n2, n3, n4, n5, n6])
  refine tk 3 (v := ?_) rfl (Or.inl ⟨by rfl, ?_⟩) ?_
  rotate_left
  ·intro w' hSw; (try dsimp only at hSw); have k2 := hSw.1.cell 2; have p1 := hSw.2.cell 1; go_simp; (try with_reducible rfl)
  (try simp only [Act.put, n1, n2, n3, n4, n5, n6])
  refine tk 4 (v := ?_) rfl (Or.inl ⟨by rfl, ?_⟩) ?_
  rotate_left
  ·intro w' hSw; (try dsimp only at hSw); have k2 := hSw.1.cell 2; have p1 := hSw.2.cell 1; go_simp; (try with_reducible rfl)
  (try simp only [Act.put, n1, n2, n3, n4, n5, n6])
  refine tk 5 (v := ?_) rfl (Or.inl ⟨by rfl, ?_⟩) ?_
  rotate_left
  ·intro w' hSw; (try dsimp only at hSw); have k2 := hSw.1.cell 2; have p1 := hSw.2.cell 1; go_simp; (try with_reducible rfl)
  (try simp only [Act.put, n1, n2, n3, n4, n5, n6])
  refine wpAnyF_ready (rs := [6]) (by kernel_rfl) (by simp) ?_
  refine AllReadyF.cons rfl (fun KK hKK => ?_) AllReadyF.nil
  go_simp
  ((with_reducible refine (HA.out _ HB1.out).mono ?_); rintro e' w4 ⟨rfl, rfl⟩)
  (try go_simp)
  refine hKK.out _ _ hHeld (fun hHeld => ?_)
  clear hKK KK
  (try simp only [Act.put, n1, n2, n3, n4, n5, n6])
  refine tk 7 (v := ?_) rfl (Or.inl ⟨by rfl, ?_⟩) ?_
  rotate_left
  ·intro w' hSw; (try dsimp only at hSw); have k2 := hSw.1.cell 2; have p1 := hSw.2.cell 1; go_simp; (try with_reducible rfl)
  (try simp only [Act.put, n1, n2, n3, n4, n5, n6])
  refine wpAnyF_done (by kernel_rfl) ?_ _
  refine NoPanic.normal ?_
  go_wp2
  go_ret
  exact ⟨rfl, RdAf.of HD.out HB1.out⟩
 ·simp only [if_true]
  obtain ⟨j, rfl, hj, e1⟩ := has_at hb
  rw [e1]
  rw [atI_at hj] at HA
  have HJ := hi hj
  have HK := hi (fun W (q : Below w.heap.size w W) => And.intro ((h.below q).corec hj) ((h.below q).anyc hj))
  obtain ⟨m, hm⟩ : ∃ m, D.sh.length = m := ⟨_, rfl⟩
  have HM := hi hm
  rw [hm] at hj
  have hm64 : m ≤ 64 := by rw [← hm]; exact ok.m
  clear h ok hb e1 hm
  go_enter Tryz.func46, Tryz.ntmps46
  go_wp2_with (first
   | (go_at_call 89; ((with_reducible refine HF.out.mono ?_); rintro e' wF ⟨rfl, hb⟩; have HB := hi (hb.alloc hb.size (.cells #[.int .i64 13, .int .i64 (32 + j), .int .i64 n] 70)); have HPB := hi (CB.new wF 70 #[.int .i64 13, .int .i64 (32 + j), .int .i64 n]); have hsz := hb.size; clear hb)))
  obtain ⟨W1, hW1⟩ : ∃ W1, wF.alloc (.cells #[.int .i64 13, .int .i64 (32 + j), .int .i64 n] 70) = W1 := ⟨_, rfl⟩
  obtain ⟨N, hN⟩ : ∃ N, wF.heap.size = N := ⟨_, rfl⟩
  rw [hW1] at HB HPB ⊢
  rw [hN] at HPB hsz ⊢
  have HB1 := hi (show Below w.heap.size w W1.drew from Below.drewN (m := 1) HB.out)
  have HD1 := hi (HD.out.below HB1.out)
  clear hW1 hN
  refine wp_region_noPanic ?_
  refine wp_region_last_drew (S := (fun W' => CB W' (b 0) 105 #[.bool D.g0, .bool D.g1, .pointer (some ⟨b 5, 0, none⟩), .slice (some ⟨b 1, 0, none⟩) D.sh.length (c 0), .slice (some ⟨b 2, 0, none⟩) D.sh.length (c 1), .slice (some ⟨b 3, 0, none⟩) D.cs.length (c 2), .slice (some ⟨b 4, 0, none⟩) D.cs.length (c 3)] ∧ CB W' N 70 #[.int .i64 13, .int .i64 (32 + j), .int .i64 n])) [] (by kernel_rfl) ⟨HD1.out.box, HPB.out.drew⟩ (fun hHeld => ?_)
  (try simp only [r1, r2, r3, r4, r5])
  obtain ⟨Wd, hWd⟩ : ∃ Wd, W1.drew = Wd := ⟨_, rfl⟩
  rw [hWd] at HD1 HB1 hHeld ⊢
  clear hWd
  refine tk 0 (v := ?_) rfl (Or.inl ⟨by rfl, ?_⟩) ?_
  rotate_left
  ·intro w' hSw; (try dsimp only at hSw); have k2 := hSw.1.cell 2; have p1 := hSw.2.cell 1; go_simp; (try with_reducible rfl)
  (try simp only [Act.put, n1, n2, n4, n5, n6])
  refine tk 1 (v := ?_) rfl (Or.inl ⟨by rfl, ?_⟩) ?_
  rotate_left
  ·intro w' hSw; (try dsimp only at hSw); have k2 := hSw.1.cell 2; have p1 := hSw.2.cell 1; go_simp; (try with_reducible rfl)
  (try simp only [Act.put, n1, n2, n3, n4, n5, n6])
  refine tk 2 (v := ?_) rfl (Or.inl ⟨by rfl, ?_⟩) ?_
  rotate_left
  ·intro w' hSw; (try dsimp only at hSw); have k2 := hSw.1.cell 2; have p1 := hSw.2.cell 1; go_simp; (try with_reducible rfl)
  (try simp only [Act.put, n1, n2, n3, n4, n5, n6])
  refine tk 3 (v := ?_) rfl (Or.inl ⟨by rfl, ?_⟩) ?_
  rotate_left
  ·intro w' hSw; (try dsimp only at hSw); have k2 := hSw.1.cell 2; have p1 := hSw.2.cell 1; go_simp; (try with_reducible rfl)
  (try simp only [Act.put, n1, n2, n3, n4, n5, n6])
  refine tk 4 (v := ?_) rfl (Or.inl ⟨by rfl, ?_⟩) ?_
  rotate_left
  ·intro w' hSw; (try dsimp only at hSw); have k2 := hSw.1.cell 2; have p1 := hSw.2.cell 1; go_simp; (try with_reducible rfl)
  (try simp only [Act.put, n1, n2, n3, n4, n5, n6])
  refine tk 5 (v := ?_) rfl (Or.inl ⟨by rfl, ?_⟩) ?_
  rotate_left
  ·intro w' hSw; (try dsimp only at hSw); have k2 := hSw.1.cell 2; have p1 := hSw.2.cell 1; go_simp; (try with_reducible rfl)
  (try simp only [Act.put, n1, n2, n3, n4, n5, n6])
  refine wpAnyF_ready (rs := [6]) (by kernel_rfl) (by simp) ?_
  refine AllReadyF.cons rfl (fun KK hKK => ?_) AllReadyF.nil
  go_simp
  ((with_reducible refine (HA.out _ HB1.out).mono ?_); rintro e' w4 ⟨rfl, rfl⟩)
  (try go_simp)
  refine hKK.out _ _ hHeld (fun hHeld => ?_)
  clear hKK KK
  (try simp only [Act.put, n1, n2, n3, n4, n5, n6])
  refine tk 7 (v := ?_) rfl (Or.inl ⟨by rfl, ?_⟩) ?_
  rotate_left
  ·intro w' hSw; (try dsimp only at hSw); have k2 := hSw.1.cell 2; have p1 := hSw.2.cell 1; go_simp; (try with_reducible rfl)
  (try simp only [Act.put, n1, n2, n3, n4, n5, n6])
  refine wpAnyF_done (by kernel_rfl) ?_ _
  refine NoPanic.normal ?_
  have k3 := HD1.out.box.cell 3
  have k4 := HD1.out.box.cell 4
  obtain ⟨q1, q2⟩ := HK.out _ HB1.out
  rw [HM.out] at k3 k4
  have fz1 := HD1.out.core.frozen j
  have fz2 := HD1.out.any.frozen j
  clear hHeld
  go_wp2
  go_ret
  have hS := HD1.out.setRt HJ.out ⟨(u : Int), s⟩
  exact ⟨rfl, ⟨hS.1, (Kept.of HB1.out).trans hS.2⟩⟩
set_option maxRecDepth 100000 in
set_option maxHeartbeats 2000000 in
theorem rwrite_rest (h : RdAt w lo hi' b c D) (ok : D.Ok) {off wd : Int} (v : Nat) (hv : v < 18446744073709551616) (r f n : Int) (hp : PlOk ⟨r, f, n⟩ n.toNat) (h1 : r ≠ 1) (h13 : r ≠ 13)
  (HF : Hi (Calls Tryz.prog 89 #[.int .i64 off, .int .i64 wd] w (Finds w (⟨r, f, n⟩, 0)))) :
  Calls Tryz.prog 46 #[.pointer (some ⟨b 0, 0, none⟩), .int .i64 off, .int .i64 wd, .int .u64 v] w fun e w' => e = .returned (.int .i64 0) ∧ RdAf w lo hi' b c (D.setSh (writeV ⟨r, f, n⟩ n.toNat 32 v D.sh).1) w' := by
 unfold Finds at HF
 dsimp only [Pl.v] at HF
 have HD := hi h
 have hlt := h.box.lt
 have hle := h.le
 have q1 : (r == 1) = false := by simpa using h1
 have q3 : (r == 13) = false := by simpa using h13
 have HRD := hi (fun W (q : Below w.heap.size w W) => rfb_write (h.below q).shr ok.fitS ok.fsh hp hv)
 have HV := hi (And.intro (writeV_len ⟨r, f, n⟩ n.toNat 32 v D.sh) (writeV_rt ⟨r, f, n⟩ n.toNat 32 v D.sh))
 obtain ⟨V, hV⟩ : ∃ V, writeV ⟨r, f, n⟩ n.toNat 32 v D.sh = V := ⟨_, rfl⟩
 rw [hV] at HRD HV ⊢
 have HN0 := hi (show D.sh.length ≠ 0 → b 0 ≠ b 6 ∧ b 0 ≠ b 7 from fun hm => ⟨h.inj 0 6 (real_low (by omega)) (real_sh (by omega) hm) (by omega), h.inj 0 7 (real_low (by omega)) (real_sh (by omega) hm) (by omega)⟩)
 clear h ok hp hV h1 h13
 dsimp only [Pl.v] at HRD
 go_enter Tryz.func46, Tryz.ntmps46
 go_wp2_with (first
  | (go_at_call 89; ((with_reducible refine HF.out.mono ?_); rintro e' wF ⟨rfl, hb⟩; have HB := hi (hb.alloc hb.size (.cells #[.int .i64 r, .int .i64 f, .int .i64 n] 70)); have HPB := hi (CB.new wF 70 #[.int .i64 r, .int .i64 f, .int .i64 n]); have hsz := hb.size; clear hb)))
 obtain ⟨W1, hW1⟩ : ∃ W1, wF.alloc (.cells #[.int .i64 r, .int .i64 f, .int .i64 n] 70) = W1 := ⟨_, rfl⟩
 obtain ⟨N, hN⟩ : ∃ N, wF.heap.size = N := ⟨_, rfl⟩
 rw [hW1] at HB HPB ⊢
 rw [hN] at HPB hsz ⊢
 have HB1 := hi (show Below w.heap.size w W1.drew from Below.drewN (m := 1) HB.out)
 have HD1 := hi (HD.out.below HB1.out)
 clear hW1 hN
 refine wp_region_noPanic ?_
 refine wp_region_last_drew (S := (fun W' => CB W' (b 0) 105 #[.bool D.g0, .bool D.g1, .pointer (some ⟨b 5, 0, none⟩), .slice (some ⟨b 1, 0, none⟩) D.sh.length (c 0), .slice (some ⟨b 2, 0, none⟩) D.sh.length (c 1), .slice (some ⟨b 3, 0, none⟩) D.cs.length (c 2), .slice (some ⟨b 4, 0, none⟩) D.cs.length (c 3)] ∧ CB W' N 70 #[.int .i64 r, .int .i64 f, .int .i64 n])) [] (by kernel_rfl) ⟨HD1.out.box, HPB.out.drew⟩ (fun hHeld => ?_)
 (try simp only [r1, r2, r3, r4, r5])
 refine tk 0 (v := ?_) rfl (Or.inl ⟨by rfl, ?_⟩) ?_
 rotate_left
 ·intro w' hSw; (try dsimp only at hSw); have k2 := hSw.1.cell 2; have p0 := hSw.2.cell 0; have p1 := hSw.2.cell 1; have p2 := hSw.2.cell 2; go_simp; (try with_reducible rfl)
 (try simp only [Act.put, n1, n2, n4, n5, n6])
 refine tk 1 (v := ?_) rfl (Or.inl ⟨by rfl, ?_⟩) ?_
 rotate_left
 ·intro w' hSw; (try dsimp only at hSw); have k2 := hSw.1.cell 2; have p0 := hSw.2.cell 0; have p1 := hSw.2.cell 1; have p2 := hSw.2.cell 2; go_simp; (try with_reducible rfl)
 (try simp only [Act.put, n1, n2, n3, n4, n5, n6])
 refine tk 2 (v := ?_) rfl (Or.inl ⟨by rfl, ?_⟩) ?_
 rotate_left
 ·intro w' hSw; (try dsimp only at hSw); have k2 := hSw.1.cell 2; have p0 := hSw.2.cell 0; have p1 := hSw.2.cell 1; have p2 := hSw.2.cell 2; go_simp; (try with_reducible rfl)
 (try simp only [Act.put, n1, n2, n3, n4, n5, n6])
 refine tk 3 (v := ?_) rfl (Or.inl ⟨by rfl, ?_⟩) ?_
 rotate_left
 ·intro w' hSw; (try dsimp only at hSw); have k2 := hSw.1.cell 2; have p0 := hSw.2.cell 0; have p1 := hSw.2.cell 1; have p2 := hSw.2.cell 2; go_simp; (try with_reducible rfl)
 (try simp only [Act.put, n1, n2, n3, n4, n5, n6])
 refine tk 4 (v := ?_) rfl (Or.inl ⟨by rfl, ?_⟩) ?_
 rotate_left
 ·intro w' hSw; (try dsimp only at hSw); have k2 := hSw.1.cell 2; have p0 := hSw.2.cell 0; have p1 := hSw.2.cell 1; have p2 := hSw.2.cell 2; go_simp; (try with_reducible rfl)
 (try simp only [Act.put, n1, n2, n3, n4, n5, n6])
 refine tk 5 (v := ?_) rfl (Or.inl ⟨by rfl, ?_⟩) ?_
 rotate_left
 ·intro w' hSw; (try dsimp only at hSw); have k2 := hSw.1.cell 2; have p0 := hSw.2.cell 0; have p1 := hSw.2.cell 1; have p2 := hSw.2.cell 2; go_simp; (try with_reducible rfl)
 (try simp only [Act.put, n1, n2, n3, n4, n5, n6])
 refine wpAnyF_ready (rs := [6]) (by kernel_rfl) (by simp) ?_
 refine AllReadyF.cons rfl (fun KK hKK => ?_) AllReadyF.nil
 go_simp
 ((with_reducible refine (HRD.out _ HB1.out).mono ?_); rintro e' w4 ⟨rfl, hA⟩; have hS4 := HD1.out.setShr hA HV.out.1 HV.out.2; have HF4 := hi (show RdAf w lo hi' b c (D.setSh V.1) w4 from ⟨hS4.1, (Kept.of HB1.out).trans hS4.2⟩); have hSS := And.intro (hHeld.1.keptB hA.kept (fun e => by have hm : D.sh.length ≠ 0 := by { rw [← HV.out.1]; exact e.1 }; exact e.2.elim (HN0.out hm).1 (HN0.out hm).2)) (hHeld.2.keptB hS4.2 (fun e => by have := e.2; omega)); clear hA hS4)
 (try go_simp)
 refine hKK.out _ _ hSS (fun hHeld => ?_)
 clear hKK KK
 (try simp only [Act.put, n1, n2, n3, n4, n5, n6])
 refine wpAnyF_done (by kernel_rfl) ?_ _
 refine NoPanic.normal ?_
 go_wp2
 go_ret
 exact ⟨rfl, HF4.out⟩
set_option maxHeartbeats 1000000 in
theorem rwrite_no (h : RdAt w lo hi' b c D) {off wd : Int} (v : Nat) (p : Pl) (er : Int) (he : er ≠ 0)
  (HF : Hi (Calls Tryz.prog 89 #[.int .i64 off, .int .i64 wd] w (Finds w (p, er)))) :
  Calls Tryz.prog 46 #[.pointer (some ⟨b 0, 0, none⟩), .int .i64 off, .int .i64 wd, .int .u64 v] w fun e w' => e = .returned (.int .i64 er) ∧ RdAf w lo hi' b c D w' := by
 obtain ⟨r, f, n⟩ := p
 unfold Finds at HF
 dsimp only [Pl.v] at HF
 have HD := hi h
 have he2 : (er != 0) = true := by simpa using he
 clear h he
 go_enter Tryz.func46, Tryz.ntmps46
 go_wp2_with (first
  | (go_at_call 89; ((with_reducible refine HF.out.mono ?_); rintro e' wF ⟨rfl, hb⟩; have HB := hi hb; clear hb)))
 go_ret
 exact ⟨rfl, RdAf.of HD.out (HB.out.alloc HB.out.size _)⟩
theorem rwrite_dist (h : RdAt w lo hi' b c D) (ok : D.Ok) {off wd : Int} (hoff : Int64 off) (v : Nat) (hv : v < 18446744073709551616) :
  Calls Tryz.prog 46 #[.pointer (some ⟨b 0, 0, none⟩), .int .i64 off, .int .i64 wd, .int .u64 v] w fun e w' => e = .returned (.int .i64 (writeDV D off wd v).2) ∧ RdAf w lo hi' b c (writeDV D off wd v).1 w' := by
 obtain ⟨p, er, hf⟩ : ∃ p er, fdV off wd = (p, er) := ⟨_, _, rfl⟩
 have HF := refDist_any off wd w hoff
 rw [show findV distRows 65536 off wd = (p, er) from hf] at HF
 have hp : ∃ c, PlOk p c := by have := fd_few off wd; rwa [hf] at this
 obtain ⟨n0, hp⟩ := hp
 have hp := hp.cn
 unfold writeDV
 rw [hf]
 dsimp only
 by_cases he : er = 0
 ·subst he
  rw [if_pos rfl]
  obtain ⟨r, f, n⟩ := p
  unfold writePl
  dsimp only
  by_cases h1 : r = 1
  ·subst h1
   rw [if_pos rfl]
   exact rwrite_ctlr h v hv f n (hi HF)
  ·rw [if_neg h1]
   by_cases h13 : r = 13
   ·subst h13
    rw [if_pos rfl]
    exact rwrite_rout h ok v hv f n (hi HF)
   ·rw [if_neg h13]
    exact rwrite_rest h ok v hv r f n hp h1 h13 (hi HF)
 ·rw [if_neg he]
  exact rwrite_no h v p er he (hi HF)
end
end Go.Proofs.YtieedhdmpabfkaaGreat
