import Derived.Test.YtieedhdmpabfkaaGreatMg02
import Derived.Test.YtieedhdmpabfkaaGreatMg17
set_option linter.unusedSimpArgs false
namespace Go.Proofs.YtieedhdmpabfkaaGreat
open Go.ChangeShapes Go.WideShapes Go.ChangeAt Go.RowKit Go.Shelf
set_option linter.unusedVariables false
attribute [local go_sem] Oper.semAt_some
section
variable {w : World} {lo hi' : Nat} {b c : Nat → Nat} {D : Ds}
def typerN (D : Ds) : Nat := (D.sh.length + 31) / 32 + (D.cs.length - 1) * 32 + 131072
set_option maxHeartbeats 2000000 in
theorem typer_any (h : DiAt w lo hi' b c D) (ok : D.Ok) : Calls Tryz.prog 78 #[.pointer (some ⟨b 0, 0, none⟩)] w fun e w' => e = .returned (.int .u64 (typerN D : Nat)) ∧ Below w.heap.size w w' := by
 have HA := hi (all_it h.shr ok.fitS)
 have HC := hi (fun lo hi' k fv W (q : Iter lo hi' k fv (items 32 D.sh) W) => count_any q (by rw [items_len]; have := ok.m; omega))
 have HI := hi (fun W (q : Below w.heap.size w W) => (h.below q).box)
 have c3 := h.box.cell 3
 have hm := ok.m
 have hn1 := ok.n1
 have hn8 := ok.n8
 rw [items_len] at HC
 unfold typerN
 obtain ⟨m, hm'⟩ : ∃ m, D.sh.length = m := ⟨_, rfl⟩
 obtain ⟨n, hn'⟩ : ∃ n, D.cs.length = n := ⟨_, rfl⟩
 rw [hm'] at HC hm ⊢
 rw [hn'] at HI c3 hn1 hn8 ⊢
 have w1 : IntKind.i64.wrap ((m : Int) + 32) = (m : Int) + 32 := by rw [IntKind.wrap_i64]; omega
 have w2 : IntKind.i64.wrap ((m : Int) + 32 - 1) = ((m + 31 : Nat) : Int) := by rw [IntKind.wrap_i64]; omega
 have w3 : ((m + 31 : Nat) : Int).tdiv 32 = (((m + 31) / 32 : Nat) : Int) := by rw [Int.tdiv_eq_ediv_of_nonneg (by omega)]; omega
 obtain ⟨r, hr⟩ : ∃ r, (m + 31) / 32 = r := ⟨_, rfl⟩
 have hr3 : r ≤ 3 := by omega
 rw [hr] at w3 ⊢
 obtain ⟨x, hx⟩ : ∃ x, m + 31 = x := ⟨_, rfl⟩
 rw [hx] at w2 w3
 have w4 : IntKind.i64.wrap (r : Int) = r := by rw [IntKind.wrap_i64]; omega
 obtain ⟨t, ht⟩ : ∃ t, n - 1 = t := ⟨_, rfl⟩
 have w5 : IntKind.i64.wrap ((n : Int) - 1) = t := by rw [IntKind.wrap_i64]; omega
 have w6 : IntKind.i64.wrap ((t : Int) * 32) = ((t * 32 : Nat) : Int) := by rw [IntKind.wrap_i64]; omega
 rw [ht]
 obtain ⟨y, hy⟩ : ∃ y, t * 32 = y := ⟨_, rfl⟩
 rw [hy] at w6 ⊢
 have w7 : IntKind.i64.wrap ((r : Int) + (y : Int)) = ((r + y : Nat) : Int) := by rw [IntKind.wrap_i64]; omega
 obtain ⟨z, hz⟩ : ∃ z, r + y = z := ⟨_, rfl⟩
 rw [hz] at w7 ⊢
 have w8 : IntKind.i64.wrap ((z : Int) + 131072) = ((z + 131072 : Nat) : Int) := by rw [IntKind.wrap_i64]; omega
 obtain ⟨q, hq⟩ : ∃ q, z + 131072 = q := ⟨_, rfl⟩
 rw [hq] at w8 ⊢
 have w9 : IntKind.u64.wrap (q : Int) = q := by rw [IntKind.wrap_u64]; omega
 clear h ok hm' hn' hr hx ht hy hz hq
 go_enter Tryz.func78, Tryz.ntmps78
 go_wp2_with (first
  | (go_at_call 114; ((with_reducible refine HA.out.mono ?_); rintro e w1' ⟨fv, rfl, hit, hb⟩; have HIT := hi hit; have HB1 := hi hb; clear hit hb))
  | (go_at_call 117; ((with_reducible refine (HC.out _ _ _ _ _ HIT.out).mono ?_); rintro e w2' ⟨rfl, hb⟩; have HB2 := hi (HB1.out.trans (hb.mono HB1.out.size)); have c2 := (HI.out _ HB2.out).cell 2; clear hb)))
 go_ret
 exact ⟨rfl, HB2.out⟩
def targetV (D : Ds) (id : Int) : Int := if hasB 32 D.sh.length id then targV D (nthE D.sh (id - 32).toNat).s else -1
set_option maxHeartbeats 1000000 in
theorem target_dist (h : DiAt w lo hi' b c D) (ok : D.Ok) {id : Int} (hid : Int64 id) :
  Calls Tryz.prog 24 #[.pointer (some ⟨b 0, 0, none⟩), .int .i64 id] w fun e w' => e = .returned (.int .i64 (targetV D id)) ∧ Below w.heap.size w w' := by
 have HD := hi (get_any (id := id) h.shr ok.fitS hid)
 have HT := hi (fun W (q : Below w.heap.size w W) s => target_any (h.below q) ok s)
 have c3 := h.box.cell 3
 have hlt := h.box.lt
 unfold targetV
 cases hb : hasB 32 D.sh.length id
 ·simp only [Bool.false_eq_true, if_false]
  rw [show getR 32 D.sh id = (En.zero, 90) by simp [getR, hb]] at HD
  clear h ok hb HT
  go_enter Tryz.func24, Tryz.ntmps24
  go_wp2_with (first
   | (go_at_call 68; ((with_reducible refine HD.out.mono ?_); rintro e' w2 ⟨rfl, hb⟩; have HB := hi hb; clear hb)))
  go_ret
  exact ⟨rfl, HB.out.alloc HB.out.size _⟩
 ·simp only [if_true]
  obtain ⟨j, rfl, hj, e1⟩ := has_at hb
  rw [e1]
  rw [show getR 32 D.sh (32 + j) = (nthE D.sh j, 0) by rw [getR, if_pos hb, e1]] at HD
  obtain ⟨y, hy⟩ : ∃ y, nthE D.sh j = y := ⟨_, rfl⟩
  rw [hy] at HD ⊢
  have HTS := hi (fun W (q : Below w.heap.size w W) => HT.out W q y.s)
  obtain ⟨T, hT⟩ : ∃ T, targV D y.s = T := ⟨_, rfl⟩
  rw [hT] at HTS ⊢
  clear h ok hb e1 hj hy hT HT
  obtain ⟨⟨⟨e, l, q, a⟩, en, gr, p⟩, ⟨sc, sy⟩⟩ := y
  dsimp only [En.v] at HD
  dsimp only [Rt.v] at HTS
  go_enter Tryz.func24, Tryz.ntmps24
  go_wp2_with (first
   | (go_at_call 68; ((with_reducible refine HD.out.mono ?_); rintro e' w2 ⟨rfl, hb⟩; have HB := hi hb; have c3 := (hb.cell (p := ⟨b 0, 3, none⟩) hlt).trans c3; clear hb))
   | (go_at_call 69; ((with_reducible refine (HTS.out _ (HB.out.alloc HB.out.size _)).mono ?_); rintro e' w3 ⟨rfl, hb⟩; have HB3 := hi ((HB.out.alloc HB.out.size _).trans (hb.mono (HB.out.alloc HB.out.size _).size)); clear hb)))
  go_ret
  exact ⟨rfl, HB3.out⟩
def slN (x : Bool) : Nat := if x then 6 else 0
def readOwnV (D : Ds) (k : Int) (p : Pl) : Nat × Int :=
 if hasN D.cs.length k then (if p.r = 3 then (slN (D.nth k.toNat).sl, 0) else (readV p p.c.toNat 0 (D.nth k.toNat).es, 0)) else (0, 130)
theorem PlOk.cn {p : Pl} {c : Nat} (h : PlOk p c) : PlOk p p.c.toNat := by
 have := h.cnt
 have e : p.c.toNat = c := by omega
 rw [e]; exact h
set_option maxRecDepth 100000 in
set_option maxHeartbeats 2000000 in
theorem readOwn_dist (h : DiAt w lo hi' b c D) (ok : D.Ok) {k : Int} {p : Pl} (hp : ∃ n, PlOk p n) :
  Calls Tryz.prog 32 #[.pointer (some ⟨b 0, 0, none⟩), .int .i64 k, p.v] w fun e w' => e = .returned (.tuple #[.int .u64 (readOwnV D k p).1, .int .i64 (readOwnV D k p).2]) ∧ Below w.heap.size w w' := by
 obtain ⟨n0, hp⟩ := hp
 have hp := hp.cn
 have hbal := bal w (.cells p.cs 70)
 have HB0 := hi hbal
 have H1 := h.below hbal
 have hlt := h.box.lt
 unfold readOwnV
 cases hk : hasN D.cs.length k
 ·have HH := hi (H1.has k)
  rw [hk] at HH
  clear h hk ok H1 hp
  obtain ⟨r, f, n⟩ := p
  dsimp only [Pl.cs] at HH HB0
  dsimp only [Pl.v]
  go_enter Tryz.func32, Tryz.ntmps32
  go_wp2_with (go_at_call 71; ((with_reducible refine HH.out.mono ?_); rintro e w1 ⟨rfl, rfl⟩))
  go_ret2
  exact ⟨rfl, HB0.out⟩
 ·obtain ⟨j, rfl, hj⟩ := hasN_at hk
  simp only [if_true, Int.toNat_natCast]
  have HH := hi (H1.hasNat hj)
  by_cases hr : p.r = 3
  ·rw [if_pos hr]
   have c2 := H1.box.cell 2
   have q0 := H1.ptr hj
   have q1 := H1.slp hj
   obtain ⟨s, hs⟩ : ∃ s, (D.nth j).sl = s := ⟨_, rfl⟩
   obtain ⟨n9, hn9⟩ : ∃ n9, D.cs.length = n9 := ⟨_, rfl⟩
   rw [hn9] at c2 hj
   rw [hs] at q1 ⊢
   clear h hk ok H1 hp hs hn9 hbal
   obtain ⟨r, f, n⟩ := p
   dsimp only at hr
   subst hr
   dsimp only [Pl.cs] at HH HB0 c2 q0 q1
   dsimp only [Pl.v]
   cases s
   all_goals
    go_enter Tryz.func32, Tryz.ntmps32
    go_wp2_with (go_at_call 71; ((with_reducible refine HH.out.mono ?_); rintro e w1 ⟨rfl, rfl⟩))
    go_ret2
    exact ⟨rfl, HB0.out⟩
  ·rw [if_neg hr]
   have HRD := hi (fun W (q : Below w.heap.size w W) => read_any ((h.below q).own j hj) (ok.fitO hj) (ok.fine j hj) hp)
   have HPB := hi (CB.new w 70 p.cs)
   obtain ⟨V, hV⟩ : ∃ V, readV p p.c.toNat 0 (D.nth j).es = V := ⟨_, rfl⟩
   rw [hV] at HRD ⊢
   have hq : (p.r != 3) = true := by simpa using hr
   have HD := hi H1
   obtain ⟨n9, hn9⟩ : ∃ n9, D.cs.length = n9 := ⟨_, rfl⟩
   have HN9 := hi hn9
   rw [hn9] at hj
   clear h hk ok H1 hp hV hr hn9 hbal
   obtain ⟨r, f, n⟩ := p
   dsimp only at hq
   dsimp only [Pl.cs] at HH HB0 HPB HD
   dsimp only [Pl.v] at HRD ⊢
   go_enter Tryz.func32, Tryz.ntmps32
   go_wp2_with (go_at_call 71; ((with_reducible refine HH.out.mono ?_); rintro e w1 ⟨rfl, rfl⟩))
   obtain ⟨W1, hW1⟩ : ∃ W1, w.alloc (.cells #[.int .i64 r, .int .i64 f, .int .i64 n] 70) = W1 := ⟨_, rfl⟩
   rw [hW1] at HB0 HPB HD ⊢
   have HB1 := hi (show Below w.heap.size w W1.drew from Below.drewN (m := 1) HB0.out)
   clear hW1 HH
   refine wp_region_noPanic ?_
   refine wp_region_last_drew (S := (fun W' => DiAt W' lo hi' b c D ∧ CB W' w.heap.size 70 #[.int .i64 r, .int .i64 f, .int .i64 n])) [] (by kernel_rfl) ⟨HD.out.drew, HPB.out.drew⟩ (fun hHeld => ?_)
   (try simp only [r1, r2, r3, r4, r5])
   refine tk 0 (v := ?_) rfl (Or.inl ⟨by rfl, ?_⟩) ?_
   rotate_left
   ·intro w' hSw; (try dsimp only at hSw); have k2 := hSw.1.box.cell 2; rw [HN9.out] at k2; have k0 := hSw.1.ptr (k := j) (by rw [HN9.out]; exact hj); have p0 := hSw.2.cell 0; have p1 := hSw.2.cell 1; have p2 := hSw.2.cell 2; go_simp; (try with_reducible rfl)
   (try simp only [Act.put, n1, n2, n4, n5, n6])
   refine tk 1 (v := ?_) rfl (Or.inl ⟨by rfl, ?_⟩) ?_
   rotate_left
   ·intro w' hSw; (try dsimp only at hSw); have k2 := hSw.1.box.cell 2; rw [HN9.out] at k2; have k0 := hSw.1.ptr (k := j) (by rw [HN9.out]; exact hj); have p0 := hSw.2.cell 0; have p1 := hSw.2.cell 1; have p2 := hSw.2.cell 2; go_simp; (try with_reducible rfl)
   (try simp only [Act.put, n1, n2, n3, n4, n5, n6])
   refine tk 2 (v := ?_) rfl (Or.inl ⟨by rfl, ?_⟩) ?_
   rotate_left
   ·intro w' hSw; (try dsimp only at hSw); have k2 := hSw.1.box.cell 2; rw [HN9.out] at k2; have k0 := hSw.1.ptr (k := j) (by rw [HN9.out]; exact hj); have p0 := hSw.2.cell 0; have p1 := hSw.2.cell 1; have p2 := hSw.2.cell 2; go_simp; (try with_reducible rfl)
   (try simp only [Act.put, n1, n2, n3, n4, n5, n6])
   refine tk 3 (v := ?_) rfl (Or.inl ⟨by rfl, ?_⟩) ?_
   rotate_left
   ·intro w' hSw; (try dsimp only at hSw); have k2 := hSw.1.box.cell 2; rw [HN9.out] at k2; have k0 := hSw.1.ptr (k := j) (by rw [HN9.out]; exact hj); have p0 := hSw.2.cell 0; have p1 := hSw.2.cell 1; have p2 := hSw.2.cell 2; go_simp; (try with_reducible rfl)
   (try simp only [Act.put, n1, n2, n3, n4, n5, n6])
   refine tk 4 (v := ?_) rfl (Or.inl ⟨by rfl, ?_⟩) ?_
   rotate_left
   ·intro w' hSw; (try dsimp only at hSw); have k2 := hSw.1.box.cell 2; rw [HN9.out] at k2; have k0 := hSw.1.ptr (k := j) (by rw [HN9.out]; exact hj); have p0 := hSw.2.cell 0; have p1 := hSw.2.cell 1; have p2 := hSw.2.cell 2; go_simp; (try with_reducible rfl)
   (try simp only [Act.put, n1, n2, n3, n4, n5, n6])
   refine tk 5 (v := ?_) rfl (Or.inl ⟨by rfl, ?_⟩) ?_
   rotate_left
   ·intro w' hSw; (try dsimp only at hSw); have k2 := hSw.1.box.cell 2; rw [HN9.out] at k2; have k0 := hSw.1.ptr (k := j) (by rw [HN9.out]; exact hj); have p0 := hSw.2.cell 0; have p1 := hSw.2.cell 1; have p2 := hSw.2.cell 2; go_simp; (try with_reducible rfl)
   (try simp only [Act.put, n1, n2, n3, n4, n5, n6])
   refine tk 6 (v := ?_) rfl (Or.inl ⟨by rfl, ?_⟩) ?_
   rotate_left
   ·intro w' hSw; (try dsimp only at hSw); have k2 := hSw.1.box.cell 2; rw [HN9.out] at k2; have k0 := hSw.1.ptr (k := j) (by rw [HN9.out]; exact hj); have p0 := hSw.2.cell 0; have p1 := hSw.2.cell 1; have p2 := hSw.2.cell 2; go_simp; (try with_reducible rfl)
   (try simp only [Act.put, n1, n2, n3, n4, n5, n6])
   refine tk 7 (v := ?_) rfl (Or.inl ⟨by rfl, ?_⟩) ?_
   rotate_left
   ·intro w' hSw; (try dsimp only at hSw); have k2 := hSw.1.box.cell 2; rw [HN9.out] at k2; have k0 := hSw.1.ptr (k := j) (by rw [HN9.out]; exact hj); have p0 := hSw.2.cell 0; have p1 := hSw.2.cell 1; have p2 := hSw.2.cell 2; go_simp; (try with_reducible rfl)
   (try simp only [Act.put, n1, n2, n3, n4, n5, n6])
   refine tk 8 (v := ?_) rfl (Or.inl ⟨by rfl, ?_⟩) ?_
   rotate_left
   ·intro w' hSw; (try dsimp only at hSw); have k2 := hSw.1.box.cell 2; rw [HN9.out] at k2; have k0 := hSw.1.ptr (k := j) (by rw [HN9.out]; exact hj); have p0 := hSw.2.cell 0; have p1 := hSw.2.cell 1; have p2 := hSw.2.cell 2; go_simp; (try with_reducible rfl)
   (try simp only [Act.put, n1, n2, n3, n4, n5, n6])
   refine wpAnyF_ready (rs := [9]) (by kernel_rfl) (by simp) ?_
   refine AllReadyF.cons rfl (fun KK hKK => ?_) AllReadyF.nil
   go_simp
   ((with_reducible refine (HRD.out _ HB1.out).mono ?_); rintro e' w4 ⟨rfl, hb⟩; have HB4 := hi (HB1.out.trans (hb.mono HB1.out.size)); have hSS := And.intro (hHeld.1.below hb) (hHeld.2.below hb); clear hb)
   (try go_simp)
   refine hKK.out _ _ hSS (fun hHeld => ?_)
   clear hKK KK
   (try simp only [Act.put, n1, n2, n3, n4, n5, n6])
   refine tk 10 (v := ?_) rfl (Or.inl ⟨by rfl, ?_⟩) ?_
   rotate_left
   ·intro w' hSw; (try dsimp only at hSw); have k2 := hSw.1.box.cell 2; rw [HN9.out] at k2; have k0 := hSw.1.ptr (k := j) (by rw [HN9.out]; exact hj); have p0 := hSw.2.cell 0; have p1 := hSw.2.cell 1; have p2 := hSw.2.cell 2; go_simp; (try with_reducible rfl)
   (try simp only [Act.put, n1, n2, n3, n4, n5, n6])
   refine tk 11 (v := ?_) rfl (Or.inl ⟨by rfl, ?_⟩) ?_
   rotate_left
   ·intro w' hSw; (try dsimp only at hSw); have k2 := hSw.1.box.cell 2; rw [HN9.out] at k2; have k0 := hSw.1.ptr (k := j) (by rw [HN9.out]; exact hj); have p0 := hSw.2.cell 0; have p1 := hSw.2.cell 1; have p2 := hSw.2.cell 2; go_simp; (try with_reducible rfl)
   (try simp only [Act.put, n1, n2, n3, n4, n5, n6])
   refine wpAnyF_done (by kernel_rfl) ?_ _
   refine NoPanic.normal ?_
   go_wp2
   go_ret2
   exact ⟨rfl, HB4.out⟩
theorem rowPtr {W : World} {g k : Nat} {t : TypeId} {b : Nat → Nat} {D : Ds} (h : Row W g t (flat encCo (D.prs b))) (hk : k < D.cs.length) : W.cell? ⟨g, k * 2, none⟩ = some (.pointer (some ⟨b (4 + 2 * k), 0, none⟩)) := by
 have h1 := flat_get encCo_len (D.prs b) k 0 _ (by decide) (Ds.prs_at hk)
 rw [h.cell (by rw [flat_len encCo_len, Ds.prs_len]; omega)]
 exact h1
def writeOwnV (D : Ds) (k : Int) (p : Pl) (v : Nat) : Ds × Int :=
 if hasN D.cs.length k then (if p.r = 3 then (D.setSl k.toNat (onB v 1), 0) else (D.setOwn k.toNat (writeV p p.c.toNat 0 v (D.nth k.toNat).es).1, 0)) else (D, 130)
theorem writeOwnV_ok (ok : D.Ok) (k : Int) (p : Pl) (v : Nat) : (writeOwnV D k p v).1.Ok := by
 unfold writeOwnV
 cases hk : hasN D.cs.length k
 ·simpa using ok
 ·obtain ⟨j, rfl, hj⟩ := hasN_at hk
  simp only [if_true, Int.toNat_natCast]
  split
  ·exact ok.setSl hj _
  ·exact ok.setOwn hj (by rw [writeV_len]; exact ok.own j hj) (writeV_fine (ok.fine j hj))
set_option maxRecDepth 100000 in
set_option maxHeartbeats 2000000 in
theorem writeOwn_dist (h : DiAt w lo hi' b c D) (ok : D.Ok) {k : Int} {p : Pl} (v : Nat) (hv : v < 18446744073709551616) (hp : ∃ n, PlOk p n) :
  Calls Tryz.prog 30 #[.pointer (some ⟨b 0, 0, none⟩), .int .i64 k, p.v, .int .u64 v] w fun e w' => e = .returned (.int .i64 (writeOwnV D k p v).2) ∧ DiAf w lo hi' b c (writeOwnV D k p v).1 w' := by
 obtain ⟨n0, hp⟩ := hp
 have hp := hp.cn
 have hbal := bal w (.cells p.cs 70)
 have HB0 := hi hbal
 have H1 := h.below hbal
 have hlt := h.box.lt
 have hle := h.le
 unfold writeOwnV
 cases hk : hasN D.cs.length k
 ·have HH := hi (H1.has k)
  rw [hk] at HH
  have HF := hi (DiAf.of h hbal)
  clear h hk ok H1 hp hbal
  obtain ⟨r, f, n⟩ := p
  dsimp only [Pl.cs] at HH HB0 HF
  dsimp only [Pl.v]
  go_enter Tryz.func30, Tryz.ntmps30
  go_wp2_with (go_at_call 71; ((with_reducible refine HH.out.mono ?_); rintro e w1 ⟨rfl, rfl⟩))
  go_ret
  exact ⟨rfl, HF.out⟩
 ·obtain ⟨j, rfl, hj⟩ := hasN_at hk
  simp only [if_true, Int.toNat_natCast]
  have HH := hi (H1.hasNat hj)
  have HPB := hi (CB.new w 70 p.cs)
  have HD := hi H1
  obtain ⟨n9, hn9⟩ : ∃ n9, D.cs.length = n9 := ⟨_, rfl⟩
  have HN9 := hi hn9
  have HJ := hi hj
  by_cases hr : p.r = 3
  ·rw [if_pos hr]
   have HO := hi (show ∀ W, Calls Tryz.prog 75 #[.int .u64 v, .int .i64 1] W fun e w' => e = .returned (.bool (onB v 1)) ∧ W = w' from fun W => isOne_any v 1 hv (by decide) W)
   obtain ⟨s, hs⟩ : ∃ s, onB v 1 = s := ⟨_, rfl⟩
   rw [hs] at HO ⊢
   have HNE := hi (h.inj 0 1 (by omega) (by omega) (by omega))
   rw [hn9] at hj
   clear h hk ok H1 hp hs hn9 hbal
   obtain ⟨r, f, n⟩ := p
   dsimp only at hr
   subst hr
   dsimp only [Pl.cs] at HH HB0 HPB HD
   dsimp only [Pl.v]
   go_enter Tryz.func30, Tryz.ntmps30
   go_wp2_with (go_at_call 71; ((with_reducible refine HH.out.mono ?_); rintro e w1 ⟨rfl, rfl⟩))
   obtain ⟨W1, hW1⟩ : ∃ W1, w.alloc (.cells #[.int .i64 3, .int .i64 f, .int .i64 n] 70) = W1 := ⟨_, rfl⟩
   rw [hW1] at HB0 HPB HD ⊢
   have HB1 := hi (show Below w.heap.size w W1.drew from Below.drewN (m := 1) HB0.out)
   have HD1 := hi HD.out.drew
   clear hW1 HH
   refine wp_region_noPanic ?_
   refine wp_region_last_drew (S := (fun W' => CB W' (b 0) 83 #[.bool D.g0, .bool D.g1, .slice (some ⟨b 1, 0, none⟩) n9 (c 0), .pointer (some ⟨b 2, 0, none⟩)])) [] (by kernel_rfl) (by have := HD1.out.box; rwa [HN9.out] at this) (fun hHeld => ?_)
   (try simp only [r1, r2, r3, r4, r5])
   obtain ⟨Wd, hWd⟩ : ∃ Wd, W1.drew = Wd := ⟨_, rfl⟩
   rw [hWd] at HD1 HB1 hHeld ⊢
   clear hWd
   refine tk 0 (v := ?_) rfl (Or.inl ⟨by rfl, ?_⟩) ?_
   rotate_left
   ·intro w' hSw; (try dsimp only at hSw); have k2 := hSw.cell 2; go_simp; (try with_reducible rfl)
   (try simp only [Act.put, n1, n2, n4, n5, n6])
   refine tk 1 (v := ?_) rfl (Or.inl ⟨by rfl, ?_⟩) ?_
   rotate_left
   ·intro w' hSw; (try dsimp only at hSw); have k2 := hSw.cell 2; go_simp; (try with_reducible rfl)
   (try simp only [Act.put, n1, n2, n3, n4, n5, n6])
   refine tk 2 (v := ?_) rfl (Or.inl ⟨by rfl, ?_⟩) ?_
   rotate_left
   ·intro w' hSw; (try dsimp only at hSw); have k2 := hSw.cell 2; go_simp; (try with_reducible rfl)
   (try simp only [Act.put, n1, n2, n3, n4, n5, n6])
   refine tk 3 (v := ?_) rfl (Or.inl ⟨by rfl, ?_⟩) ?_
   rotate_left
   ·intro w' hSw; (try dsimp only at hSw); have k2 := hSw.cell 2; go_simp; (try with_reducible rfl)
   (try simp only [Act.put, n1, n2, n3, n4, n5, n6])
   refine tk 4 (v := ?_) rfl (Or.inl ⟨by rfl, ?_⟩) ?_
   rotate_left
   ·intro w' hSw; (try dsimp only at hSw); have k2 := hSw.cell 2; go_simp; (try with_reducible rfl)
   (try simp only [Act.put, n1, n2, n3, n4, n5, n6])
   refine tk 5 (v := ?_) rfl (Or.inl ⟨by rfl, ?_⟩) ?_
   rotate_left
   ·intro w' hSw; (try dsimp only at hSw); have k2 := hSw.cell 2; go_simp; (try with_reducible rfl)
   (try simp only [Act.put, n1, n2, n3, n4, n5, n6])
   refine wpAnyF_ready (rs := [6]) (by kernel_rfl) (by simp) ?_
   refine AllReadyF.cons rfl (fun KK hKK => ?_) AllReadyF.nil
   go_simp
   ((with_reducible refine (HO.out _).mono ?_); rintro e' w4 ⟨rfl, rfl⟩)
   (try go_simp)
   refine hKK.out _ _ hHeld (fun hHeld => ?_)
   clear hKK KK
   (try simp only [Act.put, n1, n2, n3, n4, n5, n6])
   refine tk 7 (v := ?_) rfl (Or.inl ⟨by rfl, ?_⟩) ?_
   rotate_left
   ·intro w' hSw; (try dsimp only at hSw); have k2 := hSw.cell 2; go_simp; (try with_reducible rfl)
   (try simp only [Act.put, n1, n2, n3, n4, n5, n6])
   refine tk 8 (v := ?_) rfl (Or.inl ⟨by rfl, ?_⟩) ?_
   rotate_left
   ·intro w' hSw; (try dsimp only at hSw); have k2 := hSw.cell 2; go_simp; (try with_reducible rfl)
   (try simp only [Act.put, n1, n2, n3, n4, n5, n6])
   refine wpAnyF_ready (rs := [9]) (by kernel_rfl) (by simp) ?_
   refine AllReadyF.cons rfl (fun KK hKK => ?_) AllReadyF.nil
   go_simp
   have fz := HD1.out.row.frozen (j * 2 + 1)
   have fc := HD1.out.slp HJ.out
   go_simp
   refine hKK.out _ _ (hHeld.other _ _ _ HNE.out) (fun hHeld => ?_)
   clear hKK KK
   (try simp only [Act.put, n1, n2, n3, n4, n5, n6])
   refine wpAnyF_done (by kernel_rfl) ?_ _
   refine NoPanic.normal ?_
   go_wp2
   go_ret
   have hS := HD1.out.setSlp HJ.out s
   exact ⟨rfl, ⟨hS.1, (Kept.of HB1.out).trans hS.2⟩⟩
  ·rw [if_neg hr]
   have HRD := hi (fun W (q : Below w.heap.size w W) => write_any ((h.below q).own j hj) (ok.fitO hj) (ok.fine j hj) hp hv)
   obtain ⟨V, hV⟩ : ∃ V, writeV p p.c.toNat 0 v (D.nth j).es = V := ⟨_, rfl⟩
   rw [hV] at HRD ⊢
   have hq : (p.r == 3) = false := by simpa using hr
   have HN0 := hi (h.inj 0 (5 + 2 * j) (by omega) (by omega) (by omega))
   have HN1 := hi (h.inj 1 (5 + 2 * j) (by omega) (by omega) (by omega))
   have HR5 := hi (h.rng (5 + 2 * j) (by omega))
   rw [hn9] at hj
   clear h hk ok H1 hp hV hr hn9 hbal
   obtain ⟨r, f, n⟩ := p
   dsimp only at hq
   dsimp only [Pl.cs] at HH HB0 HPB HD
   dsimp only [Pl.v] at HRD ⊢
   go_enter Tryz.func30, Tryz.ntmps30
   go_wp2_with (go_at_call 71; ((with_reducible refine HH.out.mono ?_); rintro e w1 ⟨rfl, rfl⟩))
   obtain ⟨W1, hW1⟩ : ∃ W1, w.alloc (.cells #[.int .i64 r, .int .i64 f, .int .i64 n] 70) = W1 := ⟨_, rfl⟩
   rw [hW1] at HB0 HPB HD ⊢
   have HB1 := hi (show Below w.heap.size w W1.drew from Below.drewN (m := 1) HB0.out)
   have HD1 := hi HD.out.drew
   clear hW1 HH
   refine wp_region_noPanic ?_
   refine wp_region_last_drew (S := (fun W' => CB W' (b 0) 83 #[.bool D.g0, .bool D.g1, .slice (some ⟨b 1, 0, none⟩) n9 (c 0), .pointer (some ⟨b 2, 0, none⟩)] ∧ Row W' (b 1) 86 (flat encCo (D.prs b)) ∧ CB W' w.heap.size 70 #[.int .i64 r, .int .i64 f, .int .i64 n])) [] (by kernel_rfl) ⟨(by have := HD1.out.box; rwa [HN9.out] at this), HD1.out.row, HPB.out.drew⟩ (fun hHeld => ?_)
   (try simp only [r1, r2, r3, r4, r5])
   refine tk 0 (v := ?_) rfl (Or.inl ⟨by rfl, ?_⟩) ?_
   rotate_left
   ·intro w' hSw; (try dsimp only at hSw); have k2 := hSw.1.cell 2; have k0 := rowPtr hSw.2.1 HJ.out; have p0 := hSw.2.2.cell 0; have p1 := hSw.2.2.cell 1; have p2 := hSw.2.2.cell 2; go_simp; (try with_reducible rfl)
   (try simp only [Act.put, n1, n2, n4, n5, n6])
   refine tk 1 (v := ?_) rfl (Or.inl ⟨by rfl, ?_⟩) ?_
   rotate_left
   ·intro w' hSw; (try dsimp only at hSw); have k2 := hSw.1.cell 2; have k0 := rowPtr hSw.2.1 HJ.out; have p0 := hSw.2.2.cell 0; have p1 := hSw.2.2.cell 1; have p2 := hSw.2.2.cell 2; go_simp; (try with_reducible rfl)
   (try simp only [Act.put, n1, n2, n3, n4, n5, n6])
   refine tk 2 (v := ?_) rfl (Or.inl ⟨by rfl, ?_⟩) ?_
   rotate_left
   ·intro w' hSw; (try dsimp only at hSw); have k2 := hSw.1.cell 2; have k0 := rowPtr hSw.2.1 HJ.out; have p0 := hSw.2.2.cell 0; have p1 := hSw.2.2.cell 1; have p2 := hSw.2.2.cell 2; go_simp; (try with_reducible rfl)
   (try simp only [Act.put, n1, n2, n3, n4, n5, n6])
   refine tk 3 (v := ?_) rfl (Or.inl ⟨by rfl, ?_⟩) ?_
   rotate_left
   ·intro w' hSw; (try dsimp only at hSw); have k2 := hSw.1.cell 2; have k0 := rowPtr hSw.2.1 HJ.out; have p0 := hSw.2.2.cell 0; have p1 := hSw.2.2.cell 1; have p2 := hSw.2.2.cell 2; go_simp; (try with_reducible rfl)
   (try simp only [Act.put, n1, n2, n3, n4, n5, n6])
   refine tk 4 (v := ?_) rfl (Or.inl ⟨by rfl, ?_⟩) ?_
   rotate_left
   ·intro w' hSw; (try dsimp only at hSw); have k2 := hSw.1.cell 2; have k0 := rowPtr hSw.2.1 HJ.out; have p0 := hSw.2.2.cell 0; have p1 := hSw.2.2.cell 1; have p2 := hSw.2.2.cell 2; go_simp; (try with_reducible rfl)
   (try simp only [Act.put, n1, n2, n3, n4, n5, n6])
   refine tk 5 (v := ?_) rfl (Or.inl ⟨by rfl, ?_⟩) ?_
   rotate_left
   ·intro w' hSw; (try dsimp only at hSw); have k2 := hSw.1.cell 2; have k0 := rowPtr hSw.2.1 HJ.out; have p0 := hSw.2.2.cell 0; have p1 := hSw.2.2.cell 1; have p2 := hSw.2.2.cell 2; go_simp; (try with_reducible rfl)
   (try simp only [Act.put, n1, n2, n3, n4, n5, n6])
   refine tk 6 (v := ?_) rfl (Or.inl ⟨by rfl, ?_⟩) ?_
   rotate_left
   ·intro w' hSw; (try dsimp only at hSw); have k2 := hSw.1.cell 2; have k0 := rowPtr hSw.2.1 HJ.out; have p0 := hSw.2.2.cell 0; have p1 := hSw.2.2.cell 1; have p2 := hSw.2.2.cell 2; go_simp; (try with_reducible rfl)
   (try simp only [Act.put, n1, n2, n3, n4, n5, n6])
   refine tk 7 (v := ?_) rfl (Or.inl ⟨by rfl, ?_⟩) ?_
   rotate_left
   ·intro w' hSw; (try dsimp only at hSw); have k2 := hSw.1.cell 2; have k0 := rowPtr hSw.2.1 HJ.out; have p0 := hSw.2.2.cell 0; have p1 := hSw.2.2.cell 1; have p2 := hSw.2.2.cell 2; go_simp; (try with_reducible rfl)
   (try simp only [Act.put, n1, n2, n3, n4, n5, n6])
   refine tk 8 (v := ?_) rfl (Or.inl ⟨by rfl, ?_⟩) ?_
   rotate_left
   ·intro w' hSw; (try dsimp only at hSw); have k2 := hSw.1.cell 2; have k0 := rowPtr hSw.2.1 HJ.out; have p0 := hSw.2.2.cell 0; have p1 := hSw.2.2.cell 1; have p2 := hSw.2.2.cell 2; go_simp; (try with_reducible rfl)
   (try simp only [Act.put, n1, n2, n3, n4, n5, n6])
   refine tk 9 (v := ?_) rfl (Or.inl ⟨by rfl, ?_⟩) ?_
   rotate_left
   ·intro w' hSw; (try dsimp only at hSw); have k2 := hSw.1.cell 2; have k0 := rowPtr hSw.2.1 HJ.out; have p0 := hSw.2.2.cell 0; have p1 := hSw.2.2.cell 1; have p2 := hSw.2.2.cell 2; go_simp; (try with_reducible rfl)
   (try simp only [Act.put, n1, n2, n3, n4, n5, n6])
   refine wpAnyF_ready (rs := [10]) (by kernel_rfl) (by simp) ?_
   refine AllReadyF.cons rfl (fun KK hKK => ?_) AllReadyF.nil
   go_simp
   ((with_reducible refine (HRD.out _ HB1.out).mono ?_); rintro e' w4 ⟨rfl, hA⟩; have hS4 := HD1.out.setOwn HJ.out hA; have HF4 := hi (show DiAf w lo hi' b c (D.setOwn j V.1) w4 from ⟨hS4.1, (Kept.of HB1.out).trans hS4.2⟩); have hSS := And.intro (hHeld.1.keptB hA.kept HN0.out) (And.intro (hHeld.2.1.kept hA.kept HN1.out) (hHeld.2.2.keptB hA.kept (fun e => by have := HR5.out.2; omega))); clear hA hS4)
   (try go_simp)
   refine hKK.out _ _ hSS (fun hHeld => ?_)
   clear hKK KK
   (try simp only [Act.put, n1, n2, n3, n4, n5, n6])
   refine wpAnyF_done (by kernel_rfl) ?_ _
   refine NoPanic.normal ?_
   go_wp2
   go_ret
   exact ⟨rfl, HF4.out⟩
end
end Go.Proofs.YtieedhdmpabfkaaGreat
namespace Go.Proofs.YtieedhdmpabfkaaGreat
open Go.ChangeShapes Go.WideShapes Go.ChangeAt Go.RowKit Go.Shelf
set_option linter.unusedVariables false
attribute [local go_sem] Oper.semAt_some
theorem CB.otherE {W : World} {B : Nat} {t : TypeId} {cs : Array Value} (h : CB W B t cs) {N : Nat} (hn : B ≠ N) {v0 v1 v2 v3 v4 v5 v6 v7 v8 : Value} : CB (((((((((W.setCell ⟨N, 0, none⟩ v0).setCell ⟨N, 1, none⟩ v1).setCell ⟨N, 2, none⟩ v2).setCell ⟨N, 3, none⟩ v3).setCell ⟨N, 4, none⟩ v4).setCell ⟨N, 5, none⟩ v5).setCell ⟨N, 6, none⟩ v6).setCell ⟨N, 7, none⟩ v7).setCell ⟨N, 8, none⟩ v8) B t cs :=
 ((((((((h.other N _ _ hn).other N _ _ hn).other N _ _ hn).other N _ _ hn).other N _ _ hn).other N _ _ hn).other N _ _ hn).other N _ _ hn).other N _ _ hn
section
variable {w : World} {lo hi' : Nat} {b c : Nat → Nat} {D : Ds}
def routN (D : Ds) (id : Int) : Nat := if hasB 32 D.sh.length id then rtN (nthE D.sh (id - 32).toNat).s else 0
def fdV (off wd : Int) : Pl × Int := findV distRows 65536 off wd
def readPl (D : Ds) (p : Pl) : Nat := if p.r = 1 then ctlrN D else if p.r = 2 then typerN D else if p.r = 13 then routN D p.f else readV p p.c.toNat 32 D.sh
def readDV (D : Ds) (off wd : Int) : Nat × Int := if (fdV off wd).2 = 0 then (readPl D (fdV off wd).1, 0) else (0, (fdV off wd).2)
theorem fd_few (off wd : Int) : ∃ c, PlOk (fdV off wd).1 c := findV_few dist_ok dist_few _ _ _
theorem PlOk.i64 {p : Pl} {c : Nat} (h : PlOk p c) : Int64 p.f := by have := h.f0; have := h.f1; have := h.few; constructor <;> omega
set_option maxRecDepth 100000 in
set_option maxHeartbeats 2000000 in
theorem read_go (h : DiAt w lo hi' b c D) (ok : D.Ok) {off wd : Int} (hoff : Int64 off) (p : Pl) (er : Int) (hf : fdV off wd = (p, er)) :
  Calls Tryz.prog 34 #[.pointer (some ⟨b 0, 0, none⟩), .int .i64 off, .int .i64 wd] w fun e w' => e = .returned (.tuple #[.int .u64 (if er = 0 then readPl D p else 0 : Nat), .int .i64 er]) ∧ Below w.heap.size w w' := by
 have HF := hi (distP_any off wd w hoff)
 rw [show findV distRows 65536 off wd = (p, er) from hf] at HF
 have hp : ∃ c, PlOk p c := by have := fd_few off wd; rwa [hf] at this
 obtain ⟨n0, hp⟩ := hp
 have hp64 := hp.i64
 have hp := hp.cn
 have hlt := h.box.lt
 have HD := hi h
 have HOK := hi ok
 have HP := hi hp
 obtain ⟨r, f, n⟩ := p
 have HPL := hi (show readPl D ⟨r, f, n⟩ = if r = 1 then ctlrN D else if r = 2 then typerN D else if r = 13 then routN D f else readV ⟨r, f, n⟩ n.toNat 32 D.sh from rfl)
 try dsimp only at hp64
 (try unfold Finds at HF)
 (try dsimp only [Pl.v] at HF)
 by_cases he : er = 0
 ·subst he
  rw [if_pos rfl, HPL.out]
  by_cases h1 : r = 1
  ·subst h1
   rw [if_pos rfl]
   have HC := hi (fun W (q : Below w.heap.size w W) => ctlr_any (h.below q))
   obtain ⟨V, hV⟩ : ∃ V, ctlrN D = V := ⟨_, rfl⟩
   rw [hV] at HC ⊢
   clear h ok hf hp hV HP HPL
   go_enter Tryz.func34, Tryz.ntmps34
   go_wp2_with (first
    | (go_at_call 40; ((with_reducible refine HF.out.mono ?_); rintro e w1 ⟨rfl, hb⟩; have HB := hi hb; clear hb))
    | (go_at_call 77; ((with_reducible refine (HC.out _ (HB.out.alloc HB.out.size _)).mono ?_); rintro e w2 ⟨rfl, rfl⟩)))
   go_ret2
   exact ⟨rfl, HB.out.alloc HB.out.size _⟩
  rw [if_neg h1]
  have q1 : (r == 1) = false := by simpa using h1
  by_cases h2 : r = 2
  ·subst h2
   rw [if_pos rfl]
   have HC := hi (fun W (q : Below w.heap.size w W) => typer_any (h.below q) ok)
   obtain ⟨V, hV⟩ : ∃ V, typerN D = V := ⟨_, rfl⟩
   rw [hV] at HC ⊢
   clear h ok hf hp hV h1 q1 HP HPL
   go_enter Tryz.func34, Tryz.ntmps34
   go_wp2_with (first
    | (go_at_call 40; ((with_reducible refine HF.out.mono ?_); rintro e w1 ⟨rfl, hb⟩; have HB := hi hb; clear hb))
    | (go_at_call 78; ((with_reducible refine (HC.out _ (HB.out.alloc HB.out.size _)).mono ?_); rintro e w2 ⟨rfl, hb⟩; have HB2 := hi ((HB.out.alloc HB.out.size _).trans (hb.mono (HB.out.alloc HB.out.size _).size)); clear hb)))
   go_ret2
   exact ⟨rfl, HB2.out⟩
  rw [if_neg h2]
  have q2 : (r == 2) = false := by simpa using h2
  by_cases h13 : r = 13
  ·subst h13
   rw [if_pos rfl]
   have HG := hi (fun W (q : Below w.heap.size w W) => get_any (id := f) (h.below q).shr ok.fitS hp64)
   have HE := hi (show ∃ y : En, (getR 32 D.sh f).1 = y ∧ routN D f = rtN y.s ∧ 0 ≤ y.s.c ∧ y.s.c ≤ 255 by
    unfold getR routN
    cases hb : hasB 32 D.sh.length f
    ·exact ⟨En.zero, by simp, rfl, by decide, by decide⟩
    ·obtain ⟨j, rfl, hj, e1⟩ := has_at hb
     rw [e1]
     exact ⟨nthE D.sh j, by simp, by simp, ok.rt j hj⟩)
   obtain ⟨y, hy1, hy2, hy3, hy4⟩ := HE.out
   obtain ⟨er2, her2⟩ : ∃ er2, (getR 32 D.sh f).2 = er2 := ⟨_, rfl⟩
   rw [hy1, her2] at HG
   rw [hy2]
   have HNU := hi (fun W => number_any y.s hy3 hy4 W)
   obtain ⟨V, hV⟩ : ∃ V, rtN y.s = V := ⟨_, rfl⟩
   rw [hV] at HNU ⊢
   clear h ok hf hp hV h1 q1 h2 q2 HP HPL HE hy1 hy2 hy3 hy4 her2 HOK
   obtain ⟨⟨⟨e, l, q, a⟩, en, gr, pr⟩, ⟨sc, sy⟩⟩ := y
   dsimp only [En.v] at HG
   dsimp only [Rt.v] at HNU
   go_enter Tryz.func34, Tryz.ntmps34
   go_wp2_with (first
    | (go_at_call 40; ((with_reducible refine HF.out.mono ?_); rintro e' w1 ⟨rfl, hb⟩; have HB := hi hb; clear hb)))
   have HPB := hi (CB.new w1 70 #[.int .i64 13, .int .i64 f, .int .i64 n])
   have HBA := hi (HB.out.alloc HB.out.size (.cells #[.int .i64 13, .int .i64 f, .int .i64 n] 70))
   obtain ⟨W1, hW1⟩ : ∃ W1, w1.alloc (.cells #[.int .i64 13, .int .i64 f, .int .i64 n] 70) = W1 := ⟨_, rfl⟩
   obtain ⟨N, hN⟩ : ∃ N, w1.heap.size = N := ⟨_, rfl⟩
   rw [hW1] at HPB HBA ⊢
   rw [hN] at HPB ⊢
   have HB1 := hi (show Below w.heap.size w W1.drew from Below.drewN (m := 1) HBA.out)
   have hx1 := HB.out.size
   have HD1 := hi (HD.out.below HB1.out).box
   have HPD := hi HPB.out.drew
   clear hW1 HD hN hx1
   refine wp_region_noPanic ?_
   refine wp_region_last_drew (S := (fun W' => CB W' (b 0) 83 #[.bool D.g0, .bool D.g1, .slice (some ⟨b 1, 0, none⟩) D.cs.length (c 0), .pointer (some ⟨b 2, 0, none⟩)] ∧ CB W' N 70 #[.int .i64 13, .int .i64 f, .int .i64 n])) [] (by kernel_rfl) ⟨HD1.out, HPD.out⟩ (fun hHeld => ?_)
   (try simp only [r1, r2, r3, r4, r5])
   have hNd : N < W1.drew.heap.size := HPD.out.lt
   obtain ⟨Wd, hWd⟩ : ∃ Wd, W1.drew = Wd := ⟨_, rfl⟩
   rw [hWd] at HD1 HPD HB1 hHeld hNd ⊢
   clear hWd
   refine tk 0 (v := ?_) rfl (Or.inl ⟨by rfl, ?_⟩) ?_
   rotate_left
   ·intro w' hSw; (try dsimp only at hSw); have k3 := hSw.1.cell 3; have p0 := hSw.2.cell 0; have p1 := hSw.2.cell 1; have p2 := hSw.2.cell 2; go_simp; (try with_reducible rfl)
   (try simp only [Act.put, n1, n2, n4, n5, n6])
   refine tk 1 (v := ?_) rfl (Or.inl ⟨by rfl, ?_⟩) ?_
   rotate_left
   ·intro w' hSw; (try dsimp only at hSw); have k3 := hSw.1.cell 3; have p0 := hSw.2.cell 0; have p1 := hSw.2.cell 1; have p2 := hSw.2.cell 2; go_simp; (try with_reducible rfl)
   (try simp only [Act.put, n1, n2, n3, n4, n5, n6])
   refine tk 2 (v := ?_) rfl (Or.inl ⟨by rfl, ?_⟩) ?_
   rotate_left
   ·intro w' hSw; (try dsimp only at hSw); have k3 := hSw.1.cell 3; have p0 := hSw.2.cell 0; have p1 := hSw.2.cell 1; have p2 := hSw.2.cell 2; go_simp; (try with_reducible rfl)
   (try simp only [Act.put, n1, n2, n3, n4, n5, n6])
   refine tk 3 (v := ?_) rfl (Or.inl ⟨by rfl, ?_⟩) ?_
   rotate_left
   ·intro w' hSw; (try dsimp only at hSw); have k3 := hSw.1.cell 3; have p0 := hSw.2.cell 0; have p1 := hSw.2.cell 1; have p2 := hSw.2.cell 2; go_simp; (try with_reducible rfl)
   (try simp only [Act.put, n1, n2, n3, n4, n5, n6])
   refine tk 4 (v := ?_) rfl (Or.inl ⟨by rfl, ?_⟩) ?_
   rotate_left
   ·intro w' hSw; (try dsimp only at hSw); have k3 := hSw.1.cell 3; have p0 := hSw.2.cell 0; have p1 := hSw.2.cell 1; have p2 := hSw.2.cell 2; go_simp; (try with_reducible rfl)
   (try simp only [Act.put, n1, n2, n3, n4, n5, n6])
   refine tk 5 (v := ?_) rfl (Or.inl ⟨by rfl, ?_⟩) ?_
   rotate_left
   ·intro w' hSw; (try dsimp only at hSw); have k3 := hSw.1.cell 3; have p0 := hSw.2.cell 0; have p1 := hSw.2.cell 1; have p2 := hSw.2.cell 2; go_simp; (try with_reducible rfl)
   (try simp only [Act.put, n1, n2, n3, n4, n5, n6])
   refine wpAnyF_ready (rs := [6, 10]) (by kernel_rfl) (by simp) ?_
   refine (AllReadyF.cons rfl (fun KK hKK => ?_) (AllReadyF.cons rfl (fun KK hKK => ?_) AllReadyF.nil))
   ·go_simp
    ((with_reducible refine (HG.out _ HB1.out).mono ?_); rintro e' w4 ⟨rfl, hb⟩; have HBB := hi (HB1.out.trans (hb.mono HB1.out.size)); have hSS := And.intro (hHeld.1.below hb) (hHeld.2.below hb); have hz4 := hb.size; clear hb)
    (try go_simp)
    refine hKK.out _ _ hSS (fun hHeld => ?_)
    clear hKK KK
    (try simp only [Act.put, n1, n2, n3, n4, n5, n6])
    refine tk 7 (v := ?_) rfl (Or.inl ⟨by rfl, ?_⟩) ?_
    rotate_left
    ·intro w' hSw; (try dsimp only at hSw); have k3 := hSw.1.cell 3; have p0 := hSw.2.cell 0; have p1 := hSw.2.cell 1; have p2 := hSw.2.cell 2; go_simp; (try with_reducible rfl)
    (try simp only [Act.put, n1, n2, n3, n4, n5, n6])
    refine tk 8 (v := ?_) rfl (Or.inl ⟨by rfl, ?_⟩) ?_
    rotate_left
    ·intro w' hSw; (try dsimp only at hSw); have k3 := hSw.1.cell 3; have p0 := hSw.2.cell 0; have p1 := hSw.2.cell 1; have p2 := hSw.2.cell 2; go_simp; (try with_reducible rfl)
    (try simp only [Act.put, n1, n2, n3, n4, n5, n6])
    refine tk 9 (v := ?_) rfl (Or.inl ⟨by rfl, ?_⟩) ?_
    rotate_left
    ·intro w' hSw; (try dsimp only at hSw); have k3 := hSw.1.cell 3; have p0 := hSw.2.cell 0; have p1 := hSw.2.cell 1; have p2 := hSw.2.cell 2; go_simp; (try with_reducible rfl)
    (try simp only [Act.put, n1, n2, n3, n4, n5, n6])
    refine wpAnyF_ready (rs := [10]) (by kernel_rfl) (by simp) ?_
    refine AllReadyF.cons rfl (fun KK hKK => ?_) AllReadyF.nil
    go_simp
    go_simp
    have hbA := bal w4 (.cells #[.bool false, .bool false, .bool false, .bool false, .bool false, .int .i64 0, .int .i64 0, .int .i64 0, .bool false] 115)
    have HX := hi (show CB _ w4.heap.size 115 En.zero.ca from CB.new w4 115 En.zero.ca)
    have HBX := hi (HBB.out.trans (hbA.mono HBB.out.size))
    have hSA := And.intro (hHeld.1.below hbA) (hHeld.2.below hbA)
    (try dsimp only [En.ca, En.zero, Ln.zero, St.zero, Rt.zero] at HX)
    obtain ⟨Wa, hWa⟩ : ∃ Wa, w4.alloc (.cells #[.bool false, .bool false, .bool false, .bool false, .bool false, .int .i64 0, .int .i64 0, .int .i64 0, .bool false] 115) = Wa := ⟨_, rfl⟩
    obtain ⟨NX, hNX0⟩ : ∃ NX, w4.heap.size = NX := ⟨_, rfl⟩
    have hNX : w.heap.size ≤ NX := by rw [← hNX0]; exact HBB.out.size
    have hNN : N ≠ NX := by omega
    rw [hWa] at HX HBX hSA ⊢
    rw [hNX0] at HX ⊢
    clear hWa hNX0 hbA
    refine hKK.out _ _ hSA (fun hHeld => ?_)
    clear hKK KK
    (try simp only [Act.put, n1, n2, n3, n4, n5, n6])
    refine wpAnyF_ready (rs := [11]) (by kernel_rfl) (by simp) ?_
    refine AllReadyF.cons rfl (fun KK hKK => ?_) AllReadyF.nil
    go_simp
    have x0 := HX.out.cell 0
    have x1 := HX.out.cell 1
    have x2 := HX.out.cell 2
    have x3 := HX.out.cell 3
    have x4 := HX.out.cell 4
    have x5 := HX.out.cell 5
    have x6 := HX.out.cell 6
    have x7 := HX.out.cell 7
    have x8 := HX.out.cell 8
    have xf := HX.out.frozen
    (try dsimp only [En.ca, En.zero, Ln.zero, St.zero, Rt.zero] at x0 x1 x2 x3 x4 x5 x6 x7 x8)
    go_simp
    clear x0 x1 x2 x3 x4 x5 x6 x7 x8 xf
    have HE5 := hi (show CB (((((((((Wa.setCell ⟨NX, 0, none⟩ (.bool e)).setCell ⟨NX, 1, none⟩ (.bool l)).setCell ⟨NX, 2, none⟩ (.bool q)).setCell ⟨NX, 3, none⟩ (.bool a)).setCell ⟨NX, 4, none⟩ (.bool en)).setCell ⟨NX, 5, none⟩ (.int .i64 gr)).setCell ⟨NX, 6, none⟩ (.int .i64 pr)).setCell ⟨NX, 7, none⟩ (.int .i64 sc)).setCell ⟨NX, 8, none⟩ (.bool sy)) NX 115 #[.bool e, .bool l, .bool q, .bool a, .bool en, .int .i64 gr, .int .i64 pr, .int .i64 sc, .bool sy] from CB.putE (y := En.zero) HX.out ⟨⟨⟨e, l, q, a⟩, en, gr, pr⟩, ⟨sc, sy⟩⟩)
    have HB5 := hi (show Below w.heap.size w (((((((((Wa.setCell ⟨NX, 0, none⟩ (.bool e)).setCell ⟨NX, 1, none⟩ (.bool l)).setCell ⟨NX, 2, none⟩ (.bool q)).setCell ⟨NX, 3, none⟩ (.bool a)).setCell ⟨NX, 4, none⟩ (.bool en)).setCell ⟨NX, 5, none⟩ (.int .i64 gr)).setCell ⟨NX, 6, none⟩ (.int .i64 pr)).setCell ⟨NX, 7, none⟩ (.int .i64 sc)).setCell ⟨NX, 8, none⟩ (.bool sy)) from below_putE (o := 0) HBX.out hNX ⟨⟨⟨e, l, q, a⟩, en, gr, pr⟩, ⟨sc, sy⟩⟩)
    have hSO : CB (((((((((Wa.setCell ⟨NX, 0, none⟩ (.bool e)).setCell ⟨NX, 1, none⟩ (.bool l)).setCell ⟨NX, 2, none⟩ (.bool q)).setCell ⟨NX, 3, none⟩ (.bool a)).setCell ⟨NX, 4, none⟩ (.bool en)).setCell ⟨NX, 5, none⟩ (.int .i64 gr)).setCell ⟨NX, 6, none⟩ (.int .i64 pr)).setCell ⟨NX, 7, none⟩ (.int .i64 sc)).setCell ⟨NX, 8, none⟩ (.bool sy)) (b 0) 83 #[.bool D.g0, .bool D.g1, .slice (some ⟨b 1, 0, none⟩) D.cs.length (c 0), .pointer (some ⟨b 2, 0, none⟩)] ∧ CB (((((((((Wa.setCell ⟨NX, 0, none⟩ (.bool e)).setCell ⟨NX, 1, none⟩ (.bool l)).setCell ⟨NX, 2, none⟩ (.bool q)).setCell ⟨NX, 3, none⟩ (.bool a)).setCell ⟨NX, 4, none⟩ (.bool en)).setCell ⟨NX, 5, none⟩ (.int .i64 gr)).setCell ⟨NX, 6, none⟩ (.int .i64 pr)).setCell ⟨NX, 7, none⟩ (.int .i64 sc)).setCell ⟨NX, 8, none⟩ (.bool sy)) N 70 #[.int .i64 13, .int .i64 f, .int .i64 n] := ⟨hHeld.1.otherE (by have := HD1.out.lt; omega), hHeld.2.otherE hNN⟩
    obtain ⟨W5, hW5⟩ : ∃ W5, (((((((((Wa.setCell ⟨NX, 0, none⟩ (.bool e)).setCell ⟨NX, 1, none⟩ (.bool l)).setCell ⟨NX, 2, none⟩ (.bool q)).setCell ⟨NX, 3, none⟩ (.bool a)).setCell ⟨NX, 4, none⟩ (.bool en)).setCell ⟨NX, 5, none⟩ (.int .i64 gr)).setCell ⟨NX, 6, none⟩ (.int .i64 pr)).setCell ⟨NX, 7, none⟩ (.int .i64 sc)).setCell ⟨NX, 8, none⟩ (.bool sy)) = W5 := ⟨_, rfl⟩
    rw [hW5] at HE5 HB5 hSO ⊢
    clear hW5
    have y7 := HE5.out.cell 7
    have y8 := HE5.out.cell 8
    refine hKK.out _ _ hSO (fun hHeld => ?_)
    clear hKK KK
    (try simp only [Act.put, n1, n2, n3, n4, n5, n6])
    refine tk 12 (v := ?_) rfl (Or.inl ⟨by rfl, ?_⟩) ?_
    rotate_left
    ·intro w' hSw; (try dsimp only at hSw); have k3 := hSw.1.cell 3; have p0 := hSw.2.cell 0; have p1 := hSw.2.cell 1; have p2 := hSw.2.cell 2; go_simp; (try with_reducible rfl)
    (try simp only [Act.put, n1, n2, n3, n4, n5, n6])
    refine wpAnyF_done (by kernel_rfl) ?_ _
    refine NoPanic.normal ?_
    go_wp2_with (go_at_call 79; ((with_reducible refine (HNU.out _).mono ?_); rintro e' w6 ⟨rfl, hb⟩; have HB6 := hi (HB5.out.trans (hb.mono HB5.out.size)); clear hb))
    go_ret2
    exact ⟨rfl, HB6.out⟩
   ·go_simp
    go_simp
    have hbA := bal Wd (.cells #[.bool false, .bool false, .bool false, .bool false, .bool false, .int .i64 0, .int .i64 0, .int .i64 0, .bool false] 115)
    have HX0 := hi (CB.new Wd 115 En.zero.ca)
    have HBA2 := hi (HB1.out.trans (hbA.mono HB1.out.size))
    have hSA := And.intro (hHeld.1.below hbA) (hHeld.2.below hbA)
    (try dsimp only [En.ca, En.zero, Ln.zero, St.zero, Rt.zero] at HX0)
    obtain ⟨Wa, hWa⟩ : ∃ Wa, Wd.alloc (.cells #[.bool false, .bool false, .bool false, .bool false, .bool false, .int .i64 0, .int .i64 0, .int .i64 0, .bool false] 115) = Wa := ⟨_, rfl⟩
    obtain ⟨NX, hNX0⟩ : ∃ NX, Wd.heap.size = NX := ⟨_, rfl⟩
    have hNX : w.heap.size ≤ NX := by rw [← hNX0]; exact HB1.out.size
    have hNN : N ≠ NX := by omega
    rw [hWa] at HX0 HBA2 hSA ⊢
    rw [hNX0] at HX0 ⊢
    clear hWa hNX0 hbA
    refine hKK.out _ _ hSA (fun hHeld => ?_)
    clear hKK KK
    (try simp only [Act.put, n1, n2, n3, n4, n5, n6])
    refine wpAnyF_ready (rs := [6]) (by kernel_rfl) (by simp) ?_
    refine AllReadyF.cons rfl (fun KK hKK => ?_) AllReadyF.nil
    go_simp
    ((with_reducible refine (HG.out _ HBA2.out).mono ?_); rintro e' w4 ⟨rfl, hb⟩; have HX := hi (show CB w4 NX 115 En.zero.ca from HX0.out.below hb); have HBX := hi (HBA2.out.trans (hb.mono HBA2.out.size)); have hSS := And.intro (hHeld.1.below hb) (hHeld.2.below hb); clear hb)
    (try go_simp)
    refine hKK.out _ _ hSS (fun hHeld => ?_)
    clear hKK KK
    (try simp only [Act.put, n1, n2, n3, n4, n5, n6])
    refine tk 7 (v := ?_) rfl (Or.inl ⟨by rfl, ?_⟩) ?_
    rotate_left
    ·intro w' hSw; (try dsimp only at hSw); have k3 := hSw.1.cell 3; have p0 := hSw.2.cell 0; have p1 := hSw.2.cell 1; have p2 := hSw.2.cell 2; go_simp; (try with_reducible rfl)
    (try simp only [Act.put, n1, n2, n3, n4, n5, n6])
    refine tk 8 (v := ?_) rfl (Or.inl ⟨by rfl, ?_⟩) ?_
    rotate_left
    ·intro w' hSw; (try dsimp only at hSw); have k3 := hSw.1.cell 3; have p0 := hSw.2.cell 0; have p1 := hSw.2.cell 1; have p2 := hSw.2.cell 2; go_simp; (try with_reducible rfl)
    (try simp only [Act.put, n1, n2, n3, n4, n5, n6])
    refine tk 9 (v := ?_) rfl (Or.inl ⟨by rfl, ?_⟩) ?_
    rotate_left
    ·intro w' hSw; (try dsimp only at hSw); have k3 := hSw.1.cell 3; have p0 := hSw.2.cell 0; have p1 := hSw.2.cell 1; have p2 := hSw.2.cell 2; go_simp; (try with_reducible rfl)
    (try simp only [Act.put, n1, n2, n3, n4, n5, n6])
    refine wpAnyF_ready (rs := [11]) (by kernel_rfl) (by simp) ?_
    refine AllReadyF.cons rfl (fun KK hKK => ?_) AllReadyF.nil
    go_simp
    have x0 := HX.out.cell 0
    have x1 := HX.out.cell 1
    have x2 := HX.out.cell 2
    have x3 := HX.out.cell 3
    have x4 := HX.out.cell 4
    have x5 := HX.out.cell 5
    have x6 := HX.out.cell 6
    have x7 := HX.out.cell 7
    have x8 := HX.out.cell 8
    have xf := HX.out.frozen
    (try dsimp only [En.ca, En.zero, Ln.zero, St.zero, Rt.zero] at x0 x1 x2 x3 x4 x5 x6 x7 x8)
    go_simp
    clear x0 x1 x2 x3 x4 x5 x6 x7 x8 xf
    have HE5 := hi (show CB (((((((((w4.setCell ⟨NX, 0, none⟩ (.bool e)).setCell ⟨NX, 1, none⟩ (.bool l)).setCell ⟨NX, 2, none⟩ (.bool q)).setCell ⟨NX, 3, none⟩ (.bool a)).setCell ⟨NX, 4, none⟩ (.bool en)).setCell ⟨NX, 5, none⟩ (.int .i64 gr)).setCell ⟨NX, 6, none⟩ (.int .i64 pr)).setCell ⟨NX, 7, none⟩ (.int .i64 sc)).setCell ⟨NX, 8, none⟩ (.bool sy)) NX 115 #[.bool e, .bool l, .bool q, .bool a, .bool en, .int .i64 gr, .int .i64 pr, .int .i64 sc, .bool sy] from CB.putE (y := En.zero) HX.out ⟨⟨⟨e, l, q, a⟩, en, gr, pr⟩, ⟨sc, sy⟩⟩)
    have HB5 := hi (show Below w.heap.size w (((((((((w4.setCell ⟨NX, 0, none⟩ (.bool e)).setCell ⟨NX, 1, none⟩ (.bool l)).setCell ⟨NX, 2, none⟩ (.bool q)).setCell ⟨NX, 3, none⟩ (.bool a)).setCell ⟨NX, 4, none⟩ (.bool en)).setCell ⟨NX, 5, none⟩ (.int .i64 gr)).setCell ⟨NX, 6, none⟩ (.int .i64 pr)).setCell ⟨NX, 7, none⟩ (.int .i64 sc)).setCell ⟨NX, 8, none⟩ (.bool sy)) from below_putE (o := 0) HBX.out hNX ⟨⟨⟨e, l, q, a⟩, en, gr, pr⟩, ⟨sc, sy⟩⟩)
    have hSO : CB (((((((((w4.setCell ⟨NX, 0, none⟩ (.bool e)).setCell ⟨NX, 1, none⟩ (.bool l)).setCell ⟨NX, 2, none⟩ (.bool q)).setCell ⟨NX, 3, none⟩ (.bool a)).setCell ⟨NX, 4, none⟩ (.bool en)).setCell ⟨NX, 5, none⟩ (.int .i64 gr)).setCell ⟨NX, 6, none⟩ (.int .i64 pr)).setCell ⟨NX, 7, none⟩ (.int .i64 sc)).setCell ⟨NX, 8, none⟩ (.bool sy)) (b 0) 83 #[.bool D.g0, .bool D.g1, .slice (some ⟨b 1, 0, none⟩) D.cs.length (c 0), .pointer (some ⟨b 2, 0, none⟩)] ∧ CB (((((((((w4.setCell ⟨NX, 0, none⟩ (.bool e)).setCell ⟨NX, 1, none⟩ (.bool l)).setCell ⟨NX, 2, none⟩ (.bool q)).setCell ⟨NX, 3, none⟩ (.bool a)).setCell ⟨NX, 4, none⟩ (.bool en)).setCell ⟨NX, 5, none⟩ (.int .i64 gr)).setCell ⟨NX, 6, none⟩ (.int .i64 pr)).setCell ⟨NX, 7, none⟩ (.int .i64 sc)).setCell ⟨NX, 8, none⟩ (.bool sy)) N 70 #[.int .i64 13, .int .i64 f, .int .i64 n] := ⟨hHeld.1.otherE (by have := HD1.out.lt; omega), hHeld.2.otherE hNN⟩
    obtain ⟨W5, hW5⟩ : ∃ W5, (((((((((w4.setCell ⟨NX, 0, none⟩ (.bool e)).setCell ⟨NX, 1, none⟩ (.bool l)).setCell ⟨NX, 2, none⟩ (.bool q)).setCell ⟨NX, 3, none⟩ (.bool a)).setCell ⟨NX, 4, none⟩ (.bool en)).setCell ⟨NX, 5, none⟩ (.int .i64 gr)).setCell ⟨NX, 6, none⟩ (.int .i64 pr)).setCell ⟨NX, 7, none⟩ (.int .i64 sc)).setCell ⟨NX, 8, none⟩ (.bool sy)) = W5 := ⟨_, rfl⟩
    rw [hW5] at HE5 HB5 hSO ⊢
    clear hW5
    have y7 := HE5.out.cell 7
    have y8 := HE5.out.cell 8
    refine hKK.out _ _ hSO (fun hHeld => ?_)
    clear hKK KK
    (try simp only [Act.put, n1, n2, n3, n4, n5, n6])
    refine tk 12 (v := ?_) rfl (Or.inl ⟨by rfl, ?_⟩) ?_
    rotate_left
    ·intro w' hSw; (try dsimp only at hSw); have k3 := hSw.1.cell 3; have p0 := hSw.2.cell 0; have p1 := hSw.2.cell 1; have p2 := hSw.2.cell 2; go_simp; (try with_reducible rfl)
    (try simp only [Act.put, n1, n2, n3, n4, n5, n6])
    refine wpAnyF_done (by kernel_rfl) ?_ _
    refine NoPanic.normal ?_
    go_wp2_with (go_at_call 79; ((with_reducible refine (HNU.out _).mono ?_); rintro e' w6 ⟨rfl, hb⟩; have HB6 := hi (HB5.out.trans (hb.mono HB5.out.size)); clear hb))
    go_ret2
    exact ⟨rfl, HB6.out⟩
  rw [if_neg h13]
  have q3 : (r == 13) = false := by simpa using h13
  have HRD := hi (fun W (q : Below w.heap.size w W) => read_any (h.below q).shr ok.fitS ok.fsh hp)
  dsimp only at HRD
  obtain ⟨V, hV⟩ : ∃ V, readV ⟨r, f, n⟩ n.toNat 32 D.sh = V := ⟨_, rfl⟩
  rw [hV] at HRD ⊢
  clear h ok hf hp hV h1 h2 h13 HP HPL HOK
  dsimp only [Pl.v] at HRD
  go_enter Tryz.func34, Tryz.ntmps34
  go_wp2_with (first
   | (go_at_call 40; ((with_reducible refine HF.out.mono ?_); rintro e' w1 ⟨rfl, hb⟩; have HB := hi hb; clear hb)))
  have HPB := hi (CB.new w1 70 #[.int .i64 r, .int .i64 f, .int .i64 n])
  have HBA := hi (HB.out.alloc HB.out.size (.cells #[.int .i64 r, .int .i64 f, .int .i64 n] 70))
  obtain ⟨W1, hW1⟩ : ∃ W1, w1.alloc (.cells #[.int .i64 r, .int .i64 f, .int .i64 n] 70) = W1 := ⟨_, rfl⟩
  obtain ⟨N, hN⟩ : ∃ N, w1.heap.size = N := ⟨_, rfl⟩
  rw [hW1] at HPB HBA ⊢
  rw [hN] at HPB ⊢
  have HB1 := hi (show Below w.heap.size w W1.drew from Below.drewN (m := 1) HBA.out)
  have HD1 := hi (HD.out.below HB1.out).box
  clear hW1 HD hN
  refine wp_region_noPanic ?_
  refine wp_region_last_drew (S := (fun W' => CB W' (b 0) 83 #[.bool D.g0, .bool D.g1, .slice (some ⟨b 1, 0, none⟩) D.cs.length (c 0), .pointer (some ⟨b 2, 0, none⟩)] ∧ CB W' N 70 #[.int .i64 r, .int .i64 f, .int .i64 n])) [] (by kernel_rfl) ⟨HD1.out, HPB.out.drew⟩ (fun hHeld => ?_)
  (try simp only [r1, r2, r3, r4, r5])
  refine tk 0 (v := ?_) rfl (Or.inl ⟨by rfl, ?_⟩) ?_
  rotate_left
  ·intro w' hSw; (try dsimp only at hSw); have k3 := hSw.1.cell 3; have p0 := hSw.2.cell 0; have p1 := hSw.2.cell 1; have p2 := hSw.2.cell 2; go_simp; (try with_reducible rfl)
  (try simp only [Act.put, n1, n2, n4, n5, n6])
  refine tk 1 (v := ?_) rfl (Or.inl ⟨by rfl, ?_⟩) ?_
  rotate_left
  ·intro w' hSw; (try dsimp only at hSw); have k3 := hSw.1.cell 3; have p0 := hSw.2.cell 0; have p1 := hSw.2.cell 1; have p2 := hSw.2.cell 2; go_simp; (try with_reducible rfl)
  (try simp only [Act.put, n1, n2, n3, n4, n5, n6])
  refine tk 2 (v := ?_) rfl (Or.inl ⟨by rfl, ?_⟩) ?_
  rotate_left
  ·intro w' hSw; (try dsimp only at hSw); have k3 := hSw.1.cell 3; have p0 := hSw.2.cell 0; have p1 := hSw.2.cell 1; have p2 := hSw.2.cell 2; go_simp; (try with_reducible rfl)
  (try simp only [Act.put, n1, n2, n3, n4, n5, n6])
  refine tk 3 (v := ?_) rfl (Or.inl ⟨by rfl, ?_⟩) ?_
  rotate_left
  ·intro w' hSw; (try dsimp only at hSw); have k3 := hSw.1.cell 3; have p0 := hSw.2.cell 0; have p1 := hSw.2.cell 1; have p2 := hSw.2.cell 2; go_simp; (try with_reducible rfl)
  (try simp only [Act.put, n1, n2, n3, n4, n5, n6])
  refine tk 4 (v := ?_) rfl (Or.inl ⟨by rfl, ?_⟩) ?_
  rotate_left
  ·intro w' hSw; (try dsimp only at hSw); have k3 := hSw.1.cell 3; have p0 := hSw.2.cell 0; have p1 := hSw.2.cell 1; have p2 := hSw.2.cell 2; go_simp; (try with_reducible rfl)
  (try simp only [Act.put, n1, n2, n3, n4, n5, n6])
  refine wpAnyF_ready (rs := [5]) (by kernel_rfl) (by simp) ?_
  refine AllReadyF.cons rfl (fun KK hKK => ?_) AllReadyF.nil
  go_simp
  ((with_reducible refine (HRD.out _ HB1.out).mono ?_); rintro e' w4 ⟨rfl, hb⟩; have HB4 := hi (HB1.out.trans (hb.mono HB1.out.size)); have hSS := And.intro (hHeld.1.below hb) (hHeld.2.below hb); clear hb)
  (try go_simp)
  refine hKK.out _ _ hSS (fun hHeld => ?_)
  clear hKK KK
  (try simp only [Act.put, n1, n2, n3, n4, n5, n6])
  refine tk 6 (v := ?_) rfl (Or.inl ⟨by rfl, ?_⟩) ?_
  rotate_left
  ·intro w' hSw; (try dsimp only at hSw); have k3 := hSw.1.cell 3; have p0 := hSw.2.cell 0; have p1 := hSw.2.cell 1; have p2 := hSw.2.cell 2; go_simp; (try with_reducible rfl)
  (try simp only [Act.put, n1, n2, n3, n4, n5, n6])
  refine tk 7 (v := ?_) rfl (Or.inl ⟨by rfl, ?_⟩) ?_
  rotate_left
  ·intro w' hSw; (try dsimp only at hSw); have k3 := hSw.1.cell 3; have p0 := hSw.2.cell 0; have p1 := hSw.2.cell 1; have p2 := hSw.2.cell 2; go_simp; (try with_reducible rfl)
  (try simp only [Act.put, n1, n2, n3, n4, n5, n6])
  refine wpAnyF_done (by kernel_rfl) ?_ _
  refine NoPanic.normal ?_
  go_wp2
  go_ret2
  exact ⟨rfl, HB4.out⟩
 ·rw [if_neg he]
  have he2 : (er != 0) = true := by simpa using he
  clear h ok hf hp HP HPL HOK HD he
  go_enter Tryz.func34, Tryz.ntmps34
  go_wp2_with (first
   | (go_at_call 40; ((with_reducible refine HF.out.mono ?_); rintro e w1 ⟨rfl, hb⟩; have HB := hi hb; clear hb)))
  go_ret2
  exact ⟨rfl, HB.out.alloc HB.out.size _⟩
theorem read_dist (h : DiAt w lo hi' b c D) (ok : D.Ok) {off wd : Int} (hoff : Int64 off) :
  Calls Tryz.prog 34 #[.pointer (some ⟨b 0, 0, none⟩), .int .i64 off, .int .i64 wd] w fun e w' => e = .returned (.tuple #[.int .u64 (readDV D off wd).1, .int .i64 (readDV D off wd).2]) ∧ Below w.heap.size w w' := by
 obtain ⟨p, er, hf⟩ : ∃ p er, fdV off wd = (p, er) := ⟨_, _, rfl⟩
 refine (read_go h ok hoff p er hf).mono ?_
 rintro e w' ⟨rfl, hb⟩
 refine ⟨?_, hb⟩
 unfold readDV
 rw [hf]
 by_cases he : er = 0
 ·simp [he]
 ·simp [he]
end
end Go.Proofs.YtieedhdmpabfkaaGreat
