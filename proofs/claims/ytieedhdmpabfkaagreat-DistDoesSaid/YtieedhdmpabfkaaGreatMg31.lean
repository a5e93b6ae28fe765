import Derived.Test.YtieedhdmpabfkaaGreatMg02
import Derived.Test.YtieedhdmpabfkaaGreatMg30
set_option linter.unusedSimpArgs false
namespace Go.Proofs.YtieedhdmpabfkaaGreat
open Go.ChangeShapes Go.WideShapes Go.ChangeAt Go.RowKit Go.Shelf
set_option linter.unusedVariables false
attribute [local go_sem] Oper.semAt_some
theorem DiAf.put {w : World} {lo hi' : Nat} {b c : Nat → Nat} {E : Ds} {V : World} (h : DiAf w lo hi' b c E V) {l : Nat} {o : Obj} (hl : hi' ≤ l) (hw : w.heap.size ≤ l) : DiAf w lo hi' b c E (V.putObj l o) :=
 ⟨h.di.same (by simp) (fun i p q => World.putObj_heap_other (by omega)), h.kept.grownD (grownBy_putObj' V l o) (fun r e => by cases e; exact hw)⟩
section
variable {w : World} {lo hi' : Nat} {b c : Nat → Nat} {D : Ds}
set_option maxRecDepth 100000 in
set_option maxHeartbeats 8000000 in
theorem call_dist (h : DiAt w lo hi' b c D) (ok : D.Ok) (fr g : Int) (v : Nat) (hv : v < 18446744073709551616) :
  Calls Tryz.prog 28 #[.pointer (some ⟨b 0, 0, none⟩), .int .i64 fr, .int .i64 g, .int .u64 v] w fun e w' => e = .returned (.tuple #[.int .i64 ((callDV D fr g v).1.2 : Nat), .int .i64 (callDV D fr g v).2]) ∧ DiAf w lo hi' b c (callDV D fr g v).1.1 w' := by
 have hB2 := bal_two w (.cells #[.pointer (some ⟨b 0, 0, none⟩)] 24) (.cells #[.int .i64 g] 3)
 have HP2 := hi ((CB.new w 24 #[.pointer (some ⟨b 0, 0, none⟩)]).alloc (.cells #[.int .i64 g] 3))
 have HG2 := hi (show CB ((w.alloc (.cells #[.pointer (some ⟨b 0, 0, none⟩)] 24)).alloc (.cells #[.int .i64 g] 3)) (w.heap.size + 1) 3 #[.int .i64 g] from cb_second)
 have HHS := hi ((h.below hB2).has fr)
 have HDI := hi h
 unfold callDV
 cases hk : hasN D.cs.length fr
 ·simp only [Bool.false_eq_true, if_false]
  rw [hk] at HHS
  have HF := hi (DiAf.of h hB2)
  clear h hk ok HDI hv hB2 HG2 HP2
  go_enter Tryz.func28, Tryz.ntmps28
  go_wp2_with (go_at_call 71; ((with_reducible refine HHS.out.mono ?_); rintro e w1 ⟨rfl, rfl⟩))
  go_ret2
  exact ⟨rfl, HF.out⟩
 ·simp only [if_true]
  rw [hk] at HHS
  have HOK := hi ok
  have HIN := hi (fun k (q : k ∈ toL (decV v) fr D.cs.length) => toL_in q)
  have HL8 := hi (toL_len (decV v) fr D.cs.length)
  have hidv := dec_id v
  have HDE := hi (fun W => decode_any v hv W)
  obtain ⟨n9, hn9⟩ : ∃ n9, D.cs.length = n9 := ⟨_, rfl⟩
  have HN9 := hi hn9
  have HTO := hi (fun W N (q : W.heap.size = N) => show Calls Tryz.prog 73 #[(decV v).v, .int .i64 fr, .int .i64 n9] W fun e w' => e = .returned (.func (.func 111) #[] #[.pointer (some ⟨N + 2, 0, none⟩), .pointer (some ⟨N, 0, none⟩), .pointer (some ⟨N + 1, 0, none⟩)]) ∧ w' = toW (decV v) fr n9 W from by subst q; exact to_any _ _ _ _)
  have HWA := hi (fun W => toW_at (decV v) fr n9 W)
  obtain ⟨L, hL⟩ : ∃ L, toL (decV v) fr D.cs.length = L := ⟨_, rfl⟩
  rw [hL] at HIN HL8 ⊢
  have HST := hi (fun b0 W q => to_stops b0 (decV v) fr n9 W q)
  rw [hn9] at hL HIN
  rw [hL] at HST
  obtain ⟨cl, hcl⟩ : ∃ cl, decV v = cl := ⟨_, rfl⟩
  rw [hcl] at HDE HTO HWA hidv HST ⊢
  obtain ⟨i0, hid⟩ : ∃ i, v / 2 ^ 24 % 16 = i := ⟨_, rfl⟩
  have hi16 : i0 < 16 := by omega
  rw [hid] at hidv
  obtain ⟨cid, call, ctg, codd⟩ := cl
  dsimp only at hidv
  subst hidv
  have HLE := hi h.le
  clear h hk ok hL hid hn9 hv hB2 hcl
  dsimp only [Cl.v] at HDE HTO
  refine (callsIn_wide (n := 6)).1 ?_
  refine callsIn_of_wp_marks Tryz.func28 rfl trivial ?_ rfl
  simp only [Tryz.ntmps28, List.size_toArray, List.length_cons, List.length_nil, Nat.reduceAdd, Nat.reduceSub, Array.replicate_succ, Array.replicate_zero, List.push_toArray, List.append_toArray, List.nil_append, List.cons_append]
  refine wpIn_wide.2 ?_
  go_wp2_with (first
   | (go_at_call 71; ((with_reducible refine HHS.out.mono ?_); rintro e w1 ⟨rfl, rfl⟩))
   | (go_at_call 72; ((with_reducible refine (HDE.out _).mono ?_); rintro e w3 ⟨rfl, hb⟩; have HB3 := hi hb; have HSZ := hi hb.size; have HP3 := hi (HP2.out.below hb); have HG3 := hi (HG2.out.below hb); clear hb)))
  have hs3 := HSZ.out
  simp only [World.size_alloc] at hs3
  have hB2 := bal_two w (.cells #[.pointer (some ⟨b 0, 0, none⟩)] 24) (.cells #[.int .i64 g] 3)
  have hB3 := hB2.trans (HB3.out.mono hB2.size)
  have hB5 := hB3.trans ((bal_two w3 (.cells #[.int .i64 0] 3) (.cells #[.int .i64 (i0 : Nat), .bool call, .int .i64 ctg, .bool codd] 121)).mono hB3.size)
  have hI5 : CaI w lo hi' b c w3.heap.size g ⟨(i0 : Nat), call, ctg, codd⟩ (D, 0) ((w3.alloc (.cells #[.int .i64 0] 3)).alloc (.cells #[.int .i64 (i0 : Nat), .bool call, .int .i64 ctg, .bool codd] 121)) :=
   ⟨HDI.out.below hB5, Kept.of hB5, (HP3.out.alloc _).alloc _, (HG3.out.alloc _).alloc _, (CB.new w3 _ _).alloc _, cb_second⟩
  have hz5 : ((w3.alloc (.cells #[.int .i64 0] 3)).alloc (.cells #[.int .i64 (i0 : Nat), .bool call, .int .i64 ctg, .bool codd] 121)).heap.size = w3.heap.size + 2 := by simp
  obtain ⟨w5, hw5⟩ : ∃ w5, (w3.alloc (.cells #[.int .i64 0] 3)).alloc (.cells #[.int .i64 (i0 : Nat), .bool call, .int .i64 ctg, .bool codd] 121) = w5 := ⟨_, rfl⟩
  obtain ⟨N3, hN3⟩ : ∃ N3, w3.heap.size = N3 := ⟨_, rfl⟩
  rw [hw5] at hI5 hz5 ⊢
  rw [hN3] at hI5 hz5 hs3 ⊢
  have HI5 := hi hI5
  have HZ5 := hi hz5
  clear hw5 hN3 hI5 hz5 hB2 hB3 hB5 HB3 HSZ HP3 HG3 HP2 HG2 HHS HDE
  refine wp_region_noPanic ?_
  refine wp_region_last_drew (S := (fun W' => CaI w lo hi' b c N3 g ⟨(i0 : Nat), call, ctg, codd⟩ (D, 0) W')) [] (by kernel_rfl) (HI5.out.below (Below.drewN (m := 1) (Below.refl _ _))) (fun hHeld => ?_)
  (try simp only [r1, r2, r3, r4, r5])
  have HZD := hi (show w5.drew.heap.size = N3 + 2 from HZ5.out)
  obtain ⟨Wd, hWd⟩ : ∃ Wd, w5.drew = Wd := ⟨_, rfl⟩
  rw [hWd] at HZD hHeld ⊢
  clear hWd
  refine tk 0 (v := ?_) rfl (Or.inl ⟨by rfl, ?_⟩) ?_
  rotate_left
  ·intro w' hSw; (try dsimp only at hSw); have kp := hSw.p.cell 0; have q0 := hSw.cc.cell 0; have q1 := hSw.cc.cell 1; have q2 := hSw.cc.cell 2; have q3 := hSw.cc.cell 3; have k2 := hSw.di.box.cell 2; rw [HN9.out] at k2; go_simp; (try with_reducible rfl)
  (try simp only [Act.put, n1, n2, n4, n5, n6])
  refine tk 1 (v := ?_) rfl (Or.inl ⟨by rfl, ?_⟩) ?_
  rotate_left
  ·intro w' hSw; (try dsimp only at hSw); have kp := hSw.p.cell 0; have q0 := hSw.cc.cell 0; have q1 := hSw.cc.cell 1; have q2 := hSw.cc.cell 2; have q3 := hSw.cc.cell 3; have k2 := hSw.di.box.cell 2; rw [HN9.out] at k2; go_simp; (try with_reducible rfl)
  (try simp only [Act.put, n1, n2, n3, n4, n5, n6])
  refine tk 2 (v := ?_) rfl (Or.inl ⟨by rfl, ?_⟩) ?_
  rotate_left
  ·intro w' hSw; (try dsimp only at hSw); have kp := hSw.p.cell 0; have q0 := hSw.cc.cell 0; have q1 := hSw.cc.cell 1; have q2 := hSw.cc.cell 2; have q3 := hSw.cc.cell 3; have k2 := hSw.di.box.cell 2; rw [HN9.out] at k2; go_simp; (try with_reducible rfl)
  (try simp only [Act.put, n1, n2, n3, n4, n5, n6])
  refine tk 3 (v := ?_) rfl (Or.inl ⟨by rfl, ?_⟩) ?_
  rotate_left
  ·intro w' hSw; (try dsimp only at hSw); have kp := hSw.p.cell 0; have q0 := hSw.cc.cell 0; have q1 := hSw.cc.cell 1; have q2 := hSw.cc.cell 2; have q3 := hSw.cc.cell 3; have k2 := hSw.di.box.cell 2; rw [HN9.out] at k2; go_simp; (try with_reducible rfl)
  (try simp only [Act.put, n1, n2, n3, n4, n5, n6])
  refine tk 4 (v := ?_) rfl (Or.inl ⟨by rfl, ?_⟩) ?_
  rotate_left
  ·intro w' hSw; (try dsimp only at hSw); have kp := hSw.p.cell 0; have q0 := hSw.cc.cell 0; have q1 := hSw.cc.cell 1; have q2 := hSw.cc.cell 2; have q3 := hSw.cc.cell 3; have k2 := hSw.di.box.cell 2; rw [HN9.out] at k2; go_simp; (try with_reducible rfl)
  (try simp only [Act.put, n1, n2, n3, n4, n5, n6])
  refine tk 5 (v := ?_) rfl (Or.inl ⟨by rfl, ?_⟩) ?_
  rotate_left
  ·intro w' hSw; (try dsimp only at hSw); have kp := hSw.p.cell 0; have q0 := hSw.cc.cell 0; have q1 := hSw.cc.cell 1; have q2 := hSw.cc.cell 2; have q3 := hSw.cc.cell 3; have k2 := hSw.di.box.cell 2; rw [HN9.out] at k2; go_simp; (try with_reducible rfl)
  (try simp only [Act.put, n1, n2, n3, n4, n5, n6])
  refine tk 6 (v := ?_) rfl (Or.inl ⟨by rfl, ?_⟩) ?_
  rotate_left
  ·intro w' hSw; (try dsimp only at hSw); have kp := hSw.p.cell 0; have q0 := hSw.cc.cell 0; have q1 := hSw.cc.cell 1; have q2 := hSw.cc.cell 2; have q3 := hSw.cc.cell 3; have k2 := hSw.di.box.cell 2; rw [HN9.out] at k2; go_simp; (try with_reducible rfl)
  (try simp only [Act.put, n1, n2, n3, n4, n5, n6])
  refine wpAnyF_ready (rs := [7]) (by kernel_rfl) (by simp) ?_
  refine AllReadyF.cons rfl (fun KK hKK => ?_) AllReadyF.nil
  go_simp
  ((with_reducible refine (HTO.out _ (N3 + 2) HZD.out).mono ?_); rintro e' w6 ⟨rfl, hw6⟩; obtain ⟨hT, hTB, hTZ⟩ := HWA.out Wd; rw [← hw6] at hT hTB hTZ; rw [HZD.out] at hT hTZ; have HT6 := hi hT; have HZ6 := hi hTZ; have hSS := hHeld.below hTB; have HI6 := hi hSS; clear hT hTZ hw6)
  (try go_simp)
  refine hKK.out _ _ hSS (fun hHeld => ?_)
  clear hKK KK
  (try simp only [Act.put, n1, n2, n3, n4, n5, n6])
  refine wpAnyF_done (by kernel_rfl) ?_ _
  refine NoPanic.normal ?_
  go_wp2
  refine (wpIn_wide (n := 6)).1 ?_
  have hz6 := HZ6.out
  have hI6 := HI6.out
  have hst := HST.out _ _ HT6.out
  clear HST HTO HWA HI5 HZ5 HT6 HDI
  refine range_win (n := 6) (by omega) (gf := 111) (lb := #[.pointer (some ⟨N3 + 2 + 2, 0, none⟩), .pointer (some ⟨N3 + 2, 0, none⟩), .pointer (some ⟨N3 + 2 + 1, 0, none⟩)]) rfl (enters_of Tryz.func111 (by kernel_rfl) rfl)
   hst (fun a b => Stays.trans a b) (fun W l o o' h1 h2 h3 h4 => stays_put (by omega)) (Below.refl _ _) (fun _ => rfl)
   (fun pre V => CaI w lo hi' b c N3 g ⟨(i0 : Nat), call, ctg, codd⟩ (callL D (i0 : Nat) g pre) V)
   (fun cd pre V => False)
   (CaI.abL (fun pre => callL D (i0 : Nat) g pre) HLE.out hs3 (by omega))
   (fun _ _ _ _ _ hs _ _ => hs)
   hI6
   (fun x a' V => a' = { tmps := #[.pointer (some ⟨b 0, 0, none⟩), .int .i64 fr, .int .i64 g, .int .u64 v, .pointer (some ⟨w.heap.size, 0, none⟩), undef, .pointer (some ⟨w.heap.size + 1, 0, none⟩), undef, .int .i64 0, .int .i64 0, .pointer (some ⟨N3, 0, none⟩), .pointer (some ⟨N3 + 1, 0, none⟩), .int .i64 (x : Nat), undef, undef, undef, .pointer (some ⟨b 0, 0, none⟩), .int .i64 fr, .bool true, .bool false, .int .u64 v, .agg #[.int .i64 (i0 : Nat), .bool call, .int .i64 ctg, .bool codd], .agg #[.int .i64 (i0 : Nat), .bool call, .int .i64 ctg, .bool codd], .int .i64 fr, .pointer (some ⟨b 0, 0, none⟩), .pointer (some ⟨b 0, 0, none⟩), .pointer (some ⟨b 0, 2, none⟩), .slice (some ⟨b 1, 0, none⟩) n9 (c 0), .int .i64 n9, .func (.func 111) #[] #[.pointer (some ⟨N3 + 2 + 2, 0, none⟩), .pointer (some ⟨N3 + 2, 0, none⟩), .pointer (some ⟨N3 + 2 + 1, 0, none⟩)], .int .i64 (x : Nat), undef, undef, undef, undef, undef, undef, undef, undef, undef, undef, undef, undef, undef, undef, undef, undef, undef, undef, undef, undef, undef, undef, undef, undef, undef, undef, undef], defers := [] })
   (fun x a' => AbL.pure _ _ _)
   ?assign ?body ?done ?stop
  case assign =>
   rintro l' pre x V K h hsz hK
   gi_wp2
   exact hK _ _ (KW.refl _ _) (Stays.refl _ _ _) h rfl
  case body =>
   rintro l' pre x a' V hsz hI rfl hpx
   have hx9 := HIN.out x (hpx.subset (by simp))
   have hpl := hpx.length_le
   have HSN := hi (callL_snoc D (i0 : Nat) g pre x)
   have hpin : ∀ y ∈ pre, y < D.cs.length := fun y hy => by rw [HN9.out]; exact HIN.out y (hpx.subset (List.mem_append_left _ hy))
   have HOKK := hi (callL_ok HOK.out (i0 : Nat) g pre hpin)
   have HLK := hi (callL_len D (i0 : Nat) g pre)
   have HCN := hi (show (callL D (i0 : Nat) g pre).2 ≤ 8 from by
    have := callL_count D (i0 : Nat) g pre
    have := HL8.out
    rw [List.length_append] at hpl
    omega)
   obtain ⟨Q, hQ⟩ : ∃ Q, callL D (i0 : Nat) g pre = Q := ⟨_, rfl⟩
   rw [hQ] at HSN HOKK HLK HCN hI
   obtain ⟨E, n⟩ := Q
   dsimp only at HSN HOKK HLK HCN
   have HXX := hi (show x < E.cs.length by rw [HLK.out, HN9.out]; exact hx9)
   have HI := hi hI
   have kp := hI.p.cell 0
   have k2 := hI.di.box.cell 2
   rw [HLK.out, HN9.out] at k2
   have kx := hI.di.ptr HXX.out
   have kid := hI.cc.cell 0
   have h32 := HOKK.out.own x HXX.out
   have hi64 : Int64 ((i0 : Nat) : Int) := by constructor <;> omega
   have HDO := hi (fun W (q : DiAt W lo hi' b c E) => do_any (id := (i0 : Nat)) (a := 3) (q.own x HXX.out) (HOKK.out.fitO HXX.out) hi64)
   have HGT := hi (get_any (id := (i0 : Nat)) (hI.di.own x HXX.out) (HOKK.out.fitO HXX.out) hi64)
   have hgr : getR 0 (E.nth x).es (i0 : Nat) = (nthE (E.nth x).es i0, 0) := by
    rw [getR, if_pos (by rw [hasB_iff]; omega)]
    simp
   rw [hgr] at HGT
   unfold callStep inG at HSN
   dsimp only at HSN
   rw [Int.toNat_natCast] at HSN
   obtain ⟨R, hR⟩ : ∃ R, doR 0 (E.nth x).es ((i0 : Nat) : Int) 3 = R := ⟨_, rfl⟩
   rw [hR] at HSN HDO
   obtain ⟨bx, hbx⟩ : ∃ bx, b (4 + 2 * x) = bx := ⟨_, rfl⟩
   rw [hbx] at kx HGT
   have HDO := hi (show ∀ W, DiAt W lo hi' b c E → Calls Tryz.prog 39 #[.pointer (some ⟨bx, 0, none⟩), .int .i64 (i0 : Nat), .int .i64 3] W fun e w' => e = .returned (.int .i64 R.2) ∧ After W (b (4 + 2 * x)) (b (5 + 2 * x)) (c (2 + x)) 0 R.1 w' from fun W q => by rw [← hbx]; exact HDO.out W q)
   obtain ⟨y, hy⟩ : ∃ y, nthE (E.nth x).es i0 = y := ⟨_, rfl⟩
   rw [hy] at HGT HSN
   obtain ⟨⟨⟨e, l, q, ac⟩, en, gr, pr⟩, ⟨sc, sy⟩⟩ := y
   dsimp only at HSN
   dsimp only [En.v] at HGT
   have hw : IntKind.i64.wrap ((n : Int) + 1) = ((n + 1 : Nat) : Int) := by have := HCN.out; rw [IntKind.wrap_i64]; omega
   have HSZ := hi hsz
   clear hI hpin hQ h32 hgr hR hbx hy hpx hpl
   have hle := HLE.out
   cases hq : (gr == g)
   ·rw [hq] at HSN
    simp only [Bool.false_eq_true, if_false] at HSN
    gi_wp2_with (first
     | (refine ⟨trivial, ?_⟩; gi_at_call 68; ((with_reducible refine (CallsIn.inRound l' (callsIn_wide.2 HGT.out)).mono ?_); rintro e' V1 ⟨rfl, hb⟩; have HB1 := hi (hb.alloc hb.size (.cells #[.bool e, .bool l, .bool q, .bool ac, .bool en, .int .i64 gr, .int .i64 pr, .int .i64 sc, .bool sy] 115)); have HV1 := hi hb.size; have hI1 := HI.out.below HB1.out; have cg := hI1.g.cell 0; have HI1 := hi hI1; clear hb hI1))
     | gi_in)
    refine ⟨KW.of_below HB1.out, Stays.below HB1.out (by omega), ?_⟩
    refine (?_ : CaI w lo hi' b c N3 g ⟨(i0 : Nat), call, ctg, codd⟩ (callL D (i0 : Nat) g (pre ++ [x])) _)
    rw [HSN.out]
    exact HI1.out
   ·rw [hq] at HSN
    simp only [if_true] at HSN
    gi_wp2_with (first
     | (refine ⟨trivial, ?_⟩; gi_at_call 68; ((with_reducible refine (CallsIn.inRound l' (callsIn_wide.2 HGT.out)).mono ?_); rintro e' V1 ⟨rfl, hb⟩; have HB1 := hi (hb.alloc hb.size (.cells #[.bool e, .bool l, .bool q, .bool ac, .bool en, .int .i64 gr, .int .i64 pr, .int .i64 sc, .bool sy] 115)); have HV1 := hi hb.size; have hI1 := HI.out.below HB1.out; have cg := hI1.g.cell 0; have kid := hI1.cc.cell 0; have HI1 := hi hI1; clear hb hI1))
     | (refine ⟨trivial, ?_⟩; gi_at_call 39; ((with_reducible refine (CallsIn.inRound l' (callsIn_wide.2 (HDO.out _ HI1.out.di))).mono ?_); rintro e' V3 ⟨rfl, hA⟩; have HS3 := hi (HI1.out.di.setOwn HXX.out hA); have hn3 := HI1.out.n.keptB HS3.out.2 (fun z => by have := z.2; omega); have cn := hn3.cell 0; have fn := hn3.frozen; have HN3 := hi hn3; clear hA hn3))
     | gi_in)
    have hkE : Kept (InR lo hi') V V3 := (Kept.of HB1.out).trans HS3.out.2
    refine ⟨(KW.of_keptD hkE (fun i z => by have := z.2; omega)).trans (KW.set _ _ _), (Stays.of_keptD hkE (fun i z => by have := z.2; omega) (by omega)).trans (stays_set (by omega)), ?_⟩
    refine (?_ : CaI w lo hi' b c N3 g ⟨(i0 : Nat), call, ctg, codd⟩ (callL D (i0 : Nat) g (pre ++ [x])) _)
    rw [HSN.out]
    refine ⟨HS3.out.1.same (by simp) (fun i z1 z2 => Below.heap_setCell V3 ⟨N3, 0, none⟩ _ i (by show i ≠ N3; omega)), (HI1.out.k.trans HS3.out.2).grownD (grownBy_setCell' V3 N3 _) (fun r z => by cases z; omega),
     (HI1.out.p.keptB HS3.out.2 (fun z => by have := z.2; omega)).other _ _ _ (by omega), (HI1.out.g.keptB HS3.out.2 (fun z => by have := z.2; omega)).other _ _ _ (by omega), ?_, (HI1.out.cc.keptB HS3.out.2 (fun z => by have := z.2; omega)).other _ _ _ (by omega)⟩
    have := HN3.out.set 0 (.int .i64 ((n + 1 : Nat) : Int))
    simpa using this
  case done =>
   rintro ys V rfl hI hK hs2
   have c1 := hI.n.cell 0
   have hDA : DiAf w lo hi' b c (callL D (i0 : Nat) g ys).1 V := ⟨hI.di, hI.k⟩
   have HDA := hi hDA
   clear hI hDA
   go_wp2
   refine ⟨by simp, .inl ⟨_, _, rfl, run_takeDeferred hK, ?_⟩⟩
   exact ⟨_, results_tmp2 rfl _ _ _, rfl, HDA.out.put (by have := HLE.out; omega) (by omega)⟩
  case stop =>
   rintro cd pre V _ h _ _
   exact h.elim
end
end Go.Proofs.YtieedhdmpabfkaaGreat
namespace Go.Proofs.YtieedhdmpabfkaaGreat
open Go.ChangeShapes Go.WideShapes Go.ChangeAt Go.RowKit Go.Shelf
set_option linter.unusedVariables false
attribute [local go_sem] Oper.semAt_some
def edgesV : Nat → List En
 | 0 => fresh 32 Rt.zero
 | n + 1 => (doR 0 (edgesV n) (n : Nat) 8).1
theorem edgesV_len : ∀ n : Nat, (edgesV n).length = 32
 | 0 => by simp [edgesV, fresh]
 | n + 1 => by rw [edgesV, doR_len, edgesV_len n]
theorem edgesV_fine : ∀ n : Nat, FineAll (edgesV n)
 | 0 => fresh_fine 32 Rt.zero
 | n + 1 => doR_fine (edgesV_fine n)
set_option maxHeartbeats 2000000 in
theorem newOwn_any (w : World) : Calls Tryz.prog 62 #[] w (fun e W => ∃ b g cap, e = .returned (.pointer (some ⟨b, 0, none⟩)) ∧ BkAt W b g cap 0 (edgesV 16) ∧ Below w.heap.size w W ∧ w.heap.size ≤ b ∧ w.heap.size ≤ g) := by
 have HN := hi (new_yes 0 32 Rt.zero w ⟨by decide, by decide, by decide⟩)
 unfold Made at HN
 have HN := hi (show Calls Tryz.prog 63 #[.int .i64 0, .int .i64 32, .agg #[.int .i64 0, .bool false]] w _ from HN.out)
 go_enter Tryz.func62, Tryz.ntmps62
 go_wp2_with (go_at_call 63; ((with_reducible refine HN.out.mono ?_); rintro e w1 ⟨b, g, rfl, hb1, hg1, hbk, hB⟩; have HB := hi hB; have HBK := hi hbk; clear hB hbk))
 clear HN
 go_loopw [9] (fun i wr => ∃ k : Nat, i = .int .i64 k ∧ Hi (k ≤ 16 ∧ BkAt wr b g 32 0 (edgesV k) ∧ Kept (· = g) w1 wr)) (fun i _ => 16 - (intOf i).toNat)
 case atStart => exact ⟨0, rfl, hi ⟨Nat.zero_le _, HBK.out, Kept.refl _ _⟩⟩
 case round =>
  obtain ⟨k, rfl, HX⟩ := hrel
  have hk := HX.out.1
  by_cases hlt : k < 16
  ·have HD := hi (do_any (id := (k : Nat)) (a := 8) HX.out.2.1 (fit_own (edgesV_len k)) (by constructor <;> omega))
   clear HBK
   go_wp2_with (go_at_call 39; ((with_reducible refine HD.out.mono ?_); rintro e w2 ⟨rfl, hA⟩; have HA := hi hA; clear hA))
   go_roundw
   case rel => exact ⟨k + 1, by go_num, hi ⟨hlt, HA.out.bk, HX.out.2.2.trans HA.out.kept⟩⟩
   case measure => simp only [intOf]; omega
  ·obtain rfl : k = 16 := by omega
   go_wp2
   go_ret
   exact ⟨b, g, 32, rfl, HX.out.2.1, HB.out.trans (HX.out.2.2.toBelow HB.out.size (fun i e => by omega)), hb1, hg1⟩
end Go.Proofs.YtieedhdmpabfkaaGreat
