import Derived.Test.YtggeakkofcaklaaGreatMg11
namespace Go.Proofs.YtggeakkofcaklaaGreat
open Go.ChangeShapes Go.WideShapes Go.ChangeAt Go.RowKit Go.Shelf
set_option linter.unusedVariables false
attribute [local go_sem] Oper.semAt_some
attribute [local go_sem high] eqlLn guardL
structure WA (w w5 : World) (b g cap : Nat) (f0 : Int) (es : List En) (m : Nat) (V : World) : Prop where
  n : CB V (w.heap.size + 3) 3 #[.int .i64 m]
  bk : BkAt V b g cap f0 es
  kept : Kept (fun i => i = w.heap.size + 3 ∨ i = g) w5 V
theorem WA.later {w w5 V V' : World} {b g cap : Nat} {f0 : Int} {es : List En} {m : Nat} (h : WA w w5 b g cap f0 es m V) (k : Below V.heap.size V V') : WA w w5 b g cap f0 es m V' := ⟨h.n.below k, h.bk.below k, h.kept.below k⟩
theorem WA.put {w w5 V V' : World} {b g cap : Nat} {f0 : Int} {es es' : List En} {m : Nat} (h : WA w w5 b g cap f0 es m V) (ha : After V b g cap f0 es' V') (hne : w.heap.size + 3 ≠ g) : WA w w5 b g cap f0 es' m V' :=
  ⟨h.n.keptB ha.kept hne, ha.bk, h.kept.trans (ha.kept.mono (fun i e => .inr e))⟩
theorem WA.count {w w5 V : World} {b g cap : Nat} {f0 : Int} {es : List En} {m : Nat} (h : WA w w5 b g cap f0 es m V) (d : Nat) (hb : b ≠ w.heap.size + 3) (hg : g ≠ w.heap.size + 3) : WA w w5 b g cap f0 es d (V.setCell ⟨w.heap.size + 3, 0, none⟩ (.int .i64 d)) :=
  ⟨h.n.set 0 _, h.bk.kept (Kept.set (bs := (· = w.heap.size + 3)) (Kept.refl _ _) _ _ rfl) hb hg, h.kept.set _ _ (.inl rfl)⟩
theorem Kept.putObj {bs : Nat → Prop} {A W : World} (h : Kept bs A W) {l : Nat} (o : Obj) (hl : A.heap.size ≤ l) : Kept bs A (W.putObj l o) :=
  ⟨h.os, h.tape, h.output, by simpa using h.size, fun i hi hn => (World.putObj_heap_other (by omega)).trans (h.block i hi hn)⟩
theorem WA.done {w w5 V : World} {b g cap : Nat} {f0 : Int} {es : List En} {m : Nat} (h : WA w w5 b g cap f0 es m V) (hb : Below w.heap.size w w5) (h1 : b < w.heap.size) (h2 : g < w.heap.size) (l : Nat) (o : Obj) (hl : w.heap.size ≤ l) : After w b g cap f0 es (V.putObj l o) :=
  ⟨⟨h.bk.box.heap (World.putObj_heap_other (by omega)), h.bk.row.heap (World.putObj_heap_other (by omega)), h.bk.ne⟩,
   (((Kept.of hb).trans h.kept).mono' (fun k hk q => by rcases q with q | q; omega; exact q)).putObj o hl⟩
theorem KW.of_kept {B : Nat} {bs : Nat → Prop} {W W' : World} (k : Kept bs W W') (hn : ∀ i, bs i → i < B ∨ B + 2 ≤ i) : KW B W W' :=
  ⟨k.size, fun i o a b h _ => (k.block i (Array.getElem?_eq_some_iff.1 h).1 (fun x => by have := hn i x; omega)).trans h⟩
set_option maxRecDepth 100000 in
set_option maxHeartbeats 40000000 in
theorem write_any {b g cap : Nat} {f0 : Int} {es : List En} {p : Pl} {c : Nat} {v : Nat} {w : World} (h : BkAt w b g cap f0 es) (hf : Fit f0 es.length) (hfine : FineAll es) (hp : PlOk p c) (hv : v < 18446744073709551616) :
    Calls Tryz.prog 44 #[.pointer (some ⟨b, 0, none⟩), p.v, .int .u64 v] w fun e w' => e = .returned (.int .i64 ((writeV p c f0 v es).2 : Nat)) ∧ After w b g cap f0 (writeV p c f0 v es).1 w' := by
  have HP := hi hp
  have HF := hi hf
  have HFA := hi hfine
  have H := hi h
  have CP := hi (fun W (hW : Below w.heap.size w W) => present_it b (.slice (some ⟨g, 0, none⟩) es.length cap) p f0 W (h.below hW).box)
  have HFD := hi (fun k W hk hc => field_any v p k W hv hk hc)
  have HWI := hi (wide_pos p.r).2
  have hbw := h.box.lt
  have hgw := h.row.lt
  have hbg := h.ne
  obtain ⟨n, hn⟩ : ∃ n, es.length = n := ⟨_, rfl⟩
  have HN := hi hn
  have hpk := hp.cnt
  have hfew := hp.few
  unfold writeV
  rw [hn] at CP ⊢
  clear h hf hfine hp hn
  obtain ⟨r, fp, pc⟩ := p
  dsimp only at hpk
  subst hpk
  dsimp only [Pl.v, Pl.cs] at CP HFD ⊢
  dsimp only at HWI
  obtain ⟨w3, hw3⟩ : ∃ w3, (w.alloc (.cells #[.pointer (some ⟨b, 0, none⟩)] 81)).alloc (.cells #[.int .i64 r, .int .i64 fp, .int .i64 c] 70) = w3 := ⟨_, rfl⟩
  have hz3 : w3.heap.size = w.heap.size + 2 := by rw [← hw3]; simp
  have H2 := hi (show CB ((w3.alloc (.cells #[.int .u64 v] 28)).alloc (.cells #[.int .i64 0] 3)) w.heap.size 81 #[.pointer (some ⟨b, 0, none⟩)] by rw [← hw3]; exact (((CB.new w _ _).alloc _).alloc _).alloc _)
  have H3 := hi (show CB ((w3.alloc (.cells #[.int .u64 v] 28)).alloc (.cells #[.int .i64 0] 3)) (w.heap.size + 1) 70 #[.int .i64 r, .int .i64 fp, .int .i64 c] by rw [← hw3]; exact (cb_second.alloc _).alloc _)
  have H4 := hi (show CB ((w3.alloc (.cells #[.int .u64 v] 28)).alloc (.cells #[.int .i64 0] 3)) (w.heap.size + 2) 28 #[.int .u64 v] by rw [← hz3]; exact (CB.new w3 _ _).alloc _)
  have H5 := hi (show CB ((w3.alloc (.cells #[.int .u64 v] 28)).alloc (.cells #[.int .i64 0] 3)) (w.heap.size + 3) 3 #[.int .i64 0] by rw [show w.heap.size + 3 = w3.heap.size + 1 by omega]; exact cb_second)
  have HB := hi (show Below w.heap.size w ((w3.alloc (.cells #[.int .u64 v] 28)).alloc (.cells #[.int .i64 0] 3)) by rw [← hw3]; exact (bal_three w _ _ _).alloc (by simp; omega) _)
  have HSZ := hi (show ((w3.alloc (.cells #[.int .u64 v] 28)).alloc (.cells #[.int .i64 0] 3)).heap.size = w.heap.size + 4 by simp; omega)
  subst hw3
  clear hz3
  refine (callsIn_wide (n := 6)).1 ?_
  refine callsIn_of_wp_marks Tryz.func44 rfl trivial ?_ rfl
  simp only [Tryz.ntmps44, List.size_toArray, List.length_cons, List.length_nil, Nat.reduceAdd, Nat.reduceSub, Array.replicate_succ, Array.replicate_zero, List.push_toArray, List.append_toArray, List.nil_append, List.cons_append]
  refine wpIn_wide.2 ?_
  go_wp2_with (go_at_call 86; ((with_reducible refine (CP.out _ HB.out).mono ?_); rintro e' w5 ⟨pp, bp, rfl, hpp, hbp, hpr, hb⟩; have HPR := hi hpr; have X2 := hi (H2.out.below hb); have X3 := hi (H3.out.below hb); have X4 := hi (H4.out.below hb); have X5 := hi (H5.out.below hb); have XB := hi (HB.out.trans (hb.mono HB.out.size)); have hs5 := hb.size; rw [HSZ.out] at hs5 hpp hbp; clear hb hpr H2 H3 H4 H5))
  have HKS := hi HPR.out.lt
  have hppl := HPR.out.pl.lt
  have hbpl := HPR.out.bx.lt
  have HST := hi (pres_stops pp bp b g n cap ⟨r, fp, c⟩ c f0 HP.out HF.out.f0 w5 HPR.out)
  have HJ0 := hi (show WA w w5 b g cap f0 (wrL ⟨r, fp, c⟩ f0 v es []).1 (wrL ⟨r, fp, c⟩ f0 v es []).2 w5 from ⟨X5.out, H.out.below XB.out, Kept.refl _ _⟩)
  have HKB := hi (show ∀ i, ksP pp bp b i → i ≠ w.heap.size + 3 ∧ i ≠ g from fun i q => by rcases q with rfl | rfl | rfl <;> omega)
  clear CP HB HSZ
  refine (wpIn_wide (n := 6)).1 ?_
  refine range_win (n := 6) (by omega) (gf := 122) (lb := #[.pointer (some ⟨pp, 0, none⟩), .pointer (some ⟨bp, 0, none⟩)]) rfl (enters_of Tryz.func122 (by kernel_rfl) rfl)
    HST.out (fun a b => KpS.trans a b) (fun V l o o' h1 h2 h3 h4 => kps_put (fun q => by have := HKS.out l q; omega) (by omega)) (Below.refl _ _) (fun _ => rfl)
    (fun pre V => WA w w5 b g cap f0 (wrL ⟨r, fp, c⟩ f0 v es pre).1 (wrL ⟨r, fp, c⟩ f0 v es pre).2 V)
    (fun cd pre V => False)
    (AbL.of (m := 2 + 5) (fun s A A' row hs hg hr => ⟨hs.n.kept hg (fun e => by have := hr _ e.symm; omega), ⟨hs.bk.box.kept hg (fun e => by have := hr _ e.symm; omega), hs.bk.row.heap (hg.block g hs.bk.row.lt (fun e => by have := hr _ e.symm; omega)), hs.bk.ne⟩, hs.kept.grownW hg (fun r e => by have := hr _ e; omega)⟩) rfl)
    (fun _ _ _ _ _ hs _ _ => hs)
    HJ0.out
    (fun x a' V => a' = { tmps := #[.pointer (some ⟨b, 0, none⟩), .agg #[.int .i64 r, .int .i64 fp, .int .i64 c], .int .u64 v, .pointer (some ⟨w.heap.size, 0, none⟩), .pointer (some ⟨w.heap.size + 1, 0, none⟩), .pointer (some ⟨w.heap.size + 1 + 1, 0, none⟩), .int .i64 0, .pointer (some ⟨w.heap.size + 1 + 1 + 1, 0, none⟩), .int .i64 x, .int .i64 (fp + (x : Int)), undef, undef, undef, .pointer (some ⟨b, 0, none⟩), .agg #[.int .i64 r, .int .i64 fp, .int .i64 c], .func (.func 122) #[] #[.pointer (some ⟨pp, 0, none⟩), .pointer (some ⟨bp, 0, none⟩)], .int .i64 x, .int .i64 (fp + (x : Int)), undef, undef, undef, undef, undef, undef, undef, undef, undef, undef, undef, undef, undef, undef, undef, undef, undef, undef, undef, undef, undef, undef, undef, undef, undef, undef, undef, undef, undef], defers := [] })
    (fun x a' => AbL.pure _ _ _)
    ?assign ?body ?done ?stop
  case assign =>
    rintro l' pre x V K h hsz hK
    gi_wp2
    exact hK _ _ (KW.refl _ _) (KpS.refl _ _ _ _) h rfl
  case body =>
    rintro l' pre x a' V hsz hJ rfl hpx
    dsimp only at hpx
    obtain ⟨hxc, hin⟩ := pres_mem hpx
    obtain ⟨hid, hjn⟩ := plc_at hin
    have HSN := hi (wrL_snoc ⟨r, fp, c⟩ f0 v es pre x)
    have hlen1 := wrL_len ⟨r, fp, c⟩ f0 v es pre
    have hfin1 := wrL_fine (p := ⟨r, fp, c⟩) (f0 := f0) (v := v) (ks := pre) HFA.out
    have hcnt := wrL_le ⟨r, fp, c⟩ f0 v es pre
    have hpl : pre.length ≤ c := by
      have h1 := hpx.length_le
      have h2 : (presL f0 n fp c).length ≤ (List.range c).length := List.length_filter_le _ _
      rw [List.length_range] at h2
      rw [List.length_append] at h1
      omega
    have HJ := hi hJ
    have HBV := hi (show Below w.heap.size w V ∨ True from .inr trivial)
    obtain ⟨q1, hq1⟩ : ∃ q1, (wrL ⟨r, fp, c⟩ f0 v es pre).1 = q1 := ⟨_, rfl⟩
    obtain ⟨m, hm⟩ : ∃ m, (wrL ⟨r, fp, c⟩ f0 v es pre).2 = m := ⟨_, rfl⟩
    have hwq : wrL ⟨r, fp, c⟩ f0 v es pre = (q1, m) := by rw [← hq1, ← hm]
    rw [hwq] at HSN HJ hlen1 hfin1 hcnt
    dsimp only at hlen1 hfin1 hcnt HJ
    rw [HN.out] at hlen1
    obtain ⟨j, hj⟩ : ∃ j, plcK f0 fp x = j := ⟨_, rfl⟩
    have hke0 : j < q1.length := by rw [hlen1, ← hj]; exact hjn
    have HWK := hi (show wrK ⟨r, fp, c⟩ f0 v (q1, m) x = (q1.set j ((nthE q1 j).with_ (chgV (fp + x) (nthE q1 j).ln r (fieldN (wideN r) v x))), if chgV (fp + x) (nthE q1 j).ln r (fieldN (wideN r) v x) = (nthE q1 j).ln then m else m + 1) by unfold wrK; dsimp only; rw [hj])
    rw [HWK.out] at HSN
    rw [hj] at hid hjn
    have hke : q1[j]? = some (nthE q1 j) := nthE_at hke0
    have hfj : Fine (nthE q1 j).ln := hfin1.nth hke0
    have HSELF := hi (set_self hke0)
    obtain ⟨y, hy⟩ : ∃ y, nthE q1 j = y := ⟨_, rfl⟩
    rw [hy] at hke hfj HSN HSELF
    have hxl := fieldN_lt63 HWI.out v x
    have hfl := fieldN_lt (wideN r) v x
    have HFD1 := hi (fun W => HFD.out x W (by omega) (by simpa using hxc))
    obtain ⟨fx, hfx⟩ : ∃ fx, fieldN (wideN r) v x = fx := ⟨_, rfl⟩
    rw [hfx] at HFD1 hxl hfl HSN
    have HCH := hi (fun W => changed_any (fp + x) y.ln r fx W hxl)
    have hfc := fine_chg (id := fp + x) (r := r) hfj hfl
    have hfit1 : Fit f0 q1.length := by rw [hlen1, ← HN.out]; exact HF.out
    have HG := hi (get_yes (HJ.out.bk) hfit1 hke)
    rw [← hid] at HG
    obtain ⟨ln2, hl2⟩ : ∃ ln2, chgV (fp + x) y.ln r fx = ln2 := ⟨_, rfl⟩
    rw [hl2] at HCH hfc HSN
    have HPT := hi (fun W (hW : BkAt W b g cap f0 q1) => put_yes (x := y.with_ ln2) hW hfit1 hke0 hfc.ok)
    rw [show (y.with_ ln2).real = y.with_ ln2 from real_fine hfc, ← hid] at HPT
    have HEQ := hi (eqLn_iff ln2 y.ln)
    have v3' := (X2.out.keptB HJ.out.kept (show ¬ (w.heap.size = w.heap.size + 3 ∨ w.heap.size = g) by omega)).cell 0
    have HV3 := hi (X2.out.keptB HJ.out.kept (show ¬ (w.heap.size = w.heap.size + 3 ∨ w.heap.size = g) by omega))
    have HV4 := hi (X3.out.keptB HJ.out.kept (show ¬ (w.heap.size + 1 = w.heap.size + 3 ∨ w.heap.size + 1 = g) by omega))
    have HV5 := hi (X4.out.keptB HJ.out.kept (show ¬ (w.heap.size + 2 = w.heap.size + 3 ∨ w.heap.size + 2 = g) by omega))
    have hwm : IntKind.i64.wrap ((m : Int) + 1) = ((m + 1 : Nat) : Int) := by rw [IntKind.wrap_i64]; omega
    obtain ⟨m2, hm2⟩ : ∃ m2, m + 1 = m2 := ⟨_, rfl⟩
    rw [hm2] at hwm HSN
    have hvb := HJ.out.bk.box.lt
    have hvg := HJ.out.bk.row.lt
    have hvn := HJ.out.n.lt
    clear hJ hpx hin hj hke hfj hy hfx hid hq1 hm hwq hfl hl2 hfc hm2 hlen1 hfin1 hcnt hpl hke0 HWK HFD hxl HBV
    obtain ⟨⟨⟨e, lb', q, a⟩, en, gr, pr⟩, s⟩ := y
    obtain ⟨⟨ne, nl, nq, na⟩, nn, ng, np⟩ := ln2
    dsimp only [En.v, Ln.v, En.with_] at HG HCH HPT
    dsimp only [En.with_] at HSN HEQ
    have hdec : eqLn ne nl nq na nn ng np e lb' q a en gr pr = decide ((⟨⟨ne, nl, nq, na⟩, nn, ng, np⟩ : Ln) = ⟨⟨e, lb', q, a⟩, en, gr, pr⟩) := HEQ.out
    clear HEQ
    gi_wp2_with (first
      | (refine ⟨trivial, ?_⟩; gi_at_call 68; ((with_reducible refine (CallsIn.inRound l' (callsIn_wide.2 HG.out)).mono ?_); rintro e' V1 ⟨rfl, hB⟩; have HBv := hi hB; clear hB))
      | gi_in)
    have HBA := hi (HBv.out.alloc HBv.out.size (.cells #[.bool e, .bool lb', .bool q, .bool a, .bool en, .int .i64 gr, .int .i64 pr, .int .i64 s.c, .bool s.y] 115))
    have hv1 := HBv.out.size
    have hS0 : (fun W' => CB W' (w.heap.size + 2) 28 #[.int .u64 v] ∧ CB W' (w.heap.size + 1) 70 #[.int .i64 r, .int .i64 fp, .int .i64 c] ∧ CB W' V1.heap.size 115 #[.bool e, .bool lb', .bool q, .bool a, .bool en, .int .i64 gr, .int .i64 pr, .int .i64 s.c, .bool s.y]) (V1.alloc (.cells #[.bool e, .bool lb', .bool q, .bool a, .bool en, .int .i64 gr, .int .i64 pr, .int .i64 s.c, .bool s.y] 115)).drew :=
      ⟨(HV5.out.below HBA.out).drew, (HV4.out.below HBA.out).drew, (CB.new _ _ _).drew⟩
    obtain ⟨V2, hV2⟩ : ∃ V2, (V1.alloc (.cells #[.bool e, .bool lb', .bool q, .bool a, .bool en, .int .i64 gr, .int .i64 pr, .int .i64 s.c, .bool s.y] 115)) = V2 := ⟨_, rfl⟩
    have hsz2 := hi (show V2.heap.size = V1.heap.size + 1 by rw [← hV2]; simp)
    rw [hV2] at HBA hS0 ⊢
    have HBD := hi (Below.drewN (m := 1) HBA.out)
    obtain ⟨V2d, hV2d⟩ : ∃ V2d, V2.drewN 1 = V2d := ⟨_, rfl⟩
    have hV2d' : V2.drew = V2d := hV2d
    have hsz3 := hi (show V2d.heap.size = V1.heap.size + 1 by rw [← hV2d]; exact hsz2.out)
    clear hV2 v3'
    refine region_last_r (S := (fun W' => CB W' (w.heap.size + 2) 28 #[.int .u64 v] ∧ CB W' (w.heap.size + 1) 70 #[.int .i64 r, .int .i64 fp, .int .i64 c] ∧ CB W' V1.heap.size 115 #[.bool e, .bool lb', .bool q, .bool a, .bool en, .int .i64 gr, .int .i64 pr, .int .i64 s.c, .bool s.y])) [11] (by kernel_rfl) (by rfl) hS0 (fun hHeld => ?_)
    have HS2 := hi hHeld
    have HB2 := HBD
    rw [hV2d'] at HS2 hHeld ⊢
    rw [hV2d] at HB2
    obtain ⟨V2, rfl⟩ : ∃ V2', V2' = V2d := ⟨_, rfl⟩
    (try simp only [Array.replicate_succ, Array.replicate_zero, List.push_toArray, List.nil_append, List.cons_append])
    refine wpAnyF_take (i := 0) (v := ?_) (by kernel_rfl) (by kernel_rfl) rfl (by kernel_rfl) (by kernel_rfl) (by kernel_rfl) (fun _ _ _ h => h) (Or.inl ⟨by rfl, ?_⟩) (by assumption) ?_
    rotate_left
    · intro w' hSw; (try dsimp only at hSw); obtain ⟨hs1, hs2, hs3⟩ := hSw; have k0 := hs1.cell 0; have p0 := hs2.cell 0; have p1 := hs2.cell 1; have p2 := hs2.cell 2; obtain ⟨d0, d1, d2, d3, d4, d5, d6, d7, d8⟩ := CB.ent (x := ⟨⟨⟨e, lb', q, a⟩, en, gr, pr⟩, s⟩) hs3; dsimp only at d0 d1 d2 d3 d4 d5 d6 d7 d8; go_simp; (try with_reducible rfl)
    (try simp only [Act.put, List.getElem_toArray, List.getElem_cons_zero, List.setIfInBounds_toArray, List.set_cons_zero, List.set_cons_succ])
    refine wpAnyF_take (i := 1) (v := ?_) (by kernel_rfl) (by kernel_rfl) rfl (by kernel_rfl) (by kernel_rfl) (by kernel_rfl) (fun _ _ _ h => h) (Or.inl ⟨by rfl, ?_⟩) (by assumption) ?_
    rotate_left
    · intro w' hSw; (try dsimp only at hSw); obtain ⟨hs1, hs2, hs3⟩ := hSw; have k0 := hs1.cell 0; have p0 := hs2.cell 0; have p1 := hs2.cell 1; have p2 := hs2.cell 2; obtain ⟨d0, d1, d2, d3, d4, d5, d6, d7, d8⟩ := CB.ent (x := ⟨⟨⟨e, lb', q, a⟩, en, gr, pr⟩, s⟩) hs3; dsimp only at d0 d1 d2 d3 d4 d5 d6 d7 d8; go_simp; (try with_reducible rfl)
    (try simp only [Act.put, List.getElem_toArray, List.getElem_cons_zero, List.getElem_cons_succ, List.setIfInBounds_toArray, List.set_cons_zero, List.set_cons_succ])
    refine wpAnyF_take (i := 2) (v := ?_) (by kernel_rfl) (by kernel_rfl) rfl (by kernel_rfl) (by kernel_rfl) (by kernel_rfl) (fun _ _ _ h => h) (Or.inl ⟨by rfl, ?_⟩) (by assumption) ?_
    rotate_left
    · intro w' hSw; (try dsimp only at hSw); obtain ⟨hs1, hs2, hs3⟩ := hSw; have k0 := hs1.cell 0; have p0 := hs2.cell 0; have p1 := hs2.cell 1; have p2 := hs2.cell 2; obtain ⟨d0, d1, d2, d3, d4, d5, d6, d7, d8⟩ := CB.ent (x := ⟨⟨⟨e, lb', q, a⟩, en, gr, pr⟩, s⟩) hs3; dsimp only at d0 d1 d2 d3 d4 d5 d6 d7 d8; go_simp; (try with_reducible rfl)
    (try simp only [Act.put, List.getElem_toArray, List.getElem_cons_zero, List.getElem_cons_succ, List.setIfInBounds_toArray, List.set_cons_zero, List.set_cons_succ])
    refine wpAnyF_take (i := 3) (v := ?_) (by kernel_rfl) (by kernel_rfl) rfl (by kernel_rfl) (by kernel_rfl) (by kernel_rfl) (fun _ _ _ h => h) (Or.inl ⟨by rfl, ?_⟩) (by assumption) ?_
    rotate_left
    · intro w' hSw; (try dsimp only at hSw); obtain ⟨hs1, hs2, hs3⟩ := hSw; have k0 := hs1.cell 0; have p0 := hs2.cell 0; have p1 := hs2.cell 1; have p2 := hs2.cell 2; obtain ⟨d0, d1, d2, d3, d4, d5, d6, d7, d8⟩ := CB.ent (x := ⟨⟨⟨e, lb', q, a⟩, en, gr, pr⟩, s⟩) hs3; dsimp only at d0 d1 d2 d3 d4 d5 d6 d7 d8; go_simp; (try with_reducible rfl)
    (try simp only [Act.put, List.getElem_toArray, List.getElem_cons_zero, List.getElem_cons_succ, List.setIfInBounds_toArray, List.set_cons_zero, List.set_cons_succ])
    refine wpAnyF_take (i := 4) (v := ?_) (by kernel_rfl) (by kernel_rfl) rfl (by kernel_rfl) (by kernel_rfl) (by kernel_rfl) (fun _ _ _ h => h) (Or.inl ⟨by rfl, ?_⟩) (by assumption) ?_
    rotate_left
    · intro w' hSw; (try dsimp only at hSw); obtain ⟨hs1, hs2, hs3⟩ := hSw; have k0 := hs1.cell 0; have p0 := hs2.cell 0; have p1 := hs2.cell 1; have p2 := hs2.cell 2; obtain ⟨d0, d1, d2, d3, d4, d5, d6, d7, d8⟩ := CB.ent (x := ⟨⟨⟨e, lb', q, a⟩, en, gr, pr⟩, s⟩) hs3; dsimp only at d0 d1 d2 d3 d4 d5 d6 d7 d8; go_simp; (try with_reducible rfl)
    (try simp only [Act.put, List.getElem_toArray, List.getElem_cons_zero, List.getElem_cons_succ, List.setIfInBounds_toArray, List.set_cons_zero, List.set_cons_succ])
    refine wpAnyF_take (i := 5) (v := ?_) (by kernel_rfl) (by kernel_rfl) rfl (by kernel_rfl) (by kernel_rfl) (by kernel_rfl) (fun _ _ _ h => h) (Or.inl ⟨by rfl, ?_⟩) (by assumption) ?_
    rotate_left
    · intro w' hSw; (try dsimp only at hSw); obtain ⟨hs1, hs2, hs3⟩ := hSw; have k0 := hs1.cell 0; have p0 := hs2.cell 0; have p1 := hs2.cell 1; have p2 := hs2.cell 2; obtain ⟨d0, d1, d2, d3, d4, d5, d6, d7, d8⟩ := CB.ent (x := ⟨⟨⟨e, lb', q, a⟩, en, gr, pr⟩, s⟩) hs3; dsimp only at d0 d1 d2 d3 d4 d5 d6 d7 d8; go_simp; (try with_reducible rfl)
    (try simp only [Act.put, List.getElem_toArray, List.getElem_cons_zero, List.getElem_cons_succ, List.setIfInBounds_toArray, List.set_cons_zero, List.set_cons_succ])
    refine wpAnyF_take (i := 6) (v := ?_) (by kernel_rfl) (by kernel_rfl) rfl (by kernel_rfl) (by kernel_rfl) (by kernel_rfl) (fun _ _ _ h => h) (Or.inl ⟨by rfl, ?_⟩) (by assumption) ?_
    rotate_left
    · intro w' hSw; (try dsimp only at hSw); obtain ⟨hs1, hs2, hs3⟩ := hSw; have k0 := hs1.cell 0; have p0 := hs2.cell 0; have p1 := hs2.cell 1; have p2 := hs2.cell 2; obtain ⟨d0, d1, d2, d3, d4, d5, d6, d7, d8⟩ := CB.ent (x := ⟨⟨⟨e, lb', q, a⟩, en, gr, pr⟩, s⟩) hs3; dsimp only at d0 d1 d2 d3 d4 d5 d6 d7 d8; go_simp; (try with_reducible rfl)
    (try simp only [Act.put, List.getElem_toArray, List.getElem_cons_zero, List.getElem_cons_succ, List.setIfInBounds_toArray, List.set_cons_zero, List.set_cons_succ])
    refine wpAnyF_take (i := 7) (v := ?_) (by kernel_rfl) (by kernel_rfl) rfl (by kernel_rfl) (by kernel_rfl) (by kernel_rfl) (fun _ _ _ h => h) (Or.inl ⟨by rfl, ?_⟩) (by assumption) ?_
    rotate_left
    · intro w' hSw; (try dsimp only at hSw); obtain ⟨hs1, hs2, hs3⟩ := hSw; have k0 := hs1.cell 0; have p0 := hs2.cell 0; have p1 := hs2.cell 1; have p2 := hs2.cell 2; obtain ⟨d0, d1, d2, d3, d4, d5, d6, d7, d8⟩ := CB.ent (x := ⟨⟨⟨e, lb', q, a⟩, en, gr, pr⟩, s⟩) hs3; dsimp only at d0 d1 d2 d3 d4 d5 d6 d7 d8; go_simp; (try with_reducible rfl)
    (try simp only [Act.put, List.getElem_toArray, List.getElem_cons_zero, List.getElem_cons_succ, List.setIfInBounds_toArray, List.set_cons_zero, List.set_cons_succ])
    refine wpAnyF_ready (rs := [8, 10]) (by kernel_rfl) (by simp) ?_
    refine (AllReadyF.cons rfl (fun KK hKK => ?_) (AllReadyF.cons rfl (fun KK hKK => ?_) AllReadyF.nil))
    · go_simp
      ((with_reducible refine (HFD1.out _).mono ?_); rintro e' V3a ⟨rfl, hb⟩; have HS3a := hi (And.intro (HS2.out.1.below hb) (And.intro (HS2.out.2.1.below hb) (HS2.out.2.2.below hb))); have HB3a := hi (HB2.out.trans (hb.mono HB2.out.size)); have hz3a := hb.size; clear hb)
      (try go_simp)
      refine hKK.out _ _ HS3a.out (fun hHeld => ?_)
      clear hKK KK
      (try simp only [Act.put, List.getElem_toArray, List.getElem_cons_zero, List.getElem_cons_succ, List.setIfInBounds_toArray, List.set_cons_zero, List.set_cons_succ])
      refine wpAnyF_ready (rs := [9, 10]) (by kernel_rfl) (by simp) ?_
      refine (AllReadyF.cons rfl (fun KK hKK => ?_) (AllReadyF.cons rfl (fun KK hKK => ?_) AllReadyF.nil))
      · go_simp
        ((with_reducible refine (HCH.out _).mono ?_); rintro e' V4a ⟨rfl, hb⟩; have HS4a := hi (And.intro (HS3a.out.1.below hb) (And.intro (HS3a.out.2.1.below hb) (HS3a.out.2.2.below hb))); have HB4a := hi (HB3a.out.trans (hb.mono HB3a.out.size)); have hz4a := hb.size; clear hb)
        (try go_simp)
        refine hKK.out _ _ HS4a.out (fun hHeld => ?_)
        clear hKK KK
        (try simp only [Act.put, List.getElem_toArray, List.getElem_cons_zero, List.getElem_cons_succ, List.setIfInBounds_toArray, List.set_cons_zero, List.set_cons_succ])
        refine wpAnyF_ready (rs := [10]) (by kernel_rfl) (by simp) ?_
        refine AllReadyF.cons rfl (fun KK hKK => ?_) AllReadyF.nil
        go_simp
        have hb5a := bal V4a (.cells #[.bool false, .bool false, .bool false, .bool false, .bool false, .int .i64 0, .int .i64 0] 58)
        have HS5a := hi (And.intro (HS4a.out.1.below hb5a) (And.intro (HS4a.out.2.1.below hb5a) (HS4a.out.2.2.below hb5a))); have HB5a := hi (HB4a.out.trans (hb5a.mono HB4a.out.size)); have hz5a := hb5a.size
        have HZ5a := hi (CB.new V4a 58 #[.bool false, .bool false, .bool false, .bool false, .bool false, .int .i64 0, .int .i64 0])
        obtain ⟨V5a, hV5a⟩ : ∃ V5a, V4a.alloc (.cells #[.bool false, .bool false, .bool false, .bool false, .bool false, .int .i64 0, .int .i64 0] 58) = V5a := ⟨_, rfl⟩
        rw [hV5a] at hb5a HS5a HB5a hz5a HZ5a ⊢
        obtain ⟨N, hN⟩ : ∃ N, V4a.heap.size = N := ⟨_, rfl⟩
        rw [hN] at HZ5a ⊢
        clear hV5a hb5a
        refine hKK.out _ _ HS5a.out (fun hHeld => ?_)
        clear hKK KK
        (try simp only [Act.put, List.getElem_toArray, List.getElem_cons_zero, List.getElem_cons_succ, List.setIfInBounds_toArray, List.set_cons_zero, List.set_cons_succ])
        refine wpAnyF_ready (rs := [11]) (by kernel_rfl) (by simp) ?_
        refine AllReadyF.last (by kernel_rfl) rfl (fun KK hKK => ?_) AllReadyF.nil
        obtain ⟨z0, z1, z2, z3, z4, z5, z6⟩ := CB.cells7 (l := Ln.zero) HZ5a.out
        have fz := HZ5a.out.frozen
        dsimp only [Ln.zero, St.zero] at z0 z1 z2 z3 z4 z5 z6
        go_simp
        have HSE := HS5a
        have HBE := HB5a
        have HZE := HZ5a
        obtain ⟨VE, hVE⟩ : ∃ VE, V5a = VE := ⟨_, rfl⟩
        have hNE : V1.heap.size + 1 ≤ N := by have := hsz3.out; omega
        rw [hVE] at HSE HBE HZE ⊢
        refine hKK.out _ _ ?_
        clear hKK KK
        (try simp only [Act.put, List.getElem_toArray, List.getElem_cons_zero, List.getElem_cons_succ, List.setIfInBounds_toArray, List.set_cons_zero, List.set_cons_succ])
        refine wpAnyF_done (by kernel_rfl) ?_ _
        refine normQ_in ?_
        have hN1 := HZE.out.lt
        have HNL := hi (CB.putL (y := Ln.zero) HZE.out ⟨⟨ne, nl, nq, na⟩, nn, ng, np⟩)
        have HEL := hi (show CB (setL VE N 0 ⟨⟨ne, nl, nq, na⟩, nn, ng, np⟩) V1.heap.size 115 #[.bool e, .bool lb', .bool q, .bool a, .bool en, .int .i64 gr, .int .i64 pr, .int .i64 s.c, .bool s.y] from HSE.out.2.2.otherL (by omega) _)
        have HBL := hi (show Below V.heap.size V (setL VE N 0 ⟨⟨ne, nl, nq, na⟩, nn, ng, np⟩) from below_putL HBE.out (by omega) _)
        dsimp only [setL] at HNL HEL HBL
        obtain ⟨V6, hV6⟩ : ∃ V6, ((((((VE.setCell ⟨N, 0, none⟩ (.bool ne)).setCell ⟨N, 0 + 1, none⟩ (.bool nl)).setCell ⟨N, 0 + 2, none⟩ (.bool nq)).setCell ⟨N, 0 + 3, none⟩ (.bool na)).setCell ⟨N, 0 + 4, none⟩ (.bool nn)).setCell ⟨N, 0 + 5, none⟩ (.int .i64 ng)).setCell ⟨N, 0 + 6, none⟩ (.int .i64 np) = V6 := ⟨_, rfl⟩
        simp only [Nat.zero_add] at hV6
        simp only [Nat.zero_add, hV6] at HNL HEL HBL
        try rw [hV6]
        obtain ⟨k0, k1, k2, k3, k4, k5, k6⟩ := CB.cells7 (l := ⟨⟨ne, nl, nq, na⟩, nn, ng, np⟩) HNL.out
        obtain ⟨d0, d1, d2, d3, d4, d5, d6, d7, d8⟩ := CB.ent (x := ⟨⟨⟨e, lb', q, a⟩, en, gr, pr⟩, s⟩) HEL.out
        have fe := HEL.out.frozen
        dsimp only at k0 k1 k2 k3 k4 k5 k6 d0 d1 d2 d3 d4 d5 d6 d7 d8
        have z3 := (HV3.out.below HBL.out).cell 0
        have HW6 := hi (HJ.out.later HBL.out)
        clear hV6 hV2d hV2d' hHeld HSE HBE HZE hNE hN hVE hS0
        by_cases heq : (⟨⟨ne, nl, nq, na⟩, nn, ng, np⟩ : Ln) = ⟨⟨e, lb', q, a⟩, en, gr, pr⟩
        · rw [if_pos heq, heq, HSELF.out] at HSN
          have hd : eqLn ne nl nq na nn ng np e lb' q a en gr pr = true := by rw [hdec]; exact decide_eq_true heq
          clear hdec heq
          gi_wp2
          refine ⟨KW.of_below HBL.out, KpS.of_below HBL.out (fun i q => by have := HKS.out i q; omega) (by omega), ?_⟩
          refine (?_ : WA w w5 b g cap f0 (wrL ⟨r, fp, c⟩ f0 v es (pre ++ [x])).1 (wrL ⟨r, fp, c⟩ f0 v es (pre ++ [x])).2 V6)
          rw [HSN.out]
          exact HW6.out
        · rw [if_neg heq] at HSN
          have hd : eqLn ne nl nq na nn ng np e lb' q a en gr pr = false := by rw [hdec]; exact decide_eq_false heq
          have hB7 : Below V.heap.size V (setL V6 V1.heap.size 0 ⟨⟨ne, nl, nq, na⟩, nn, ng, np⟩) := below_putL HBL.out (by omega) _
          have HB7 := hi hB7
          have HW7 := hi (HJ.out.later hB7)
          have z7 := (HV3.out.below hB7).cell 0
          dsimp only [setL] at HB7 HW7 z7
          simp only [Nat.zero_add] at HB7 HW7 z7
          clear hdec heq hB7
          gi_wp2_with (first
            | (refine ⟨trivial, ?_⟩; gi_at_call 85; ((with_reducible refine (CallsIn.inRound l' (callsIn_wide.2 (HPT.out _ HW7.out.bk))).mono ?_); rintro e' V8 ⟨rfl, hA⟩; have HW8 := hi (HW7.out.put hA (by omega)); have HA8 := hi hA.kept; have n0 := HW8.out.n.cell 0; have n1 := HW8.out.n.frozen 0; clear hA))
            | gi_in)
          have HKV := hi (show Kept (fun i => i = w.heap.size + 3 ∨ i = g) V (V8.setCell ⟨w.heap.size + 3, 0, none⟩ (.int .i64 m2)) from (((Kept.of HB7.out).trans (HA8.out.mono (fun i e => .inr e))).set _ _ (.inl rfl)))
          refine ⟨KW.of_kept HKV.out (fun i q => by omega), KpS.kept HKV.out (fun i q => by have := HKS.out i q; omega) (by omega) (fun i q1 q2 => by rcases q2 with q2 | q2; exact (by have := HKB.out i q2; omega); omega), ?_⟩
          refine (?_ : WA w w5 b g cap f0 (wrL ⟨r, fp, c⟩ f0 v es (pre ++ [x])).1 (wrL ⟨r, fp, c⟩ f0 v es (pre ++ [x])).2 _)
          rw [HSN.out]
          exact HW8.out.count m2 (by omega) (by omega)
      · go_simp
        have hb4b := bal V3a (.cells #[.bool false, .bool false, .bool false, .bool false, .bool false, .int .i64 0, .int .i64 0] 58)
        have HS4b := hi (And.intro (HS3a.out.1.below hb4b) (And.intro (HS3a.out.2.1.below hb4b) (HS3a.out.2.2.below hb4b))); have HB4b := hi (HB3a.out.trans (hb4b.mono HB3a.out.size)); have hz4b := hb4b.size
        have HZ4b := hi (CB.new V3a 58 #[.bool false, .bool false, .bool false, .bool false, .bool false, .int .i64 0, .int .i64 0])
        obtain ⟨V4b, hV4b⟩ : ∃ V4b, V3a.alloc (.cells #[.bool false, .bool false, .bool false, .bool false, .bool false, .int .i64 0, .int .i64 0] 58) = V4b := ⟨_, rfl⟩
        rw [hV4b] at hb4b HS4b HB4b hz4b HZ4b ⊢
        obtain ⟨N, hN⟩ : ∃ N, V3a.heap.size = N := ⟨_, rfl⟩
        rw [hN] at HZ4b ⊢
        clear hV4b hb4b
        refine hKK.out _ _ HS4b.out (fun hHeld => ?_)
        clear hKK KK
        (try simp only [Act.put, List.getElem_toArray, List.getElem_cons_zero, List.getElem_cons_succ, List.setIfInBounds_toArray, List.set_cons_zero, List.set_cons_succ])
        refine wpAnyF_ready (rs := [9]) (by kernel_rfl) (by simp) ?_
        refine AllReadyF.cons rfl (fun KK hKK => ?_) AllReadyF.nil
        go_simp
        ((with_reducible refine (HCH.out _).mono ?_); rintro e' V5b ⟨rfl, hb⟩; have HS5b := hi (And.intro (HS4b.out.1.below hb) (And.intro (HS4b.out.2.1.below hb) (HS4b.out.2.2.below hb))); have HB5b := hi (HB4b.out.trans (hb.mono HB4b.out.size)); have hz5b := hb.size; have HZ5b := hi (HZ4b.out.below hb); clear hb)
        (try go_simp)
        refine hKK.out _ _ HS5b.out (fun hHeld => ?_)
        clear hKK KK
        (try simp only [Act.put, List.getElem_toArray, List.getElem_cons_zero, List.getElem_cons_succ, List.setIfInBounds_toArray, List.set_cons_zero, List.set_cons_succ])
        refine wpAnyF_ready (rs := [11]) (by kernel_rfl) (by simp) ?_
        refine AllReadyF.last (by kernel_rfl) rfl (fun KK hKK => ?_) AllReadyF.nil
        obtain ⟨z0, z1, z2, z3, z4, z5, z6⟩ := CB.cells7 (l := Ln.zero) HZ5b.out
        have fz := HZ5b.out.frozen
        dsimp only [Ln.zero, St.zero] at z0 z1 z2 z3 z4 z5 z6
        go_simp
        have HSE := HS5b
        have HBE := HB5b
        have HZE := HZ5b
        obtain ⟨VE, hVE⟩ : ∃ VE, V5b = VE := ⟨_, rfl⟩
        have hNE : V1.heap.size + 1 ≤ N := by have := hsz3.out; omega
        rw [hVE] at HSE HBE HZE ⊢
        refine hKK.out _ _ ?_
        clear hKK KK
        (try simp only [Act.put, List.getElem_toArray, List.getElem_cons_zero, List.getElem_cons_succ, List.setIfInBounds_toArray, List.set_cons_zero, List.set_cons_succ])
        refine wpAnyF_done (by kernel_rfl) ?_ _
        refine normQ_in ?_
        have hN1 := HZE.out.lt
        have HNL := hi (CB.putL (y := Ln.zero) HZE.out ⟨⟨ne, nl, nq, na⟩, nn, ng, np⟩)
        have HEL := hi (show CB (setL VE N 0 ⟨⟨ne, nl, nq, na⟩, nn, ng, np⟩) V1.heap.size 115 #[.bool e, .bool lb', .bool q, .bool a, .bool en, .int .i64 gr, .int .i64 pr, .int .i64 s.c, .bool s.y] from HSE.out.2.2.otherL (by omega) _)
        have HBL := hi (show Below V.heap.size V (setL VE N 0 ⟨⟨ne, nl, nq, na⟩, nn, ng, np⟩) from below_putL HBE.out (by omega) _)
        dsimp only [setL] at HNL HEL HBL
        obtain ⟨V6, hV6⟩ : ∃ V6, ((((((VE.setCell ⟨N, 0, none⟩ (.bool ne)).setCell ⟨N, 0 + 1, none⟩ (.bool nl)).setCell ⟨N, 0 + 2, none⟩ (.bool nq)).setCell ⟨N, 0 + 3, none⟩ (.bool na)).setCell ⟨N, 0 + 4, none⟩ (.bool nn)).setCell ⟨N, 0 + 5, none⟩ (.int .i64 ng)).setCell ⟨N, 0 + 6, none⟩ (.int .i64 np) = V6 := ⟨_, rfl⟩
        simp only [Nat.zero_add] at hV6
        simp only [Nat.zero_add, hV6] at HNL HEL HBL
        try rw [hV6]
        obtain ⟨k0, k1, k2, k3, k4, k5, k6⟩ := CB.cells7 (l := ⟨⟨ne, nl, nq, na⟩, nn, ng, np⟩) HNL.out
        obtain ⟨d0, d1, d2, d3, d4, d5, d6, d7, d8⟩ := CB.ent (x := ⟨⟨⟨e, lb', q, a⟩, en, gr, pr⟩, s⟩) HEL.out
        have fe := HEL.out.frozen
        dsimp only at k0 k1 k2 k3 k4 k5 k6 d0 d1 d2 d3 d4 d5 d6 d7 d8
        have z3 := (HV3.out.below HBL.out).cell 0
        have HW6 := hi (HJ.out.later HBL.out)
        clear hV6 hV2d hV2d' hHeld HSE HBE HZE hNE hN hVE hS0
        by_cases heq : (⟨⟨ne, nl, nq, na⟩, nn, ng, np⟩ : Ln) = ⟨⟨e, lb', q, a⟩, en, gr, pr⟩
        · rw [if_pos heq, heq, HSELF.out] at HSN
          have hd : eqLn ne nl nq na nn ng np e lb' q a en gr pr = true := by rw [hdec]; exact decide_eq_true heq
          clear hdec heq
          gi_wp2
          refine ⟨KW.of_below HBL.out, KpS.of_below HBL.out (fun i q => by have := HKS.out i q; omega) (by omega), ?_⟩
          refine (?_ : WA w w5 b g cap f0 (wrL ⟨r, fp, c⟩ f0 v es (pre ++ [x])).1 (wrL ⟨r, fp, c⟩ f0 v es (pre ++ [x])).2 V6)
          rw [HSN.out]
          exact HW6.out
        · rw [if_neg heq] at HSN
          have hd : eqLn ne nl nq na nn ng np e lb' q a en gr pr = false := by rw [hdec]; exact decide_eq_false heq
          have hB7 : Below V.heap.size V (setL V6 V1.heap.size 0 ⟨⟨ne, nl, nq, na⟩, nn, ng, np⟩) := below_putL HBL.out (by omega) _
          have HB7 := hi hB7
          have HW7 := hi (HJ.out.later hB7)
          have z7 := (HV3.out.below hB7).cell 0
          dsimp only [setL] at HB7 HW7 z7
          simp only [Nat.zero_add] at HB7 HW7 z7
          clear hdec heq hB7
          gi_wp2_with (first
            | (refine ⟨trivial, ?_⟩; gi_at_call 85; ((with_reducible refine (CallsIn.inRound l' (callsIn_wide.2 (HPT.out _ HW7.out.bk))).mono ?_); rintro e' V8 ⟨rfl, hA⟩; have HW8 := hi (HW7.out.put hA (by omega)); have HA8 := hi hA.kept; have n0 := HW8.out.n.cell 0; have n1 := HW8.out.n.frozen 0; clear hA))
            | gi_in)
          have HKV := hi (show Kept (fun i => i = w.heap.size + 3 ∨ i = g) V (V8.setCell ⟨w.heap.size + 3, 0, none⟩ (.int .i64 m2)) from (((Kept.of HB7.out).trans (HA8.out.mono (fun i e => .inr e))).set _ _ (.inl rfl)))
          refine ⟨KW.of_kept HKV.out (fun i q => by omega), KpS.kept HKV.out (fun i q => by have := HKS.out i q; omega) (by omega) (fun i q1 q2 => by rcases q2 with q2 | q2; exact (by have := HKB.out i q2; omega); omega), ?_⟩
          refine (?_ : WA w w5 b g cap f0 (wrL ⟨r, fp, c⟩ f0 v es (pre ++ [x])).1 (wrL ⟨r, fp, c⟩ f0 v es (pre ++ [x])).2 _)
          rw [HSN.out]
          exact HW8.out.count m2 (by omega) (by omega)
    · go_simp
      have hb3c := bal V2 (.cells #[.bool false, .bool false, .bool false, .bool false, .bool false, .int .i64 0, .int .i64 0] 58)
      have HS3c := hi (And.intro (HS2.out.1.below hb3c) (And.intro (HS2.out.2.1.below hb3c) (HS2.out.2.2.below hb3c))); have HB3c := hi (HB2.out.trans (hb3c.mono HB2.out.size)); have hz3c := hb3c.size
      have HZ3c := hi (CB.new V2 58 #[.bool false, .bool false, .bool false, .bool false, .bool false, .int .i64 0, .int .i64 0])
      obtain ⟨V3c, hV3c⟩ : ∃ V3c, V2.alloc (.cells #[.bool false, .bool false, .bool false, .bool false, .bool false, .int .i64 0, .int .i64 0] 58) = V3c := ⟨_, rfl⟩
      rw [hV3c] at hb3c HS3c HB3c hz3c HZ3c ⊢
      obtain ⟨N, hN⟩ : ∃ N, V2.heap.size = N := ⟨_, rfl⟩
      rw [hN] at HZ3c ⊢
      clear hV3c hb3c
      refine hKK.out _ _ HS3c.out (fun hHeld => ?_)
      clear hKK KK
      (try simp only [Act.put, List.getElem_toArray, List.getElem_cons_zero, List.getElem_cons_succ, List.setIfInBounds_toArray, List.set_cons_zero, List.set_cons_succ])
      refine wpAnyF_ready (rs := [8]) (by kernel_rfl) (by simp) ?_
      refine AllReadyF.cons rfl (fun KK hKK => ?_) AllReadyF.nil
      go_simp
      ((with_reducible refine (HFD1.out _).mono ?_); rintro e' V4c ⟨rfl, hb⟩; have HS4c := hi (And.intro (HS3c.out.1.below hb) (And.intro (HS3c.out.2.1.below hb) (HS3c.out.2.2.below hb))); have HB4c := hi (HB3c.out.trans (hb.mono HB3c.out.size)); have hz4c := hb.size; have HZ4c := hi (HZ3c.out.below hb); clear hb)
      (try go_simp)
      refine hKK.out _ _ HS4c.out (fun hHeld => ?_)
      clear hKK KK
      (try simp only [Act.put, List.getElem_toArray, List.getElem_cons_zero, List.getElem_cons_succ, List.setIfInBounds_toArray, List.set_cons_zero, List.set_cons_succ])
      refine wpAnyF_ready (rs := [9]) (by kernel_rfl) (by simp) ?_
      refine AllReadyF.cons rfl (fun KK hKK => ?_) AllReadyF.nil
      go_simp
      ((with_reducible refine (HCH.out _).mono ?_); rintro e' V5c ⟨rfl, hb⟩; have HS5c := hi (And.intro (HS4c.out.1.below hb) (And.intro (HS4c.out.2.1.below hb) (HS4c.out.2.2.below hb))); have HB5c := hi (HB4c.out.trans (hb.mono HB4c.out.size)); have hz5c := hb.size; have HZ5c := hi (HZ4c.out.below hb); clear hb)
      (try go_simp)
      refine hKK.out _ _ HS5c.out (fun hHeld => ?_)
      clear hKK KK
      (try simp only [Act.put, List.getElem_toArray, List.getElem_cons_zero, List.getElem_cons_succ, List.setIfInBounds_toArray, List.set_cons_zero, List.set_cons_succ])
      refine wpAnyF_ready (rs := [11]) (by kernel_rfl) (by simp) ?_
      refine AllReadyF.last (by kernel_rfl) rfl (fun KK hKK => ?_) AllReadyF.nil
      obtain ⟨z0, z1, z2, z3, z4, z5, z6⟩ := CB.cells7 (l := Ln.zero) HZ5c.out
      have fz := HZ5c.out.frozen
      dsimp only [Ln.zero, St.zero] at z0 z1 z2 z3 z4 z5 z6
      go_simp
      have HSE := HS5c
      have HBE := HB5c
      have HZE := HZ5c
      obtain ⟨VE, hVE⟩ : ∃ VE, V5c = VE := ⟨_, rfl⟩
      have hNE : V1.heap.size + 1 ≤ N := by have := hsz3.out; omega
      rw [hVE] at HSE HBE HZE ⊢
      refine hKK.out _ _ ?_
      clear hKK KK
      (try simp only [Act.put, List.getElem_toArray, List.getElem_cons_zero, List.getElem_cons_succ, List.setIfInBounds_toArray, List.set_cons_zero, List.set_cons_succ])
      refine wpAnyF_done (by kernel_rfl) ?_ _
      refine normQ_in ?_
      have hN1 := HZE.out.lt
      have HNL := hi (CB.putL (y := Ln.zero) HZE.out ⟨⟨ne, nl, nq, na⟩, nn, ng, np⟩)
      have HEL := hi (show CB (setL VE N 0 ⟨⟨ne, nl, nq, na⟩, nn, ng, np⟩) V1.heap.size 115 #[.bool e, .bool lb', .bool q, .bool a, .bool en, .int .i64 gr, .int .i64 pr, .int .i64 s.c, .bool s.y] from HSE.out.2.2.otherL (by omega) _)
      have HBL := hi (show Below V.heap.size V (setL VE N 0 ⟨⟨ne, nl, nq, na⟩, nn, ng, np⟩) from below_putL HBE.out (by omega) _)
      dsimp only [setL] at HNL HEL HBL
      obtain ⟨V6, hV6⟩ : ∃ V6, ((((((VE.setCell ⟨N, 0, none⟩ (.bool ne)).setCell ⟨N, 0 + 1, none⟩ (.bool nl)).setCell ⟨N, 0 + 2, none⟩ (.bool nq)).setCell ⟨N, 0 + 3, none⟩ (.bool na)).setCell ⟨N, 0 + 4, none⟩ (.bool nn)).setCell ⟨N, 0 + 5, none⟩ (.int .i64 ng)).setCell ⟨N, 0 + 6, none⟩ (.int .i64 np) = V6 := ⟨_, rfl⟩
      simp only [Nat.zero_add] at hV6
      simp only [Nat.zero_add, hV6] at HNL HEL HBL
      try rw [hV6]
      obtain ⟨k0, k1, k2, k3, k4, k5, k6⟩ := CB.cells7 (l := ⟨⟨ne, nl, nq, na⟩, nn, ng, np⟩) HNL.out
      obtain ⟨d0, d1, d2, d3, d4, d5, d6, d7, d8⟩ := CB.ent (x := ⟨⟨⟨e, lb', q, a⟩, en, gr, pr⟩, s⟩) HEL.out
      have fe := HEL.out.frozen
      dsimp only at k0 k1 k2 k3 k4 k5 k6 d0 d1 d2 d3 d4 d5 d6 d7 d8
      have z3 := (HV3.out.below HBL.out).cell 0
      have HW6 := hi (HJ.out.later HBL.out)
      clear hV6 hV2d hV2d' hHeld HSE HBE HZE hNE hN hVE hS0
      by_cases heq : (⟨⟨ne, nl, nq, na⟩, nn, ng, np⟩ : Ln) = ⟨⟨e, lb', q, a⟩, en, gr, pr⟩
      · rw [if_pos heq, heq, HSELF.out] at HSN
        have hd : eqLn ne nl nq na nn ng np e lb' q a en gr pr = true := by rw [hdec]; exact decide_eq_true heq
        clear hdec heq
        gi_wp2
        refine ⟨KW.of_below HBL.out, KpS.of_below HBL.out (fun i q => by have := HKS.out i q; omega) (by omega), ?_⟩
        refine (?_ : WA w w5 b g cap f0 (wrL ⟨r, fp, c⟩ f0 v es (pre ++ [x])).1 (wrL ⟨r, fp, c⟩ f0 v es (pre ++ [x])).2 V6)
        rw [HSN.out]
        exact HW6.out
      · rw [if_neg heq] at HSN
        have hd : eqLn ne nl nq na nn ng np e lb' q a en gr pr = false := by rw [hdec]; exact decide_eq_false heq
        have hB7 : Below V.heap.size V (setL V6 V1.heap.size 0 ⟨⟨ne, nl, nq, na⟩, nn, ng, np⟩) := below_putL HBL.out (by omega) _
        have HB7 := hi hB7
        have HW7 := hi (HJ.out.later hB7)
        have z7 := (HV3.out.below hB7).cell 0
        dsimp only [setL] at HB7 HW7 z7
        simp only [Nat.zero_add] at HB7 HW7 z7
        clear hdec heq hB7
        gi_wp2_with (first
          | (refine ⟨trivial, ?_⟩; gi_at_call 85; ((with_reducible refine (CallsIn.inRound l' (callsIn_wide.2 (HPT.out _ HW7.out.bk))).mono ?_); rintro e' V8 ⟨rfl, hA⟩; have HW8 := hi (HW7.out.put hA (by omega)); have HA8 := hi hA.kept; have n0 := HW8.out.n.cell 0; have n1 := HW8.out.n.frozen 0; clear hA))
          | gi_in)
        have HKV := hi (show Kept (fun i => i = w.heap.size + 3 ∨ i = g) V (V8.setCell ⟨w.heap.size + 3, 0, none⟩ (.int .i64 m2)) from (((Kept.of HB7.out).trans (HA8.out.mono (fun i e => .inr e))).set _ _ (.inl rfl)))
        refine ⟨KW.of_kept HKV.out (fun i q => by omega), KpS.kept HKV.out (fun i q => by have := HKS.out i q; omega) (by omega) (fun i q1 q2 => by rcases q2 with q2 | q2; exact (by have := HKB.out i q2; omega); omega), ?_⟩
        refine (?_ : WA w w5 b g cap f0 (wrL ⟨r, fp, c⟩ f0 v es (pre ++ [x])).1 (wrL ⟨r, fp, c⟩ f0 v es (pre ++ [x])).2 _)
        rw [HSN.out]
        exact HW8.out.count m2 (by omega) (by omega)
  case done =>
    rintro ys V rfl hJ hK hs2
    have v0 := hJ.n.cell 0
    have HW := hi hJ
    have HK := hi hK
    clear hJ hK
    dsimp only
    go_wp2
    refine ⟨by simp, .inl ⟨_, _, rfl, run_takeDeferred HK.out, ?_⟩⟩
    exact ⟨_, results_tmp rfl _ _ _, rfl, HW.out.done XB.out hbw hgw _ _ (by omega)⟩
  case stop =>
    rintro cd pre V hpre h hK _
    exact h.elim
end Go.Proofs.YtggeakkofcaklaaGreat
