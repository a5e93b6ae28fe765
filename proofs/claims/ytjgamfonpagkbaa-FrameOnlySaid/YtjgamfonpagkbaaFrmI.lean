/-
  frame.Read, over any place of few interrupts.
-/
import Derived.Test.YtjgamfonpagkbaaFrmH
namespace Go.Proofs.Ytjgamfonpagkbaa
open Go.ChangeShapes Go.WideShapes Go.ChangeAt Go.RowKit Go.Shelf
set_option linter.unusedVariables false
attribute [local go_sem] Oper.semAt_some

def FineAll (es : List En) : Prop := ∀ x ∈ es, Fine x.ln
theorem FineAll.nth {es : List En} (h : FineAll es) {k : Nat} (hk : k < es.length) : Fine (nthE es k).ln := h _ (List.mem_of_getElem? (nthE_at hk))
/-- Where the k-th interrupt of a place stands in a bank. -/
def plcK (f0 fp : Int) (k : Nat) : Nat := (fp + k - f0).toNat
theorem pres_mem {f0 : Int} {n c : Nat} {fp : Int} {pre : List Nat} {k : Nat} (h : pre ++ [k] <+: presL f0 n fp c) : k < c ∧ hasB f0 n (fp + k) = true := by
  have h1 : k ∈ presL f0 n fp c := h.subset (by simp)
  rw [presL, List.mem_filter, List.mem_range] at h1
  exact h1
theorem plc_at {f0 fp : Int} {n k : Nat} (h : hasB f0 n (fp + k) = true) : fp + k = f0 + (plcK f0 fp k : Nat) ∧ plcK f0 fp k < n := by
  rw [hasB_iff] at h
  unfold plcK
  omega
/-- What is read of some of a place's interrupts. -/
def readL (p : Pl) (f0 : Int) (es : List En) (ks : List Nat) : Nat := ks.foldl (fun v k => withN (wideN p.r) v k (toldV (nthE es (plcK f0 p.f k)).ln p.r)) 0
theorem readL_snoc (p : Pl) (f0 : Int) (es : List En) (ks : List Nat) (k : Nat) : readL p f0 es (ks ++ [k]) = withN (wideN p.r) (readL p f0 es ks) k (toldV (nthE es (plcK f0 p.f k)).ln p.r) := by simp [readL]
theorem readL_lt (p : Pl) (f0 : Int) (es : List En) (ks : List Nat) : readL p f0 es ks < 18446744073709551616 := by
  rcases List.eq_nil_or_concat ks with rfl | ⟨r, k, rfl⟩
  · show (0 : Nat) < _; decide
  · rw [List.concat_eq_append, readL_snoc]; exact withN_lt _ _ _ _
/-- What Read answers. -/
def readV (p : Pl) (c : Nat) (f0 : Int) (es : List En) : Nat := readL p f0 es (presL f0 es.length p.f c)

/-- Where Read's loop stands. -/
structure RA (w w5 : World) (v : Nat) (V : World) : Prop where
  v : CB V (w.heap.size + 2) 29 #[.int .u64 v]
  kept : Kept (· = w.heap.size + 2) w5 V
theorem RA.later {w w5 V V' : World} {v : Nat} (h : RA w w5 v V) (k : Below V.heap.size V V') : RA w w5 v V' := ⟨h.v.below k, h.kept.below k⟩
theorem RA.set {w w5 V : World} {v : Nat} (h : RA w w5 v V) (d : Nat) : RA w w5 d (V.setCell ⟨w.heap.size + 2, 0, none⟩ (.int .u64 d)) := ⟨h.v.set 0 _, h.kept.set _ _ rfl⟩
theorem Kept.grownW {bs : Nat → Prop} {A B C : World} {row : Option Nat} (h : Kept bs A B) (hg : B.grownBy C row) (hr : ∀ r, row = some r → A.heap.size ≤ r) : Kept bs A C :=
  ⟨hg.os.trans h.os, hg.tape.trans h.tape, hg.output.trans h.output, Nat.le_trans h.size hg.size, fun i hi' hn => (hg.block i (Nat.lt_of_lt_of_le hi' h.size) (fun e => by have := hr _ e.symm; omega)).trans (h.block i hi' hn)⟩

set_option maxRecDepth 100000 in
set_option maxHeartbeats 16000000 in
theorem read_any {b g cap : Nat} {f0 : Int} {es : List En} {p : Pl} {c : Nat} {w : World} (h : BkAt w b g cap f0 es) (hf : Fit f0 es.length) (hfine : FineAll es) (hp : PlOk p c) :
    Calls Try.prog 14 #[.pointer (some ⟨b, 0, none⟩), p.v] w fun e w' => e = .returned (.int .u64 (readV p c f0 es : Nat)) ∧ Below w.heap.size w w' := by
  have HP := hi hp
  have HF := hi hf
  have HFA := hi hfine
  have H := hi h
  have CP := hi (fun W (hW : Below w.heap.size w W) => present_it b (.slice (some ⟨g, 0, none⟩) es.length cap) p f0 W (h.below hW).box)
  have HWT := hi (fun v k x W hv hk hc => with_any v p k x W hv hk hc)
  have hbw := h.box.lt
  obtain ⟨n, hn⟩ : ∃ n, es.length = n := ⟨_, rfl⟩
  have HN := hi hn
  have hpk := hp.cnt
  have hfew := hp.few
  unfold readV
  rw [hn] at CP ⊢
  clear h hf hfine hp hn
  obtain ⟨r, fp, pc⟩ := p
  dsimp only at hpk
  subst hpk
  dsimp only [Pl.v, Pl.cs] at CP HWT ⊢
  have H2 := hi (((CB.new w 24 #[.pointer (some ⟨b, 0, none⟩)]).alloc (.cells #[.int .i64 r, .int .i64 fp, .int .i64 c] 37)).alloc (.cells #[.int .u64 0] 29))
  have H3 := hi ((cb_second (w := w) (o := .cells #[.pointer (some ⟨b, 0, none⟩)] 24) (cs := #[.int .i64 r, .int .i64 fp, .int .i64 c]) (t := 37)).alloc (.cells #[.int .u64 0] 29))
  have H5 := hi (CB.new ((w.alloc (.cells #[.pointer (some ⟨b, 0, none⟩)] 24)).alloc (.cells #[.int .i64 r, .int .i64 fp, .int .i64 c] 37)) 29 #[.int .u64 0])
  have HB := hi (bal_three w (.cells #[.pointer (some ⟨b, 0, none⟩)] 24) (.cells #[.int .i64 r, .int .i64 fp, .int .i64 c] 37) (.cells #[.int .u64 0] 29))
  have HSZ := hi (show ((((w.alloc (.cells #[.pointer (some ⟨b, 0, none⟩)] 24)).alloc (.cells #[.int .i64 r, .int .i64 fp, .int .i64 c] 37)).alloc (.cells #[.int .u64 0] 29)).heap.size) = w.heap.size + 3 by simp)
  simp only [World.size_alloc] at H5
  refine (callsIn_wide (n := 6)).1 ?_
  refine callsIn_of_wp_marks Try.func14 rfl trivial ?_ rfl
  simp only [Try.ntmps14, List.size_toArray, List.length_cons, List.length_nil, Nat.reduceAdd, Nat.reduceSub, Array.replicate_succ, Array.replicate_zero, List.push_toArray, List.append_toArray, List.nil_append, List.cons_append]
  refine wpIn_wide.2 ?_
  go_wp2_with (go_at_call 31; ((with_reducible refine (CP.out _ HB.out).mono ?_); rintro e' w5 ⟨pp, bp, rfl, hpp, hbp, hpr, hb⟩; have HPR := hi hpr; have X2 := hi (H2.out.below hb); have X3 := hi (H3.out.below hb); have X5 := hi (H5.out.below hb); have XB := hi (HB.out.trans (hb.mono HB.out.size)); have hs5 := hb.size; rw [HSZ.out] at hs5 hpp hbp; clear hb hpr H2 H3 H5))
  have HKS := hi HPR.out.lt
  have hppl := HPR.out.pl.lt
  have hbpl := HPR.out.bx.lt
  have HST := hi (pres_stops pp bp b g n cap ⟨r, fp, c⟩ c f0 HP.out HF.out.f0 w5 HPR.out)
  have HJ0 := hi (show RA w w5 0 w5 from ⟨X5.out, Kept.refl _ _⟩)
  have hkb : ∀ i, ksP pp bp b i → i ≠ w.heap.size + 2 := fun i q => by rcases q with rfl | rfl | rfl <;> omega
  have HKB := hi hkb
  clear hkb CP HB HSZ
  refine (wpIn_wide (n := 6)).1 ?_
  refine range_win (n := 6) (by omega) (gf := 49) (lb := #[.pointer (some ⟨pp, 0, none⟩), .pointer (some ⟨bp, 0, none⟩)]) rfl (enters_of Try.func49 (by kernel_rfl) rfl)
    HST.out (fun a b => KpS.trans a b) (fun V l o o' h1 h2 h3 h4 => kps_put (fun q => by have := HKS.out l q; omega) (by omega)) (Below.refl _ _) (fun _ => rfl)
    (fun pre V => RA w w5 (readL ⟨r, fp, c⟩ f0 es pre) V)
    (fun cd pre V => False)
    (AbL.of (m := 2 + 5) (fun s A A' row hs hg hr => ⟨hs.v.kept hg (fun e => by have := hr _ e.symm; omega), hs.kept.grownW hg (fun r e => by have := hr _ e; omega)⟩) rfl)
    (fun _ _ _ _ _ hs _ _ => hs)
    HJ0.out
    (fun x a' V => a' = { tmps := #[.pointer (some ⟨b, 0, none⟩), .agg #[.int .i64 r, .int .i64 fp, .int .i64 c], .pointer (some ⟨w.heap.size, 0, none⟩), .pointer (some ⟨w.heap.size + 1, 0, none⟩), .int .u64 0, .pointer (some ⟨w.heap.size + 1 + 1, 0, none⟩), .int .i64 x, .int .i64 (fp + (x : Int)), undef, undef, .pointer (some ⟨b, 0, none⟩), .agg #[.int .i64 r, .int .i64 fp, .int .i64 c], .func (.func 49) #[] #[.pointer (some ⟨pp, 0, none⟩), .pointer (some ⟨bp, 0, none⟩)], .int .i64 x, .int .i64 (fp + (x : Int)), undef, undef, undef, undef, undef, undef, undef, undef, undef, undef, undef, undef, undef, undef, undef, undef], defers := [] })
    (fun x a' => AbL.pure _ _ _)
    ?assign ?body ?done ?stop
  case assign =>
    rintro l' pre x V K h hsz hK
    gi_wp2
    exact hK _ _ (KW.refl _ _) (KpS.refl _ _ _ _) h rfl
  case body =>
    rintro l' pre x a' V hsz hJ rfl hpx
    obtain ⟨hxc, hin⟩ := pres_mem hpx
    obtain ⟨hid, hjn⟩ := plc_at hin
    have HSN := hi (readL_snoc ⟨r, fp, c⟩ f0 es pre x)
    have hvlt := readL_lt ⟨r, fp, c⟩ f0 es pre
    have HJ := hi hJ
    have HBV := hi (XB.out.trans (HJ.out.kept.toBelow XB.out.size (fun i e => by subst e; omega)))
    have HBK := hi (H.out.below HBV.out)
    obtain ⟨j, hj⟩ : ∃ j, plcK f0 fp x = j := ⟨_, rfl⟩
    dsimp only at HSN
    rw [hj] at hid hjn HSN
    have hke : es[j]? = some (nthE es j) := nthE_at (by rw [HN.out]; exact hjn)
    have hfj : Fine (nthE es j).ln := HFA.out.nth (by rw [HN.out]; exact hjn)
    obtain ⟨y, hy⟩ : ∃ y, nthE es j = y := ⟨_, rfl⟩
    rw [hy] at hke hfj HSN
    have HT := hi (fun W => told_any y.ln r W hfj)
    have hty := toldV_le hfj r
    have HG := hi (get_yes HBK.out HF.out hke)
    rw [← hid] at HG
    obtain ⟨t, ht⟩ : ∃ t, toldV y.ln r = t := ⟨_, rfl⟩
    rw [ht] at HT HSN hty
    obtain ⟨v, hv⟩ : ∃ v, readL ⟨r, fp, c⟩ f0 es pre = v := ⟨_, rfl⟩
    rw [hv] at HSN hvlt HJ
    have HW := hi (fun W => HWT.out v x t W hvlt (by omega) (by simpa using hxc))
    obtain ⟨v2, hv2⟩ : ∃ v2, withN (wideN r) v x t = v2 := ⟨_, rfl⟩
    rw [hv2] at HW HSN
    have v2' := (X2.out.keptB HJ.out.kept (show ¬ w.heap.size = w.heap.size + 2 by omega)).cell 0
    have HV2 := hi (X2.out.keptB HJ.out.kept (show ¬ w.heap.size = w.heap.size + 2 by omega))
    have HV3 := hi (X3.out.keptB HJ.out.kept (show ¬ w.heap.size + 1 = w.heap.size + 2 by omega))
    clear hJ hpx hin hj hke hfj hy ht hv hv2 hid
    obtain ⟨⟨⟨e, lb', q, a⟩, en, gr, pr⟩, s⟩ := y
    dsimp only [En.v, Ln.v] at HG HT
    gi_wp2_with (first
      | (refine ⟨trivial, ?_⟩; gi_at_call 19; ((with_reducible refine (CallsIn.inRound l' (callsIn_wide.2 HG.out)).mono ?_); rintro e' V1 ⟨rfl, hB⟩; have HBv := hi hB; clear hB))
      | gi_in)
    have HBA := hi (HBv.out.alloc HBv.out.size (.cells #[.bool e, .bool lb', .bool q, .bool a, .bool en, .int .i64 gr, .int .i64 pr, .string s] 54))
    have hS0 : (fun W' => CB W' (w.heap.size + 2) 29 #[.int .u64 v] ∧ CB W' (w.heap.size + 1) 37 #[.int .i64 r, .int .i64 fp, .int .i64 c] ∧ CB W' V1.heap.size 54 #[.bool e, .bool lb', .bool q, .bool a, .bool en, .int .i64 gr, .int .i64 pr, .string s]) (V1.alloc (.cells #[.bool e, .bool lb', .bool q, .bool a, .bool en, .int .i64 gr, .int .i64 pr, .string s] 54)).drew :=
      ⟨(HJ.out.v.below HBA.out).drew, (HV3.out.below HBA.out).drew, (CB.new _ _ _).drew⟩
    obtain ⟨V2, hV2⟩ : ∃ V2, (V1.alloc (.cells #[.bool e, .bool lb', .bool q, .bool a, .bool en, .int .i64 gr, .int .i64 pr, .string s] 54)) = V2 := ⟨_, rfl⟩
    rw [hV2] at HBA hS0 ⊢
    have HBD := hi (Below.drewN (m := 1) HBA.out)
    clear hV2 v2'
    refine region_last_r (S := (fun W' => CB W' (w.heap.size + 2) 29 #[.int .u64 v] ∧ CB W' (w.heap.size + 1) 37 #[.int .i64 r, .int .i64 fp, .int .i64 c] ∧ CB W' V1.heap.size 54 #[.bool e, .bool lb', .bool q, .bool a, .bool en, .int .i64 gr, .int .i64 pr, .string s])) [9] (by kernel_rfl) (by rfl) hS0 (fun hHeld => ?_)
    (try simp only [Array.replicate_succ, Array.replicate_zero, List.push_toArray, List.nil_append, List.cons_append])
    refine wpAnyF_take (i := 0) (v := ?_) (by kernel_rfl) (by kernel_rfl) rfl (by kernel_rfl) (by kernel_rfl) (by kernel_rfl) (fun _ _ _ h => h) (Or.inl ⟨by rfl, ?_⟩) (by assumption) ?_
    rotate_left
    · intro w' hSw; (try dsimp only at hSw); obtain ⟨hs1, hs2, hs3⟩ := hSw; have k0 := hs1.cell 0; have p0 := hs2.cell 0; have p1 := hs2.cell 1; have p2 := hs2.cell 2; obtain ⟨d0, d1, d2, d3, d4, d5, d6, d7⟩ := CB.ent (x := ⟨⟨⟨e, lb', q, a⟩, en, gr, pr⟩, s⟩) hs3; dsimp only at d0 d1 d2 d3 d4 d5 d6 d7; go_simp; (try with_reducible rfl)
    (try simp only [Act.put, List.getElem_toArray, List.getElem_cons_zero, List.setIfInBounds_toArray, List.set_cons_zero, List.set_cons_succ])
    refine wpAnyF_take (i := 1) (v := ?_) (by kernel_rfl) (by kernel_rfl) rfl (by kernel_rfl) (by kernel_rfl) (by kernel_rfl) (fun _ _ _ h => h) (Or.inl ⟨by rfl, ?_⟩) (by assumption) ?_
    rotate_left
    · intro w' hSw; (try dsimp only at hSw); obtain ⟨hs1, hs2, hs3⟩ := hSw; have k0 := hs1.cell 0; have p0 := hs2.cell 0; have p1 := hs2.cell 1; have p2 := hs2.cell 2; obtain ⟨d0, d1, d2, d3, d4, d5, d6, d7⟩ := CB.ent (x := ⟨⟨⟨e, lb', q, a⟩, en, gr, pr⟩, s⟩) hs3; dsimp only at d0 d1 d2 d3 d4 d5 d6 d7; go_simp; (try with_reducible rfl)
    (try simp only [Act.put, List.getElem_toArray, List.getElem_cons_zero, List.getElem_cons_succ, List.setIfInBounds_toArray, List.set_cons_zero, List.set_cons_succ])
    refine wpAnyF_take (i := 2) (v := ?_) (by kernel_rfl) (by kernel_rfl) rfl (by kernel_rfl) (by kernel_rfl) (by kernel_rfl) (fun _ _ _ h => h) (Or.inl ⟨by rfl, ?_⟩) (by assumption) ?_
    rotate_left
    · intro w' hSw; (try dsimp only at hSw); obtain ⟨hs1, hs2, hs3⟩ := hSw; have k0 := hs1.cell 0; have p0 := hs2.cell 0; have p1 := hs2.cell 1; have p2 := hs2.cell 2; obtain ⟨d0, d1, d2, d3, d4, d5, d6, d7⟩ := CB.ent (x := ⟨⟨⟨e, lb', q, a⟩, en, gr, pr⟩, s⟩) hs3; dsimp only at d0 d1 d2 d3 d4 d5 d6 d7; go_simp; (try with_reducible rfl)
    (try simp only [Act.put, List.getElem_toArray, List.getElem_cons_zero, List.getElem_cons_succ, List.setIfInBounds_toArray, List.set_cons_zero, List.set_cons_succ])
    refine wpAnyF_take (i := 3) (v := ?_) (by kernel_rfl) (by kernel_rfl) rfl (by kernel_rfl) (by kernel_rfl) (by kernel_rfl) (fun _ _ _ h => h) (Or.inl ⟨by rfl, ?_⟩) (by assumption) ?_
    rotate_left
    · intro w' hSw; (try dsimp only at hSw); obtain ⟨hs1, hs2, hs3⟩ := hSw; have k0 := hs1.cell 0; have p0 := hs2.cell 0; have p1 := hs2.cell 1; have p2 := hs2.cell 2; obtain ⟨d0, d1, d2, d3, d4, d5, d6, d7⟩ := CB.ent (x := ⟨⟨⟨e, lb', q, a⟩, en, gr, pr⟩, s⟩) hs3; dsimp only at d0 d1 d2 d3 d4 d5 d6 d7; go_simp; (try with_reducible rfl)
    (try simp only [Act.put, List.getElem_toArray, List.getElem_cons_zero, List.getElem_cons_succ, List.setIfInBounds_toArray, List.set_cons_zero, List.set_cons_succ])
    refine wpAnyF_take (i := 4) (v := ?_) (by kernel_rfl) (by kernel_rfl) rfl (by kernel_rfl) (by kernel_rfl) (by kernel_rfl) (fun _ _ _ h => h) (Or.inl ⟨by rfl, ?_⟩) (by assumption) ?_
    rotate_left
    · intro w' hSw; (try dsimp only at hSw); obtain ⟨hs1, hs2, hs3⟩ := hSw; have k0 := hs1.cell 0; have p0 := hs2.cell 0; have p1 := hs2.cell 1; have p2 := hs2.cell 2; obtain ⟨d0, d1, d2, d3, d4, d5, d6, d7⟩ := CB.ent (x := ⟨⟨⟨e, lb', q, a⟩, en, gr, pr⟩, s⟩) hs3; dsimp only at d0 d1 d2 d3 d4 d5 d6 d7; go_simp; (try with_reducible rfl)
    (try simp only [Act.put, List.getElem_toArray, List.getElem_cons_zero, List.getElem_cons_succ, List.setIfInBounds_toArray, List.set_cons_zero, List.set_cons_succ])
    refine wpAnyF_take (i := 5) (v := ?_) (by kernel_rfl) (by kernel_rfl) rfl (by kernel_rfl) (by kernel_rfl) (by kernel_rfl) (fun _ _ _ h => h) (Or.inl ⟨by rfl, ?_⟩) (by assumption) ?_
    rotate_left
    · intro w' hSw; (try dsimp only at hSw); obtain ⟨hs1, hs2, hs3⟩ := hSw; have k0 := hs1.cell 0; have p0 := hs2.cell 0; have p1 := hs2.cell 1; have p2 := hs2.cell 2; obtain ⟨d0, d1, d2, d3, d4, d5, d6, d7⟩ := CB.ent (x := ⟨⟨⟨e, lb', q, a⟩, en, gr, pr⟩, s⟩) hs3; dsimp only at d0 d1 d2 d3 d4 d5 d6 d7; go_simp; (try with_reducible rfl)
    (try simp only [Act.put, List.getElem_toArray, List.getElem_cons_zero, List.getElem_cons_succ, List.setIfInBounds_toArray, List.set_cons_zero, List.set_cons_succ])
    refine wpAnyF_take (i := 6) (v := ?_) (by kernel_rfl) (by kernel_rfl) rfl (by kernel_rfl) (by kernel_rfl) (by kernel_rfl) (fun _ _ _ h => h) (Or.inl ⟨by rfl, ?_⟩) (by assumption) ?_
    rotate_left
    · intro w' hSw; (try dsimp only at hSw); obtain ⟨hs1, hs2, hs3⟩ := hSw; have k0 := hs1.cell 0; have p0 := hs2.cell 0; have p1 := hs2.cell 1; have p2 := hs2.cell 2; obtain ⟨d0, d1, d2, d3, d4, d5, d6, d7⟩ := CB.ent (x := ⟨⟨⟨e, lb', q, a⟩, en, gr, pr⟩, s⟩) hs3; dsimp only at d0 d1 d2 d3 d4 d5 d6 d7; go_simp; (try with_reducible rfl)
    (try simp only [Act.put, List.getElem_toArray, List.getElem_cons_zero, List.getElem_cons_succ, List.setIfInBounds_toArray, List.set_cons_zero, List.set_cons_succ])
    refine wpAnyF_ready (rs := [7]) (by kernel_rfl) (by simp) ?_
    refine AllReadyF.cons rfl (fun KK hKK => ?_) AllReadyF.nil
    go_simp
    ((with_reducible refine (HT.out _).mono ?_); rintro e' V3 ⟨rfl, hb3⟩; have HS3 := hi (And.intro (hHeld.1.below hb3) (And.intro (hHeld.2.1.below hb3) (hHeld.2.2.below hb3))); have HB3 := hi (HBD.out.trans (hb3.mono HBD.out.size)); clear hb3)
    (try go_simp)
    refine hKK.out _ _ HS3.out (fun hHeld => ?_)
    clear hKK KK
    (try simp only [Act.put, List.getElem_toArray, List.getElem_cons_zero, List.getElem_cons_succ, List.setIfInBounds_toArray, List.set_cons_zero, List.set_cons_succ])
    refine wpAnyF_ready (rs := [8]) (by kernel_rfl) (by simp) ?_
    refine AllReadyF.cons rfl (fun KK hKK => ?_) AllReadyF.nil
    go_simp
    ((with_reducible refine (HW.out _).mono ?_); rintro e' V4 ⟨rfl, hb4⟩; have HS4 := hi (And.intro (HS3.out.1.below hb4) (And.intro (HS3.out.2.1.below hb4) (HS3.out.2.2.below hb4))); have HB4 := hi (HB3.out.trans (hb4.mono HB3.out.size)); clear hb4)
    (try go_simp)
    refine hKK.out _ _ HS4.out (fun hHeld => ?_)
    clear hKK KK
    (try simp only [Act.put, List.getElem_toArray, List.getElem_cons_zero, List.getElem_cons_succ, List.setIfInBounds_toArray, List.set_cons_zero, List.set_cons_succ])
    refine wpAnyF_ready (rs := [9]) (by kernel_rfl) (by simp) ?_
    refine AllReadyF.last (by kernel_rfl) rfl (fun KK hKK => ?_) AllReadyF.nil
    have k0 := HS4.out.1.cell 0
    have fk0 := HS4.out.1.frozen 0
    go_simp
    refine hKK.out _ _ ?_
    clear hKK KK
    (try simp only [Act.put, List.getElem_toArray, List.getElem_cons_zero, List.getElem_cons_succ, List.setIfInBounds_toArray, List.set_cons_zero, List.set_cons_succ])
    refine wpAnyF_done (by kernel_rfl) ?_ _
    refine normQ_in ?_
    gi_wp2
    refine ⟨(KW.of_below HB4.out).trans (KW.set _ _ _), (KpS.of_below HB4.out (fun i q => by have := HKS.out i q; omega) (by omega)).trans (kps_set (fun q => HKB.out _ q rfl) (by omega)), ?_⟩
    refine (?_ : RA w w5 (readL ⟨r, fp, c⟩ f0 es (pre ++ [x])) _)
    rw [HSN.out]
    exact (HJ.out.later HB4.out).set v2
  case done =>
    rintro ys V rfl hJ hK hs2
    have v0 := hJ.v.cell 0
    have HBV := hi (XB.out.trans (hJ.kept.toBelow XB.out.size (fun i e => by subst e; omega)))
    have HK := hi hK
    clear hJ hK
    dsimp only
    go_wp2
    refine ⟨by simp, .inl ⟨_, _, rfl, run_takeDeferred HK.out, ?_⟩⟩
    exact ⟨_, results_tmp rfl _ _ _, rfl, below_put HBV.out _ HBV.out.size (by omega)⟩
  case stop =>
    rintro cd pre V hpre h hK _
    exact h.elim

end Go.Proofs.Ytjgamfonpagkbaa
