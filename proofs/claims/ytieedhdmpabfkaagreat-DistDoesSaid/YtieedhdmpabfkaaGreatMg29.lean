import Derived.Test.YtieedhdmpabfkaaGreatMg28
import Derived.Test.YtieedhdmpabfkaaGreatMg25
set_option linter.unusedSimpArgs false
namespace Go.Proofs.YtieedhdmpabfkaaGreat
open Go.ChangeShapes Go.WideShapes Go.ChangeAt Go.RowKit Go.Shelf
set_option linter.unusedVariables false
attribute [local go_sem] Oper.semAt_some
section
variable {w : World} {lo hi' : Nat} {b c : Nat → Nat} {D : Ds} {k : Int}
theorem ready_iter {p q : Nat} {W : World} (h : SnAt W p q lo hi' b c D k) (ok : D.Ok) :
  IterS encI (snR lo hi' p q) (.func (.func 105) #[] #[.pointer (some ⟨p, 0, none⟩), .pointer (some ⟨q, 0, none⟩)]) (readyL D k) W :=
 ⟨_, _, rfl, enters_of Tryz.func105 (by kernel_rfl) rfl, h.lt, fun W' hs hk l J Jx F W2 hW hJ hJx hF hY h0 =>
  ready1_any lo hi' p q l b c D k ok J Jx F W2 ((h.heap hs hk).below hW) hJ hJx hF hY h0⟩
theorem ready_it (h : DiAt w lo hi' b c D) (ok : D.Ok) (k : Int) :
  Calls Tryz.prog 67 #[.pointer (some ⟨b 0, 0, none⟩), .int .i64 k] w fun e w' => ∃ gf lb, e = .returned (.func (.func gf) #[] lb) ∧ IterS encI (snR lo hi' w.heap.size (w.heap.size + 1)) (.func (.func gf) #[] lb) (readyL D k) w' ∧ Below w.heap.size w w' ∧ w.heap.size + 2 ≤ w'.heap.size := by
 have HB := hi (bal_two w (.cells #[.pointer (some ⟨b 0, 0, none⟩)] 24) (.cells #[.int .i64 k] 3))
 have HS := hi (ready_iter (p := w.heap.size) (q := w.heap.size + 1) (W := (w.alloc (.cells #[.pointer (some ⟨b 0, 0, none⟩)] 24)).alloc (.cells #[.int .i64 k] 3)) ⟨h.below HB.out, (CB.new w _ _).alloc _, cb_second⟩ ok)
 clear h ok
 go_enter Tryz.func67, Tryz.ntmps67
 go_wp2
 go_ret
 exact ⟨_, _, rfl, HS.out, HB.out, by simp⟩
end
structure BG (w : World) (c : Cd) (F : Nat → Prop) (V : World) : Prop where
 bb : BB w c V
 na : ¬ F w.heap.size
 nb : ¬ F (w.heap.size + 1)
 ge : ∀ i, F i → w.heap.size ≤ i
theorem BG.st {w V V' : World} {c : Cd} {F : Nat → Prop} (h : BG w c F V) (k : Kept F V V') : BG w c F V' :=
 ⟨⟨h.bb.res.heap (k.block _ h.bb.res.lt h.na), h.bb.best.heap (k.block _ h.bb.best.lt h.nb), h.bb.below.trans (k.toBelow h.bb.below.size h.ge)⟩, h.na, h.nb, h.ge⟩
theorem BG.sub {w V : World} {c : Cd} {F G : Nat → Prop} (h : BG w c F V) (k : ∀ i, G i → F i ∨ V.heap.size ≤ i) : BG w c G V :=
 ⟨h.bb, fun x => by rcases k _ x with y | y; exact h.na y; have := h.bb.res.lt; omega, fun x => by rcases k _ x with y | y; exact h.nb y; have := h.bb.best.lt; omega, fun i x => by rcases k i x with y | y; exact h.ge i y; have := h.bb.below.size; omega⟩
theorem BG.with_ {w V V' : World} {c c' : Cd} {F : Nat → Prop} (h : BG w c F V) (k : BB w c' V') : BG w c' F V' := ⟨k, h.na, h.nb, h.ge⟩
theorem kf_setC {F R : Nat → Prop} {W : World} {b : Nat} (h : ¬ (F b ∨ R b)) (x : Cd) : KF F R W (setC W b x) := ⟨by simp, fun i q => heap_setC (fun e => h (by rw [← e]; exact q)) x⟩
set_option maxRecDepth 100000 in
set_option maxHeartbeats 2000000 in
theorem bestS_any {R : Nat → Prop} {fv : Value} {xs : List It} {w : World} (h : IterS encI R fv xs w) :
  Calls Tryz.prog 70 #[fv] w fun e w' => e = .returned (bestC xs).v ∧ Below w.heap.size w w' := by
 obtain ⟨w3, hw3⟩ : ∃ w3, (w.alloc (.cells #[.int .i64 0, .int .i64 0, .int .i64 0, .bool false] 55)).alloc (.cells #[.int .i64 0, .int .i64 0, .int .i64 0, .bool false] 55) = w3 := ⟨_, rfl⟩
 have hz3 : w3.heap.size = w.heap.size + 2 := by rw [← hw3]; simp
 have hB3 : Below w.heap.size w w3 := by rw [← hw3]; exact bal_two w _ _
 have hC3 : BB w Cd.zero w3 := ⟨by rw [← hw3]; exact (CB.new w _ _).alloc _, by rw [← hw3]; exact cb_second, hB3⟩
 have hRw := h.lt
 obtain ⟨gf, lb, rfl, eg, hh3, hq⟩ := h.below hB3
 have hst := hq w3 (Nat.le_refl _) (fun _ _ => rfl)
 have HC3 := hi hC3
 clear hq h hB3 hC3
 subst hw3
 refine (callsIn_wide (n := 6)).1 ?_
 refine callsIn_of_wp_marks Tryz.func70 rfl trivial ?_ rfl
 simp only [Tryz.ntmps70, List.size_toArray, List.length_cons, List.length_nil, Nat.reduceAdd, Nat.reduceSub, Array.replicate_succ, Array.replicate_zero, List.push_toArray, List.append_toArray, List.nil_append, List.cons_append]
 gi_wp2
 obtain ⟨w3, hw3⟩ : ∃ w3, (w.alloc (.cells #[.int .i64 0, .int .i64 0, .int .i64 0, .bool false] 55)).alloc (.cells #[.int .i64 0, .int .i64 0, .int .i64 0, .bool false] 55) = w3 := ⟨_, rfl⟩
 rw [hw3] at hz3 hst hh3 HC3 ⊢
 clear hw3
 refine range_fr (n := 6) (by omega) (gf := gf) (lb := lb) rfl eg hst (Below.refl _ _) (fun _ => rfl) hh3
  (fun _ => False) (fun i x => x.elim)
  (fun pre G V => BG w (bestC pre) G V)
  (fun cd pre G V => False)
  ⟨fun s F A A' h k => h.st k, fun s F G A h k => h.sub k⟩
  (fun _ => ⟨fun _ _ _ _ h _ => h, fun _ _ _ _ h _ => h⟩)
  ⟨HC3.out, fun x => x, fun x => x, fun i x => x.elim⟩
  (fun x a' G V => ∃ Bx, OwnB Bx 115 (fun _ => x.2.ca) () G V ∧ a' = { tmps := #[.func (.func gf) #[] lb, undef, .pointer (some ⟨w.heap.size, 0, none⟩), .pointer (some ⟨w.heap.size + 1, 0, none⟩), .int .i64 x.1, .pointer (some ⟨Bx, 0, none⟩), undef, .func (.func gf) #[] lb, .int .i64 x.1, x.2.v, undef, undef, undef, undef, undef, undef, undef, undef, undef, undef, undef, undef, undef, undef], defers := [] })
  (fun x a' => ⟨fun s F A A' q w => by obtain ⟨Bx, e1, e2⟩ := q; exact ⟨Bx, (FrOk.ownB Bx 115 (fun (_ : Unit) => x.2.ca)).st () F A A' e1 w, e2⟩, fun s F G A q w => by obtain ⟨Bx, e1, e2⟩ := q; exact ⟨Bx, (FrOk.ownB Bx 115 (fun (_ : Unit) => x.2.ca)).sub () F G A e1 w, e2⟩⟩)
  ?assign ?body ?done ?stop
 case assign =>
  rintro l' pre ⟨id, ⟨⟨⟨e, lb', q, a⟩, en, gr, p⟩, s⟩⟩ G V K h hFG hG hsz hK
  have hkf : KF G R V (V.alloc (.cells (En.ca ⟨⟨⟨e, lb', q, a⟩, en, gr, p⟩, s⟩) 115)) := KF.of_below (bal V _) (fun i x => by rcases x with x | x; exact (hG i x).1; have := hRw i x; omega)
  gi_wp2
  exact hK _ _ hkf (h.st (Kept.of (bal V _))) ⟨V.heap.size, ⟨fun x => by have := (hG _ x).1; omega, CB.new _ _ _⟩, rfl⟩
 case body =>
  rintro l' pre ⟨id, ⟨⟨⟨e, lb', q, a⟩, en, gr, p⟩, s⟩⟩ a' G V hFG hG hsz hI ⟨Bx, ⟨hBG, hbx⟩, rfl⟩ hpx
  have hGl : ∀ i, G i ∨ R i → i < V.heap.size := fun i x => by rcases x with x | x; exact (hG i x).1; have := hRw i x; omega
  have HI := hi hI
  have hB := hI.bb
  have hNb : ¬ (G (w.heap.size + 1) ∨ R (w.heap.size + 1)) := fun x => by rcases x with x | x; exact HI.out.nb x; have := hRw _ x; omega
  have HGL := hi hGl
  have HNB := hi hNb
  have HRW := hi hRw
  clear hI hG hFG hGl hNb hBG hRw hh3
  have HS := hi (bestC_snoc pre (id, ⟨⟨⟨e, lb', q, a⟩, en, gr, p⟩, s⟩))
  have HCA := hi (fun V => cand_any id ⟨⟨e, lb', q, a⟩, en, gr, p⟩ V)
  have HBB := hi hB
  have HBF := hi (fun V => bef_any ⟨id, p, gr, true⟩ (bestC pre) V)
  dsimp only [candV, Ln.v, Cd.v, Cd.cs] at HCA HBF
  obtain ⟨d0, d1, d2, d3, d4, d5, d6, d7, d8⟩ := CB.ent hbx
  dsimp only at d0 d1 d2 d3 d4 d5 d6 d7 d8
  obtain ⟨r, hr⟩ : ∃ r, befC ⟨id, p, gr, true⟩ (bestC pre) = r := ⟨_, rfl⟩
  have hst : stepC (bestC pre) (id, ⟨⟨⟨e, lb', q, a⟩, en, gr, p⟩, s⟩) = if !(bestC pre).is || r then ⟨id, p, gr, true⟩ else bestC pre := by rw [← hr]; rfl
  rw [hr] at HBF
  rw [hst] at HS
  obtain ⟨c, hc⟩ : ∃ c, bestC pre = c := ⟨_, rfl⟩
  rw [hc] at HBB HBF HS
  clear hc hst hr hB hbx hpx
  obtain ⟨ci, cp, cg, cis⟩ := c
  dsimp only at HBF HS
  cases cis
  ·have HS' := hi (HS.out.trans (if_pos (by simp)))
   clear HS
   gi_wp2_with (first
    | (refine ⟨trivial, ?_⟩; gi_at_call 109; ((with_reducible refine (CallsIn.inRound l' (callsIn_wide.2 (HCA.out _))).mono ?_); rintro e' V1 ⟨rfl, hb⟩; have hb2 := HBB.out.later hb; obtain ⟨c0, c1, c2, c3⟩ := hb2.cells; have hf := hb2.best.frozen; have hlt := hb2.best.lt; have HB1 := hi hb; have HB2 := hi hb2; clear hb hb2))
    | gi_in)
   refine ⟨trivial, ?_⟩
   gi_wp2
   have hv1 := HB1.out.size
   have hP := HB2.out.put ⟨id, p, gr, true⟩
   have hsz1 : (setC V1 (w.heap.size + 1) ⟨id, p, gr, true⟩).heap.size = V1.heap.size := by simp
   have hbal : Below (setC V1 (w.heap.size + 1) ⟨id, p, gr, true⟩).heap.size (setC V1 (w.heap.size + 1) ⟨id, p, gr, true⟩) _ := bal _ (.cells #[.int .i64 id, .int .i64 p, .int .i64 gr, .bool true] 55)
   have hk1 : KF G R V1 (setC V1 (w.heap.size + 1) ⟨id, p, gr, true⟩) := kf_setC HNB.out _
   refine ⟨((KF.of_below HB1.out HGL.out).trans hk1).trans (KF.of_below hbal (fun i x => by have := HGL.out i x; omega)), ?_⟩
   refine (?_ : BG w (bestC _) _ _)
   rw [HS'.out]
   exact HI.out.with_ (hP.later hbal)
  ·cases r
   ·have HS' := hi (HS.out.trans (if_neg (by simp)))
    clear HS
    gi_wp2_with (first
     | (refine ⟨trivial, ?_⟩; gi_at_call 109; ((with_reducible refine (CallsIn.inRound l' (callsIn_wide.2 (HCA.out _))).mono ?_); rintro e' V1 ⟨rfl, hb⟩; have hb2 := HBB.out.later hb; obtain ⟨c0, c1, c2, c3⟩ := hb2.cells; have hf := hb2.best.frozen; have hlt := hb2.best.lt; have HB1 := hi hb; have HB2 := hi hb2; clear hb hb2))
     | (refine ⟨trivial, ?_⟩; gi_at_call 110; ((with_reducible refine (CallsIn.inRound l' (callsIn_wide.2 (HBF.out _))).mono ?_); rintro e' V2 ⟨rfl, rfl⟩; have hb3 := HB2.out.later ((bal_two V1 (.cells #[.int .i64 id, .int .i64 p, .int .i64 gr, .bool true] 55) (.cells #[.int .i64 id, .int .i64 p, .int .i64 gr, .bool true] 55)).alloc (by simp; omega) (.cells #[.int .i64 ci, .int .i64 cp, .int .i64 cg, .bool true] 55)); obtain ⟨k0, k1, k2, k3⟩ := hb3.cells; have hf3 := hb3.best.frozen; clear hb3))
     | gi_in)
    have hv1 := HB1.out.size
    have hbal : Below V1.heap.size V1 ((((V1.alloc (.cells #[.int .i64 id, .int .i64 p, .int .i64 gr, .bool true] 55))).alloc (.cells #[.int .i64 id, .int .i64 p, .int .i64 gr, .bool true] 55)).alloc (.cells #[.int .i64 ci, .int .i64 cp, .int .i64 cg, .bool true] 55)) := ((bal_two V1 _ _).alloc (by simp; omega) _)
    refine ⟨(KF.of_below HB1.out HGL.out).trans (KF.of_below hbal (fun i x => by have := HGL.out i x; omega)), ?_⟩
    refine (?_ : BG w (bestC _) _ _)
    rw [HS'.out]
    exact HI.out.with_ (HB2.out.later hbal)
   ·have HS' := hi (HS.out.trans (if_pos (by simp)))
    clear HS
    gi_wp2_with (first
     | (refine ⟨trivial, ?_⟩; gi_at_call 109; ((with_reducible refine (CallsIn.inRound l' (callsIn_wide.2 (HCA.out _))).mono ?_); rintro e' V1 ⟨rfl, hb⟩; have hb2 := HBB.out.later hb; obtain ⟨c0, c1, c2, c3⟩ := hb2.cells; have hf := hb2.best.frozen; have hlt := hb2.best.lt; have HB1 := hi hb; have HB2 := hi hb2; clear hb hb2))
     | (refine ⟨trivial, ?_⟩; gi_at_call 110; ((with_reducible refine (CallsIn.inRound l' (callsIn_wide.2 (HBF.out _))).mono ?_); rintro e' V2 ⟨rfl, rfl⟩; have hb3 := HB2.out.later ((bal_two V1 (.cells #[.int .i64 id, .int .i64 p, .int .i64 gr, .bool true] 55) (.cells #[.int .i64 id, .int .i64 p, .int .i64 gr, .bool true] 55)).alloc (by simp; omega) (.cells #[.int .i64 ci, .int .i64 cp, .int .i64 cg, .bool true] 55)); obtain ⟨k0, k1, k2, k3⟩ := hb3.cells; have hf3 := hb3.best.frozen; clear hb3))
     | gi_in)
    have hv1 := HB1.out.size
    have hbal : Below V1.heap.size V1 ((((V1.alloc (.cells #[.int .i64 id, .int .i64 p, .int .i64 gr, .bool true] 55))).alloc (.cells #[.int .i64 id, .int .i64 p, .int .i64 gr, .bool true] 55)).alloc (.cells #[.int .i64 ci, .int .i64 cp, .int .i64 cg, .bool true] 55)) := ((bal_two V1 _ _).alloc (by simp; omega) _)
    refine ⟨((KF.of_below HB1.out HGL.out).trans (KF.of_below hbal (fun i x => by have := HGL.out i x; omega))).trans (kf_setC HNB.out ⟨id, p, gr, true⟩), ?_⟩
    refine (?_ : BG w (bestC _) _ _)
    rw [HS'.out]
    exact HI.out.with_ ((HB2.out.later hbal).put ⟨id, p, gr, true⟩)
 case done =>
  rintro ys G V rfl hFG hI hK _
  have hB := hI.bb
  obtain ⟨c0, c1, c2, c3⟩ := hB.cells
  have f0 := hB.res.frozen
  have r0 := hB.res.cell 0
  have r1 := hB.res.cell 1
  have r2 := hB.res.cell 2
  have r3 := hB.res.cell 3
  gi_wp2
  have hK2 := (heap_setC (W := V) (b := w.heap.size) (show w3.heap.size ≠ w.heap.size by omega) (bestC ys)).trans hK
  have hR := hB.res.putC (bestC ys)
  have hBl := below_setC hB.below (Nat.le_refl _) (bestC ys)
  refine ⟨by simp, .inl ⟨_, _, rfl, run_takeDeferred hK2, ?_⟩⟩
  refine ⟨_, results_cand rfl _ _ w.heap.size (bestC ys) rfl (CB.heap hR (World.putObj_heap_other (by omega))), rfl, below_put hBl _ hBl.size (by omega)⟩
 case stop =>
  rintro c pre G V _ _ h _ _
  exact h.elim
end Go.Proofs.YtieedhdmpabfkaaGreat
namespace Go.Proofs.YtieedhdmpabfkaaGreat
open Go.ChangeShapes Go.WideShapes Go.ChangeAt Go.RowKit Go.Shelf
set_option linter.unusedVariables false
attribute [local go_sem] Oper.semAt_some
section
variable {w : World} {lo hi' : Nat} {b c : Nat → Nat} {D : Ds} {k : Int}
set_option maxHeartbeats 1000000 in
theorem best_dist (h : DiAt w lo hi' b c D) (ok : D.Ok) (k : Int) :
  Calls Tryz.prog 25 #[.pointer (some ⟨b 0, 0, none⟩), .int .i64 k] w fun e w' => e = .returned (bestC (readyL D k)).v ∧ Below w.heap.size w w' := by
 have hbal := bal w (.cells #[.int .i64 0, .int .i64 0, .int .i64 0, .bool false] 55)
 have HR := hi (ready_it (h.below hbal) ok k)
 have HB := hi (fun R fv W (q : IterS encI R fv (readyL D k) W) => bestS_any q)
 have HC := hi (CB.new w 55 #[.int .i64 0, .int .i64 0, .int .i64 0, .bool false])
 have HB0 := hi hbal
 obtain ⟨C, hC⟩ : ∃ C, bestC (readyL D k) = C := ⟨_, rfl⟩
 rw [hC] at HB ⊢
 clear h ok hC hbal
 obtain ⟨ci, cp, cg, cis⟩ := C
 dsimp only [Cd.v] at HB ⊢
 go_enter Tryz.func25, Tryz.ntmps25
 go_wp2_with (first
  | (go_at_call 67; ((with_reducible refine HR.out.mono ?_); rintro e w1 ⟨gf, lb, rfl, hit, hb, _⟩; have HIT := hi hit; have HC1 := hi (HC.out.below hb); have HB1 := hi (HB0.out.trans (hb.mono HB0.out.size)); clear hit hb))
  | (go_at_call 70; ((with_reducible refine (HB.out _ _ _ HIT.out).mono ?_); rintro e w2 ⟨rfl, hb⟩; have HC2 := hi (HC1.out.below hb); have HB2 := hi (HB1.out.trans (hb.mono HB1.out.size)); have z0 := HC2.out.cell 0; have z1 := HC2.out.cell 1; have z2 := HC2.out.cell 2; have z3 := HC2.out.cell 3; have zf := HC2.out.frozen; have zl := HC2.out.lt; clear hb)))
 exact bodyPost_ret (results_cand rfl _ _ w.heap.size ⟨ci, cp, cg, cis⟩ rfl (CB.putC (y := Cd.zero) HC2.out ⟨ci, cp, cg, cis⟩)) rfl ⟨rfl, below_setC HB2.out (Nat.le_refl _) ⟨ci, cp, cg, cis⟩⟩
end
end Go.Proofs.YtieedhdmpabfkaaGreat
