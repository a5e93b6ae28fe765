/-
  Package bank: Best over any iterator.
-/
import Derived.Test.YtfjihpcemmobjaaBnkM
namespace Go.Proofs.Ytfjihpcemmobjaa
open Go.ChangeShapes Go.WideShapes Go.ChangeAt Go.RowKit Go.Shelf
set_option linter.unusedVariables false
attribute [local go_sem] Oper.semAt_some

def stepC (c : Cd) (x : It) : Cd := if !c.is || befC (candV x.1 x.2.ln) c then candV x.1 x.2.ln else c
def bestC (xs : List It) : Cd := xs.foldl stepC Cd.zero
theorem bestC_snoc (xs : List It) (x : It) : bestC (xs ++ [x]) = stepC (bestC xs) x := by simp [bestC]

/-- A candidate's box stored anew. -/
abbrev setC (W : World) (B : Nat) (x : Cd) : World := (((W.setCell ⟨B, 0, none⟩ (.int .i64 x.id)).setCell ⟨B, 1, none⟩ (.int .i64 x.p)).setCell ⟨B, 2, none⟩ (.int .i64 x.g)).setCell ⟨B, 3, none⟩ (.bool x.is)
theorem CB.put4 {W : World} {B : Nat} {t : TypeId} {a0 a1 a2 a3 : Value} (h : CB W B t #[a0, a1, a2, a3]) (v0 v1 v2 v3 : Value) :
    CB ((((W.setCell ⟨B, 0, none⟩ v0).setCell ⟨B, 1, none⟩ v1).setCell ⟨B, 2, none⟩ v2).setCell ⟨B, 3, none⟩ v3) B t #[v0, v1, v2, v3] := by
  have := ((((h.set 0 v0).set 1 v1).set 2 v2).set 3 v3)
  simpa only [List.setIfInBounds_toArray, List.set_cons_zero, List.set_cons_succ] using this
theorem CB.putC {W : World} {B : Nat} {t : TypeId} {y : Cd} (h : CB W B t y.cs) (x : Cd) : CB (setC W B x) B t x.cs := h.put4 _ _ _ _
theorem CB.otherC {W : World} {B b : Nat} {t : TypeId} {cs : Array Value} (h : CB W B t cs) (hne : B ≠ b) (x : Cd) : CB (setC W b x) B t cs := (((h.other _ _ _ hne).other _ _ _ hne).other _ _ _ hne).other _ _ _ hne
theorem below_setC {n : Nat} {w W : World} (h : Below n w W) {b : Nat} (hb : n ≤ b) (x : Cd) : Below n w (setC W b x) := below_set (below_set (below_set (below_set h hb _) hb _) hb _) hb _
theorem kw_setC (B : Nat) (W : World) (b : Nat) (x : Cd) : KW B W (setC W b x) := (((KW.set _ _ _).trans (KW.set _ _ _)).trans (KW.set _ _ _)).trans (KW.set _ _ _)
theorem kpx_setC {lo hi k B : Nat} {W : World} {b : Nat} (h1 : hi ≤ b ∨ b < lo) (h2 : b < B) (x : Cd) : KpX lo hi k B W (setC W b x) := (((kpx_set h1 h2).trans (kpx_set h1 h2)).trans (kpx_set h1 h2)).trans (kpx_set h1 h2)

theorem heap_setC {W : World} {b i : Nat} (hne : i ≠ b) (x : Cd) : (setC W b x).heap[i]? = W.heap[i]? :=
  (Below.heap_setCell _ ⟨b, 3, none⟩ _ i hne).trans ((Below.heap_setCell _ ⟨b, 2, none⟩ _ i hne).trans ((Below.heap_setCell _ ⟨b, 1, none⟩ _ i hne).trans (Below.heap_setCell _ ⟨b, 0, none⟩ _ i hne)))
/-- Best's two boxes. -/
structure BB (w : World) (c : Cd) (V : World) : Prop where
  res : CB V w.heap.size 51 Cd.zero.cs
  best : CB V (w.heap.size + 1) 51 c.cs
  below : Below w.heap.size w V
theorem BB.later {w V V' : World} {c : Cd} (h : BB w c V) (k : Below V.heap.size V V') : BB w c V' := ⟨h.res.below k, h.best.below k, h.below.trans (k.mono h.below.size)⟩
theorem BB.put {w V : World} {c : Cd} (h : BB w c V) (x : Cd) : BB w x (setC V (w.heap.size + 1) x) := ⟨h.res.otherC (by omega) x, h.best.putC x, below_setC h.below (by omega) x⟩
theorem BB.cells {w V : World} {c : Cd} (h : BB w c V) : V.cell? ⟨w.heap.size + 1, 0, none⟩ = some (.int .i64 c.id) ∧ V.cell? ⟨w.heap.size + 1, 1, none⟩ = some (.int .i64 c.p) ∧ V.cell? ⟨w.heap.size + 1, 2, none⟩ = some (.int .i64 c.g) ∧ V.cell? ⟨w.heap.size + 1, 3, none⟩ = some (.bool c.is) := ⟨h.best.cell 0, h.best.cell 1, h.best.cell 2, h.best.cell 3⟩

set_option maxRecDepth 100000 in
set_option maxHeartbeats 8000000 in
theorem best_any {lo hi' k : Nat} {fv : Value} {xs : List It} {w : World} (h : Iter lo hi' k fv xs w) :
    Calls Try.prog 22 #[fv] w fun e w' => e = .returned (bestC xs).v ∧ Below w.heap.size w w' := by
  obtain ⟨w3, hw3⟩ : ∃ w3, (w.alloc (.cells #[.int .i64 0, .int .i64 0, .int .i64 0, .bool false] 51)).alloc (.cells #[.int .i64 0, .int .i64 0, .int .i64 0, .bool false] 51) = w3 := ⟨_, rfl⟩
  have hz3 : w3.heap.size = w.heap.size + 2 := by rw [← hw3]; simp
  have hB3 : Below w.heap.size w w3 := by rw [← hw3]; exact bal_two w _ _
  have hC3 : BB w Cd.zero w3 := ⟨by rw [← hw3]; exact (CB.new w _ _).alloc _, by rw [← hw3]; exact cb_second, hB3⟩
  have hhi := h.hi_le
  obtain ⟨gf, lb, rfl, eg, hh3, hq⟩ := h.below hB3
  have hst := hq w3 (Nat.le_refl _) (fun _ _ _ => rfl)
  have HC3 := hi hC3
  clear hq h hB3 hC3
  subst hw3
  refine (callsIn_wide (n := 6)).1 ?_
  refine callsIn_of_wp_marks Try.func22 rfl trivial ?_ rfl
  simp only [Try.ntmps22, List.size_toArray, List.length_cons, List.length_nil, Nat.reduceAdd, Nat.reduceSub, Array.replicate_succ, Array.replicate_zero, List.push_toArray, List.append_toArray, List.nil_append, List.cons_append]
  gi_wp2
  obtain ⟨w3, hw3⟩ : ∃ w3, (w.alloc (.cells #[.int .i64 0, .int .i64 0, .int .i64 0, .bool false] 51)).alloc (.cells #[.int .i64 0, .int .i64 0, .int .i64 0, .bool false] 51) = w3 := ⟨_, rfl⟩
  rw [hw3] at hz3 hst hh3 HC3 ⊢
  clear hw3
  refine range_win (n := 6) (by omega) (gf := gf) (lb := lb) rfl eg
    hst (fun a b => KpX.trans a b) (fun V l o o' h1 h2 h3 h4 => kpx_put (by omega) (by omega)) (Below.refl _ _) (fun _ => rfl)
    (fun pre V => BB w (bestC pre) V)
    (fun cd pre V => False)
    (AbL.of (m := 2 + k) (fun s A A' row hs hg hr => ⟨hs.res.kept hg (fun e => by have := hr _ e.symm; omega), hs.best.kept hg (fun e => by have := hr _ e.symm; omega), hs.below.grown hg hs.below.size (fun r e => by have := hr _ e; omega)⟩) rfl)
    (fun _ _ _ _ _ hs _ _ => hs)
    HC3.out
    (fun x a' V => ∃ Bx, w3.heap.size + 2 + k ≤ Bx ∧ CB V Bx 62 x.2.ca ∧ a' = { tmps := #[.func (.func gf) #[] lb, undef, .pointer (some ⟨w.heap.size, 0, none⟩), .pointer (some ⟨w.heap.size + 1, 0, none⟩), .int .i64 x.1, .pointer (some ⟨Bx, 0, none⟩), undef, .func (.func gf) #[] lb, .int .i64 x.1, x.2.v, undef, undef, undef, undef, undef, undef, undef, undef, undef, undef, undef, undef, undef, undef], defers := [] })
    (fun x a' => AbL.of (m := 2 + k) (fun s A A' row hs hg hr => by obtain ⟨Bx, e1, e2, e3⟩ := hs; exact ⟨Bx, e1, e2.kept hg (fun e => by have := hr _ e.symm; omega), e3⟩) rfl)
    ?assign ?body ?done ?stop
  case assign =>
    rintro l' pre ⟨id, ⟨⟨⟨e, lb', q, a⟩, en, gr, p⟩, s⟩⟩ V K h hsz hK
    gi_wp2
    exact hK _ _ (KW.of_below (bal V _)) (KpX.of_below (bal V _) (by omega) hsz) (h.later (bal V _)) ⟨V.heap.size, hsz, CB.new _ _ _, rfl⟩
  case body =>
    rintro l' pre ⟨id, ⟨⟨⟨e, lb', q, a⟩, en, gr, p⟩, s⟩⟩ a' V hsz hB ⟨Bx, hBx, hbx, rfl⟩ hpx
    have HS := hi (bestC_snoc pre (id, ⟨⟨⟨e, lb', q, a⟩, en, gr, p⟩, s⟩))
    have HCA := hi (fun V => cand_any id ⟨⟨e, lb', q, a⟩, en, gr, p⟩ V)
    have HBB := hi hB
    have HBF := hi (fun V => bef_any ⟨id, p, gr, true⟩ (bestC pre) V)
    dsimp only [candV, Ln.v, Cd.v, Cd.cs] at HCA HBF
    obtain ⟨d0, d1, d2, d3, d4, d5, d6, d7⟩ := CB.ent hbx
    dsimp only at d0 d1 d2 d3 d4 d5 d6 d7
    obtain ⟨r, hr⟩ : ∃ r, befC ⟨id, p, gr, true⟩ (bestC pre) = r := ⟨_, rfl⟩
    have hst : stepC (bestC pre) (id, ⟨⟨⟨e, lb', q, a⟩, en, gr, p⟩, s⟩) = if !(bestC pre).is || r then ⟨id, p, gr, true⟩ else bestC pre := by rw [← hr]; rfl
    rw [hr] at HBF
    rw [hst] at HS
    obtain ⟨c, hc⟩ : ∃ c, bestC pre = c := ⟨_, rfl⟩
    rw [hc] at HBB HBF HS
    clear hc hst hr hB hbx hpx
    obtain ⟨ci, cp, cg, cis⟩ := c
    dsimp only at HBF HS
    cases cis
    · have HS' := hi (HS.out.trans (if_pos (by simp)))
      clear HS
      gi_wp2_with (first
        | (refine ⟨trivial, ?_⟩; gi_at_call 41; ((with_reducible refine (CallsIn.inRound l' (callsIn_wide.2 (HCA.out _))).mono ?_); rintro e' V1 ⟨rfl, hb⟩; have hb2 := HBB.out.later hb; obtain ⟨c0, c1, c2, c3⟩ := hb2.cells; have hf := hb2.best.frozen; have hlt := hb2.best.lt; have HB1 := hi hb; have HB2 := hi hb2; clear hb hb2))
        | gi_in)
      refine ⟨trivial, ?_⟩
      gi_wp2
      have hv1 := HB1.out.size
      have hP := HB2.out.put ⟨id, p, gr, true⟩
      have hsz1 : (setC V1 (w.heap.size + 1) ⟨id, p, gr, true⟩).heap.size = V1.heap.size := by simp
      have hbal : Below (setC V1 (w.heap.size + 1) ⟨id, p, gr, true⟩).heap.size (setC V1 (w.heap.size + 1) ⟨id, p, gr, true⟩) _ := bal _ (.cells #[.int .i64 id, .int .i64 p, .int .i64 gr, .bool true] 51)
      have hk1 : KpX lo hi' k (w3.heap.size + 2) V1 (setC V1 (w.heap.size + 1) ⟨id, p, gr, true⟩) := kpx_setC (.inl (by omega)) (by omega) _
      refine ⟨((KW.of_below HB1.out).trans (kw_setC w3.heap.size V1 (w.heap.size + 1) ⟨id, p, gr, true⟩)).trans (KW.of_below hbal), ((KpX.of_below HB1.out (by omega) (by omega)).trans hk1).trans (KpX.of_below hbal (by omega) (by omega)), ?_⟩
      refine (?_ : BB w (bestC _) _)
      rw [HS'.out]
      exact hP.later hbal
    · cases r
      · have HS' := hi (HS.out.trans (if_neg (by simp)))
        clear HS
        gi_wp2_with (first
          | (refine ⟨trivial, ?_⟩; gi_at_call 41; ((with_reducible refine (CallsIn.inRound l' (callsIn_wide.2 (HCA.out _))).mono ?_); rintro e' V1 ⟨rfl, hb⟩; have hb2 := HBB.out.later hb; obtain ⟨c0, c1, c2, c3⟩ := hb2.cells; have hf := hb2.best.frozen; have hlt := hb2.best.lt; have HB1 := hi hb; have HB2 := hi hb2; clear hb hb2))
          | (refine ⟨trivial, ?_⟩; gi_at_call 42; ((with_reducible refine (CallsIn.inRound l' (callsIn_wide.2 (HBF.out _))).mono ?_); rintro e' V2 ⟨rfl, rfl⟩; have hb3 := HB2.out.later ((bal_two V1 (.cells #[.int .i64 id, .int .i64 p, .int .i64 gr, .bool true] 51) (.cells #[.int .i64 id, .int .i64 p, .int .i64 gr, .bool true] 51)).alloc (by simp; omega) (.cells #[.int .i64 ci, .int .i64 cp, .int .i64 cg, .bool true] 51)); obtain ⟨k0, k1, k2, k3⟩ := hb3.cells; have hf3 := hb3.best.frozen; clear hb3))
          | gi_in)
        have hv1 := HB1.out.size
        have hbal : Below V1.heap.size V1 ((((V1.alloc (.cells #[.int .i64 id, .int .i64 p, .int .i64 gr, .bool true] 51))).alloc (.cells #[.int .i64 id, .int .i64 p, .int .i64 gr, .bool true] 51)).alloc (.cells #[.int .i64 ci, .int .i64 cp, .int .i64 cg, .bool true] 51)) := ((bal_two V1 _ _).alloc (by simp; omega) _)
        refine ⟨(KW.of_below HB1.out).trans (KW.of_below hbal), (KpX.of_below (lo := lo) (hi := hi') (k := k) (B := w3.heap.size + 2) HB1.out (by omega) (by omega)).trans (KpX.of_below (lo := lo) (hi := hi') (k := k) (B := w3.heap.size + 2) hbal (by omega) (by omega)), ?_⟩
        refine (?_ : BB w (bestC _) _)
        rw [HS'.out]
        exact HB2.out.later hbal
      · have HS' := hi (HS.out.trans (if_pos (by simp)))
        clear HS
        gi_wp2_with (first
          | (refine ⟨trivial, ?_⟩; gi_at_call 41; ((with_reducible refine (CallsIn.inRound l' (callsIn_wide.2 (HCA.out _))).mono ?_); rintro e' V1 ⟨rfl, hb⟩; have hb2 := HBB.out.later hb; obtain ⟨c0, c1, c2, c3⟩ := hb2.cells; have hf := hb2.best.frozen; have hlt := hb2.best.lt; have HB1 := hi hb; have HB2 := hi hb2; clear hb hb2))
          | (refine ⟨trivial, ?_⟩; gi_at_call 42; ((with_reducible refine (CallsIn.inRound l' (callsIn_wide.2 (HBF.out _))).mono ?_); rintro e' V2 ⟨rfl, rfl⟩; have hb3 := HB2.out.later ((bal_two V1 (.cells #[.int .i64 id, .int .i64 p, .int .i64 gr, .bool true] 51) (.cells #[.int .i64 id, .int .i64 p, .int .i64 gr, .bool true] 51)).alloc (by simp; omega) (.cells #[.int .i64 ci, .int .i64 cp, .int .i64 cg, .bool true] 51)); obtain ⟨k0, k1, k2, k3⟩ := hb3.cells; have hf3 := hb3.best.frozen; clear hb3))
          | gi_in)
        have hv1 := HB1.out.size
        have hbal : Below V1.heap.size V1 ((((V1.alloc (.cells #[.int .i64 id, .int .i64 p, .int .i64 gr, .bool true] 51))).alloc (.cells #[.int .i64 id, .int .i64 p, .int .i64 gr, .bool true] 51)).alloc (.cells #[.int .i64 ci, .int .i64 cp, .int .i64 cg, .bool true] 51)) := ((bal_two V1 _ _).alloc (by simp; omega) _)
        refine ⟨((KW.of_below HB1.out).trans (KW.of_below hbal)).trans (kw_setC w3.heap.size _ (w.heap.size + 1) ⟨id, p, gr, true⟩), ((KpX.of_below (lo := lo) (hi := hi') (k := k) (B := w3.heap.size + 2) HB1.out (by omega) (by omega)).trans (KpX.of_below (lo := lo) (hi := hi') (k := k) (B := w3.heap.size + 2) hbal (by omega) (by omega))).trans (kpx_setC (b := w.heap.size + 1) (.inl (show hi' ≤ w.heap.size + 1 by omega)) (show w.heap.size + 1 < w3.heap.size + 2 by omega) ⟨id, p, gr, true⟩), ?_⟩
        refine (?_ : BB w (bestC _) _)
        rw [HS'.out]
        exact (HB2.out.later hbal).put ⟨id, p, gr, true⟩
  case done =>
    rintro ys V rfl hB hK _
    obtain ⟨c0, c1, c2, c3⟩ := hB.cells
    have f0 := hB.res.frozen
    have r0 := hB.res.cell 0
    have r1 := hB.res.cell 1
    have r2 := hB.res.cell 2
    have r3 := hB.res.cell 3
    gi_wp2
    have hK2 := (heap_setC (W := V) (b := w.heap.size) (show w3.heap.size ≠ w.heap.size by omega) (bestC ys)).trans hK
    have hR := hB.res.putC (bestC ys)
    have hBl := below_setC hB.below (Nat.le_refl _) (bestC ys)
    refine ⟨by simp, .inl ⟨_, _, rfl, run_takeDeferred hK2, ?_⟩⟩
    refine ⟨_, results_cand rfl _ _ w.heap.size (bestC ys) rfl (CB.heap hR (World.putObj_heap_other (by omega))), rfl, below_put hBl _ hBl.size (by omega)⟩
  case stop =>
    rintro c pre V _ h _ _
    exact h.elim

end Go.Proofs.Ytfjihpcemmobjaa
