/-
  The law's alike: the bank's interrupts, each as the document's.
-/
import Derived.Test.YtjgamfonpagkbaaLawB
import Derived.Test.YtjgamfonpagkbaaRnd
namespace Go.Proofs.Ytjgamfonpagkbaa
open Go.ChangeShapes Go.WideShapes Go.ChangeAt Go.RowKit Go.Shelf
set_option linter.unusedVariables false
attribute [local go_sem] Oper.semAt_some
attribute [local go_sem high] neqLn guardL

theorem eqLn_self (a b c e en : Bool) (g p : Int) : eqLn a b c e en g p a b c e en g p = true := by simp [eqLn, eqI]
theorem items_next {f : Int} {es : List En} {pre : List It} {x : It} (h : pre ++ [x] <+: items f es) : pre.length < es.length ∧ x = (f + pre.length, nthE es pre.length) := by
  have h1 := h.length_le
  rw [List.length_append, items_len] at h1
  simp only [List.length_cons, List.length_nil] at h1
  have hk : pre.length < es.length := by omega
  refine ⟨hk, ?_⟩
  obtain ⟨t, ht⟩ := h
  have h2 := items_get f es pre.length _ (nthE_at hk)
  rw [← ht, List.append_assoc, List.getElem?_append_right (Nat.le_refl _)] at h2
  simpa using h2
/-- Where alike's loop stands: c interrupts gone through. -/
structure LA (w w5 : World) (c : Nat) (V : World) : Prop where
  n : CB V (w.heap.size + 2) 3 #[.int .i64 c]
  kept : Kept (· = w.heap.size + 2) w5 V
theorem LA.later {w w5 V V' : World} {c : Nat} (h : LA w w5 c V) (k : Below V.heap.size V V') : LA w w5 c V' := ⟨h.n.below k, h.kept.below k⟩
theorem LA.set {w w5 V : World} {c : Nat} (h : LA w w5 c V) (d : Nat) : LA w w5 d (V.setCell ⟨w.heap.size + 2, 0, none⟩ (.int .i64 d)) := ⟨h.n.set 0 _, h.kept.set _ _ rfl⟩

set_option maxRecDepth 100000 in
set_option maxHeartbeats 16000000 in
theorem alike_any {w0 w : World} {b g cap rb lg xg : Nat} {la xa : Option Addr} {lc xc : Nat} {f : Int} {es : List En} (h : TwF w0 b g cap rb lg xg la xa lc xc f es w) :
    Calls Try.prog 12 #[.pointer (some ⟨b, 0, none⟩), .pointer (some ⟨rb, 0, none⟩)] w fun e w' => e = .returned (.bool true) ∧ Below w.heap.size w w' := by
  have CA := hi (fun W (hW : Below w.heap.size w W) => all_it (h.later hW).bk h.fit)
  have H := hi h
  obtain ⟨N, hN⟩ : ∃ N, es.length = N := ⟨_, rfl⟩
  have HN := hi hN
  have hfit : f + (N : Int) ≤ 16384 ∧ 0 ≤ f ∧ N ≤ 16384 := by rw [← hN]; exact ⟨h.fit.s1, h.fit.f0, h.fit.n1⟩
  clear h hN
  refine (callsIn_wide (n := 6)).1 ?_
  refine callsIn_of_wp_marks Try.func12 rfl trivial ?_ rfl
  simp only [Try.ntmps12, List.size_toArray, List.length_cons, List.length_nil, Nat.reduceAdd, Nat.reduceSub, Array.replicate_succ, Array.replicate_zero, List.push_toArray, List.append_toArray, List.nil_append, List.cons_append]
  refine wpIn_wide.2 ?_
  have H3 := hi (((CB.new w 25 #[.pointer (some ⟨rb, 0, none⟩)]).alloc (.cells #[.bool false] 4)).alloc (.cells #[.int .i64 0] 3))
  have H4 := hi ((CB.new (w.alloc (.cells #[.pointer (some ⟨rb, 0, none⟩)] 25)) 4 #[.bool false]).alloc (.cells #[.int .i64 0] 3))
  have H5 := hi (CB.new ((w.alloc (.cells #[.pointer (some ⟨rb, 0, none⟩)] 25)).alloc (.cells #[.bool false] 4)) 3 #[.int .i64 0])
  have HB := hi (bal_three w (.cells #[.pointer (some ⟨rb, 0, none⟩)] 25) (.cells #[.bool false] 4) (.cells #[.int .i64 0] 3))
  simp only [World.size_alloc] at H4 H5
  have HSZ := hi (show (((w.alloc (.cells #[.pointer (some ⟨rb, 0, none⟩)] 25)).alloc (.cells #[.bool false] 4)).alloc (.cells #[.int .i64 0] 3)).heap.size = w.heap.size + 3 by simp)
  go_wp2_with (go_at_call 21; ((with_reducible refine (CA.out _ HB.out).mono ?_); rintro e' w5 ⟨fv, rfl, hit, hB⟩; have HIT := hi hit; have X3 := hi (H3.out.below hB); have X4 := hi (H4.out.below hB); have X5 := hi (H5.out.below hB); have XB := hi (HB.out.trans (hB.mono HB.out.size)); have hs5 := hB.size; rw [HSZ.out] at hs5; rw [HSZ.out] at HIT; clear hit hB H3 H4 H5))
  have hfv := HIT.out
  obtain ⟨gf, lb, rfl, eg, hh5, hq⟩ := hfv
  have hst := hq w5 (Nat.le_refl _) (fun _ _ _ => rfl)
  clear hq HB HIT CA
  have HJ0 := hi (show LA w w5 0 w5 from ⟨X5.out, Kept.refl _ _⟩)
  refine (wpIn_wide (n := 6)).1 ?_
  refine range_win (n := 6) (by omega) (gf := gf) (lb := lb) rfl eg
    hst (fun a b => KpX.trans a b) (fun V l o o' h1 h2 h3 h4 => kpx_put (by omega) (by omega)) (Below.refl _ _) (fun _ => rfl)
    (fun pre V => LA w w5 pre.length V)
    (fun cd pre V => False)
    (AbL.of (m := 2 + 0) (fun s A A' row hs hg hr => ⟨hs.n.kept hg (fun e => by have := hr _ e.symm; omega), hs.kept.grownW hg (fun r e => by have := hr _ e; omega)⟩) rfl)
    (fun _ _ _ _ _ hs _ _ => hs)
    HJ0.out
    (fun x a' V => ∃ Bx, w5.heap.size + 2 + 0 ≤ Bx ∧ CB V Bx 54 x.2.ca ∧ a' = { tmps := #[.pointer (some ⟨b, 0, none⟩), .pointer (some ⟨rb, 0, none⟩), undef, .pointer (some ⟨w.heap.size, 0, none⟩), .pointer (some ⟨w.heap.size + 1, 0, none⟩), .pointer (some ⟨w.heap.size + 1 + 1, 0, none⟩), .int .i64 x.1, .pointer (some ⟨Bx, 0, none⟩), .pointer (some ⟨b, 0, none⟩), .func (.func gf) #[] lb, .int .i64 x.1, x.2.v, undef, undef, undef, undef, undef, undef, undef, undef, undef, undef, undef, undef, undef, undef, undef, undef, undef, undef, undef, undef, undef, undef, undef, undef, undef, undef, undef, undef, undef, undef, undef, undef, undef, undef, undef, undef, undef, undef, undef, undef, undef, undef, undef, undef, undef, undef, undef, undef, undef, undef], defers := [] })
    (fun x a' => AbL.of (m := 2 + 0) (fun s A A' row hs hg hr => by obtain ⟨Bx, e1, e2, e3⟩ := hs; exact ⟨Bx, e1, e2.kept hg (fun e => by have := hr _ e.symm; omega), e3⟩) rfl)
    ?assign ?body ?done ?stop
  case assign =>
    rintro l' pre ⟨id, ⟨⟨⟨e, lb', q, a⟩, en, gr, p⟩, s⟩⟩ V K h hsz hK
    gi_wp2
    exact hK _ _ (KW.of_below (bal V _)) (KpX.of_below (bal V _) (by omega) hsz) (h.later (bal V _)) ⟨V.heap.size, hsz, CB.new _ _ _, rfl⟩
  case body =>
    rintro l' pre ⟨id, e0⟩ a' V hsz hJ ⟨Bx, hBx, hbx, rfl⟩ hpx
    obtain ⟨hm, hx9⟩ := items_next hpx
    have hid : id = f + pre.length := (Prod.mk.inj hx9).1
    have he0 : es[pre.length]? = some e0 := by rw [(Prod.mk.inj hx9).2]; exact nthE_at hm
    have HPL := hi (show (pre ++ [((id, e0) : It)]).length = pre.length + 1 by simp)
    clear hpx hx9
    obtain ⟨m, hmm⟩ : ∃ m, pre.length = m := ⟨_, rfl⟩
    have HJ := hi hJ
    rw [hmm] at hm hid he0 HPL HJ
    have HM := hi hmm
    clear hJ hmm
    have HBV := hi (XB.out.trans (HJ.out.kept.toBelow XB.out.size (fun i e => by subst e; omega)))
    have HT := hi (H.out.later HBV.out)
    have hne : es ≠ [] := fun e9 => by rw [e9] at hm; simp at hm
    have hr0 := HT.out.rf.box.cell 0
    have hr1 := HT.out.rf.box.cell 1
    have hr2 := HT.out.rf.box.cell 2
    obtain ⟨rfl, rfl, hlr, hxr, _, _, _⟩ := HT.out.rf.ne0 hne
    rw [HN.out] at hr1 hr2 hm
    obtain ⟨l0, l1, l2, l3, l4, l5, l6⟩ := hlr.lnc he0
    have x0 := hxr.txt he0
    have HE := hi he0
    have n0 := HJ.out.n.cell 0
    have n1 := HJ.out.n.frozen 0
    have v3 := (X3.out.keptB HJ.out.kept (show ¬ w.heap.size = w.heap.size + 2 by omega)).cell 0
    subst hid
    clear hlr hxr he0 hne
    obtain ⟨⟨⟨e, lb', q, a⟩, en, gr, p⟩, s⟩ := e0
    have HX := hi hbx
    obtain ⟨d0, d1, d2, d3, d4, d5, d6, d7⟩ := CB.ent hbx
    dsimp only at d0 d1 d2 d3 d4 d5 d6 d7 l0 l1 l2 l3 l4 l5 l6 x0
    clear hbx
    have hwm : IntKind.i64.wrap (f + (m : Int)) = f + m := by rw [IntKind.wrap_i64]; omega
    have hwm1 : IntKind.i64.wrap ((m : Int) + 1) = m + 1 := by rw [IntKind.wrap_i64]; omega
    have hdm : decide (N ≤ m) = false := by simp; omega
    have hEQ := eqLn_self e lb' q a en gr p
    have HFT := hi hfit
    gi_wp2
    refine wpIn_region_quiet_round rfl (by kernel_rfl) (by kernel_rfl) (by kernel_rfl) ?_
    repeat (quiet_step_in (fail))
    refine wpQuietIn_nil ?_
    intro _ hw'
    obtain ⟨nq, hw''⟩ := hw'
    subst hw''
    have HBD := hi (show Below V.heap.size V (V.drewN nq) from Below.drewN (Below.refl _ _))
    have hja := HJ.out.later HBD.out
    have n0' := hja.n.cell 0
    have n1' := hja.n.frozen 0
    clear d0 d1 d2 d3 d4 d5 d6 d7 l0 l1 l2 l3 l4 l5 l6 x0 n0 n1 v3 hr0 hr1 hr2 hja
    gi_wp2
    refine ⟨(KW.of_below HBD.out).trans (KW.set _ _ _), (KpX.of_below HBD.out (by omega) (by omega)).trans (kpx_set (.inr (by omega)) (by omega)), ?_⟩
    refine (?_ : LA w w5 (pre ++ [((f + (m : Int), (⟨⟨⟨e, lb', q, a⟩, en, gr, p⟩, s⟩ : En)) : It)]).length _)
    rw [HPL.out]
    exact (HJ.out.later HBD.out).set (m + 1)
  case done =>
    rintro ys V rfl hJ hK hsz4
    rw [items_len, HN.out] at hJ
    have HBV := hi (XB.out.trans (hJ.kept.toBelow XB.out.size (fun i e => by subst e; omega)))
    have HT := hi (H.out.later HBV.out)
    have hr1 := HT.out.rf.box.cell 1
    rw [HN.out] at hr1
    have n0 := hJ.n.cell 0
    have v3 := (X3.out.keptB hJ.kept (show ¬ w.heap.size = w.heap.size + 2 by omega)).cell 0
    have H4 := hi (X4.out.keptB hJ.kept (show ¬ w.heap.size + 1 = w.heap.size + 2 by omega))
    have v4 := H4.out.cell 0
    have y4 := H4.out.frozen 0
    have HK := hi hK
    clear hJ hK
    dsimp only
    go_wp2
    go_region
    go_wp2
    have hl4 := H4.out.lt
    have hkk : ((V.setCell ⟨w.heap.size + 1, 0, none⟩ (.bool true)).drew).heap[w5.heap.size]? = some (.deferred (some [])) := (Below.heap_setCell V ⟨w.heap.size + 1, 0, none⟩ _ _ (show w5.heap.size ≠ w.heap.size + 1 by omega)).trans HK.out
    refine ⟨by simp, .inl ⟨_, _, rfl, run_takeDeferred hkk, ?_⟩⟩
    have hc9 : CB ((V.setCell ⟨w.heap.size + 1, 0, none⟩ (.bool true)).drew) (w.heap.size + 1) 4 #[.bool true] := CB.drew (H4.out.set 0 (.bool true))
    have hb9 : Below w.heap.size w ((V.setCell ⟨w.heap.size + 1, 0, none⟩ (.bool true)).drew) := Below.drewN (m := 1) (below_set HBV.out (by show w.heap.size ≤ w.heap.size + 1; omega) _)
    exact ⟨_, results_cellb rfl _ _ (w.heap.size + 1) true rfl (hc9.heap (World.putObj_heap_other (by omega))), rfl, below_put hb9 _ (by have := HBV.out.size; show _ ≤ ((V.setCell ⟨w.heap.size + 1, 0, none⟩ (.bool true))).heap.size; simpa using this) (by omega)⟩
  case stop =>
    rintro c pre V _ h _ _
    exact h.elim

end Go.Proofs.Ytjgamfonpagkbaa
