/-
  The law BankGroups at every input.
-/
import Derived.Test.YtfjihpcemmobjaaLawE
namespace Go.Proofs.Ytfjihpcemmobjaa
open Go.ChangeShapes Go.WideShapes Go.ChangeAt Go.RowKit Go.Shelf
set_option linter.unusedVariables false
attribute [local go_sem] Oper.semAt_some

/-! ### Plain -/
theorem ready_of0 {f : Int} {es : List En} : (readyL f es true true).filter (ofB 0) = readyL f es true false := by
  unfold readyL
  rw [List.filter_filter]
  refine List.filter_congr fun x _ => ?_
  by_cases h : x.2.ln.g = 0 <;> simp [ofB, rdyB, h]
theorem ready_of1 {f : Int} {es : List En} (hg : Grp (items f es)) : (readyL f es true true).filter (ofB 1) = readyL f es false true := by
  unfold readyL
  rw [List.filter_filter]
  refine List.filter_congr fun x hx => ?_
  rcases hg x hx with h | h <;> simp [ofB, rdyB, h]
theorem ready_none {f : Int} {es : List En} : readyL f es false false = [] := by
  unfold readyL
  refine List.filter_eq_nil_iff.2 fun x _ => ?_
  simp [rdyB]
theorem ready_sum {f : Int} {es : List En} (hg : Grp (items f es)) : (readyL f es true true).length = (readyL f es true false).length + (readyL f es false true).length := by
  rw [← ready_of0, ← ready_of1 hg]
  have hr : Grp (readyL f es true true) := hg.filter _
  generalize readyL f es true true = xs at hr ⊢
  induction xs with
  | nil => rfl
  | cons x r ih =>
    have h1 := ih (fun y hy => hr y (by simp [hy]))
    rcases hr x (by simp) with h | h <;> simp [ofB, h] at h1 ⊢ <;> omega
theorem results_cellb {fn : Func} {c : Tmp} (h : fn.results = #[.cell c 4]) (tmps : Array Value) (w : World) (b : Nat) (v : Bool) (hp : tmps.getD c undef = .pointer (some ⟨b, 0, none⟩)) (hb : CB w b 4 #[.bool v]) : (results fn tmps).run Try.prog w = .ok (.bool v) w := by
  have hp' : tmps[c]?.getD undef = .pointer (some ⟨b, 0, none⟩) := by simpa using hp
  have c0 := hb.cell 0
  simp at c0
  simp [results, h, go_sem, hp', c0]

/-- Where the law stands: its answer's box, the bank's box, the bank. -/
structure GW (w : World) (R B : Nat) (b g cap : Nat) (f : Int) (es : List En) (v : Bool) (W : World) : Prop where
  res : CB W R 4 #[.bool v]
  box : CB W B 25 #[.pointer (some ⟨b, 0, none⟩)]
  bk : BkAt W b g cap f es
  below : Below w.heap.size w W
theorem GW.later {w W W' : World} {R B b g cap : Nat} {f : Int} {es : List En} {v : Bool} (h : GW w R B b g cap f es v W) (k : Below W.heap.size W W') : GW w R B b g cap f es v W' :=
  ⟨h.res.below k, h.box.below k, h.bk.below k, h.below.trans (k.mono h.below.size)⟩

set_option maxRecDepth 100000 in
set_option maxHeartbeats 16000000 in
theorem lawGroups_any (f n : Int) (v : Value) (xs : List Ac9) (w : World) (hf0 : 0 ≤ f) (hf1 : f < 256) (hn0 : 0 ≤ n) (hn1 : n < 256) (h : ActsAt w v xs) (hl : xs.length ≤ 9223372036854775806) :
    Calls Try.prog 5 #[.int .u8 f, .int .u8 n, v] w fun e w' => e = .returned (.bool true) ∧ Below w.heap.size w w' := by
  have CPL := hi (fun w0 (hb : Below w.heap.size w w0) => played_any f n v xs w0 hf0 hf1 hn0 hn1 (h.below hb) hl)
  clear h hl hf0 hf1 hn0 hn1
  refine (callsIn_wide (n := 6)).1 ?_
  refine callsIn_of_wp_marks Try.func5 rfl trivial ?_ rfl
  simp only [Try.ntmps5, List.size_toArray, List.length_cons, List.length_nil, Nat.reduceAdd, Nat.reduceSub, Array.replicate_succ, Array.replicate_zero, List.push_toArray, List.append_toArray, List.nil_append, List.cons_append]
  refine wpIn_wide.2 ?_
  go_wp2_with (go_at_call 9; ((with_reducible refine (awake_any _).mono ?_); rintro e' w0 ⟨rfl, hb⟩; have HR0 := hi ((CB.new w 4 #[.bool false]).below hb); have HB0 := hi ((bal w (.cells #[.bool false] 4)).trans (hb.mono (bal w (.cells #[.bool false] 4)).size)); clear hb))
  go_at_call 30
  (with_reducible refine (CPL.out w0 HB0.out).mono ?_)
  rintro e' w1 ⟨b, g, cap, f', es, rfl, hP⟩
  have HP := hi hP
  have H1 := hi (show GW w w.heap.size w1.heap.size b g cap f' es false (w1.alloc (.cells #[.pointer (some ⟨b, 0, none⟩)] 25)) from
    ⟨(HR0.out.below hP.below).alloc _, CB.new _ _ _, hP.bk.below (bal _ _), (HB0.out.trans (hP.below.mono HB0.out.size)).alloc (HB0.out.trans (hP.below.mono HB0.out.size)).size _⟩)
  clear hP CPL HR0 HB0
  have CR := hi (fun g0 g1 W (hW : BkAt W b g cap f' es) => ready_it g0 g1 hW HP.out.fit HP.out.right)
  have CC := hi (fun lo hi' kk fv xs W (hW : Iter lo hi' kk fv xs W) (hx : xs.length ≤ 20000) => count_any hW hx)
  have HLEN := hi (fun g0 g1 => show (readyL f' es g0 g1).length ≤ 20000 by
    have h1 : (readyL f' es g0 g1).length ≤ (items f' es).length := List.length_filter_le _ _
    rw [items_len] at h1
    have := HP.out.few
    omega)
  have CH := hi (fun W id (hW : BkAt W b g cap f' es) (hi' : Int64 id) => has_any (id := id) hW HP.out.fit hi')
  have HG := hi (grp_items (f := f') HP.out.right)
  have d0 := H1.out.box.cell 0
  go_wp2_with (go_at_call 21; ((with_reducible refine (CR.out _ _ _ H1.out.bk).mono ?_); rintro e' w2 ⟨fv, rfl, hit, hB⟩; have HIT := hi hit; have H2 := hi (H1.out.later hB); have HS2 := hi hB.size; clear hit hB d0))
  obtain ⟨W2, hW2⟩ : ∃ W, w2 = W := ⟨_, rfl⟩
  subst hW2
  refine wp_region_noPanic ?_
  have hD := H2.out.later (Below.drewN (m := 1) (Below.refl w2.heap.size w2))
  have HITD := hi (HIT.out.below (Below.drewN (m := 1) (Below.refl w2.heap.size w2)))
  refine wp_region_held_drew (S := fun w' => GW w w.heap.size w1.heap.size b g cap f' es false w') (by kernel_rfl) hD (fun hHeld => ?_)
  (try simp only [Array.replicate_succ, Array.replicate_zero, List.push_toArray, List.nil_append, List.cons_append])
  obtain ⟨Wd, hWd⟩ : ∃ Wd, w2.drew = Wd := ⟨_, rfl⟩
  have HD : Hi (GW w w.heap.size w1.heap.size b g cap f' es false Wd) := by rw [← hWd]; exact hi hD
  have hsd : w2.heap.size = Wd.heap.size := by rw [← hWd]; rfl
  have HIT3 : Hi (Iter (w1.alloc (.cells #[.pointer (some ⟨b, 0, none⟩)] 25)).heap.size w2.heap.size 3 fv (readyL f' es true true) Wd) := by rw [← hWd]; exact HITD
  rw [hWd] at hHeld ⊢
  clear hWd HITD hD HIT
  refine wpAnyH_take (i := 0) (v := ?_) rfl (by kernel_rfl) (by kernel_rfl) (by kernel_rfl) (fun _ _ _ h => h) (Or.inl ⟨by rfl, ?_⟩) (by assumption) ?_
  rotate_left
  · intro w' hSw; have q0 := CB.cell hSw.box 0; (try clear hSw); go_simp; (try with_reducible rfl)
  (try simp only [Act.put, List.getElem_toArray, List.getElem_cons_zero, List.setIfInBounds_toArray, List.set_cons_zero, List.set_cons_succ])
  refine wpAnyH_take (i := 1) (v := ?_) rfl (by kernel_rfl) (by kernel_rfl) (by kernel_rfl) (fun _ _ _ h => h) (Or.inl ⟨by rfl, ?_⟩) (by assumption) ?_
  rotate_left
  · intro w' hSw; have q0 := CB.cell hSw.box 0; (try clear hSw); go_simp; (try with_reducible rfl)
  (try simp only [Act.put, List.getElem_toArray, List.getElem_cons_zero, List.getElem_cons_succ, List.setIfInBounds_toArray, List.set_cons_zero, List.set_cons_succ])
  refine wpAnyH_take (i := 4) (v := ?_) rfl (by kernel_rfl) (by kernel_rfl) (by kernel_rfl) (fun _ _ _ h => h) (Or.inl ⟨by rfl, ?_⟩) (by assumption) ?_
  rotate_left
  · intro w' hSw; have q0 := CB.cell hSw.box 0; (try clear hSw); go_simp; (try with_reducible rfl)
  (try simp only [Act.put, List.getElem_toArray, List.getElem_cons_zero, List.getElem_cons_succ, List.setIfInBounds_toArray, List.set_cons_zero, List.set_cons_succ])
  refine wpAnyH_take (i := 5) (v := ?_) rfl (by kernel_rfl) (by kernel_rfl) (by kernel_rfl) (fun _ _ _ h => h) (Or.inl ⟨by rfl, ?_⟩) (by assumption) ?_
  rotate_left
  · intro w' hSw; have q0 := CB.cell hSw.box 0; (try clear hSw); go_simp; (try with_reducible rfl)
  (try simp only [Act.put, List.getElem_toArray, List.getElem_cons_zero, List.getElem_cons_succ, List.setIfInBounds_toArray, List.set_cons_zero, List.set_cons_succ])
  refine wpAnyH_ready (rs := [2]) (by kernel_rfl) (by simp) ?_
  refine AllReadyH.cons rfl (fun KK hKK => ?_) AllReadyH.nil
  go_simp
  ((with_reducible refine (CR.out _ _ _ HD.out.bk).mono ?_); rintro e' w3 ⟨fv3, rfl, hit, hB⟩; have HI3 := hi hit; have HA3 := hi (HIT3.out.below hB); have H3 := hi (HD.out.later hB); have HS3 := hi (Nat.le_trans (Nat.le_trans HS2.out (Nat.le_of_eq hsd)) hB.size); clear hit hB)
  (try go_simp)
  refine hKK.out _ _ H3.out (fun hHeld => ?_)
  clear hKK KK
  (try simp only [Act.put, List.getElem_toArray, List.getElem_cons_zero, List.getElem_cons_succ, List.setIfInBounds_toArray, List.set_cons_zero, List.set_cons_succ])
  refine wpAnyH_ready (rs := [3]) (by kernel_rfl) (by simp) ?_
  refine AllReadyH.cons rfl (fun KK hKK => ?_) AllReadyH.nil
  go_simp
  ((with_reducible refine (CC.out _ _ _ _ _ _ HI3.out (HLEN.out _ _)).mono ?_); rintro e' w4 ⟨rfl, hB⟩; have HA4 := hi (HA3.out.below hB); have H4 := hi (H3.out.later hB); have HS4 := hi (Nat.le_trans HS3.out hB.size); clear hB)
  (try go_simp)
  refine hKK.out _ _ H4.out (fun hHeld => ?_)
  clear hKK KK
  (try simp only [Act.put, List.getElem_toArray, List.getElem_cons_zero, List.getElem_cons_succ, List.setIfInBounds_toArray, List.set_cons_zero, List.set_cons_succ])
  refine wpAnyH_ready (rs := [6]) (by kernel_rfl) (by simp) ?_
  refine AllReadyH.cons rfl (fun KK hKK => ?_) AllReadyH.nil
  go_simp
  ((with_reducible refine (CR.out _ _ _ H4.out.bk).mono ?_); rintro e' w5 ⟨fv5, rfl, hit, hB⟩; have HI5 := hi hit; have HA5 := hi (HA4.out.below hB); have H5 := hi (H4.out.later hB); have HS5 := hi (Nat.le_trans HS4.out hB.size); clear hit hB)
  (try go_simp)
  refine hKK.out _ _ H5.out (fun hHeld => ?_)
  clear hKK KK
  (try simp only [Act.put, List.getElem_toArray, List.getElem_cons_zero, List.getElem_cons_succ, List.setIfInBounds_toArray, List.set_cons_zero, List.set_cons_succ])
  refine wpAnyH_ready (rs := [7]) (by kernel_rfl) (by simp) ?_
  refine AllReadyH.cons rfl (fun KK hKK => ?_) AllReadyH.nil
  go_simp
  ((with_reducible refine (CC.out _ _ _ _ _ _ HI5.out (HLEN.out _ _)).mono ?_); rintro e' w6 ⟨rfl, hB⟩; have HA6 := hi (HA5.out.below hB); have H6 := hi (H5.out.later hB); have HS6 := hi (Nat.le_trans HS5.out hB.size); clear hB)
  (try go_simp)
  refine hKK.out _ _ H6.out (fun hHeld => ?_)
  clear hKK KK
  (try simp only [Act.put, List.getElem_toArray, List.getElem_cons_zero, List.getElem_cons_succ, List.setIfInBounds_toArray, List.set_cons_zero, List.set_cons_succ])
  refine wpAnyH_take (i := 8) (v := ?_) rfl (by kernel_rfl) (by kernel_rfl) (by kernel_rfl) (fun _ _ _ h => h) (Or.inl ⟨by rfl, ?_⟩) (by assumption) ?_
  rotate_left
  · intro w' hSw; have q0 := CB.cell hSw.box 0; (try clear hSw); go_simp; (try with_reducible rfl)
  (try simp only [Act.put, List.getElem_toArray, List.getElem_cons_zero, List.getElem_cons_succ, List.setIfInBounds_toArray, List.set_cons_zero, List.set_cons_succ])
  refine wpAnyH_take (i := 9) (v := ?_) rfl (by kernel_rfl) (by kernel_rfl) (by kernel_rfl) (fun _ _ _ h => h) (Or.inl ⟨by rfl, ?_⟩) (by assumption) ?_
  rotate_left
  · intro w' hSw; have q0 := CB.cell hSw.box 0; (try clear hSw); go_simp; (try with_reducible rfl)
  (try simp only [Act.put, List.getElem_toArray, List.getElem_cons_zero, List.getElem_cons_succ, List.setIfInBounds_toArray, List.set_cons_zero, List.set_cons_succ])
  refine wpAnyH_done (by kernel_rfl) ?_ _
  refine NoPanic.normal ?_
  clear hHeld
  have HLE := hi (show (w1.alloc (.cells #[.pointer (some ⟨b, 0, none⟩)] 25)).heap.size ≤ w6.heap.size from HS6.out)
  have hfv := HA6.out
  obtain ⟨gf, lb, rfl, eg, hh6, hq⟩ := hfv
  have hst := hq w6 (Nat.le_refl _) (fun _ _ _ => rfl)
  clear hq
  go_wp2
  obtain ⟨nx, hnx⟩ : ∃ k, (readyL f' es true false).length = k := ⟨_, rfl⟩
  obtain ⟨ny, hny⟩ : ∃ k, (readyL f' es false true).length = k := ⟨_, rfl⟩
  have hsum := ready_sum HG.out
  rw [hnx, hny] at hsum
  have hnl := HLEN.out true true
  rw [hsum] at hnl
  have hwr : IntKind.i64.wrap ((nx : Int) + (ny : Int)) = ((nx + ny : Nat) : Int) := by rw [IntKind.wrap_i64]; omega
  have CC0 := hi (fun lo hi' kk fv W (hW : Iter lo hi' kk fv (readyL f' es true true) W) => count_any hW (HLEN.out _ _))
  rw [hsum] at CC0
  have CC1 := hi (fun lo hi' kk fv W (hW : Iter lo hi' kk fv ((readyL f' es true true).filter (ofB 0)) W) => count_any hW (by rw [ready_of0]; exact HLEN.out _ _))
  rw [ready_of0, hnx] at CC1
  have CC2 := hi (fun lo hi' kk fv W (hW : Iter lo hi' kk fv ((readyL f' es true true).filter (ofB 1)) W) => count_any hW (by rw [ready_of1 HG.out]; exact HLEN.out _ _))
  rw [ready_of1 HG.out, hny] at CC2
  have CC3 := hi (fun lo hi' kk fv W (hW : Iter lo hi' kk fv (readyL f' es false false) W) => count_any hW (HLEN.out _ _))
  rw [ready_none, List.length_nil] at CC3
  rw [hnx, hny]
  clear hnx hny hsum
  refine (wpIn_wide (n := 6)).1 ?_
  refine range_win (n := 6) (by omega) (gf := gf) (lb := lb) rfl eg
    hst (fun a b => KpX.trans a b) (fun V l o o' h1 h2 h3 h4 => kpx_put (by omega) (by omega)) (Below.refl _ _) (fun _ => rfl)
    (fun pre V => Below w6.heap.size w6 V)
    (fun cd pre V => False)
    (AbL.below (Nat.le_refl _) (Nat.le_refl _))
    (fun _ _ _ _ _ hs _ _ => hs)
    (Below.refl _ _)
    (fun x a' V => ∃ Bx, w6.heap.size + 2 + 3 ≤ Bx ∧ CB V Bx 62 x.2.ca ∧ a' = { tmps := #[.int .u8 f, .int .u8 n, v, undef, undef, undef, .pointer (some ⟨w.heap.size, 0, none⟩), .bool true, .pointer (some ⟨w1.heap.size, 0, none⟩), .func (.func gf) #[] lb, .int .i64 nx, .int .i64 ny, .int .i64 x.1, .pointer (some ⟨Bx, 0, none⟩), .bool true, .bool true, .bool false, .int .u8 f, .int .u8 n, v, .pointer (some ⟨b, 0, none⟩), .bool true, .bool false, .bool false, .pointer (some ⟨b, 0, none⟩), .bool false, .bool false, .pointer (some ⟨b, 0, none⟩), .agg #[.bool true, .bool true], .func (.func gf) #[] lb, .pointer (some ⟨b, 0, none⟩), .agg #[.bool true, .bool false], fv3, .int .i64 nx, .pointer (some ⟨b, 0, none⟩), .agg #[.bool false, .bool true], fv5, .int .i64 ny, .func (.func gf) #[] lb, .int .i64 x.1, x.2.v, undef, undef, undef, undef, undef, undef, undef, undef, undef, undef, undef, undef, undef, undef, undef, undef, undef, undef, undef, undef, undef, undef, undef, undef, undef, undef, undef, undef, undef, undef, undef, undef, undef, undef, undef, undef, undef, undef, undef, undef, undef, undef, undef, undef, undef, undef, undef, undef, undef, undef, undef, undef, undef, undef, undef, undef, undef, undef, undef, undef, undef, undef, undef], defers := [] })
    (fun x a' => AbL.of (m := 2 + 3) (fun s A A' row hs hg hr => by obtain ⟨Bx, e1, e2, e3⟩ := hs; exact ⟨Bx, e1, e2.kept hg (fun e => by have := hr _ e.symm; omega), e3⟩) rfl)
    ?assign ?body ?done ?stop
  case assign =>
    rintro l' pre ⟨id, ⟨⟨⟨e, lb', q, a⟩, en, gr, p⟩, s⟩⟩ V K h hsz hK
    gi_wp2
    exact hK _ _ (KW.of_below (bal V _)) (KpX.of_below (bal V _) (by omega) hsz) (h.alloc h.size _) ⟨V.heap.size, hsz, CB.new _ _ _, rfl⟩
  case body =>
    rintro l' pre ⟨id, ⟨⟨⟨e, lb', q, a⟩, en, gr, p⟩, s⟩⟩ a' V hsz hJ ⟨Bx, hBx, hbx, rfl⟩ hpx
    have hmem : (id, (⟨⟨⟨e, lb', q, a⟩, en, gr, p⟩, s⟩ : En)) ∈ readyL f' es true true := hpx.subset (by simp)
    obtain ⟨hm1, hm2⟩ := List.mem_filter.1 hmem
    obtain ⟨k9, hk9, hx9⟩ := items_mem hm1
    have hid : id = f' + k9 := (Prod.mk.inj hx9).1
    have hhas : hasB f' es.length id = true := by rw [hid, hasB_iff]; omega
    have hi64 : Int64 id := by have := HP.out.fit.f0; have := HP.out.fit.s1; constructor <;> omega
    have HH := hi (CH.out V id (H6.out.later hJ).bk hi64)
    rw [hhas] at HH
    have e0 := (H6.out.later hJ).box.cell 0
    have HJ := hi hJ
    obtain ⟨d0, d1, d2, d3, d4, d5, d6, d7⟩ := CB.ent hbx
    dsimp only at d0 d1 d2 d3 d4 d5 d6 d7
    have hcase : en = true ∧ a = false ∧ (q = true ∨ (q = false ∧ e = false ∧ lb' = true)) := by
      cases en <;> cases a <;> cases q <;> cases e <;> cases lb' <;> simp [rdyB, St.ready, St.pend] at hm2 ⊢
    clear hmem hm1 hm2 hpx hx9 hk9 hid hhas hi64 hbx hJ
    obtain ⟨rfl, rfl, hc⟩ := hcase
    rcases hc with rfl | ⟨rfl, rfl, rfl⟩
    all_goals
      gi_wp2_with (first
        | (refine ⟨trivial, ?_⟩; gi_at_call 16; ((with_reducible refine (CallsIn.inRound l' (callsIn_wide.2 HH.out)).mono ?_); rintro e' V1 ⟨rfl, m, rfl⟩))
        | gi_in)
      exact ⟨KW.of_below (Below.drewN (Below.refl _ _)), KpX.of_below (Below.drewN (Below.refl _ _)) (by omega) (by omega), Below.drewN HJ.out⟩
  case done =>
    rintro ys V rfl hJ hK hsz4
    have HAV := hi (HA6.out.below hJ)
    have GV := hi (H6.out.later hJ)
    have HK := hi hK
    have hsv := hJ.size
    have hlo0 := H1.out.below.size
    clear hK hJ
    dsimp only
    go_wp2_with (first
      | (go_at_call 24; ((with_reducible refine (CC0.out _ _ _ _ _ HAV.out).mono ?_); rintro e' v1 ⟨rfl, hB⟩; have HA1 := hi (HAV.out.below hB); have G1 := hi (GV.out.later hB); have B1 := hi hB; clear hB))
      | (go_at_call 31; ((with_reducible refine (of_it 0 HA1.out (Nat.le_trans HLE.out (Nat.le_trans hsv B1.out.size))).mono ?_); rintro e' v2 ⟨gv, rfl, hit, hB⟩; rw [ready_of0] at hit; have HO2 := hi hit; have HA2 := hi (HA1.out.below hB); have G2 := hi (G1.out.later hB); have B2 := hi (B1.out.trans (hB.mono B1.out.size)); clear hit hB))
      | (go_at_call 24; ((with_reducible refine (CC1.out _ _ _ _ _ HO2.out).mono ?_); rintro e' v3 ⟨rfl, hB⟩; have HA3 := hi (HA2.out.below hB); have G3 := hi (G2.out.later hB); have B3 := hi (B2.out.trans (hB.mono B2.out.size)); clear hB))
      | (go_at_call 31; ((with_reducible refine (of_it 1 HA3.out (Nat.le_trans HLE.out (Nat.le_trans hsv B3.out.size))).mono ?_); rintro e' v4 ⟨gv2, rfl, hit, hB⟩; rw [ready_of1 HG.out] at hit; have HO4 := hi hit; have G4 := hi (G3.out.later hB); have B4 := hi (B3.out.trans (hB.mono B3.out.size)); clear hit hB))
      | (go_at_call 24; ((with_reducible refine (CC2.out _ _ _ _ _ HO4.out).mono ?_); rintro e' v5 ⟨rfl, hB⟩; have G5 := hi (G4.out.later hB); have B5 := hi (B4.out.trans (hB.mono B4.out.size)); have d0 := G5.out.box.cell 0; clear hB))
      | (go_at_call 21; ((with_reducible refine (CR.out _ _ _ G5.out.bk).mono ?_); rintro e' v6 ⟨fv6, rfl, hit, hB⟩; rw [ready_none] at hit; have HO6 := hi hit; have G6 := hi (G5.out.later hB); have B6 := hi (B5.out.trans (hB.mono B5.out.size)); clear hit hB d0))
      | (go_at_call 24; ((with_reducible refine (CC3.out _ _ _ _ _ HO6.out).mono ?_); rintro e' v7 ⟨rfl, hB⟩; have G7 := hi (G6.out.later hB); have B7 := hi (B6.out.trans (hB.mono B6.out.size)); have r0 := G7.out.res.cell 0; have r1 := G7.out.res.frozen 0; clear hB)))
    have hrl := H6.out.res.lt
    have hkk : (v7.setCell ⟨w.heap.size, 0, none⟩ (.bool true)).heap[w6.heap.size]? = some (.deferred (some [])) := (Below.heap_setCell v7 ⟨w.heap.size, 0, none⟩ _ _ (show w6.heap.size ≠ w.heap.size by omega)).trans ((B7.out.block _ (by omega)).trans HK.out)
    refine ⟨by simp, .inl ⟨_, _, rfl, run_takeDeferred hkk, ?_⟩⟩
    have hc9 : CB (v7.setCell ⟨w.heap.size, 0, none⟩ (.bool true)) w.heap.size 4 #[.bool true] := G7.out.res.set 0 (.bool true)
    exact ⟨_, results_cellb rfl _ _ w.heap.size true rfl (hc9.heap (World.putObj_heap_other (by omega))), rfl, below_put (below_set G7.out.below (Nat.le_refl _) _) _ (by have := G7.out.below.size; simpa using this) (by omega)⟩
  case stop =>
    rintro c pre V _ h _ _
    exact h.elim

end Go.Proofs.Ytfjihpcemmobjaa
