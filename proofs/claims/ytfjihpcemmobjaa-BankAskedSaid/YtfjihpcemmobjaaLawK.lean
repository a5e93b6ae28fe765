/-
  The law BankAsked at every input.
-/
import Derived.Test.YtfjihpcemmobjaaLawJ
namespace Go.Proofs.Ytfjihpcemmobjaa
open Go.ChangeShapes Go.WideShapes Go.ChangeAt Go.RowKit Go.Shelf
set_option linter.unusedVariables false
attribute [local go_sem] Oper.semAt_some

/-- What Reset and Do leave of a bank's shape, and of all else. -/
structure JA (w5 : World) (T b g cap : Nat) (f : Int) (N : Nat) (V : World) : Prop where
  bk : ∃ es : List En, BkAt V b g cap f es ∧ es.length = N
  kept : Kept (fun i => i = T ∨ i = g) w5 V
theorem JA.after {w5 V V' : World} {T b g cap : Nat} {f : Int} {N : Nat} {es : List En} (h : JA w5 T b g cap f N V) (ha : After V b g cap f es V') (hn : es.length = N) : JA w5 T b g cap f N V' :=
  ⟨⟨es, ha.bk, hn⟩, h.kept.trans (ha.kept.mono fun i e => .inr e)⟩

theorem below_kept {n : Nat} {A B : World} (h : Below n A B) : Kept (fun i => n ≤ i) A B := ⟨h.os, h.tape, h.output, h.size, fun i _ hn => h.block i (by omega)⟩
theorem JA.grow {w5 V V' : World} {T b g cap base : Nat} {f : Int} {N : Nat} (h : JA w5 T b g cap f N V) (hb : Below T V V') (hk : ∀ i, i < base → i ≠ T → V'.heap[i]? = V.heap[i]?) (hw : w5.heap.size ≤ base) (h1 : b < T) (h2 : g < T) : JA w5 T b g cap f N V' := by
  obtain ⟨es, hbk, hn⟩ := h.bk
  exact ⟨⟨es, hbk.kept (below_kept hb) (by omega) (by omega), hn⟩, ⟨hb.os.trans h.kept.os, hb.tape.trans h.kept.tape, hb.output.trans h.kept.output, Nat.le_trans h.kept.size hb.size,
    fun i hi' hn' => (hk i (by omega) (fun e => hn' (.inl e))).trans (h.kept.block i hi' hn')⟩⟩
theorem sameB_self (xs : List Int) : sameB xs xs = true := by simp [sameB]

set_option maxRecDepth 100000 in
set_option maxHeartbeats 16000000 in
theorem lawAsked_any (f n : Int) (v : Value) (xs : List Ac9) (g0 g1 : Bool) (w : World) (hf0 : 0 ≤ f) (hf1 : f < 256) (hn0 : 0 ≤ n) (hn1 : n < 256) (h : ActsAt w v xs) (hl : xs.length ≤ 9223372036854775806) :
    Calls Try.prog 8 #[.int .u8 f, .int .u8 n, v, .agg #[.bool g0, .bool g1]] w fun e w' => e = .returned (.bool true) ∧ Below w.heap.size w w' := by
  obtain ⟨i0, hi2, hz0, hz1, hz2⟩ := info_parts info_i
  have CPL := hi (fun w0 (hb : Below w.heap.size w w0) => played_any f n v xs w0 hf0 hf1 hn0 hn1 (h.below hb) hl)
  clear h hl hf0 hf1 hn0 hn1
  refine (callsIn_wide (n := 6)).1 ?_
  refine callsIn_of_wp_marks Try.func8 rfl trivial ?_ rfl
  simp only [Try.ntmps8, List.size_toArray, List.length_cons, List.length_nil, Nat.reduceAdd, Nat.reduceSub, Array.replicate_succ, Array.replicate_zero, List.push_toArray, List.append_toArray, List.nil_append, List.cons_append]
  refine wpIn_wide.2 ?_
  go_wp2_with (go_at_call 9; ((with_reducible refine (awake_any _).mono ?_); rintro e' w0 ⟨rfl, hb⟩; have HG0 := hi ((CB.new w 23 #[.bool g0, .bool g1]).below hb); have HB0 := hi ((bal w (.cells #[.bool g0, .bool g1] 23)).trans (hb.mono (bal w (.cells #[.bool g0, .bool g1] 23)).size)); clear hb))
  go_at_call 30
  (with_reducible refine (CPL.out w0 HB0.out).mono ?_)
  rintro e' w1 ⟨b, g, cap, f', es, rfl, hP⟩
  have HP := hi hP
  have HG1 := hi ((HG0.out.below hP.below).alloc (.cells #[.pointer (some ⟨b, 0, none⟩)] 25))
  have HP1 := hi (CB.new w1 25 #[.pointer (some ⟨b, 0, none⟩)])
  have HK1 := hi (hP.bk.below (bal w1 (.cells #[.pointer (some ⟨b, 0, none⟩)] 25)))
  have HB1 := hi ((HB0.out.trans (hP.below.mono HB0.out.size)).alloc (HB0.out.trans (hP.below.mono HB0.out.size)).size (.cells #[.pointer (some ⟨b, 0, none⟩)] 25))
  have hs1 : w.heap.size < w0.heap.size := by have h9 := HG0.out.lt; exact h9
  have hs2 := hP.below.size
  have hlb := hP.lb
  have hlg := hP.lg
  have hbl := hP.bk.box.lt
  have hgl := hP.bk.row.lt
  clear hP CPL HG0 HB0
  have CR := hi (fun W (hW : BkAt W b g cap f' es) => ready_it g0 g1 hW HP.out.fit HP.out.right)
  have CI := hi (fun lo hi' k fv W (hW : Iter lo hi' k fv (readyL f' es g0 g1) W) => ids_own hW (by
    have h1 : (readyL f' es g0 g1).length ≤ (items f' es).length := List.length_filter_le _ _
    rw [items_len] at h1
    have := HP.out.few
    omega))
  have HFEW := hi (show (readyL f' es g0 g1).length < 64 by
    have h1 : (readyL f' es g0 g1).length ≤ (items f' es).length := List.length_filter_le _ _
    rw [items_len] at h1
    have := HP.out.few
    omega)
  have HMEM := hi (fun x (hx : x ∈ readyL f' es g0 g1) => show 0 ≤ x.1 ∧ x.1 < 16384 by
    obtain ⟨k, hk, rfl⟩ := items_mem (List.mem_filter.1 hx).1
    have := HP.out.fit.f0
    have := HP.out.fit.s1
    exact ⟨by show 0 ≤ f' + (k : Int); omega, by show f' + (k : Int) < 16384; omega⟩)
  obtain ⟨N, hN⟩ : ∃ N, es.length = N := ⟨_, rfl⟩
  have CD := hi (fun es2 (h2 : es2.length = N) W id (hW : BkAt W b g cap f' es2) (hid : Int64 id) => do_any (id := id) (a := 3) hW (by rw [h2, ← hN]; exact HP.out.fit) hid)
  have CW := hi (fun es2 (h2 : es2.length = N) W (hW : BkAt W b g cap f' es2) => reset_any hW (by rw [h2, ← hN]; exact HP.out.fit))
  obtain ⟨L, hL⟩ : ∃ L, readyL f' es g0 g1 = L := ⟨_, rfl⟩
  rw [hL] at CR CI HFEW HMEM
  have HN := hi hN
  clear hL hN
  have d0 := HP1.out.cell 0
  have d1 := HG1.out.cell 0
  have d2 := HG1.out.cell 1
  go_wp2_with (first
    | (go_at_call 21; ((with_reducible refine (CR.out _ HK1.out).mono ?_); rintro e' w2 ⟨fv, rfl, hit, hB⟩; have HIT := hi hit; have HG2 := hi (HG1.out.below hB); have HP2 := hi (HP1.out.below hB); have HK2 := hi (HK1.out.below hB); have HB2 := hi (HB1.out.trans (hB.mono HB1.out.size)); have hs3 := hi hB.size; clear hit hB d0 d1 d2))
    | (go_at_call 20; ((with_reducible refine (CI.out _ _ _ _ _ HIT.out).mono ?_); rintro e' w3 ⟨wa, wc, rfl, hrow, hB⟩; have HW3 := hi (own_later hrow (bal w3 (.cells #[.slice none 0 0] 43))); have HG3 := hi ((HG2.out.below hB).alloc (.cells #[.slice none 0 0] 43)); have HP3 := hi ((HP2.out.below hB).alloc (.cells #[.slice none 0 0] 43)); have HK3 := hi ((HK2.out.below hB).below (bal w3 (.cells #[.slice none 0 0] 43))); have HB3 := hi ((HB2.out.trans (hB.mono HB2.out.size)).alloc (Nat.le_trans HB2.out.size hB.size) (.cells #[.slice none 0 0] 43)); have HT3 := hi (CB.new w3 43 #[.slice none 0 0]); have hs4 := hi hB.size; have d0 := HP3.out.cell 0; have d1 := HG3.out.cell 0; have d2 := HG3.out.cell 1; have hwl := hi hrow.lt; clear hrow hB))
    | (go_at_call 21; ((with_reducible refine (CR.out _ HK3.out).mono ?_); rintro e' w5 ⟨fv2, rfl, hit, hB⟩; have HIT5 := hi hit; have HG5 := hi (HG3.out.below hB); have HP5 := hi (HP3.out.below hB); have HK5 := hi (HK3.out.below hB); have HB5 := hi (HB3.out.trans (hB.mono HB3.out.size)); have HT5 := hi (HT3.out.below hB); have HW5 := hi (own_later HW3.out hB); have hs5 := hi hB.size; clear hit hB d0 d1 d2)))
  have hfv := HIT5.out
  obtain ⟨gf, lb, rfl, eg, hh5, hq⟩ := hfv
  have hst := hq w5 (Nat.le_refl _) (fun _ _ _ => rfl)
  clear hq HIT HG1 HG2 HG3 HP1 HP2 HP3 HK1 HK2 HK3 HB1 HB2 HB3 HT3 HW3
  have hz3 := hs3.out
  have hz4 := hs4.out
  have hz5 := hs5.out
  rw [World.size_alloc] at hz3 hz5
  rw [World.size_alloc] at hst
  have hJ0 : JA w5 w3.heap.size b g cap f' N w5 := ⟨⟨es, HK5.out, HN.out⟩, Kept.refl _ _⟩
  have HJ0 := hi hJ0
  clear hJ0 HK5 HIT5
  refine (wpIn_wide (n := 6)).1 ?_
  refine range_win (n := 6) (by omega) (gf := gf) (lb := lb) rfl eg
    hst (fun a b => KpX.trans a b) (fun V l o o' h1 h2 h3 h4 => kpx_put (by omega) (by omega)) (Below.refl _ _) (fun _ => rfl)
    (fun pre V => (∃ v, Boxed V w3.heap.size 43 v ∧ V.ownsRow (w5.heap.size + 2 + 3) 3 1 v pre.length (ints (idsOf pre))) ∧ JA w5 w3.heap.size b g cap f' N V)
    (fun cd pre V => False)
    (AbL.and (rowBox_abL 43 3 1 w3.heap.size w5.heap.size 3 (by omega) (fun pre => List.length pre) (fun pre => ints (idsOf pre)))
      (AbL.of (m := 2 + 3) (fun s A A' row hs hg hr => by
        obtain ⟨es2, h1, h2⟩ := hs.bk
        exact ⟨⟨es2, h1.kept (kept_grown hg) (fun e => by have := hr _ e; omega) (fun e => by have := hr _ e; omega), h2⟩, hs.kept.grownW hg (fun r e => (hr r e).1)⟩) rfl))
    (fun _ _ _ _ _ hs _ _ => hs)
    ⟨⟨_, HT5.out, World.ownsRow_nil _ _ _ _⟩, HJ0.out⟩
    (fun x a' V => a' = { tmps := #[.int .u8 f, .int .u8 n, v, .agg #[.bool g0, .bool g1], undef, undef, undef, .pointer (some ⟨w.heap.size, 0, none⟩), .bool false, .bool true, .pointer (some ⟨w1.heap.size, 0, none⟩), .slice wa (idsOf L).length wc, .pointer (some ⟨w3.heap.size, 0, none⟩), .int .i64 x.1, .bool true, .bool true, .bool false, .int .u8 f, .int .u8 n, v, .pointer (some ⟨b, 0, none⟩), .bool true, .bool false, .bool false, .pointer (some ⟨b, 0, none⟩), .bool false, .bool false, .pointer (some ⟨b, 0, none⟩), .agg #[.bool g0, .bool g1], fv, .slice wa (idsOf L).length wc, .pointer (some ⟨b, 0, none⟩), .agg #[.bool g0, .bool g1], .func (.func gf) #[] lb, .int .i64 x.1, x.2.v, undef, undef, undef, undef, undef, undef, undef, undef, undef, undef, undef, undef, undef, undef, undef, undef], defers := [] })
    (fun x a' => AbL.pure _ _ _)
    ?assign ?body ?done ?stop
  case assign =>
    rintro l' pre x V K h hsz hK
    gi_wp2
    exact hK _ _ (KW.refl _ _) (KpX.refl _ _ _ _ _) h rfl
  case body =>
    rintro l' pre x a' V hsz ⟨⟨v', hv, hrow⟩, hJ⟩ rfl hpx
    have hlt : pre.length < 64 := by have h8 := hpx.length_le; have h9 := HFEW.out; rw [List.length_append] at h8; omega
    obtain ⟨hx0, hx1⟩ := HMEM.out x (hpx.subset (by simp))
    clear hpx
    have hcv := hv.cell
    have hWs := hJ.kept.size
    obtain ⟨q, hq⟩ : ∃ q, ints (idsOf pre) = q := ⟨_, rfl⟩
    obtain ⟨m, hm⟩ : ∃ m, pre.length = m := ⟨_, rfl⟩
    rw [hq, hm] at hrow
    rw [hm] at hlt
    have hmb : m + 1 ≤ 20000 := by omega
    have HQ := hi hq
    have HM := hi hm
    have HJ := hi hJ
    have hwx : IntKind.i64.wrap (x.1 + 1) = x.1 + 1 := by rw [IntKind.wrap_i64]; omega
    have hi64 : Int64 (x.1 + 1) := ⟨by omega, by omega⟩
    have hm1 : decide (100 < m + 1) = false := by simp; omega
    clear hq hm hJ
    obtain ⟨va, vc, rfl⟩ := own_slice hrow
    gi_wp2_with (first
      | (gi_at_builtin; refine wpListIn_append_own _ rfl _ _ 43 rfl (w5.heap.size + 2 + 3) 3 i0 (.int .i64 0) 1 8 Try.underlying43 hi2 hz0 hz1 hz2 rfl (by decide) _ _ _ rfl (hrow.alloc _) ⟨V.heap.size, 0, none⟩ 1 1 [.int .i64 x.1] rfl rfl (cell_one_new _ _ _) (by simp [Value.oneCell']) (by unfold maxLen; omega) (by omega) (by simp; omega) ?_; intro v' w9 hown' hgrow _; obtain ⟨g', cap', rfl⟩ := ownsRow_succ hown'; obtain ⟨hv1, hv2, hr2, hs2, hk2, hp2⟩ := grow_box hv hrow (by omega) (by omega) hown' hgrow; have hc1 := hv1.cell; have hf1 := hv1.frozen; have hja := HJ.out.grow hp2 hk2 (by omega) (by omega) (by omega); have b0 := (HP5.out.keptB hja.kept (fun e => by rcases e with e | e <;> omega)).cell 0; obtain ⟨es2, hbk2, hN2⟩ := hja.bk; have HJ9 := hi hja; have HR9 := hi hr2; have HV9 := hi hv2; clear hv1 hja hr2 hv2)
      | (refine ⟨trivial, ?_⟩; gi_at_call 13; ((with_reducible refine (CallsIn.inRound l' (callsIn_wide.2 (CW.out _ hN2 _ hbk2))).mono ?_); rintro e' w10 ⟨rfl, hA⟩; have hja := HJ9.out.after hA (by rw [List.length_map]; exact hN2); have b0 := (HP5.out.keptB hja.kept (fun e => by rcases e with e | e <;> omega)).cell 0; obtain ⟨es3, hbk3, hN3⟩ := hja.bk; have HA10 := hi hA; have HJ10 := hi hja; clear hja hA))
      | (refine ⟨trivial, ?_⟩; gi_at_call 12; ((with_reducible refine (CallsIn.inRound l' (callsIn_wide.2 (CD.out _ hN3 _ (x.1 + 1) hbk3 hi64))).mono ?_); rintro e' w11 ⟨rfl, hA⟩; have hja := HJ10.out.after hA (by rw [doR_len]; exact hN3); have hkk9 := HA10.out.kept.trans hA.kept; have hv11 : Boxed w11 w3.heap.size 43 (.slice (some ⟨g', 0, none⟩) (m + 1) cap') := (hkk9.block _ (by omega) (by omega)).trans HV9.out; have hc11 := hv11.cell; have HKK := hi hkk9; have HJ11 := hi hja; clear hja hA hkk9 hv11))
      | gi_in)
    have hkg : ∀ i, i = g → i < w5.heap.size := fun i e => by omega
    have hown : ∀ j, (Value.slice (some ⟨g', 0, none⟩) (m + 1) cap').ownBlock = some j → j < (w9.setCell ⟨w3.heap.size, 0, none⟩ (.slice (some ⟨g', 0, none⟩) (m + 1) cap')).heap.size ∧ j ≠ g := fun j e => by
      have := HR9.out.lt j e
      exact ⟨this.2, by omega⟩
    refine ⟨(show KW w5.heap.size V (w9.setCell ⟨w3.heap.size, 0, none⟩ (.slice (some ⟨g', 0, none⟩) (m + 1) cap')) from ⟨hs2, fun i o h1 h2 h3 _ => (hk2 i (by omega) (by omega)).trans h3⟩).trans (HKK.out.kw hkg),
      (show KpX (w3.heap.size + 1) w5.heap.size 3 (w5.heap.size + 2) V (w9.setCell ⟨w3.heap.size, 0, none⟩ (.slice (some ⟨g', 0, none⟩) (m + 1) cap')) from ⟨hs2, fun i q => hk2 i (by omega) (by omega)⟩).trans (KpX.kept HKK.out (by omega) (by omega) (fun i e => by subst e; omega)),
      ⟨_, (HKK.out.block _ (by omega) (by omega)).trans HV9.out, ?_⟩, HJ11.out⟩
    rw [idsOf_append, show idsOf [x] = [x.1] from rfl, ints_append, HQ.out, show (pre ++ [x]).length = m + 1 by have := HM.out; simp; omega]
    exact own_heap HR9.out (fun j e => HKK.out.block j (hown j e).1 (hown j e).2)
  case done =>
    rintro ys V rfl ⟨⟨v', hv, hrow⟩, hJ⟩ hK hsz4
    have hcv := hv.cell
    obtain ⟨va, vc, rfl⟩ := own_slice hrow
    have hgot : IntsAt V (.slice va ys.length vc) (idsOf ys) := intsAt_row (show V.ownsRow (w5.heap.size + 2 + 3) 3 1 (.slice va ys.length vc) (idsOf ys).length (ints (idsOf ys)) by rw [idsOf_len]; exact hrow)
    have hwant : IntsAt V (.slice wa (idsOf ys).length wc) (idsOf ys) := intsAt_row (own_heap HW5.out (fun j e => by
      have h9 := hwl.out j e
      exact hJ.kept.block j (by omega) (fun e2 => by rcases e2 with e2 | e2 <;> omega)))
    have hll : (idsOf ys).length ≤ 9223372036854775806 := by rw [idsOf_len]; have := HFEW.out; omega
    have CS := hi (same_any (idsOf ys) (idsOf ys) _ _ V hgot hwant hll hll)
    rw [sameB_self] at CS
    have HJV := hi (HB5.out.trans (hJ.kept.toBelow HB5.out.size (fun i e => by rcases e with e | e <;> omega)))
    clear hgot hwant hll hrow hJ
    dsimp only
    go_wp2_with (go_at_call 19; ((with_reducible refine CS.out.mono ?_); rintro e' w12 ⟨rfl, m, rfl⟩))
    refine ⟨by simp, .inl ⟨_, _, rfl, run_takeDeferred (show (V.drewN m).heap[w5.heap.size]? = _ from hK), ?_⟩⟩
    exact ⟨_, results_tmp rfl _ _ _, rfl, below_put (Below.drewN (m := m) HJV.out) _ HJV.out.size (by omega)⟩
  case stop =>
    rintro c pre V _ h _ _
    exact h.elim

end Go.Proofs.Ytfjihpcemmobjaa
