import Derived.Test.YtggeakkofcaklaaGreatMg08
import Derived.Test.YtggeakkofcaklaaGreatMg10
import Derived.Test.YtggeakkofcaklaaGreatMg12
namespace Go.Proofs.YtggeakkofcaklaaGreat
open Go.ChangeShapes Go.WideShapes Go.ChangeAt Go.RowKit Go.Shelf
set_option linter.unusedVariables false
attribute [local go_sem] Oper.semAt_some
attribute [local go_sem high] neqLn guardL
structure RW (w1 : World) (b lg xg : Nat) (la xa : Option Addr) (lc xc : Nat) (f0 : Int) (es es' : List En) (V : World) : Prop where
  rf : RfAt V b lg xg la xa lc xc f0 es'
  kept : Kept (fun i => es ≠ [] ∧ (i = lg ∨ i = xg)) w1 V
section
variable {w1 V V' : World} {b lg xg : Nat} {la xa : Option Addr} {lc xc : Nat} {f0 : Int} {es es' : List En}
theorem RW.later (h : RW w1 b lg xg la xa lc xc f0 es es' V) (k : Below V.heap.size V V') : RW w1 b lg xg la xa lc xc f0 es es' V' := ⟨h.rf.below k, h.kept.below k⟩
theorem RW.setLn (h : RW w1 b lg xg la xa lc xc f0 es es' V) {k : Nat} {x : En} (hk : es'[k]? = some x) (hne : es ≠ []) (y : Ln) : RW w1 b lg xg la xa lc xc f0 es (es'.set k ⟨y, x.s⟩) (V.setCells lg (k * 7) y.cs) :=
  ⟨h.rf.setLn hk y, kept_sets (bs := fun i => es ≠ [] ∧ (i = lg ∨ i = xg)) (b := lg) ⟨hne, .inl rfl⟩ _ _ h.kept⟩
theorem RW.drew (h : RW w1 b lg xg la xa lc xc f0 es es' V) : RW w1 b lg xg la xa lc xc f0 es es' V.drew := ⟨h.rf.drew, h.kept.drew⟩
end
set_option maxRecDepth 100000 in
set_option maxHeartbeats 40000000 in
theorem rwrite_any {b lg xg : Nat} {la xa : Option Addr} {lc xc : Nat} {f0 : Int} {es : List En} {p : Pl} {c : Nat} {v : Nat} {w : World} (h : RfAt w b lg xg la xa lc xc f0 es) (hf : Fit f0 es.length) (hfine : FineAll es) (hp : PlOk p c) (hv : v < 18446744073709551616) :
    Calls Tryz.prog 91 #[.pointer (some ⟨b, 0, none⟩), p.v, .int .u64 v] w fun e w' => e = .returned (.int .i64 ((writeV p c f0 v es).2 : Nat)) ∧ RfAfter w b lg xg la xa lc xc f0 (writeV p c f0 v es).1 w' := by
  have HF := hi hf
  have HFA := hi hfine
  have H := hi h
  have HAT := hi (fun (es' : List En) id W (hW : RfAt W b lg xg la xa lc xc f0 es') (hF : Fit f0 es'.length) => at_any (id := id) hW hF)
  have HFD := hi (fun k W hk hc => rfieldD_any v p k W hv hk hc)
  have HWI := hi (wide_pos p.r).2
  have HLN := hi (fun ks => wrL_len p f0 v es ks)
  have HFN := hi (fun ks => wrL_fine (p := p) (f0 := f0) (v := v) (ks := ks) hfine)
  have hbw := h.box.lt
  have HNB := hi (show es ≠ [] → lg < w.heap.size ∧ xg < w.heap.size from fun e => ⟨(h.ne0 e).2.2.1.lt, (h.ne0 e).2.2.2.1.lt⟩)
  obtain ⟨n, hn⟩ : ∃ n, es.length = n := ⟨_, rfl⟩
  have HN := hi hn
  have hpk := hp.cnt
  have hfew := hp.few
  have hpf0 := hp.f0
  have hpf1 := hp.f1
  have HCN := hi (fun k => Nat.le_trans (wrL_le p f0 v es (presL f0 n p.f k)) (show (presL f0 n p.f k).length ≤ k from by
    have h2 : (presL f0 n p.f k).length ≤ (List.range k).length := List.length_filter_le _ _
    rwa [List.length_range] at h2))
  unfold writeV
  rw [hn]
  clear h hf hfine hp hn
  obtain ⟨r, fp, pc⟩ := p
  dsimp only at hpk hpf0 hpf1 HCN HWI
  subst hpk
  dsimp only [Pl.v, Pl.cs] at HFD ⊢
  have HNW := hi (CB.new w 70 #[.int .i64 r, .int .i64 fp, .int .i64 c])
  have HBW := hi (bal w (.cells #[.int .i64 r, .int .i64 fp, .int .i64 c] 70))
  have HSZ := hi (show (w.alloc (.cells #[.int .i64 r, .int .i64 fp, .int .i64 c] 70)).heap.size = w.heap.size + 1 by simp)
  have HR0 := hi (show RW (w.alloc (.cells #[.int .i64 r, .int .i64 fp, .int .i64 c] 70)) b lg xg la xa lc xc f0 es (wrL ⟨r, fp, c⟩ f0 v es []).1 (w.alloc (.cells #[.int .i64 r, .int .i64 fp, .int .i64 c] 70)) from ⟨H.out.below HBW.out, Kept.refl _ _⟩)
  go_enter Tryz.func91, Tryz.ntmps91
  go_wp2
  obtain ⟨w1, hw1⟩ : ∃ w1, w.alloc (.cells #[.int .i64 r, .int .i64 fp, .int .i64 c] 70) = w1 := ⟨_, rfl⟩
  rw [hw1] at HNW HBW HSZ HR0 ⊢
  clear hw1
  go_loopw [7, 8] (fun o i wr => ∃ k : Nat, k ≤ c ∧ i = .int .i64 k ∧ o = .int .i64 ((wrL ⟨r, fp, c⟩ f0 v es (presL f0 n fp k)).2 : Nat) ∧ Hi (RW w1 b lg xg la xa lc xc f0 es (wrL ⟨r, fp, c⟩ f0 v es (presL f0 n fp k)).1 wr)) (fun _ i _ => c - (intOf i).toNat)
  case atStart => exact ⟨0, Nat.zero_le _, rfl, rfl, HR0⟩
  case round =>
    obtain ⟨k, hk, rfl, rfl, HX⟩ := hrel
    clear HR0
    have HP := hi (HNW.out.keptB HX.out.kept (fun q => by have := HNB.out q.1; omega))
    have p0' : wr.cell? ⟨w.heap.size, 0, none⟩ = some (.int .i64 r) := HP.out.cell 0
    have p1' : wr.cell? ⟨w.heap.size, 1, none⟩ = some (.int .i64 fp) := HP.out.cell 1
    have p2' : wr.cell? ⟨w.heap.size, 2, none⟩ = some (.int .i64 c) := HP.out.cell 2
    by_cases hlt : k < c
    · have hlen1 := HLN.out (presL f0 n fp k)
      have hfin1 := HFN.out (presL f0 n fp k)
      have hcnt := HCN.out k
      have HSN := hi (wrL_snoc ⟨r, fp, c⟩ f0 v es (presL f0 n fp k) k)
      obtain ⟨q1, hq1⟩ : ∃ q1, (wrL ⟨r, fp, c⟩ f0 v es (presL f0 n fp k)).1 = q1 := ⟨_, rfl⟩
      obtain ⟨m, hm⟩ : ∃ m, (wrL ⟨r, fp, c⟩ f0 v es (presL f0 n fp k)).2 = m := ⟨_, rfl⟩
      have hwq : wrL ⟨r, fp, c⟩ f0 v es (presL f0 n fp k) = (q1, m) := by rw [← hq1, ← hm]
      rw [hwq] at HSN HX hlen1 hfin1 hcnt ⊢
      have HWQ := hi hwq
      dsimp only at hlen1 hfin1 hcnt HX ⊢
      rw [HN.out] at hlen1
      have hfit1 : Fit f0 q1.length := by rw [hlen1, ← HN.out]; exact HF.out
      have HA1 := hi (HAT.out q1 (fp + k) wr HX.out.rf hfit1)
      rw [hlen1] at HA1
      have hw : IntKind.i64.wrap (fp + k) = fp + k := by rw [IntKind.wrap_i64]; omega
      cases hin : hasB f0 n (fp + k)
      · rw [atI_no hin] at HA1
        have HE := hi (pres_no hin)
        clear hin hq1 hm hwq hlen1 hfin1 hcnt hfit1
        go_wp2_with (go_at_call 90; ((with_reducible refine HA1.out.mono ?_); rintro e w2 ⟨rfl, rfl⟩))
        go_roundw
        case rel => exact ⟨k + 1, by omega, by go_num, by rw [HE.out, HWQ.out], by rw [HE.out, HWQ.out]; exact HX⟩
        case measure => simp only [intOf]; omega
      · obtain ⟨hid, hjn⟩ := plc_at hin
        have HE := hi (pres_yes hin)
        obtain ⟨j, hj⟩ : ∃ j, plcK f0 fp k = j := ⟨_, rfl⟩
        have HWK := hi (show wrK ⟨r, fp, c⟩ f0 v (q1, m) k = (q1.set j ((nthE q1 j).with_ (chgV (fp + k) (nthE q1 j).ln r (fieldN (wideN r) v k))), if chgV (fp + k) (nthE q1 j).ln r (fieldN (wideN r) v k) = (nthE q1 j).ln then m else m + 1) by unfold wrK; dsimp only; rw [hj])
        rw [HWK.out] at HSN
        rw [hj] at hid hjn
        have HA2 := HA1
        rw [hid, atI_at hjn, ← hid] at HA1
        have hje : j < q1.length := by rw [hlen1]; exact hjn
        have hne : q1 ≠ [] := fun e => by rw [e] at hje; simp at hje
        have hne0 : es ≠ [] := fun e => by rw [e] at HN; have := HN.out; simp at this; omega
        have hfj : Fine (nthE q1 j).ln := hfin1.nth hje
        have HKE := hi (nthE_at hje)
        obtain ⟨rfl, hxa, hlr, _, hblg, _, _⟩ := HX.out.rf.ne0 hne
        have hb1 := HX.out.rf.box.cell 1
        rw [hlen1] at hb1
        have hlgw := (HNB.out hne0).1
        have hwsz := HX.out.kept.size
        have hw1s := HSZ.out
        obtain ⟨y, hy⟩ : ∃ y, nthE q1 j = y := ⟨_, rfl⟩
        rw [hy] at hfj HSN HKE
        have HLC := hi (hlr.lnc HKE.out)
        have hxl := fieldN_lt63 HWI.out v k
        have hfl := fieldN_lt (wideN r) v k
        have HFD1 := hi (fun W => HFD.out k W (by omega) (by simpa using hlt))
        obtain ⟨fx, hfx⟩ : ∃ fx, fieldN (wideN r) v k = fx := ⟨_, rfl⟩
        rw [hfx] at HFD1 hxl hfl HSN
        have HCH := hi (fun W => rchanged_any (fp + k) y.ln r fx W hxl)
        obtain ⟨ln2, hl2⟩ : ∃ ln2, chgV (fp + k) y.ln r fx = ln2 := ⟨_, rfl⟩
        rw [hl2] at HCH HSN
        have HEQ := hi (eqLn_iff ln2 y.ln)
        have hwm : IntKind.i64.wrap ((m : Int) + 1) = ((m + 1 : Nat) : Int) := by rw [IntKind.wrap_i64]; omega
        obtain ⟨m2, hm2⟩ : ∃ m2, m + 1 = m2 := ⟨_, rfl⟩
        rw [hm2] at hwm HSN
        have hbl := HX.out.rf.box.lt
        have hlgl := hlr.lt
        have HNE := hi hne0
        have HJE := hi hje
        clear hin hj hy hfx hq1 hm hwq hfl hl2 hm2 hlen1 hfin1 hcnt hje HWK hxl hlr hne hfj HA2 hid hne0 hfit1
        obtain ⟨⟨⟨e, lb', q, a⟩, en, gr, pr⟩, s⟩ := y
        obtain ⟨⟨ne, nl, nq, na⟩, nn, ng, np⟩ := ln2
        dsimp only [Ln.v] at HCH
        dsimp only [En.with_] at HSN HEQ
        dsimp only at HLC HCH HEQ
        have HDEC := hi (show eqLn ne nl nq na nn ng np e lb' q a en gr pr = decide ((⟨⟨ne, nl, nq, na⟩, nn, ng, np⟩ : Ln) = ⟨⟨e, lb', q, a⟩, en, gr, pr⟩) from HEQ.out)
        clear HEQ
        go_wp2_with (go_at_call 90; ((with_reducible refine HA1.out.mono ?_); rintro e' w2 ⟨rfl, rfl⟩))
        have hS0 : (fun W' => CB W' w.heap.size 70 #[.int .i64 r, .int .i64 fp, .int .i64 c] ∧ W'.cell? ⟨b, 1, none⟩ = some (.slice (some ⟨lg, 0, none⟩) n lc) ∧ LnC W' lg (j * 7) ⟨⟨e, lb', q, a⟩, en, gr, pr⟩ ∧ b < W'.heap.size ∧ lg < W'.heap.size) wr.drew := ⟨HP.out.drew, hb1, HLC.out.drew, hbl, hlgl⟩
        obtain ⟨V2d, hV2d⟩ : ∃ V2d, wr.drew = V2d := ⟨_, rfl⟩
        have HBD := hi (show Below wr.heap.size wr V2d by rw [← hV2d]; exact Below.drewN (m := 1) (Below.refl _ _))
        have hsz3 := hi (show V2d.heap.size = wr.heap.size by rw [← hV2d]; rfl)
        clear p0' p1' p2'
        refine wp_region_noPanic ?_
        refine wp_region_last_drew (S := (fun W' => CB W' w.heap.size 70 #[.int .i64 r, .int .i64 fp, .int .i64 c] ∧ W'.cell? ⟨b, 1, none⟩ = some (.slice (some ⟨lg, 0, none⟩) n lc) ∧ LnC W' lg (j * 7) ⟨⟨e, lb', q, a⟩, en, gr, pr⟩ ∧ b < W'.heap.size ∧ lg < W'.heap.size)) [19] (by kernel_rfl) hS0 (fun hHeld => ?_)
        have HS2 := hi hHeld
        have HB2 := HBD
        rw [hV2d] at HS2 hHeld ⊢
        obtain ⟨V2, rfl⟩ : ∃ V2', V2' = V2d := ⟨_, rfl⟩
        (try simp only [Array.replicate_succ, Array.replicate_zero, List.push_toArray, List.nil_append, List.cons_append])
        refine wpAnyF_take (i := 0) (v := ?_) (by kernel_rfl) (by kernel_rfl) rfl (by kernel_rfl) (by kernel_rfl) (by kernel_rfl) (fun _ _ _ h => h) (Or.inl ⟨by rfl, ?_⟩) (by assumption) ?_
        rotate_left
        · intro w' hSw; (try dsimp only at hSw); obtain ⟨hs1, hs2, hs3, _, _⟩ := hSw; have k0 := hs1.cell 0; have k1 := hs1.cell 1; have k2 := hs1.cell 2; obtain ⟨d0, d1, d2, d3, d4, d5, d6⟩ := hs3; dsimp only at d0 d1 d2 d3 d4 d5 d6; go_simp; (try with_reducible rfl)
        (try simp only [Act.put, List.getElem_toArray, List.getElem_cons_zero, List.setIfInBounds_toArray, List.set_cons_zero, List.set_cons_succ])
        refine wpAnyF_take (i := 1) (v := ?_) (by kernel_rfl) (by kernel_rfl) rfl (by kernel_rfl) (by kernel_rfl) (by kernel_rfl) (fun _ _ _ h => h) (Or.inl ⟨by rfl, ?_⟩) (by assumption) ?_
        rotate_left
        · intro w' hSw; (try dsimp only at hSw); obtain ⟨hs1, hs2, hs3, _, _⟩ := hSw; have k0 := hs1.cell 0; have k1 := hs1.cell 1; have k2 := hs1.cell 2; obtain ⟨d0, d1, d2, d3, d4, d5, d6⟩ := hs3; dsimp only at d0 d1 d2 d3 d4 d5 d6; go_simp; (try with_reducible rfl)
        (try simp only [Act.put, List.getElem_toArray, List.getElem_cons_zero, List.getElem_cons_succ, List.setIfInBounds_toArray, List.set_cons_zero, List.set_cons_succ])
        refine wpAnyF_take (i := 2) (v := ?_) (by kernel_rfl) (by kernel_rfl) rfl (by kernel_rfl) (by kernel_rfl) (by kernel_rfl) (fun _ _ _ h => h) (Or.inl ⟨by rfl, ?_⟩) (by assumption) ?_
        rotate_left
        · intro w' hSw; (try dsimp only at hSw); obtain ⟨hs1, hs2, hs3, _, _⟩ := hSw; have k0 := hs1.cell 0; have k1 := hs1.cell 1; have k2 := hs1.cell 2; obtain ⟨d0, d1, d2, d3, d4, d5, d6⟩ := hs3; dsimp only at d0 d1 d2 d3 d4 d5 d6; go_simp; (try with_reducible rfl)
        (try simp only [Act.put, List.getElem_toArray, List.getElem_cons_zero, List.getElem_cons_succ, List.setIfInBounds_toArray, List.set_cons_zero, List.set_cons_succ])
        refine wpAnyF_take (i := 3) (v := ?_) (by kernel_rfl) (by kernel_rfl) rfl (by kernel_rfl) (by kernel_rfl) (by kernel_rfl) (fun _ _ _ h => h) (Or.inl ⟨by rfl, ?_⟩) (by assumption) ?_
        rotate_left
        · intro w' hSw; (try dsimp only at hSw); obtain ⟨hs1, hs2, hs3, _, _⟩ := hSw; have k0 := hs1.cell 0; have k1 := hs1.cell 1; have k2 := hs1.cell 2; obtain ⟨d0, d1, d2, d3, d4, d5, d6⟩ := hs3; dsimp only at d0 d1 d2 d3 d4 d5 d6; go_simp; (try with_reducible rfl)
        (try simp only [Act.put, List.getElem_toArray, List.getElem_cons_zero, List.getElem_cons_succ, List.setIfInBounds_toArray, List.set_cons_zero, List.set_cons_succ])
        refine wpAnyF_take (i := 4) (v := ?_) (by kernel_rfl) (by kernel_rfl) rfl (by kernel_rfl) (by kernel_rfl) (by kernel_rfl) (fun _ _ _ h => h) (Or.inl ⟨by rfl, ?_⟩) (by assumption) ?_
        rotate_left
        · intro w' hSw; (try dsimp only at hSw); obtain ⟨hs1, hs2, hs3, _, _⟩ := hSw; have k0 := hs1.cell 0; have k1 := hs1.cell 1; have k2 := hs1.cell 2; obtain ⟨d0, d1, d2, d3, d4, d5, d6⟩ := hs3; dsimp only at d0 d1 d2 d3 d4 d5 d6; go_simp; (try with_reducible rfl)
        (try simp only [Act.put, List.getElem_toArray, List.getElem_cons_zero, List.getElem_cons_succ, List.setIfInBounds_toArray, List.set_cons_zero, List.set_cons_succ])
        refine wpAnyF_take (i := 5) (v := ?_) (by kernel_rfl) (by kernel_rfl) rfl (by kernel_rfl) (by kernel_rfl) (by kernel_rfl) (fun _ _ _ h => h) (Or.inl ⟨by rfl, ?_⟩) (by assumption) ?_
        rotate_left
        · intro w' hSw; (try dsimp only at hSw); obtain ⟨hs1, hs2, hs3, _, _⟩ := hSw; have k0 := hs1.cell 0; have k1 := hs1.cell 1; have k2 := hs1.cell 2; obtain ⟨d0, d1, d2, d3, d4, d5, d6⟩ := hs3; dsimp only at d0 d1 d2 d3 d4 d5 d6; go_simp; (try with_reducible rfl)
        (try simp only [Act.put, List.getElem_toArray, List.getElem_cons_zero, List.getElem_cons_succ, List.setIfInBounds_toArray, List.set_cons_zero, List.set_cons_succ])
        refine wpAnyF_take (i := 6) (v := ?_) (by kernel_rfl) (by kernel_rfl) rfl (by kernel_rfl) (by kernel_rfl) (by kernel_rfl) (fun _ _ _ h => h) (Or.inl ⟨by rfl, ?_⟩) (by assumption) ?_
        rotate_left
        · intro w' hSw; (try dsimp only at hSw); obtain ⟨hs1, hs2, hs3, _, _⟩ := hSw; have k0 := hs1.cell 0; have k1 := hs1.cell 1; have k2 := hs1.cell 2; obtain ⟨d0, d1, d2, d3, d4, d5, d6⟩ := hs3; dsimp only at d0 d1 d2 d3 d4 d5 d6; go_simp; (try with_reducible rfl)
        (try simp only [Act.put, List.getElem_toArray, List.getElem_cons_zero, List.getElem_cons_succ, List.setIfInBounds_toArray, List.set_cons_zero, List.set_cons_succ])
        refine wpAnyF_take (i := 7) (v := ?_) (by kernel_rfl) (by kernel_rfl) rfl (by kernel_rfl) (by kernel_rfl) (by kernel_rfl) (fun _ _ _ h => h) (Or.inl ⟨by rfl, ?_⟩) (by assumption) ?_
        rotate_left
        · intro w' hSw; (try dsimp only at hSw); obtain ⟨hs1, hs2, hs3, _, _⟩ := hSw; have k0 := hs1.cell 0; have k1 := hs1.cell 1; have k2 := hs1.cell 2; obtain ⟨d0, d1, d2, d3, d4, d5, d6⟩ := hs3; dsimp only at d0 d1 d2 d3 d4 d5 d6; go_simp; (try with_reducible rfl)
        (try simp only [Act.put, List.getElem_toArray, List.getElem_cons_zero, List.getElem_cons_succ, List.setIfInBounds_toArray, List.set_cons_zero, List.set_cons_succ])
        refine wpAnyF_take (i := 8) (v := ?_) (by kernel_rfl) (by kernel_rfl) rfl (by kernel_rfl) (by kernel_rfl) (by kernel_rfl) (fun _ _ _ h => h) (Or.inl ⟨by rfl, ?_⟩) (by assumption) ?_
        rotate_left
        · intro w' hSw; (try dsimp only at hSw); obtain ⟨hs1, hs2, hs3, _, _⟩ := hSw; have k0 := hs1.cell 0; have k1 := hs1.cell 1; have k2 := hs1.cell 2; obtain ⟨d0, d1, d2, d3, d4, d5, d6⟩ := hs3; dsimp only at d0 d1 d2 d3 d4 d5 d6; go_simp; (try with_reducible rfl)
        (try simp only [Act.put, List.getElem_toArray, List.getElem_cons_zero, List.getElem_cons_succ, List.setIfInBounds_toArray, List.set_cons_zero, List.set_cons_succ])
        refine wpAnyF_take (i := 9) (v := ?_) (by kernel_rfl) (by kernel_rfl) rfl (by kernel_rfl) (by kernel_rfl) (by kernel_rfl) (fun _ _ _ h => h) (Or.inl ⟨by rfl, ?_⟩) (by assumption) ?_
        rotate_left
        · intro w' hSw; (try dsimp only at hSw); obtain ⟨hs1, hs2, hs3, _, _⟩ := hSw; have k0 := hs1.cell 0; have k1 := hs1.cell 1; have k2 := hs1.cell 2; obtain ⟨d0, d1, d2, d3, d4, d5, d6⟩ := hs3; dsimp only at d0 d1 d2 d3 d4 d5 d6; go_simp; (try with_reducible rfl)
        (try simp only [Act.put, List.getElem_toArray, List.getElem_cons_zero, List.getElem_cons_succ, List.setIfInBounds_toArray, List.set_cons_zero, List.set_cons_succ])
        refine wpAnyF_take (i := 10) (v := ?_) (by kernel_rfl) (by kernel_rfl) rfl (by kernel_rfl) (by kernel_rfl) (by kernel_rfl) (fun _ _ _ h => h) (Or.inl ⟨by rfl, ?_⟩) (by assumption) ?_
        rotate_left
        · intro w' hSw; (try dsimp only at hSw); obtain ⟨hs1, hs2, hs3, _, _⟩ := hSw; have k0 := hs1.cell 0; have k1 := hs1.cell 1; have k2 := hs1.cell 2; obtain ⟨d0, d1, d2, d3, d4, d5, d6⟩ := hs3; dsimp only at d0 d1 d2 d3 d4 d5 d6; go_simp; (try with_reducible rfl)
        (try simp only [Act.put, List.getElem_toArray, List.getElem_cons_zero, List.getElem_cons_succ, List.setIfInBounds_toArray, List.set_cons_zero, List.set_cons_succ])
        refine wpAnyF_take (i := 11) (v := ?_) (by kernel_rfl) (by kernel_rfl) rfl (by kernel_rfl) (by kernel_rfl) (by kernel_rfl) (fun _ _ _ h => h) (Or.inl ⟨by rfl, ?_⟩) (by assumption) ?_
        rotate_left
        · intro w' hSw; (try dsimp only at hSw); obtain ⟨hs1, hs2, hs3, _, _⟩ := hSw; have k0 := hs1.cell 0; have k1 := hs1.cell 1; have k2 := hs1.cell 2; obtain ⟨d0, d1, d2, d3, d4, d5, d6⟩ := hs3; dsimp only at d0 d1 d2 d3 d4 d5 d6; go_simp; (try with_reducible rfl)
        (try simp only [Act.put, List.getElem_toArray, List.getElem_cons_zero, List.getElem_cons_succ, List.setIfInBounds_toArray, List.set_cons_zero, List.set_cons_succ])
        refine wpAnyF_take (i := 12) (v := ?_) (by kernel_rfl) (by kernel_rfl) rfl (by kernel_rfl) (by kernel_rfl) (by kernel_rfl) (fun _ _ _ h => h) (Or.inl ⟨by rfl, ?_⟩) (by assumption) ?_
        rotate_left
        · intro w' hSw; (try dsimp only at hSw); obtain ⟨hs1, hs2, hs3, _, _⟩ := hSw; have k0 := hs1.cell 0; have k1 := hs1.cell 1; have k2 := hs1.cell 2; obtain ⟨d0, d1, d2, d3, d4, d5, d6⟩ := hs3; dsimp only at d0 d1 d2 d3 d4 d5 d6; go_simp; (try with_reducible rfl)
        (try simp only [Act.put, List.getElem_toArray, List.getElem_cons_zero, List.getElem_cons_succ, List.setIfInBounds_toArray, List.set_cons_zero, List.set_cons_succ])
        refine wpAnyF_take (i := 13) (v := ?_) (by kernel_rfl) (by kernel_rfl) rfl (by kernel_rfl) (by kernel_rfl) (by kernel_rfl) (fun _ _ _ h => h) (Or.inl ⟨by rfl, ?_⟩) (by assumption) ?_
        rotate_left
        · intro w' hSw; (try dsimp only at hSw); obtain ⟨hs1, hs2, hs3, _, _⟩ := hSw; have k0 := hs1.cell 0; have k1 := hs1.cell 1; have k2 := hs1.cell 2; obtain ⟨d0, d1, d2, d3, d4, d5, d6⟩ := hs3; dsimp only at d0 d1 d2 d3 d4 d5 d6; go_simp; (try with_reducible rfl)
        (try simp only [Act.put, List.getElem_toArray, List.getElem_cons_zero, List.getElem_cons_succ, List.setIfInBounds_toArray, List.set_cons_zero, List.set_cons_succ])
        refine wpAnyF_take (i := 14) (v := ?_) (by kernel_rfl) (by kernel_rfl) rfl (by kernel_rfl) (by kernel_rfl) (by kernel_rfl) (fun _ _ _ h => h) (Or.inl ⟨by rfl, ?_⟩) (by assumption) ?_
        rotate_left
        · intro w' hSw; (try dsimp only at hSw); obtain ⟨hs1, hs2, hs3, _, _⟩ := hSw; have k0 := hs1.cell 0; have k1 := hs1.cell 1; have k2 := hs1.cell 2; obtain ⟨d0, d1, d2, d3, d4, d5, d6⟩ := hs3; dsimp only at d0 d1 d2 d3 d4 d5 d6; go_simp; (try with_reducible rfl)
        (try simp only [Act.put, List.getElem_toArray, List.getElem_cons_zero, List.getElem_cons_succ, List.setIfInBounds_toArray, List.set_cons_zero, List.set_cons_succ])
        refine wpAnyF_take (i := 15) (v := ?_) (by kernel_rfl) (by kernel_rfl) rfl (by kernel_rfl) (by kernel_rfl) (by kernel_rfl) (fun _ _ _ h => h) (Or.inl ⟨by rfl, ?_⟩) (by assumption) ?_
        rotate_left
        · intro w' hSw; (try dsimp only at hSw); obtain ⟨hs1, hs2, hs3, _, _⟩ := hSw; have k0 := hs1.cell 0; have k1 := hs1.cell 1; have k2 := hs1.cell 2; obtain ⟨d0, d1, d2, d3, d4, d5, d6⟩ := hs3; dsimp only at d0 d1 d2 d3 d4 d5 d6; go_simp; (try with_reducible rfl)
        (try simp only [Act.put, List.getElem_toArray, List.getElem_cons_zero, List.getElem_cons_succ, List.setIfInBounds_toArray, List.set_cons_zero, List.set_cons_succ])
        refine wpAnyF_ready (rs := [16, 18]) (by kernel_rfl) (by simp) ?_
        refine (AllReadyF.cons rfl (fun KK hKK => ?_) (AllReadyF.cons rfl (fun KK hKK => ?_) AllReadyF.nil))
        · go_simp
          ((with_reducible refine (HFD1.out _).mono ?_); rintro e' V3a ⟨rfl, hb⟩; have HS3a := hi (And.intro (HS2.out.1.below hb) (And.intro ((hb.cell (p := ⟨b, 1, none⟩) HS2.out.2.2.2.1).trans HS2.out.2.1) (And.intro (HS2.out.2.2.1.below HS2.out.2.2.2.2 hb) (And.intro (Nat.lt_of_lt_of_le HS2.out.2.2.2.1 hb.size) (Nat.lt_of_lt_of_le HS2.out.2.2.2.2 hb.size))))); have HB3a := hi (HB2.out.trans (hb.mono HB2.out.size)); have hz3a := hb.size; clear hb)
          (try go_simp)
          refine hKK.out _ _ HS3a.out (fun hHeld => ?_)
          clear hKK KK
          (try simp only [Act.put, List.getElem_toArray, List.getElem_cons_zero, List.getElem_cons_succ, List.setIfInBounds_toArray, List.set_cons_zero, List.set_cons_succ])
          refine wpAnyF_ready (rs := [17, 18]) (by kernel_rfl) (by simp) ?_
          refine (AllReadyF.cons rfl (fun KK hKK => ?_) (AllReadyF.cons rfl (fun KK hKK => ?_) AllReadyF.nil))
          · go_simp
            ((with_reducible refine (HCH.out _).mono ?_); rintro e' V4a ⟨rfl, hb⟩; have HS4a := hi (And.intro (HS3a.out.1.below hb) (And.intro ((hb.cell (p := ⟨b, 1, none⟩) HS3a.out.2.2.2.1).trans HS3a.out.2.1) (And.intro (HS3a.out.2.2.1.below HS3a.out.2.2.2.2 hb) (And.intro (Nat.lt_of_lt_of_le HS3a.out.2.2.2.1 hb.size) (Nat.lt_of_lt_of_le HS3a.out.2.2.2.2 hb.size))))); have HB4a := hi (HB3a.out.trans (hb.mono HB3a.out.size)); have hz4a := hb.size; clear hb)
            (try go_simp)
            refine hKK.out _ _ HS4a.out (fun hHeld => ?_)
            clear hKK KK
            (try simp only [Act.put, List.getElem_toArray, List.getElem_cons_zero, List.getElem_cons_succ, List.setIfInBounds_toArray, List.set_cons_zero, List.set_cons_succ])
            refine wpAnyF_ready (rs := [18]) (by kernel_rfl) (by simp) ?_
            refine AllReadyF.cons rfl (fun KK hKK => ?_) AllReadyF.nil
            go_simp
            have hb5a := bal V4a (.cells #[.bool false, .bool false, .bool false, .bool false, .bool false, .int .i64 0, .int .i64 0] 58)
            have HS5a := hi (And.intro (HS4a.out.1.below hb5a) (And.intro ((hb5a.cell (p := ⟨b, 1, none⟩) HS4a.out.2.2.2.1).trans HS4a.out.2.1) (And.intro (HS4a.out.2.2.1.below HS4a.out.2.2.2.2 hb5a) (And.intro (Nat.lt_of_lt_of_le HS4a.out.2.2.2.1 hb5a.size) (Nat.lt_of_lt_of_le HS4a.out.2.2.2.2 hb5a.size))))); have HB5a := hi (HB4a.out.trans (hb5a.mono HB4a.out.size)); have hz5a := hb5a.size
            have HZ5a := hi (CB.new V4a 58 #[.bool false, .bool false, .bool false, .bool false, .bool false, .int .i64 0, .int .i64 0])
            obtain ⟨V5a, hV5a⟩ : ∃ V5a, V4a.alloc (.cells #[.bool false, .bool false, .bool false, .bool false, .bool false, .int .i64 0, .int .i64 0] 58) = V5a := ⟨_, rfl⟩
            rw [hV5a] at hb5a HS5a HB5a hz5a HZ5a ⊢
            obtain ⟨N, hN⟩ : ∃ N, V4a.heap.size = N := ⟨_, rfl⟩
            rw [hN] at HZ5a ⊢
            clear hV5a hb5a
            refine hKK.out _ _ HS5a.out (fun hHeld => ?_)
            clear hKK KK
            (try simp only [Act.put, List.getElem_toArray, List.getElem_cons_zero, List.getElem_cons_succ, List.setIfInBounds_toArray, List.set_cons_zero, List.set_cons_succ])
            refine wpAnyF_ready (rs := [19]) (by kernel_rfl) (by simp) ?_
            refine AllReadyF.last (by kernel_rfl) rfl (fun KK hKK => ?_) AllReadyF.nil
            obtain ⟨z0, z1, z2, z3, z4, z5, z6⟩ := CB.cells7 (l := Ln.zero) HZ5a.out
            have fz := HZ5a.out.frozen
            dsimp only [Ln.zero, St.zero] at z0 z1 z2 z3 z4 z5 z6
            go_simp
            have HSE := HS5a
            have HBE := HB5a
            have HZE := HZ5a
            obtain ⟨VE, hVE⟩ : ∃ VE, V5a = VE := ⟨_, rfl⟩
            have hNE : wr.heap.size ≤ N := by have := hsz3.out; omega
            rw [hVE] at HSE HBE HZE ⊢
            refine hKK.out _ _ ?_
            clear hKK KK
            (try simp only [Act.put, List.getElem_toArray, List.getElem_cons_zero, List.getElem_cons_succ, List.setIfInBounds_toArray, List.set_cons_zero, List.set_cons_succ])
            refine wpAnyF_done (by kernel_rfl) ?_ _
            refine NoPanic.normal ?_
            have HNL := hi (CB.putL (y := Ln.zero) HZE.out ⟨⟨ne, nl, nq, na⟩, nn, ng, np⟩)
            have HBL := hi (show Below wr.heap.size wr (setL VE N 0 ⟨⟨ne, nl, nq, na⟩, nn, ng, np⟩) from below_putL HBE.out (by omega) _)
            dsimp only [setL] at HNL HBL
            simp only [Nat.zero_add] at HNL HBL
            obtain ⟨V6, hV6⟩ : ∃ V6, ((((((VE.setCell ⟨N, 0, none⟩ (.bool ne)).setCell ⟨N, 1, none⟩ (.bool nl)).setCell ⟨N, 2, none⟩ (.bool nq)).setCell ⟨N, 3, none⟩ (.bool na)).setCell ⟨N, 4, none⟩ (.bool nn)).setCell ⟨N, 5, none⟩ (.int .i64 ng)).setCell ⟨N, 6, none⟩ (.int .i64 np) = V6 := ⟨_, rfl⟩
            simp only [hV6] at HNL HBL
            try rw [hV6]
            have HW6 := hi (HX.out.later HBL.out)
            have hb6 : V6.cell? ⟨b, 1, none⟩ = some (.slice (some ⟨lg, 0, none⟩) n lc) := (HBL.out.cell (p := ⟨b, 1, none⟩) hbl).trans hb1
            have HTH := hi (show V6.drew.drew.there lg (j * 7) 7 from ((HW6.out.drew.drew.rf.ne0 (fun e => by have := HJE.out; rw [e] at this; simp at this)).2.2.1.lnThere HJE.out))
            have HS8 := hi (And.intro HNL.out.drew (And.intro hb6 ((HLC.out.below hlgl HBL.out).drew)))
            clear hV6 hV2d hHeld HSE HBE HZE hNE hN hVE hS0
            go_wp2
            refine wp_region_noPanic ?_
            refine wp_region_last_drew (S := (fun W' => CB W' N 58 #[.bool ne, .bool nl, .bool nq, .bool na, .bool nn, .int .i64 ng, .int .i64 np] ∧ W'.cell? ⟨b, 1, none⟩ = some (.slice (some ⟨lg, 0, none⟩) n lc) ∧ LnC W' lg (j * 7) ⟨⟨e, lb', q, a⟩, en, gr, pr⟩)) [] (by kernel_rfl) HS8.out (fun hHeld => ?_)
            (try simp only [Array.replicate_succ, Array.replicate_zero, List.push_toArray, List.nil_append, List.cons_append])
            refine wpAnyF_take (i := 0) (v := ?_) (by kernel_rfl) (by kernel_rfl) rfl (by kernel_rfl) (by kernel_rfl) (by kernel_rfl) (fun _ _ _ h => h) (Or.inl ⟨by rfl, ?_⟩) (by assumption) ?_
            rotate_left
            · intro w' hSw; (try dsimp only at hSw); obtain ⟨hs1, hs2, hs3⟩ := hSw; obtain ⟨k0, k1, k2, k3, k4, k5, k6⟩ := CB.cells7 (l := ⟨⟨ne, nl, nq, na⟩, nn, ng, np⟩) hs1; obtain ⟨d0, d1, d2, d3, d4, d5, d6⟩ := hs3; dsimp only at k0 k1 k2 k3 k4 k5 k6 d0 d1 d2 d3 d4 d5 d6; go_simp; (try with_reducible rfl)
            (try simp only [Act.put, List.getElem_toArray, List.getElem_cons_zero, List.setIfInBounds_toArray, List.set_cons_zero, List.set_cons_succ])
            refine wpAnyF_take (i := 1) (v := ?_) (by kernel_rfl) (by kernel_rfl) rfl (by kernel_rfl) (by kernel_rfl) (by kernel_rfl) (fun _ _ _ h => h) (Or.inl ⟨by rfl, ?_⟩) (by assumption) ?_
            rotate_left
            · intro w' hSw; (try dsimp only at hSw); obtain ⟨hs1, hs2, hs3⟩ := hSw; obtain ⟨k0, k1, k2, k3, k4, k5, k6⟩ := CB.cells7 (l := ⟨⟨ne, nl, nq, na⟩, nn, ng, np⟩) hs1; obtain ⟨d0, d1, d2, d3, d4, d5, d6⟩ := hs3; dsimp only at k0 k1 k2 k3 k4 k5 k6 d0 d1 d2 d3 d4 d5 d6; go_simp; (try with_reducible rfl)
            (try simp only [Act.put, List.getElem_toArray, List.getElem_cons_zero, List.getElem_cons_succ, List.setIfInBounds_toArray, List.set_cons_zero, List.set_cons_succ])
            refine wpAnyF_take (i := 2) (v := ?_) (by kernel_rfl) (by kernel_rfl) rfl (by kernel_rfl) (by kernel_rfl) (by kernel_rfl) (fun _ _ _ h => h) (Or.inl ⟨by rfl, ?_⟩) (by assumption) ?_
            rotate_left
            · intro w' hSw; (try dsimp only at hSw); obtain ⟨hs1, hs2, hs3⟩ := hSw; obtain ⟨k0, k1, k2, k3, k4, k5, k6⟩ := CB.cells7 (l := ⟨⟨ne, nl, nq, na⟩, nn, ng, np⟩) hs1; obtain ⟨d0, d1, d2, d3, d4, d5, d6⟩ := hs3; dsimp only at k0 k1 k2 k3 k4 k5 k6 d0 d1 d2 d3 d4 d5 d6; go_simp; (try with_reducible rfl)
            (try simp only [Act.put, List.getElem_toArray, List.getElem_cons_zero, List.getElem_cons_succ, List.setIfInBounds_toArray, List.set_cons_zero, List.set_cons_succ])
            refine wpAnyF_take (i := 3) (v := ?_) (by kernel_rfl) (by kernel_rfl) rfl (by kernel_rfl) (by kernel_rfl) (by kernel_rfl) (fun _ _ _ h => h) (Or.inl ⟨by rfl, ?_⟩) (by assumption) ?_
            rotate_left
            · intro w' hSw; (try dsimp only at hSw); obtain ⟨hs1, hs2, hs3⟩ := hSw; obtain ⟨k0, k1, k2, k3, k4, k5, k6⟩ := CB.cells7 (l := ⟨⟨ne, nl, nq, na⟩, nn, ng, np⟩) hs1; obtain ⟨d0, d1, d2, d3, d4, d5, d6⟩ := hs3; dsimp only at k0 k1 k2 k3 k4 k5 k6 d0 d1 d2 d3 d4 d5 d6; go_simp; (try with_reducible rfl)
            (try simp only [Act.put, List.getElem_toArray, List.getElem_cons_zero, List.getElem_cons_succ, List.setIfInBounds_toArray, List.set_cons_zero, List.set_cons_succ])
            refine wpAnyF_take (i := 4) (v := ?_) (by kernel_rfl) (by kernel_rfl) rfl (by kernel_rfl) (by kernel_rfl) (by kernel_rfl) (fun _ _ _ h => h) (Or.inl ⟨by rfl, ?_⟩) (by assumption) ?_
            rotate_left
            · intro w' hSw; (try dsimp only at hSw); obtain ⟨hs1, hs2, hs3⟩ := hSw; obtain ⟨k0, k1, k2, k3, k4, k5, k6⟩ := CB.cells7 (l := ⟨⟨ne, nl, nq, na⟩, nn, ng, np⟩) hs1; obtain ⟨d0, d1, d2, d3, d4, d5, d6⟩ := hs3; dsimp only at k0 k1 k2 k3 k4 k5 k6 d0 d1 d2 d3 d4 d5 d6; go_simp; (try with_reducible rfl)
            (try simp only [Act.put, List.getElem_toArray, List.getElem_cons_zero, List.getElem_cons_succ, List.setIfInBounds_toArray, List.set_cons_zero, List.set_cons_succ])
            refine wpAnyF_take (i := 5) (v := ?_) (by kernel_rfl) (by kernel_rfl) rfl (by kernel_rfl) (by kernel_rfl) (by kernel_rfl) (fun _ _ _ h => h) (Or.inl ⟨by rfl, ?_⟩) (by assumption) ?_
            rotate_left
            · intro w' hSw; (try dsimp only at hSw); obtain ⟨hs1, hs2, hs3⟩ := hSw; obtain ⟨k0, k1, k2, k3, k4, k5, k6⟩ := CB.cells7 (l := ⟨⟨ne, nl, nq, na⟩, nn, ng, np⟩) hs1; obtain ⟨d0, d1, d2, d3, d4, d5, d6⟩ := hs3; dsimp only at k0 k1 k2 k3 k4 k5 k6 d0 d1 d2 d3 d4 d5 d6; go_simp; (try with_reducible rfl)
            (try simp only [Act.put, List.getElem_toArray, List.getElem_cons_zero, List.getElem_cons_succ, List.setIfInBounds_toArray, List.set_cons_zero, List.set_cons_succ])
            refine wpAnyF_take (i := 6) (v := ?_) (by kernel_rfl) (by kernel_rfl) rfl (by kernel_rfl) (by kernel_rfl) (by kernel_rfl) (fun _ _ _ h => h) (Or.inl ⟨by rfl, ?_⟩) (by assumption) ?_
            rotate_left
            · intro w' hSw; (try dsimp only at hSw); obtain ⟨hs1, hs2, hs3⟩ := hSw; obtain ⟨k0, k1, k2, k3, k4, k5, k6⟩ := CB.cells7 (l := ⟨⟨ne, nl, nq, na⟩, nn, ng, np⟩) hs1; obtain ⟨d0, d1, d2, d3, d4, d5, d6⟩ := hs3; dsimp only at k0 k1 k2 k3 k4 k5 k6 d0 d1 d2 d3 d4 d5 d6; go_simp; (try with_reducible rfl)
            (try simp only [Act.put, List.getElem_toArray, List.getElem_cons_zero, List.getElem_cons_succ, List.setIfInBounds_toArray, List.set_cons_zero, List.set_cons_succ])
            refine wpAnyF_take (i := 7) (v := ?_) (by kernel_rfl) (by kernel_rfl) rfl (by kernel_rfl) (by kernel_rfl) (by kernel_rfl) (fun _ _ _ h => h) (Or.inl ⟨by rfl, ?_⟩) (by assumption) ?_
            rotate_left
            · intro w' hSw; (try dsimp only at hSw); obtain ⟨hs1, hs2, hs3⟩ := hSw; obtain ⟨k0, k1, k2, k3, k4, k5, k6⟩ := CB.cells7 (l := ⟨⟨ne, nl, nq, na⟩, nn, ng, np⟩) hs1; obtain ⟨d0, d1, d2, d3, d4, d5, d6⟩ := hs3; dsimp only at k0 k1 k2 k3 k4 k5 k6 d0 d1 d2 d3 d4 d5 d6; go_simp; (try with_reducible rfl)
            (try simp only [Act.put, List.getElem_toArray, List.getElem_cons_zero, List.getElem_cons_succ, List.setIfInBounds_toArray, List.set_cons_zero, List.set_cons_succ])
            refine wpAnyF_take (i := 8) (v := ?_) (by kernel_rfl) (by kernel_rfl) rfl (by kernel_rfl) (by kernel_rfl) (by kernel_rfl) (fun _ _ _ h => h) (Or.inl ⟨by rfl, ?_⟩) (by assumption) ?_
            rotate_left
            · intro w' hSw; (try dsimp only at hSw); obtain ⟨hs1, hs2, hs3⟩ := hSw; obtain ⟨k0, k1, k2, k3, k4, k5, k6⟩ := CB.cells7 (l := ⟨⟨ne, nl, nq, na⟩, nn, ng, np⟩) hs1; obtain ⟨d0, d1, d2, d3, d4, d5, d6⟩ := hs3; dsimp only at k0 k1 k2 k3 k4 k5 k6 d0 d1 d2 d3 d4 d5 d6; go_simp; (try with_reducible rfl)
            (try simp only [Act.put, List.getElem_toArray, List.getElem_cons_zero, List.getElem_cons_succ, List.setIfInBounds_toArray, List.set_cons_zero, List.set_cons_succ])
            refine wpAnyF_done (by kernel_rfl) ?_ _
            refine NoPanic.normal ?_
            clear HS8 hHeld
            by_cases heq : (⟨⟨ne, nl, nq, na⟩, nn, ng, np⟩ : Ln) = ⟨⟨e, lb', q, a⟩, en, gr, pr⟩
            · rw [if_pos heq] at HSN
              have hd : eqLn ne nl nq na nn ng np e lb' q a en gr pr = true := by rw [HDEC.out]; exact decide_eq_true heq
              rw [hd]
              simp only [Bool.not_true]
              clear HDEC heq hd
              go_wp2
              have HS10 := hi (And.intro HNL.out.drew.drew hb6)
              refine wp_region_noPanic ?_
              refine wp_region_last_drew (S := (fun W' => CB W' N 58 #[.bool ne, .bool nl, .bool nq, .bool na, .bool nn, .int .i64 ng, .int .i64 np] ∧ W'.cell? ⟨b, 1, none⟩ = some (.slice (some ⟨lg, 0, none⟩) n lc))) [7] (by kernel_rfl) HS10.out (fun hHeld => ?_)
              (try simp only [Array.replicate_succ, Array.replicate_zero, List.push_toArray, List.nil_append, List.cons_append])
              refine wpAnyF_take (i := 0) (v := ?_) (by kernel_rfl) (by kernel_rfl) rfl (by kernel_rfl) (by kernel_rfl) (by kernel_rfl) (fun _ _ _ h => h) (Or.inl ⟨by rfl, ?_⟩) (by assumption) ?_
              rotate_left
              · intro w' hSw; (try dsimp only at hSw); obtain ⟨hs1, hs2⟩ := hSw; obtain ⟨k0, k1, k2, k3, k4, k5, k6⟩ := CB.cells7 (l := ⟨⟨ne, nl, nq, na⟩, nn, ng, np⟩) hs1; dsimp only at k0 k1 k2 k3 k4 k5 k6; go_simp; (try with_reducible rfl)
              (try simp only [Act.put, List.getElem_toArray, List.getElem_cons_zero, List.setIfInBounds_toArray, List.set_cons_zero, List.set_cons_succ])
              refine wpAnyF_take (i := 1) (v := ?_) (by kernel_rfl) (by kernel_rfl) rfl (by kernel_rfl) (by kernel_rfl) (by kernel_rfl) (fun _ _ _ h => h) (Or.inl ⟨by rfl, ?_⟩) (by assumption) ?_
              rotate_left
              · intro w' hSw; (try dsimp only at hSw); obtain ⟨hs1, hs2⟩ := hSw; obtain ⟨k0, k1, k2, k3, k4, k5, k6⟩ := CB.cells7 (l := ⟨⟨ne, nl, nq, na⟩, nn, ng, np⟩) hs1; dsimp only at k0 k1 k2 k3 k4 k5 k6; go_simp; (try with_reducible rfl)
              (try simp only [Act.put, List.getElem_toArray, List.getElem_cons_zero, List.getElem_cons_succ, List.setIfInBounds_toArray, List.set_cons_zero, List.set_cons_succ])
              refine wpAnyF_take (i := 2) (v := ?_) (by kernel_rfl) (by kernel_rfl) rfl (by kernel_rfl) (by kernel_rfl) (by kernel_rfl) (fun _ _ _ h => h) (Or.inl ⟨by rfl, ?_⟩) (by assumption) ?_
              rotate_left
              · intro w' hSw; (try dsimp only at hSw); obtain ⟨hs1, hs2⟩ := hSw; obtain ⟨k0, k1, k2, k3, k4, k5, k6⟩ := CB.cells7 (l := ⟨⟨ne, nl, nq, na⟩, nn, ng, np⟩) hs1; dsimp only at k0 k1 k2 k3 k4 k5 k6; go_simp; (try with_reducible rfl)
              (try simp only [Act.put, List.getElem_toArray, List.getElem_cons_zero, List.getElem_cons_succ, List.setIfInBounds_toArray, List.set_cons_zero, List.set_cons_succ])
              refine wpAnyF_take (i := 3) (v := ?_) (by kernel_rfl) (by kernel_rfl) rfl (by kernel_rfl) (by kernel_rfl) (by kernel_rfl) (fun _ _ _ h => h) (Or.inl ⟨by rfl, ?_⟩) (by assumption) ?_
              rotate_left
              · intro w' hSw; (try dsimp only at hSw); obtain ⟨hs1, hs2⟩ := hSw; obtain ⟨k0, k1, k2, k3, k4, k5, k6⟩ := CB.cells7 (l := ⟨⟨ne, nl, nq, na⟩, nn, ng, np⟩) hs1; dsimp only at k0 k1 k2 k3 k4 k5 k6; go_simp; (try with_reducible rfl)
              (try simp only [Act.put, List.getElem_toArray, List.getElem_cons_zero, List.getElem_cons_succ, List.setIfInBounds_toArray, List.set_cons_zero, List.set_cons_succ])
              refine wpAnyF_take (i := 4) (v := ?_) (by kernel_rfl) (by kernel_rfl) rfl (by kernel_rfl) (by kernel_rfl) (by kernel_rfl) (fun _ _ _ h => h) (Or.inl ⟨by rfl, ?_⟩) (by assumption) ?_
              rotate_left
              · intro w' hSw; (try dsimp only at hSw); obtain ⟨hs1, hs2⟩ := hSw; obtain ⟨k0, k1, k2, k3, k4, k5, k6⟩ := CB.cells7 (l := ⟨⟨ne, nl, nq, na⟩, nn, ng, np⟩) hs1; dsimp only at k0 k1 k2 k3 k4 k5 k6; go_simp; (try with_reducible rfl)
              (try simp only [Act.put, List.getElem_toArray, List.getElem_cons_zero, List.getElem_cons_succ, List.setIfInBounds_toArray, List.set_cons_zero, List.set_cons_succ])
              refine wpAnyF_take (i := 5) (v := ?_) (by kernel_rfl) (by kernel_rfl) rfl (by kernel_rfl) (by kernel_rfl) (by kernel_rfl) (fun _ _ _ h => h) (Or.inl ⟨by rfl, ?_⟩) (by assumption) ?_
              rotate_left
              · intro w' hSw; (try dsimp only at hSw); obtain ⟨hs1, hs2⟩ := hSw; obtain ⟨k0, k1, k2, k3, k4, k5, k6⟩ := CB.cells7 (l := ⟨⟨ne, nl, nq, na⟩, nn, ng, np⟩) hs1; dsimp only at k0 k1 k2 k3 k4 k5 k6; go_simp; (try with_reducible rfl)
              (try simp only [Act.put, List.getElem_toArray, List.getElem_cons_zero, List.getElem_cons_succ, List.setIfInBounds_toArray, List.set_cons_zero, List.set_cons_succ])
              refine wpAnyF_take (i := 6) (v := ?_) (by kernel_rfl) (by kernel_rfl) rfl (by kernel_rfl) (by kernel_rfl) (by kernel_rfl) (fun _ _ _ h => h) (Or.inl ⟨by rfl, ?_⟩) (by assumption) ?_
              rotate_left
              · intro w' hSw; (try dsimp only at hSw); obtain ⟨hs1, hs2⟩ := hSw; obtain ⟨k0, k1, k2, k3, k4, k5, k6⟩ := CB.cells7 (l := ⟨⟨ne, nl, nq, na⟩, nn, ng, np⟩) hs1; dsimp only at k0 k1 k2 k3 k4 k5 k6; go_simp; (try with_reducible rfl)
              (try simp only [Act.put, List.getElem_toArray, List.getElem_cons_zero, List.getElem_cons_succ, List.setIfInBounds_toArray, List.set_cons_zero, List.set_cons_succ])
              refine wpAnyF_ready (rs := [7]) (by kernel_rfl) (by simp) ?_
              refine AllReadyF.last (by kernel_rfl) rfl (fun KK hKK => ?_) AllReadyF.nil
              rw [if_pos (by rfl)]
              refine wp_store_mid 58 (.tmp 60) (.tmp 59) rfl lg (j * 7) #[.bool ne, .bool nl, .bool nq, .bool na, .bool nn, .int .i64 ng, .int .i64 np] rfl rfl HTH.out size_ln (by simp [Value.oneCell']) ?_
              simp only
              refine hKK.out _ _ ?_
              clear hKK KK
              (try simp only [Act.put, List.getElem_toArray, List.getElem_cons_zero, List.getElem_cons_succ])
              refine wpAnyF_done (by kernel_rfl) ?_ _
              refine NoPanic.normal ?_
              have HR9 := hi (HW6.out.drew.drew.setLn HKE.out HNE.out ⟨⟨ne, nl, nq, na⟩, nn, ng, np⟩)
              go_wp2
              go_roundw
              case rel =>
                refine ⟨k + 1, by omega, by go_num, by rw [HE.out, HSN.out], ?_⟩
                rw [HE.out, HSN.out]
                exact HR9
              case measure => simp only [intOf]; omega
            · rw [if_neg heq] at HSN
              have hd : eqLn ne nl nq na nn ng np e lb' q a en gr pr = false := by rw [HDEC.out]; exact decide_eq_false heq
              rw [hd]
              simp only [Bool.not_false]
              clear HDEC heq hd
              go_wp2
              have HS10 := hi (And.intro HNL.out.drew.drew hb6)
              refine wp_region_noPanic ?_
              refine wp_region_last_drew (S := (fun W' => CB W' N 58 #[.bool ne, .bool nl, .bool nq, .bool na, .bool nn, .int .i64 ng, .int .i64 np] ∧ W'.cell? ⟨b, 1, none⟩ = some (.slice (some ⟨lg, 0, none⟩) n lc))) [7] (by kernel_rfl) HS10.out (fun hHeld => ?_)
              (try simp only [Array.replicate_succ, Array.replicate_zero, List.push_toArray, List.nil_append, List.cons_append])
              refine wpAnyF_take (i := 0) (v := ?_) (by kernel_rfl) (by kernel_rfl) rfl (by kernel_rfl) (by kernel_rfl) (by kernel_rfl) (fun _ _ _ h => h) (Or.inl ⟨by rfl, ?_⟩) (by assumption) ?_
              rotate_left
              · intro w' hSw; (try dsimp only at hSw); obtain ⟨hs1, hs2⟩ := hSw; obtain ⟨k0, k1, k2, k3, k4, k5, k6⟩ := CB.cells7 (l := ⟨⟨ne, nl, nq, na⟩, nn, ng, np⟩) hs1; dsimp only at k0 k1 k2 k3 k4 k5 k6; go_simp; (try with_reducible rfl)
              (try simp only [Act.put, List.getElem_toArray, List.getElem_cons_zero, List.setIfInBounds_toArray, List.set_cons_zero, List.set_cons_succ])
              refine wpAnyF_take (i := 1) (v := ?_) (by kernel_rfl) (by kernel_rfl) rfl (by kernel_rfl) (by kernel_rfl) (by kernel_rfl) (fun _ _ _ h => h) (Or.inl ⟨by rfl, ?_⟩) (by assumption) ?_
              rotate_left
              · intro w' hSw; (try dsimp only at hSw); obtain ⟨hs1, hs2⟩ := hSw; obtain ⟨k0, k1, k2, k3, k4, k5, k6⟩ := CB.cells7 (l := ⟨⟨ne, nl, nq, na⟩, nn, ng, np⟩) hs1; dsimp only at k0 k1 k2 k3 k4 k5 k6; go_simp; (try with_reducible rfl)
              (try simp only [Act.put, List.getElem_toArray, List.getElem_cons_zero, List.getElem_cons_succ, List.setIfInBounds_toArray, List.set_cons_zero, List.set_cons_succ])
              refine wpAnyF_take (i := 2) (v := ?_) (by kernel_rfl) (by kernel_rfl) rfl (by kernel_rfl) (by kernel_rfl) (by kernel_rfl) (fun _ _ _ h => h) (Or.inl ⟨by rfl, ?_⟩) (by assumption) ?_
              rotate_left
              · intro w' hSw; (try dsimp only at hSw); obtain ⟨hs1, hs2⟩ := hSw; obtain ⟨k0, k1, k2, k3, k4, k5, k6⟩ := CB.cells7 (l := ⟨⟨ne, nl, nq, na⟩, nn, ng, np⟩) hs1; dsimp only at k0 k1 k2 k3 k4 k5 k6; go_simp; (try with_reducible rfl)
              (try simp only [Act.put, List.getElem_toArray, List.getElem_cons_zero, List.getElem_cons_succ, List.setIfInBounds_toArray, List.set_cons_zero, List.set_cons_succ])
              refine wpAnyF_take (i := 3) (v := ?_) (by kernel_rfl) (by kernel_rfl) rfl (by kernel_rfl) (by kernel_rfl) (by kernel_rfl) (fun _ _ _ h => h) (Or.inl ⟨by rfl, ?_⟩) (by assumption) ?_
              rotate_left
              · intro w' hSw; (try dsimp only at hSw); obtain ⟨hs1, hs2⟩ := hSw; obtain ⟨k0, k1, k2, k3, k4, k5, k6⟩ := CB.cells7 (l := ⟨⟨ne, nl, nq, na⟩, nn, ng, np⟩) hs1; dsimp only at k0 k1 k2 k3 k4 k5 k6; go_simp; (try with_reducible rfl)
              (try simp only [Act.put, List.getElem_toArray, List.getElem_cons_zero, List.getElem_cons_succ, List.setIfInBounds_toArray, List.set_cons_zero, List.set_cons_succ])
              refine wpAnyF_take (i := 4) (v := ?_) (by kernel_rfl) (by kernel_rfl) rfl (by kernel_rfl) (by kernel_rfl) (by kernel_rfl) (fun _ _ _ h => h) (Or.inl ⟨by rfl, ?_⟩) (by assumption) ?_
              rotate_left
              · intro w' hSw; (try dsimp only at hSw); obtain ⟨hs1, hs2⟩ := hSw; obtain ⟨k0, k1, k2, k3, k4, k5, k6⟩ := CB.cells7 (l := ⟨⟨ne, nl, nq, na⟩, nn, ng, np⟩) hs1; dsimp only at k0 k1 k2 k3 k4 k5 k6; go_simp; (try with_reducible rfl)
              (try simp only [Act.put, List.getElem_toArray, List.getElem_cons_zero, List.getElem_cons_succ, List.setIfInBounds_toArray, List.set_cons_zero, List.set_cons_succ])
              refine wpAnyF_take (i := 5) (v := ?_) (by kernel_rfl) (by kernel_rfl) rfl (by kernel_rfl) (by kernel_rfl) (by kernel_rfl) (fun _ _ _ h => h) (Or.inl ⟨by rfl, ?_⟩) (by assumption) ?_
              rotate_left
              · intro w' hSw; (try dsimp only at hSw); obtain ⟨hs1, hs2⟩ := hSw; obtain ⟨k0, k1, k2, k3, k4, k5, k6⟩ := CB.cells7 (l := ⟨⟨ne, nl, nq, na⟩, nn, ng, np⟩) hs1; dsimp only at k0 k1 k2 k3 k4 k5 k6; go_simp; (try with_reducible rfl)
              (try simp only [Act.put, List.getElem_toArray, List.getElem_cons_zero, List.getElem_cons_succ, List.setIfInBounds_toArray, List.set_cons_zero, List.set_cons_succ])
              refine wpAnyF_take (i := 6) (v := ?_) (by kernel_rfl) (by kernel_rfl) rfl (by kernel_rfl) (by kernel_rfl) (by kernel_rfl) (fun _ _ _ h => h) (Or.inl ⟨by rfl, ?_⟩) (by assumption) ?_
              rotate_left
              · intro w' hSw; (try dsimp only at hSw); obtain ⟨hs1, hs2⟩ := hSw; obtain ⟨k0, k1, k2, k3, k4, k5, k6⟩ := CB.cells7 (l := ⟨⟨ne, nl, nq, na⟩, nn, ng, np⟩) hs1; dsimp only at k0 k1 k2 k3 k4 k5 k6; go_simp; (try with_reducible rfl)
              (try simp only [Act.put, List.getElem_toArray, List.getElem_cons_zero, List.getElem_cons_succ, List.setIfInBounds_toArray, List.set_cons_zero, List.set_cons_succ])
              refine wpAnyF_ready (rs := [7]) (by kernel_rfl) (by simp) ?_
              refine AllReadyF.last (by kernel_rfl) rfl (fun KK hKK => ?_) AllReadyF.nil
              rw [if_pos (by rfl)]
              refine wp_store_mid 58 (.tmp 60) (.tmp 59) rfl lg (j * 7) #[.bool ne, .bool nl, .bool nq, .bool na, .bool nn, .int .i64 ng, .int .i64 np] rfl rfl HTH.out size_ln (by simp [Value.oneCell']) ?_
              simp only
              refine hKK.out _ _ ?_
              clear hKK KK
              (try simp only [Act.put, List.getElem_toArray, List.getElem_cons_zero, List.getElem_cons_succ])
              refine wpAnyF_done (by kernel_rfl) ?_ _
              refine NoPanic.normal ?_
              have HR9 := hi (HW6.out.drew.drew.setLn HKE.out HNE.out ⟨⟨ne, nl, nq, na⟩, nn, ng, np⟩)
              go_wp2
              go_roundw
              case rel =>
                refine ⟨k + 1, by omega, by go_num, by rw [HE.out, HSN.out], ?_⟩
                rw [HE.out, HSN.out]
                exact HR9
              case measure => simp only [intOf]; omega
          · go_simp
            have hb4b := bal V3a (.cells #[.bool false, .bool false, .bool false, .bool false, .bool false, .int .i64 0, .int .i64 0] 58)
            have HS4b := hi (And.intro (HS3a.out.1.below hb4b) (And.intro ((hb4b.cell (p := ⟨b, 1, none⟩) HS3a.out.2.2.2.1).trans HS3a.out.2.1) (And.intro (HS3a.out.2.2.1.below HS3a.out.2.2.2.2 hb4b) (And.intro (Nat.lt_of_lt_of_le HS3a.out.2.2.2.1 hb4b.size) (Nat.lt_of_lt_of_le HS3a.out.2.2.2.2 hb4b.size))))); have HB4b := hi (HB3a.out.trans (hb4b.mono HB3a.out.size)); have hz4b := hb4b.size
            have HZ4b := hi (CB.new V3a 58 #[.bool false, .bool false, .bool false, .bool false, .bool false, .int .i64 0, .int .i64 0])
            obtain ⟨V4b, hV4b⟩ : ∃ V4b, V3a.alloc (.cells #[.bool false, .bool false, .bool false, .bool false, .bool false, .int .i64 0, .int .i64 0] 58) = V4b := ⟨_, rfl⟩
            rw [hV4b] at hb4b HS4b HB4b hz4b HZ4b ⊢
            obtain ⟨N, hN⟩ : ∃ N, V3a.heap.size = N := ⟨_, rfl⟩
            rw [hN] at HZ4b ⊢
            clear hV4b hb4b
            refine hKK.out _ _ HS4b.out (fun hHeld => ?_)
            clear hKK KK
            (try simp only [Act.put, List.getElem_toArray, List.getElem_cons_zero, List.getElem_cons_succ, List.setIfInBounds_toArray, List.set_cons_zero, List.set_cons_succ])
            refine wpAnyF_ready (rs := [17]) (by kernel_rfl) (by simp) ?_
            refine AllReadyF.cons rfl (fun KK hKK => ?_) AllReadyF.nil
            go_simp
            ((with_reducible refine (HCH.out _).mono ?_); rintro e' V5b ⟨rfl, hb⟩; have HS5b := hi (And.intro (HS4b.out.1.below hb) (And.intro ((hb.cell (p := ⟨b, 1, none⟩) HS4b.out.2.2.2.1).trans HS4b.out.2.1) (And.intro (HS4b.out.2.2.1.below HS4b.out.2.2.2.2 hb) (And.intro (Nat.lt_of_lt_of_le HS4b.out.2.2.2.1 hb.size) (Nat.lt_of_lt_of_le HS4b.out.2.2.2.2 hb.size))))); have HB5b := hi (HB4b.out.trans (hb.mono HB4b.out.size)); have hz5b := hb.size; have HZ5b := hi (HZ4b.out.below hb); clear hb)
            (try go_simp)
            refine hKK.out _ _ HS5b.out (fun hHeld => ?_)
            clear hKK KK
            (try simp only [Act.put, List.getElem_toArray, List.getElem_cons_zero, List.getElem_cons_succ, List.setIfInBounds_toArray, List.set_cons_zero, List.set_cons_succ])
            refine wpAnyF_ready (rs := [19]) (by kernel_rfl) (by simp) ?_
            refine AllReadyF.last (by kernel_rfl) rfl (fun KK hKK => ?_) AllReadyF.nil
            obtain ⟨z0, z1, z2, z3, z4, z5, z6⟩ := CB.cells7 (l := Ln.zero) HZ5b.out
            have fz := HZ5b.out.frozen
            dsimp only [Ln.zero, St.zero] at z0 z1 z2 z3 z4 z5 z6
            go_simp
            have HSE := HS5b
            have HBE := HB5b
            have HZE := HZ5b
            obtain ⟨VE, hVE⟩ : ∃ VE, V5b = VE := ⟨_, rfl⟩
            have hNE : wr.heap.size ≤ N := by have := hsz3.out; omega
            rw [hVE] at HSE HBE HZE ⊢
            refine hKK.out _ _ ?_
            clear hKK KK
            (try simp only [Act.put, List.getElem_toArray, List.getElem_cons_zero, List.getElem_cons_succ, List.setIfInBounds_toArray, List.set_cons_zero, List.set_cons_succ])
            refine wpAnyF_done (by kernel_rfl) ?_ _
            refine NoPanic.normal ?_
            have HNL := hi (CB.putL (y := Ln.zero) HZE.out ⟨⟨ne, nl, nq, na⟩, nn, ng, np⟩)
            have HBL := hi (show Below wr.heap.size wr (setL VE N 0 ⟨⟨ne, nl, nq, na⟩, nn, ng, np⟩) from below_putL HBE.out (by omega) _)
            dsimp only [setL] at HNL HBL
            simp only [Nat.zero_add] at HNL HBL
            obtain ⟨V6, hV6⟩ : ∃ V6, ((((((VE.setCell ⟨N, 0, none⟩ (.bool ne)).setCell ⟨N, 1, none⟩ (.bool nl)).setCell ⟨N, 2, none⟩ (.bool nq)).setCell ⟨N, 3, none⟩ (.bool na)).setCell ⟨N, 4, none⟩ (.bool nn)).setCell ⟨N, 5, none⟩ (.int .i64 ng)).setCell ⟨N, 6, none⟩ (.int .i64 np) = V6 := ⟨_, rfl⟩
            simp only [hV6] at HNL HBL
            try rw [hV6]
            have HW6 := hi (HX.out.later HBL.out)
            have hb6 : V6.cell? ⟨b, 1, none⟩ = some (.slice (some ⟨lg, 0, none⟩) n lc) := (HBL.out.cell (p := ⟨b, 1, none⟩) hbl).trans hb1
            have HTH := hi (show V6.drew.drew.there lg (j * 7) 7 from ((HW6.out.drew.drew.rf.ne0 (fun e => by have := HJE.out; rw [e] at this; simp at this)).2.2.1.lnThere HJE.out))
            have HS8 := hi (And.intro HNL.out.drew (And.intro hb6 ((HLC.out.below hlgl HBL.out).drew)))
            clear hV6 hV2d hHeld HSE HBE HZE hNE hN hVE hS0
            go_wp2
            refine wp_region_noPanic ?_
            refine wp_region_last_drew (S := (fun W' => CB W' N 58 #[.bool ne, .bool nl, .bool nq, .bool na, .bool nn, .int .i64 ng, .int .i64 np] ∧ W'.cell? ⟨b, 1, none⟩ = some (.slice (some ⟨lg, 0, none⟩) n lc) ∧ LnC W' lg (j * 7) ⟨⟨e, lb', q, a⟩, en, gr, pr⟩)) [] (by kernel_rfl) HS8.out (fun hHeld => ?_)
            (try simp only [Array.replicate_succ, Array.replicate_zero, List.push_toArray, List.nil_append, List.cons_append])
            refine wpAnyF_take (i := 0) (v := ?_) (by kernel_rfl) (by kernel_rfl) rfl (by kernel_rfl) (by kernel_rfl) (by kernel_rfl) (fun _ _ _ h => h) (Or.inl ⟨by rfl, ?_⟩) (by assumption) ?_
            rotate_left
            · intro w' hSw; (try dsimp only at hSw); obtain ⟨hs1, hs2, hs3⟩ := hSw; obtain ⟨k0, k1, k2, k3, k4, k5, k6⟩ := CB.cells7 (l := ⟨⟨ne, nl, nq, na⟩, nn, ng, np⟩) hs1; obtain ⟨d0, d1, d2, d3, d4, d5, d6⟩ := hs3; dsimp only at k0 k1 k2 k3 k4 k5 k6 d0 d1 d2 d3 d4 d5 d6; go_simp; (try with_reducible rfl)
            (try simp only [Act.put, List.getElem_toArray, List.getElem_cons_zero, List.setIfInBounds_toArray, List.set_cons_zero, List.set_cons_succ])
            refine wpAnyF_take (i := 1) (v := ?_) (by kernel_rfl) (by kernel_rfl) rfl (by kernel_rfl) (by kernel_rfl) (by kernel_rfl) (fun _ _ _ h => h) (Or.inl ⟨by rfl, ?_⟩) (by assumption) ?_
            rotate_left
            · intro w' hSw; (try dsimp only at hSw); obtain ⟨hs1, hs2, hs3⟩ := hSw; obtain ⟨k0, k1, k2, k3, k4, k5, k6⟩ := CB.cells7 (l := ⟨⟨ne, nl, nq, na⟩, nn, ng, np⟩) hs1; obtain ⟨d0, d1, d2, d3, d4, d5, d6⟩ := hs3; dsimp only at k0 k1 k2 k3 k4 k5 k6 d0 d1 d2 d3 d4 d5 d6; go_simp; (try with_reducible rfl)
            (try simp only [Act.put, List.getElem_toArray, List.getElem_cons_zero, List.getElem_cons_succ, List.setIfInBounds_toArray, List.set_cons_zero, List.set_cons_succ])
            refine wpAnyF_take (i := 2) (v := ?_) (by kernel_rfl) (by kernel_rfl) rfl (by kernel_rfl) (by kernel_rfl) (by kernel_rfl) (fun _ _ _ h => h) (Or.inl ⟨by rfl, ?_⟩) (by assumption) ?_
            rotate_left
            · intro w' hSw; (try dsimp only at hSw); obtain ⟨hs1, hs2, hs3⟩ := hSw; obtain ⟨k0, k1, k2, k3, k4, k5, k6⟩ := CB.cells7 (l := ⟨⟨ne, nl, nq, na⟩, nn, ng, np⟩) hs1; obtain ⟨d0, d1, d2, d3, d4, d5, d6⟩ := hs3; dsimp only at k0 k1 k2 k3 k4 k5 k6 d0 d1 d2 d3 d4 d5 d6; go_simp; (try with_reducible rfl)
            (try simp only [Act.put, List.getElem_toArray, List.getElem_cons_zero, List.getElem_cons_succ, List.setIfInBounds_toArray, List.set_cons_zero, List.set_cons_succ])
            refine wpAnyF_take (i := 3) (v := ?_) (by kernel_rfl) (by kernel_rfl) rfl (by kernel_rfl) (by kernel_rfl) (by kernel_rfl) (fun _ _ _ h => h) (Or.inl ⟨by rfl, ?_⟩) (by assumption) ?_
            rotate_left
            · intro w' hSw; (try dsimp only at hSw); obtain ⟨hs1, hs2, hs3⟩ := hSw; obtain ⟨k0, k1, k2, k3, k4, k5, k6⟩ := CB.cells7 (l := ⟨⟨ne, nl, nq, na⟩, nn, ng, np⟩) hs1; obtain ⟨d0, d1, d2, d3, d4, d5, d6⟩ := hs3; dsimp only at k0 k1 k2 k3 k4 k5 k6 d0 d1 d2 d3 d4 d5 d6; go_simp; (try with_reducible rfl)
            (try simp only [Act.put, List.getElem_toArray, List.getElem_cons_zero, List.getElem_cons_succ, List.setIfInBounds_toArray, List.set_cons_zero, List.set_cons_succ])
            refine wpAnyF_take (i := 4) (v := ?_) (by kernel_rfl) (by kernel_rfl) rfl (by kernel_rfl) (by kernel_rfl) (by kernel_rfl) (fun _ _ _ h => h) (Or.inl ⟨by rfl, ?_⟩) (by assumption) ?_
            rotate_left
            · intro w' hSw; (try dsimp only at hSw); obtain ⟨hs1, hs2, hs3⟩ := hSw; obtain ⟨k0, k1, k2, k3, k4, k5, k6⟩ := CB.cells7 (l := ⟨⟨ne, nl, nq, na⟩, nn, ng, np⟩) hs1; obtain ⟨d0, d1, d2, d3, d4, d5, d6⟩ := hs3; dsimp only at k0 k1 k2 k3 k4 k5 k6 d0 d1 d2 d3 d4 d5 d6; go_simp; (try with_reducible rfl)
            (try simp only [Act.put, List.getElem_toArray, List.getElem_cons_zero, List.getElem_cons_succ, List.setIfInBounds_toArray, List.set_cons_zero, List.set_cons_succ])
            refine wpAnyF_take (i := 5) (v := ?_) (by kernel_rfl) (by kernel_rfl) rfl (by kernel_rfl) (by kernel_rfl) (by kernel_rfl) (fun _ _ _ h => h) (Or.inl ⟨by rfl, ?_⟩) (by assumption) ?_
            rotate_left
            · intro w' hSw; (try dsimp only at hSw); obtain ⟨hs1, hs2, hs3⟩ := hSw; obtain ⟨k0, k1, k2, k3, k4, k5, k6⟩ := CB.cells7 (l := ⟨⟨ne, nl, nq, na⟩, nn, ng, np⟩) hs1; obtain ⟨d0, d1, d2, d3, d4, d5, d6⟩ := hs3; dsimp only at k0 k1 k2 k3 k4 k5 k6 d0 d1 d2 d3 d4 d5 d6; go_simp; (try with_reducible rfl)
            (try simp only [Act.put, List.getElem_toArray, List.getElem_cons_zero, List.getElem_cons_succ, List.setIfInBounds_toArray, List.set_cons_zero, List.set_cons_succ])
            refine wpAnyF_take (i := 6) (v := ?_) (by kernel_rfl) (by kernel_rfl) rfl (by kernel_rfl) (by kernel_rfl) (by kernel_rfl) (fun _ _ _ h => h) (Or.inl ⟨by rfl, ?_⟩) (by assumption) ?_
            rotate_left
            · intro w' hSw; (try dsimp only at hSw); obtain ⟨hs1, hs2, hs3⟩ := hSw; obtain ⟨k0, k1, k2, k3, k4, k5, k6⟩ := CB.cells7 (l := ⟨⟨ne, nl, nq, na⟩, nn, ng, np⟩) hs1; obtain ⟨d0, d1, d2, d3, d4, d5, d6⟩ := hs3; dsimp only at k0 k1 k2 k3 k4 k5 k6 d0 d1 d2 d3 d4 d5 d6; go_simp; (try with_reducible rfl)
            (try simp only [Act.put, List.getElem_toArray, List.getElem_cons_zero, List.getElem_cons_succ, List.setIfInBounds_toArray, List.set_cons_zero, List.set_cons_succ])
            refine wpAnyF_take (i := 7) (v := ?_) (by kernel_rfl) (by kernel_rfl) rfl (by kernel_rfl) (by kernel_rfl) (by kernel_rfl) (fun _ _ _ h => h) (Or.inl ⟨by rfl, ?_⟩) (by assumption) ?_
            rotate_left
            · intro w' hSw; (try dsimp only at hSw); obtain ⟨hs1, hs2, hs3⟩ := hSw; obtain ⟨k0, k1, k2, k3, k4, k5, k6⟩ := CB.cells7 (l := ⟨⟨ne, nl, nq, na⟩, nn, ng, np⟩) hs1; obtain ⟨d0, d1, d2, d3, d4, d5, d6⟩ := hs3; dsimp only at k0 k1 k2 k3 k4 k5 k6 d0 d1 d2 d3 d4 d5 d6; go_simp; (try with_reducible rfl)
            (try simp only [Act.put, List.getElem_toArray, List.getElem_cons_zero, List.getElem_cons_succ, List.setIfInBounds_toArray, List.set_cons_zero, List.set_cons_succ])
            refine wpAnyF_take (i := 8) (v := ?_) (by kernel_rfl) (by kernel_rfl) rfl (by kernel_rfl) (by kernel_rfl) (by kernel_rfl) (fun _ _ _ h => h) (Or.inl ⟨by rfl, ?_⟩) (by assumption) ?_
            rotate_left
            · intro w' hSw; (try dsimp only at hSw); obtain ⟨hs1, hs2, hs3⟩ := hSw; obtain ⟨k0, k1, k2, k3, k4, k5, k6⟩ := CB.cells7 (l := ⟨⟨ne, nl, nq, na⟩, nn, ng, np⟩) hs1; obtain ⟨d0, d1, d2, d3, d4, d5, d6⟩ := hs3; dsimp only at k0 k1 k2 k3 k4 k5 k6 d0 d1 d2 d3 d4 d5 d6; go_simp; (try with_reducible rfl)
            (try simp only [Act.put, List.getElem_toArray, List.getElem_cons_zero, List.getElem_cons_succ, List.setIfInBounds_toArray, List.set_cons_zero, List.set_cons_succ])
            refine wpAnyF_done (by kernel_rfl) ?_ _
            refine NoPanic.normal ?_
            clear HS8 hHeld
            by_cases heq : (⟨⟨ne, nl, nq, na⟩, nn, ng, np⟩ : Ln) = ⟨⟨e, lb', q, a⟩, en, gr, pr⟩
            · rw [if_pos heq] at HSN
              have hd : eqLn ne nl nq na nn ng np e lb' q a en gr pr = true := by rw [HDEC.out]; exact decide_eq_true heq
              rw [hd]
              simp only [Bool.not_true]
              clear HDEC heq hd
              go_wp2
              have HS10 := hi (And.intro HNL.out.drew.drew hb6)
              refine wp_region_noPanic ?_
              refine wp_region_last_drew (S := (fun W' => CB W' N 58 #[.bool ne, .bool nl, .bool nq, .bool na, .bool nn, .int .i64 ng, .int .i64 np] ∧ W'.cell? ⟨b, 1, none⟩ = some (.slice (some ⟨lg, 0, none⟩) n lc))) [7] (by kernel_rfl) HS10.out (fun hHeld => ?_)
              (try simp only [Array.replicate_succ, Array.replicate_zero, List.push_toArray, List.nil_append, List.cons_append])
              refine wpAnyF_take (i := 0) (v := ?_) (by kernel_rfl) (by kernel_rfl) rfl (by kernel_rfl) (by kernel_rfl) (by kernel_rfl) (fun _ _ _ h => h) (Or.inl ⟨by rfl, ?_⟩) (by assumption) ?_
              rotate_left
              · intro w' hSw; (try dsimp only at hSw); obtain ⟨hs1, hs2⟩ := hSw; obtain ⟨k0, k1, k2, k3, k4, k5, k6⟩ := CB.cells7 (l := ⟨⟨ne, nl, nq, na⟩, nn, ng, np⟩) hs1; dsimp only at k0 k1 k2 k3 k4 k5 k6; go_simp; (try with_reducible rfl)
              (try simp only [Act.put, List.getElem_toArray, List.getElem_cons_zero, List.setIfInBounds_toArray, List.set_cons_zero, List.set_cons_succ])
              refine wpAnyF_take (i := 1) (v := ?_) (by kernel_rfl) (by kernel_rfl) rfl (by kernel_rfl) (by kernel_rfl) (by kernel_rfl) (fun _ _ _ h => h) (Or.inl ⟨by rfl, ?_⟩) (by assumption) ?_
              rotate_left
              · intro w' hSw; (try dsimp only at hSw); obtain ⟨hs1, hs2⟩ := hSw; obtain ⟨k0, k1, k2, k3, k4, k5, k6⟩ := CB.cells7 (l := ⟨⟨ne, nl, nq, na⟩, nn, ng, np⟩) hs1; dsimp only at k0 k1 k2 k3 k4 k5 k6; go_simp; (try with_reducible rfl)
              (try simp only [Act.put, List.getElem_toArray, List.getElem_cons_zero, List.getElem_cons_succ, List.setIfInBounds_toArray, List.set_cons_zero, List.set_cons_succ])
              refine wpAnyF_take (i := 2) (v := ?_) (by kernel_rfl) (by kernel_rfl) rfl (by kernel_rfl) (by kernel_rfl) (by kernel_rfl) (fun _ _ _ h => h) (Or.inl ⟨by rfl, ?_⟩) (by assumption) ?_
              rotate_left
              · intro w' hSw; (try dsimp only at hSw); obtain ⟨hs1, hs2⟩ := hSw; obtain ⟨k0, k1, k2, k3, k4, k5, k6⟩ := CB.cells7 (l := ⟨⟨ne, nl, nq, na⟩, nn, ng, np⟩) hs1; dsimp only at k0 k1 k2 k3 k4 k5 k6; go_simp; (try with_reducible rfl)
              (try simp only [Act.put, List.getElem_toArray, List.getElem_cons_zero, List.getElem_cons_succ, List.setIfInBounds_toArray, List.set_cons_zero, List.set_cons_succ])
              refine wpAnyF_take (i := 3) (v := ?_) (by kernel_rfl) (by kernel_rfl) rfl (by kernel_rfl) (by kernel_rfl) (by kernel_rfl) (fun _ _ _ h => h) (Or.inl ⟨by rfl, ?_⟩) (by assumption) ?_
              rotate_left
              · intro w' hSw; (try dsimp only at hSw); obtain ⟨hs1, hs2⟩ := hSw; obtain ⟨k0, k1, k2, k3, k4, k5, k6⟩ := CB.cells7 (l := ⟨⟨ne, nl, nq, na⟩, nn, ng, np⟩) hs1; dsimp only at k0 k1 k2 k3 k4 k5 k6; go_simp; (try with_reducible rfl)
              (try simp only [Act.put, List.getElem_toArray, List.getElem_cons_zero, List.getElem_cons_succ, List.setIfInBounds_toArray, List.set_cons_zero, List.set_cons_succ])
              refine wpAnyF_take (i := 4) (v := ?_) (by kernel_rfl) (by kernel_rfl) rfl (by kernel_rfl) (by kernel_rfl) (by kernel_rfl) (fun _ _ _ h => h) (Or.inl ⟨by rfl, ?_⟩) (by assumption) ?_
              rotate_left
              · intro w' hSw; (try dsimp only at hSw); obtain ⟨hs1, hs2⟩ := hSw; obtain ⟨k0, k1, k2, k3, k4, k5, k6⟩ := CB.cells7 (l := ⟨⟨ne, nl, nq, na⟩, nn, ng, np⟩) hs1; dsimp only at k0 k1 k2 k3 k4 k5 k6; go_simp; (try with_reducible rfl)
              (try simp only [Act.put, List.getElem_toArray, List.getElem_cons_zero, List.getElem_cons_succ, List.setIfInBounds_toArray, List.set_cons_zero, List.set_cons_succ])
              refine wpAnyF_take (i := 5) (v := ?_) (by kernel_rfl) (by kernel_rfl) rfl (by kernel_rfl) (by kernel_rfl) (by kernel_rfl) (fun _ _ _ h => h) (Or.inl ⟨by rfl, ?_⟩) (by assumption) ?_
              rotate_left
              · intro w' hSw; (try dsimp only at hSw); obtain ⟨hs1, hs2⟩ := hSw; obtain ⟨k0, k1, k2, k3, k4, k5, k6⟩ := CB.cells7 (l := ⟨⟨ne, nl, nq, na⟩, nn, ng, np⟩) hs1; dsimp only at k0 k1 k2 k3 k4 k5 k6; go_simp; (try with_reducible rfl)
              (try simp only [Act.put, List.getElem_toArray, List.getElem_cons_zero, List.getElem_cons_succ, List.setIfInBounds_toArray, List.set_cons_zero, List.set_cons_succ])
              refine wpAnyF_take (i := 6) (v := ?_) (by kernel_rfl) (by kernel_rfl) rfl (by kernel_rfl) (by kernel_rfl) (by kernel_rfl) (fun _ _ _ h => h) (Or.inl ⟨by rfl, ?_⟩) (by assumption) ?_
              rotate_left
              · intro w' hSw; (try dsimp only at hSw); obtain ⟨hs1, hs2⟩ := hSw; obtain ⟨k0, k1, k2, k3, k4, k5, k6⟩ := CB.cells7 (l := ⟨⟨ne, nl, nq, na⟩, nn, ng, np⟩) hs1; dsimp only at k0 k1 k2 k3 k4 k5 k6; go_simp; (try with_reducible rfl)
              (try simp only [Act.put, List.getElem_toArray, List.getElem_cons_zero, List.getElem_cons_succ, List.setIfInBounds_toArray, List.set_cons_zero, List.set_cons_succ])
              refine wpAnyF_ready (rs := [7]) (by kernel_rfl) (by simp) ?_
              refine AllReadyF.last (by kernel_rfl) rfl (fun KK hKK => ?_) AllReadyF.nil
              rw [if_pos (by rfl)]
              refine wp_store_mid 58 (.tmp 60) (.tmp 59) rfl lg (j * 7) #[.bool ne, .bool nl, .bool nq, .bool na, .bool nn, .int .i64 ng, .int .i64 np] rfl rfl HTH.out size_ln (by simp [Value.oneCell']) ?_
              simp only
              refine hKK.out _ _ ?_
              clear hKK KK
              (try simp only [Act.put, List.getElem_toArray, List.getElem_cons_zero, List.getElem_cons_succ])
              refine wpAnyF_done (by kernel_rfl) ?_ _
              refine NoPanic.normal ?_
              have HR9 := hi (HW6.out.drew.drew.setLn HKE.out HNE.out ⟨⟨ne, nl, nq, na⟩, nn, ng, np⟩)
              go_wp2
              go_roundw
              case rel =>
                refine ⟨k + 1, by omega, by go_num, by rw [HE.out, HSN.out], ?_⟩
                rw [HE.out, HSN.out]
                exact HR9
              case measure => simp only [intOf]; omega
            · rw [if_neg heq] at HSN
              have hd : eqLn ne nl nq na nn ng np e lb' q a en gr pr = false := by rw [HDEC.out]; exact decide_eq_false heq
              rw [hd]
              simp only [Bool.not_false]
              clear HDEC heq hd
              go_wp2
              have HS10 := hi (And.intro HNL.out.drew.drew hb6)
              refine wp_region_noPanic ?_
              refine wp_region_last_drew (S := (fun W' => CB W' N 58 #[.bool ne, .bool nl, .bool nq, .bool na, .bool nn, .int .i64 ng, .int .i64 np] ∧ W'.cell? ⟨b, 1, none⟩ = some (.slice (some ⟨lg, 0, none⟩) n lc))) [7] (by kernel_rfl) HS10.out (fun hHeld => ?_)
              (try simp only [Array.replicate_succ, Array.replicate_zero, List.push_toArray, List.nil_append, List.cons_append])
              refine wpAnyF_take (i := 0) (v := ?_) (by kernel_rfl) (by kernel_rfl) rfl (by kernel_rfl) (by kernel_rfl) (by kernel_rfl) (fun _ _ _ h => h) (Or.inl ⟨by rfl, ?_⟩) (by assumption) ?_
              rotate_left
              · intro w' hSw; (try dsimp only at hSw); obtain ⟨hs1, hs2⟩ := hSw; obtain ⟨k0, k1, k2, k3, k4, k5, k6⟩ := CB.cells7 (l := ⟨⟨ne, nl, nq, na⟩, nn, ng, np⟩) hs1; dsimp only at k0 k1 k2 k3 k4 k5 k6; go_simp; (try with_reducible rfl)
              (try simp only [Act.put, List.getElem_toArray, List.getElem_cons_zero, List.setIfInBounds_toArray, List.set_cons_zero, List.set_cons_succ])
              refine wpAnyF_take (i := 1) (v := ?_) (by kernel_rfl) (by kernel_rfl) rfl (by kernel_rfl) (by kernel_rfl) (by kernel_rfl) (fun _ _ _ h => h) (Or.inl ⟨by rfl, ?_⟩) (by assumption) ?_
              rotate_left
              · intro w' hSw; (try dsimp only at hSw); obtain ⟨hs1, hs2⟩ := hSw; obtain ⟨k0, k1, k2, k3, k4, k5, k6⟩ := CB.cells7 (l := ⟨⟨ne, nl, nq, na⟩, nn, ng, np⟩) hs1; dsimp only at k0 k1 k2 k3 k4 k5 k6; go_simp; (try with_reducible rfl)
              (try simp only [Act.put, List.getElem_toArray, List.getElem_cons_zero, List.getElem_cons_succ, List.setIfInBounds_toArray, List.set_cons_zero, List.set_cons_succ])
              refine wpAnyF_take (i := 2) (v := ?_) (by kernel_rfl) (by kernel_rfl) rfl (by kernel_rfl) (by kernel_rfl) (by kernel_rfl) (fun _ _ _ h => h) (Or.inl ⟨by rfl, ?_⟩) (by assumption) ?_
              rotate_left
              · intro w' hSw; (try dsimp only at hSw); obtain ⟨hs1, hs2⟩ := hSw; obtain ⟨k0, k1, k2, k3, k4, k5, k6⟩ := CB.cells7 (l := ⟨⟨ne, nl, nq, na⟩, nn, ng, np⟩) hs1; dsimp only at k0 k1 k2 k3 k4 k5 k6; go_simp; (try with_reducible rfl)
              (try simp only [Act.put, List.getElem_toArray, List.getElem_cons_zero, List.getElem_cons_succ, List.setIfInBounds_toArray, List.set_cons_zero, List.set_cons_succ])
              refine wpAnyF_take (i := 3) (v := ?_) (by kernel_rfl) (by kernel_rfl) rfl (by kernel_rfl) (by kernel_rfl) (by kernel_rfl) (fun _ _ _ h => h) (Or.inl ⟨by rfl, ?_⟩) (by assumption) ?_
              rotate_left
              · intro w' hSw; (try dsimp only at hSw); obtain ⟨hs1, hs2⟩ := hSw; obtain ⟨k0, k1, k2, k3, k4, k5, k6⟩ := CB.cells7 (l := ⟨⟨ne, nl, nq, na⟩, nn, ng, np⟩) hs1; dsimp only at k0 k1 k2 k3 k4 k5 k6; go_simp; (try with_reducible rfl)
              (try simp only [Act.put, List.getElem_toArray, List.getElem_cons_zero, List.getElem_cons_succ, List.setIfInBounds_toArray, List.set_cons_zero, List.set_cons_succ])
              refine wpAnyF_take (i := 4) (v := ?_) (by kernel_rfl) (by kernel_rfl) rfl (by kernel_rfl) (by kernel_rfl) (by kernel_rfl) (fun _ _ _ h => h) (Or.inl ⟨by rfl, ?_⟩) (by assumption) ?_
              rotate_left
              · intro w' hSw; (try dsimp only at hSw); obtain ⟨hs1, hs2⟩ := hSw; obtain ⟨k0, k1, k2, k3, k4, k5, k6⟩ := CB.cells7 (l := ⟨⟨ne, nl, nq, na⟩, nn, ng, np⟩) hs1; dsimp only at k0 k1 k2 k3 k4 k5 k6; go_simp; (try with_reducible rfl)
              (try simp only [Act.put, List.getElem_toArray, List.getElem_cons_zero, List.getElem_cons_succ, List.setIfInBounds_toArray, List.set_cons_zero, List.set_cons_succ])
              refine wpAnyF_take (i := 5) (v := ?_) (by kernel_rfl) (by kernel_rfl) rfl (by kernel_rfl) (by kernel_rfl) (by kernel_rfl) (fun _ _ _ h => h) (Or.inl ⟨by rfl, ?_⟩) (by assumption) ?_
              rotate_left
              · intro w' hSw; (try dsimp only at hSw); obtain ⟨hs1, hs2⟩ := hSw; obtain ⟨k0, k1, k2, k3, k4, k5, k6⟩ := CB.cells7 (l := ⟨⟨ne, nl, nq, na⟩, nn, ng, np⟩) hs1; dsimp only at k0 k1 k2 k3 k4 k5 k6; go_simp; (try with_reducible rfl)
              (try simp only [Act.put, List.getElem_toArray, List.getElem_cons_zero, List.getElem_cons_succ, List.setIfInBounds_toArray, List.set_cons_zero, List.set_cons_succ])
              refine wpAnyF_take (i := 6) (v := ?_) (by kernel_rfl) (by kernel_rfl) rfl (by kernel_rfl) (by kernel_rfl) (by kernel_rfl) (fun _ _ _ h => h) (Or.inl ⟨by rfl, ?_⟩) (by assumption) ?_
              rotate_left
              · intro w' hSw; (try dsimp only at hSw); obtain ⟨hs1, hs2⟩ := hSw; obtain ⟨k0, k1, k2, k3, k4, k5, k6⟩ := CB.cells7 (l := ⟨⟨ne, nl, nq, na⟩, nn, ng, np⟩) hs1; dsimp only at k0 k1 k2 k3 k4 k5 k6; go_simp; (try with_reducible rfl)
              (try simp only [Act.put, List.getElem_toArray, List.getElem_cons_zero, List.getElem_cons_succ, List.setIfInBounds_toArray, List.set_cons_zero, List.set_cons_succ])
              refine wpAnyF_ready (rs := [7]) (by kernel_rfl) (by simp) ?_
              refine AllReadyF.last (by kernel_rfl) rfl (fun KK hKK => ?_) AllReadyF.nil
              rw [if_pos (by rfl)]
              refine wp_store_mid 58 (.tmp 60) (.tmp 59) rfl lg (j * 7) #[.bool ne, .bool nl, .bool nq, .bool na, .bool nn, .int .i64 ng, .int .i64 np] rfl rfl HTH.out size_ln (by simp [Value.oneCell']) ?_
              simp only
              refine hKK.out _ _ ?_
              clear hKK KK
              (try simp only [Act.put, List.getElem_toArray, List.getElem_cons_zero, List.getElem_cons_succ])
              refine wpAnyF_done (by kernel_rfl) ?_ _
              refine NoPanic.normal ?_
              have HR9 := hi (HW6.out.drew.drew.setLn HKE.out HNE.out ⟨⟨ne, nl, nq, na⟩, nn, ng, np⟩)
              go_wp2
              go_roundw
              case rel =>
                refine ⟨k + 1, by omega, by go_num, by rw [HE.out, HSN.out], ?_⟩
                rw [HE.out, HSN.out]
                exact HR9
              case measure => simp only [intOf]; omega
        · go_simp
          have hb3c := bal V2 (.cells #[.bool false, .bool false, .bool false, .bool false, .bool false, .int .i64 0, .int .i64 0] 58)
          have HS3c := hi (And.intro (HS2.out.1.below hb3c) (And.intro ((hb3c.cell (p := ⟨b, 1, none⟩) HS2.out.2.2.2.1).trans HS2.out.2.1) (And.intro (HS2.out.2.2.1.below HS2.out.2.2.2.2 hb3c) (And.intro (Nat.lt_of_lt_of_le HS2.out.2.2.2.1 hb3c.size) (Nat.lt_of_lt_of_le HS2.out.2.2.2.2 hb3c.size))))); have HB3c := hi (HB2.out.trans (hb3c.mono HB2.out.size)); have hz3c := hb3c.size
          have HZ3c := hi (CB.new V2 58 #[.bool false, .bool false, .bool false, .bool false, .bool false, .int .i64 0, .int .i64 0])
          obtain ⟨V3c, hV3c⟩ : ∃ V3c, V2.alloc (.cells #[.bool false, .bool false, .bool false, .bool false, .bool false, .int .i64 0, .int .i64 0] 58) = V3c := ⟨_, rfl⟩
          rw [hV3c] at hb3c HS3c HB3c hz3c HZ3c ⊢
          obtain ⟨N, hN⟩ : ∃ N, V2.heap.size = N := ⟨_, rfl⟩
          rw [hN] at HZ3c ⊢
          clear hV3c hb3c
          refine hKK.out _ _ HS3c.out (fun hHeld => ?_)
          clear hKK KK
          (try simp only [Act.put, List.getElem_toArray, List.getElem_cons_zero, List.getElem_cons_succ, List.setIfInBounds_toArray, List.set_cons_zero, List.set_cons_succ])
          refine wpAnyF_ready (rs := [16]) (by kernel_rfl) (by simp) ?_
          refine AllReadyF.cons rfl (fun KK hKK => ?_) AllReadyF.nil
          go_simp
          ((with_reducible refine (HFD1.out _).mono ?_); rintro e' V4c ⟨rfl, hb⟩; have HS4c := hi (And.intro (HS3c.out.1.below hb) (And.intro ((hb.cell (p := ⟨b, 1, none⟩) HS3c.out.2.2.2.1).trans HS3c.out.2.1) (And.intro (HS3c.out.2.2.1.below HS3c.out.2.2.2.2 hb) (And.intro (Nat.lt_of_lt_of_le HS3c.out.2.2.2.1 hb.size) (Nat.lt_of_lt_of_le HS3c.out.2.2.2.2 hb.size))))); have HB4c := hi (HB3c.out.trans (hb.mono HB3c.out.size)); have hz4c := hb.size; have HZ4c := hi (HZ3c.out.below hb); clear hb)
          (try go_simp)
          refine hKK.out _ _ HS4c.out (fun hHeld => ?_)
          clear hKK KK
          (try simp only [Act.put, List.getElem_toArray, List.getElem_cons_zero, List.getElem_cons_succ, List.setIfInBounds_toArray, List.set_cons_zero, List.set_cons_succ])
          refine wpAnyF_ready (rs := [17]) (by kernel_rfl) (by simp) ?_
          refine AllReadyF.cons rfl (fun KK hKK => ?_) AllReadyF.nil
          go_simp
          ((with_reducible refine (HCH.out _).mono ?_); rintro e' V5c ⟨rfl, hb⟩; have HS5c := hi (And.intro (HS4c.out.1.below hb) (And.intro ((hb.cell (p := ⟨b, 1, none⟩) HS4c.out.2.2.2.1).trans HS4c.out.2.1) (And.intro (HS4c.out.2.2.1.below HS4c.out.2.2.2.2 hb) (And.intro (Nat.lt_of_lt_of_le HS4c.out.2.2.2.1 hb.size) (Nat.lt_of_lt_of_le HS4c.out.2.2.2.2 hb.size))))); have HB5c := hi (HB4c.out.trans (hb.mono HB4c.out.size)); have hz5c := hb.size; have HZ5c := hi (HZ4c.out.below hb); clear hb)
          (try go_simp)
          refine hKK.out _ _ HS5c.out (fun hHeld => ?_)
          clear hKK KK
          (try simp only [Act.put, List.getElem_toArray, List.getElem_cons_zero, List.getElem_cons_succ, List.setIfInBounds_toArray, List.set_cons_zero, List.set_cons_succ])
          refine wpAnyF_ready (rs := [19]) (by kernel_rfl) (by simp) ?_
          refine AllReadyF.last (by kernel_rfl) rfl (fun KK hKK => ?_) AllReadyF.nil
          obtain ⟨z0, z1, z2, z3, z4, z5, z6⟩ := CB.cells7 (l := Ln.zero) HZ5c.out
          have fz := HZ5c.out.frozen
          dsimp only [Ln.zero, St.zero] at z0 z1 z2 z3 z4 z5 z6
          go_simp
          have HSE := HS5c
          have HBE := HB5c
          have HZE := HZ5c
          obtain ⟨VE, hVE⟩ : ∃ VE, V5c = VE := ⟨_, rfl⟩
          have hNE : wr.heap.size ≤ N := by have := hsz3.out; omega
          rw [hVE] at HSE HBE HZE ⊢
          refine hKK.out _ _ ?_
          clear hKK KK
          (try simp only [Act.put, List.getElem_toArray, List.getElem_cons_zero, List.getElem_cons_succ, List.setIfInBounds_toArray, List.set_cons_zero, List.set_cons_succ])
          refine wpAnyF_done (by kernel_rfl) ?_ _
          refine NoPanic.normal ?_
          have HNL := hi (CB.putL (y := Ln.zero) HZE.out ⟨⟨ne, nl, nq, na⟩, nn, ng, np⟩)
          have HBL := hi (show Below wr.heap.size wr (setL VE N 0 ⟨⟨ne, nl, nq, na⟩, nn, ng, np⟩) from below_putL HBE.out (by omega) _)
          dsimp only [setL] at HNL HBL
          simp only [Nat.zero_add] at HNL HBL
          obtain ⟨V6, hV6⟩ : ∃ V6, ((((((VE.setCell ⟨N, 0, none⟩ (.bool ne)).setCell ⟨N, 1, none⟩ (.bool nl)).setCell ⟨N, 2, none⟩ (.bool nq)).setCell ⟨N, 3, none⟩ (.bool na)).setCell ⟨N, 4, none⟩ (.bool nn)).setCell ⟨N, 5, none⟩ (.int .i64 ng)).setCell ⟨N, 6, none⟩ (.int .i64 np) = V6 := ⟨_, rfl⟩
          simp only [hV6] at HNL HBL
          try rw [hV6]
          have HW6 := hi (HX.out.later HBL.out)
          have hb6 : V6.cell? ⟨b, 1, none⟩ = some (.slice (some ⟨lg, 0, none⟩) n lc) := (HBL.out.cell (p := ⟨b, 1, none⟩) hbl).trans hb1
          have HTH := hi (show V6.drew.drew.there lg (j * 7) 7 from ((HW6.out.drew.drew.rf.ne0 (fun e => by have := HJE.out; rw [e] at this; simp at this)).2.2.1.lnThere HJE.out))
          have HS8 := hi (And.intro HNL.out.drew (And.intro hb6 ((HLC.out.below hlgl HBL.out).drew)))
          clear hV6 hV2d hHeld HSE HBE HZE hNE hN hVE hS0
          go_wp2
          refine wp_region_noPanic ?_
          refine wp_region_last_drew (S := (fun W' => CB W' N 58 #[.bool ne, .bool nl, .bool nq, .bool na, .bool nn, .int .i64 ng, .int .i64 np] ∧ W'.cell? ⟨b, 1, none⟩ = some (.slice (some ⟨lg, 0, none⟩) n lc) ∧ LnC W' lg (j * 7) ⟨⟨e, lb', q, a⟩, en, gr, pr⟩)) [] (by kernel_rfl) HS8.out (fun hHeld => ?_)
          (try simp only [Array.replicate_succ, Array.replicate_zero, List.push_toArray, List.nil_append, List.cons_append])
          refine wpAnyF_take (i := 0) (v := ?_) (by kernel_rfl) (by kernel_rfl) rfl (by kernel_rfl) (by kernel_rfl) (by kernel_rfl) (fun _ _ _ h => h) (Or.inl ⟨by rfl, ?_⟩) (by assumption) ?_
          rotate_left
          · intro w' hSw; (try dsimp only at hSw); obtain ⟨hs1, hs2, hs3⟩ := hSw; obtain ⟨k0, k1, k2, k3, k4, k5, k6⟩ := CB.cells7 (l := ⟨⟨ne, nl, nq, na⟩, nn, ng, np⟩) hs1; obtain ⟨d0, d1, d2, d3, d4, d5, d6⟩ := hs3; dsimp only at k0 k1 k2 k3 k4 k5 k6 d0 d1 d2 d3 d4 d5 d6; go_simp; (try with_reducible rfl)
          (try simp only [Act.put, List.getElem_toArray, List.getElem_cons_zero, List.setIfInBounds_toArray, List.set_cons_zero, List.set_cons_succ])
          refine wpAnyF_take (i := 1) (v := ?_) (by kernel_rfl) (by kernel_rfl) rfl (by kernel_rfl) (by kernel_rfl) (by kernel_rfl) (fun _ _ _ h => h) (Or.inl ⟨by rfl, ?_⟩) (by assumption) ?_
          rotate_left
          · intro w' hSw; (try dsimp only at hSw); obtain ⟨hs1, hs2, hs3⟩ := hSw; obtain ⟨k0, k1, k2, k3, k4, k5, k6⟩ := CB.cells7 (l := ⟨⟨ne, nl, nq, na⟩, nn, ng, np⟩) hs1; obtain ⟨d0, d1, d2, d3, d4, d5, d6⟩ := hs3; dsimp only at k0 k1 k2 k3 k4 k5 k6 d0 d1 d2 d3 d4 d5 d6; go_simp; (try with_reducible rfl)
          (try simp only [Act.put, List.getElem_toArray, List.getElem_cons_zero, List.getElem_cons_succ, List.setIfInBounds_toArray, List.set_cons_zero, List.set_cons_succ])
          refine wpAnyF_take (i := 2) (v := ?_) (by kernel_rfl) (by kernel_rfl) rfl (by kernel_rfl) (by kernel_rfl) (by kernel_rfl) (fun _ _ _ h => h) (Or.inl ⟨by rfl, ?_⟩) (by assumption) ?_
          rotate_left
          · intro w' hSw; (try dsimp only at hSw); obtain ⟨hs1, hs2, hs3⟩ := hSw; obtain ⟨k0, k1, k2, k3, k4, k5, k6⟩ := CB.cells7 (l := ⟨⟨ne, nl, nq, na⟩, nn, ng, np⟩) hs1; obtain ⟨d0, d1, d2, d3, d4, d5, d6⟩ := hs3; dsimp only at k0 k1 k2 k3 k4 k5 k6 d0 d1 d2 d3 d4 d5 d6; go_simp; (try with_reducible rfl)
          (try simp only [Act.put, List.getElem_toArray, List.getElem_cons_zero, List.getElem_cons_succ, List.setIfInBounds_toArray, List.set_cons_zero, List.set_cons_succ])
          refine wpAnyF_take (i := 3) (v := ?_) (by kernel_rfl) (by kernel_rfl) rfl (by kernel_rfl) (by kernel_rfl) (by kernel_rfl) (fun _ _ _ h => h) (Or.inl ⟨by rfl, ?_⟩) (by assumption) ?_
          rotate_left
          · intro w' hSw; (try dsimp only at hSw); obtain ⟨hs1, hs2, hs3⟩ := hSw; obtain ⟨k0, k1, k2, k3, k4, k5, k6⟩ := CB.cells7 (l := ⟨⟨ne, nl, nq, na⟩, nn, ng, np⟩) hs1; obtain ⟨d0, d1, d2, d3, d4, d5, d6⟩ := hs3; dsimp only at k0 k1 k2 k3 k4 k5 k6 d0 d1 d2 d3 d4 d5 d6; go_simp; (try with_reducible rfl)
          (try simp only [Act.put, List.getElem_toArray, List.getElem_cons_zero, List.getElem_cons_succ, List.setIfInBounds_toArray, List.set_cons_zero, List.set_cons_succ])
          refine wpAnyF_take (i := 4) (v := ?_) (by kernel_rfl) (by kernel_rfl) rfl (by kernel_rfl) (by kernel_rfl) (by kernel_rfl) (fun _ _ _ h => h) (Or.inl ⟨by rfl, ?_⟩) (by assumption) ?_
          rotate_left
          · intro w' hSw; (try dsimp only at hSw); obtain ⟨hs1, hs2, hs3⟩ := hSw; obtain ⟨k0, k1, k2, k3, k4, k5, k6⟩ := CB.cells7 (l := ⟨⟨ne, nl, nq, na⟩, nn, ng, np⟩) hs1; obtain ⟨d0, d1, d2, d3, d4, d5, d6⟩ := hs3; dsimp only at k0 k1 k2 k3 k4 k5 k6 d0 d1 d2 d3 d4 d5 d6; go_simp; (try with_reducible rfl)
          (try simp only [Act.put, List.getElem_toArray, List.getElem_cons_zero, List.getElem_cons_succ, List.setIfInBounds_toArray, List.set_cons_zero, List.set_cons_succ])
          refine wpAnyF_take (i := 5) (v := ?_) (by kernel_rfl) (by kernel_rfl) rfl (by kernel_rfl) (by kernel_rfl) (by kernel_rfl) (fun _ _ _ h => h) (Or.inl ⟨by rfl, ?_⟩) (by assumption) ?_
          rotate_left
          · intro w' hSw; (try dsimp only at hSw); obtain ⟨hs1, hs2, hs3⟩ := hSw; obtain ⟨k0, k1, k2, k3, k4, k5, k6⟩ := CB.cells7 (l := ⟨⟨ne, nl, nq, na⟩, nn, ng, np⟩) hs1; obtain ⟨d0, d1, d2, d3, d4, d5, d6⟩ := hs3; dsimp only at k0 k1 k2 k3 k4 k5 k6 d0 d1 d2 d3 d4 d5 d6; go_simp; (try with_reducible rfl)
          (try simp only [Act.put, List.getElem_toArray, List.getElem_cons_zero, List.getElem_cons_succ, List.setIfInBounds_toArray, List.set_cons_zero, List.set_cons_succ])
          refine wpAnyF_take (i := 6) (v := ?_) (by kernel_rfl) (by kernel_rfl) rfl (by kernel_rfl) (by kernel_rfl) (by kernel_rfl) (fun _ _ _ h => h) (Or.inl ⟨by rfl, ?_⟩) (by assumption) ?_
          rotate_left
          · intro w' hSw; (try dsimp only at hSw); obtain ⟨hs1, hs2, hs3⟩ := hSw; obtain ⟨k0, k1, k2, k3, k4, k5, k6⟩ := CB.cells7 (l := ⟨⟨ne, nl, nq, na⟩, nn, ng, np⟩) hs1; obtain ⟨d0, d1, d2, d3, d4, d5, d6⟩ := hs3; dsimp only at k0 k1 k2 k3 k4 k5 k6 d0 d1 d2 d3 d4 d5 d6; go_simp; (try with_reducible rfl)
          (try simp only [Act.put, List.getElem_toArray, List.getElem_cons_zero, List.getElem_cons_succ, List.setIfInBounds_toArray, List.set_cons_zero, List.set_cons_succ])
          refine wpAnyF_take (i := 7) (v := ?_) (by kernel_rfl) (by kernel_rfl) rfl (by kernel_rfl) (by kernel_rfl) (by kernel_rfl) (fun _ _ _ h => h) (Or.inl ⟨by rfl, ?_⟩) (by assumption) ?_
          rotate_left
          · intro w' hSw; (try dsimp only at hSw); obtain ⟨hs1, hs2, hs3⟩ := hSw; obtain ⟨k0, k1, k2, k3, k4, k5, k6⟩ := CB.cells7 (l := ⟨⟨ne, nl, nq, na⟩, nn, ng, np⟩) hs1; obtain ⟨d0, d1, d2, d3, d4, d5, d6⟩ := hs3; dsimp only at k0 k1 k2 k3 k4 k5 k6 d0 d1 d2 d3 d4 d5 d6; go_simp; (try with_reducible rfl)
          (try simp only [Act.put, List.getElem_toArray, List.getElem_cons_zero, List.getElem_cons_succ, List.setIfInBounds_toArray, List.set_cons_zero, List.set_cons_succ])
          refine wpAnyF_take (i := 8) (v := ?_) (by kernel_rfl) (by kernel_rfl) rfl (by kernel_rfl) (by kernel_rfl) (by kernel_rfl) (fun _ _ _ h => h) (Or.inl ⟨by rfl, ?_⟩) (by assumption) ?_
          rotate_left
          · intro w' hSw; (try dsimp only at hSw); obtain ⟨hs1, hs2, hs3⟩ := hSw; obtain ⟨k0, k1, k2, k3, k4, k5, k6⟩ := CB.cells7 (l := ⟨⟨ne, nl, nq, na⟩, nn, ng, np⟩) hs1; obtain ⟨d0, d1, d2, d3, d4, d5, d6⟩ := hs3; dsimp only at k0 k1 k2 k3 k4 k5 k6 d0 d1 d2 d3 d4 d5 d6; go_simp; (try with_reducible rfl)
          (try simp only [Act.put, List.getElem_toArray, List.getElem_cons_zero, List.getElem_cons_succ, List.setIfInBounds_toArray, List.set_cons_zero, List.set_cons_succ])
          refine wpAnyF_done (by kernel_rfl) ?_ _
          refine NoPanic.normal ?_
          clear HS8 hHeld
          by_cases heq : (⟨⟨ne, nl, nq, na⟩, nn, ng, np⟩ : Ln) = ⟨⟨e, lb', q, a⟩, en, gr, pr⟩
          · rw [if_pos heq] at HSN
            have hd : eqLn ne nl nq na nn ng np e lb' q a en gr pr = true := by rw [HDEC.out]; exact decide_eq_true heq
            rw [hd]
            simp only [Bool.not_true]
            clear HDEC heq hd
            go_wp2
            have HS10 := hi (And.intro HNL.out.drew.drew hb6)
            refine wp_region_noPanic ?_
            refine wp_region_last_drew (S := (fun W' => CB W' N 58 #[.bool ne, .bool nl, .bool nq, .bool na, .bool nn, .int .i64 ng, .int .i64 np] ∧ W'.cell? ⟨b, 1, none⟩ = some (.slice (some ⟨lg, 0, none⟩) n lc))) [7] (by kernel_rfl) HS10.out (fun hHeld => ?_)
            (try simp only [Array.replicate_succ, Array.replicate_zero, List.push_toArray, List.nil_append, List.cons_append])
            refine wpAnyF_take (i := 0) (v := ?_) (by kernel_rfl) (by kernel_rfl) rfl (by kernel_rfl) (by kernel_rfl) (by kernel_rfl) (fun _ _ _ h => h) (Or.inl ⟨by rfl, ?_⟩) (by assumption) ?_
            rotate_left
            · intro w' hSw; (try dsimp only at hSw); obtain ⟨hs1, hs2⟩ := hSw; obtain ⟨k0, k1, k2, k3, k4, k5, k6⟩ := CB.cells7 (l := ⟨⟨ne, nl, nq, na⟩, nn, ng, np⟩) hs1; dsimp only at k0 k1 k2 k3 k4 k5 k6; go_simp; (try with_reducible rfl)
            (try simp only [Act.put, List.getElem_toArray, List.getElem_cons_zero, List.setIfInBounds_toArray, List.set_cons_zero, List.set_cons_succ])
            refine wpAnyF_take (i := 1) (v := ?_) (by kernel_rfl) (by kernel_rfl) rfl (by kernel_rfl) (by kernel_rfl) (by kernel_rfl) (fun _ _ _ h => h) (Or.inl ⟨by rfl, ?_⟩) (by assumption) ?_
            rotate_left
            · intro w' hSw; (try dsimp only at hSw); obtain ⟨hs1, hs2⟩ := hSw; obtain ⟨k0, k1, k2, k3, k4, k5, k6⟩ := CB.cells7 (l := ⟨⟨ne, nl, nq, na⟩, nn, ng, np⟩) hs1; dsimp only at k0 k1 k2 k3 k4 k5 k6; go_simp; (try with_reducible rfl)
            (try simp only [Act.put, List.getElem_toArray, List.getElem_cons_zero, List.getElem_cons_succ, List.setIfInBounds_toArray, List.set_cons_zero, List.set_cons_succ])
            refine wpAnyF_take (i := 2) (v := ?_) (by kernel_rfl) (by kernel_rfl) rfl (by kernel_rfl) (by kernel_rfl) (by kernel_rfl) (fun _ _ _ h => h) (Or.inl ⟨by rfl, ?_⟩) (by assumption) ?_
            rotate_left
            · intro w' hSw; (try dsimp only at hSw); obtain ⟨hs1, hs2⟩ := hSw; obtain ⟨k0, k1, k2, k3, k4, k5, k6⟩ := CB.cells7 (l := ⟨⟨ne, nl, nq, na⟩, nn, ng, np⟩) hs1; dsimp only at k0 k1 k2 k3 k4 k5 k6; go_simp; (try with_reducible rfl)
            (try simp only [Act.put, List.getElem_toArray, List.getElem_cons_zero, List.getElem_cons_succ, List.setIfInBounds_toArray, List.set_cons_zero, List.set_cons_succ])
            refine wpAnyF_take (i := 3) (v := ?_) (by kernel_rfl) (by kernel_rfl) rfl (by kernel_rfl) (by kernel_rfl) (by kernel_rfl) (fun _ _ _ h => h) (Or.inl ⟨by rfl, ?_⟩) (by assumption) ?_
            rotate_left
            · intro w' hSw; (try dsimp only at hSw); obtain ⟨hs1, hs2⟩ := hSw; obtain ⟨k0, k1, k2, k3, k4, k5, k6⟩ := CB.cells7 (l := ⟨⟨ne, nl, nq, na⟩, nn, ng, np⟩) hs1; dsimp only at k0 k1 k2 k3 k4 k5 k6; go_simp; (try with_reducible rfl)
            (try simp only [Act.put, List.getElem_toArray, List.getElem_cons_zero, List.getElem_cons_succ, List.setIfInBounds_toArray, List.set_cons_zero, List.set_cons_succ])
            refine wpAnyF_take (i := 4) (v := ?_) (by kernel_rfl) (by kernel_rfl) rfl (by kernel_rfl) (by kernel_rfl) (by kernel_rfl) (fun _ _ _ h => h) (Or.inl ⟨by rfl, ?_⟩) (by assumption) ?_
            rotate_left
            · intro w' hSw; (try dsimp only at hSw); obtain ⟨hs1, hs2⟩ := hSw; obtain ⟨k0, k1, k2, k3, k4, k5, k6⟩ := CB.cells7 (l := ⟨⟨ne, nl, nq, na⟩, nn, ng, np⟩) hs1; dsimp only at k0 k1 k2 k3 k4 k5 k6; go_simp; (try with_reducible rfl)
            (try simp only [Act.put, List.getElem_toArray, List.getElem_cons_zero, List.getElem_cons_succ, List.setIfInBounds_toArray, List.set_cons_zero, List.set_cons_succ])
            refine wpAnyF_take (i := 5) (v := ?_) (by kernel_rfl) (by kernel_rfl) rfl (by kernel_rfl) (by kernel_rfl) (by kernel_rfl) (fun _ _ _ h => h) (Or.inl ⟨by rfl, ?_⟩) (by assumption) ?_
            rotate_left
            · intro w' hSw; (try dsimp only at hSw); obtain ⟨hs1, hs2⟩ := hSw; obtain ⟨k0, k1, k2, k3, k4, k5, k6⟩ := CB.cells7 (l := ⟨⟨ne, nl, nq, na⟩, nn, ng, np⟩) hs1; dsimp only at k0 k1 k2 k3 k4 k5 k6; go_simp; (try with_reducible rfl)
            (try simp only [Act.put, List.getElem_toArray, List.getElem_cons_zero, List.getElem_cons_succ, List.setIfInBounds_toArray, List.set_cons_zero, List.set_cons_succ])
            refine wpAnyF_take (i := 6) (v := ?_) (by kernel_rfl) (by kernel_rfl) rfl (by kernel_rfl) (by kernel_rfl) (by kernel_rfl) (fun _ _ _ h => h) (Or.inl ⟨by rfl, ?_⟩) (by assumption) ?_
            rotate_left
            · intro w' hSw; (try dsimp only at hSw); obtain ⟨hs1, hs2⟩ := hSw; obtain ⟨k0, k1, k2, k3, k4, k5, k6⟩ := CB.cells7 (l := ⟨⟨ne, nl, nq, na⟩, nn, ng, np⟩) hs1; dsimp only at k0 k1 k2 k3 k4 k5 k6; go_simp; (try with_reducible rfl)
            (try simp only [Act.put, List.getElem_toArray, List.getElem_cons_zero, List.getElem_cons_succ, List.setIfInBounds_toArray, List.set_cons_zero, List.set_cons_succ])
            refine wpAnyF_ready (rs := [7]) (by kernel_rfl) (by simp) ?_
            refine AllReadyF.last (by kernel_rfl) rfl (fun KK hKK => ?_) AllReadyF.nil
            rw [if_pos (by rfl)]
            refine wp_store_mid 58 (.tmp 60) (.tmp 59) rfl lg (j * 7) #[.bool ne, .bool nl, .bool nq, .bool na, .bool nn, .int .i64 ng, .int .i64 np] rfl rfl HTH.out size_ln (by simp [Value.oneCell']) ?_
            simp only
            refine hKK.out _ _ ?_
            clear hKK KK
            (try simp only [Act.put, List.getElem_toArray, List.getElem_cons_zero, List.getElem_cons_succ])
            refine wpAnyF_done (by kernel_rfl) ?_ _
            refine NoPanic.normal ?_
            have HR9 := hi (HW6.out.drew.drew.setLn HKE.out HNE.out ⟨⟨ne, nl, nq, na⟩, nn, ng, np⟩)
            go_wp2
            go_roundw
            case rel =>
              refine ⟨k + 1, by omega, by go_num, by rw [HE.out, HSN.out], ?_⟩
              rw [HE.out, HSN.out]
              exact HR9
            case measure => simp only [intOf]; omega
          · rw [if_neg heq] at HSN
            have hd : eqLn ne nl nq na nn ng np e lb' q a en gr pr = false := by rw [HDEC.out]; exact decide_eq_false heq
            rw [hd]
            simp only [Bool.not_false]
            clear HDEC heq hd
            go_wp2
            have HS10 := hi (And.intro HNL.out.drew.drew hb6)
            refine wp_region_noPanic ?_
            refine wp_region_last_drew (S := (fun W' => CB W' N 58 #[.bool ne, .bool nl, .bool nq, .bool na, .bool nn, .int .i64 ng, .int .i64 np] ∧ W'.cell? ⟨b, 1, none⟩ = some (.slice (some ⟨lg, 0, none⟩) n lc))) [7] (by kernel_rfl) HS10.out (fun hHeld => ?_)
            (try simp only [Array.replicate_succ, Array.replicate_zero, List.push_toArray, List.nil_append, List.cons_append])
            refine wpAnyF_take (i := 0) (v := ?_) (by kernel_rfl) (by kernel_rfl) rfl (by kernel_rfl) (by kernel_rfl) (by kernel_rfl) (fun _ _ _ h => h) (Or.inl ⟨by rfl, ?_⟩) (by assumption) ?_
            rotate_left
            · intro w' hSw; (try dsimp only at hSw); obtain ⟨hs1, hs2⟩ := hSw; obtain ⟨k0, k1, k2, k3, k4, k5, k6⟩ := CB.cells7 (l := ⟨⟨ne, nl, nq, na⟩, nn, ng, np⟩) hs1; dsimp only at k0 k1 k2 k3 k4 k5 k6; go_simp; (try with_reducible rfl)
            (try simp only [Act.put, List.getElem_toArray, List.getElem_cons_zero, List.setIfInBounds_toArray, List.set_cons_zero, List.set_cons_succ])
            refine wpAnyF_take (i := 1) (v := ?_) (by kernel_rfl) (by kernel_rfl) rfl (by kernel_rfl) (by kernel_rfl) (by kernel_rfl) (fun _ _ _ h => h) (Or.inl ⟨by rfl, ?_⟩) (by assumption) ?_
            rotate_left
            · intro w' hSw; (try dsimp only at hSw); obtain ⟨hs1, hs2⟩ := hSw; obtain ⟨k0, k1, k2, k3, k4, k5, k6⟩ := CB.cells7 (l := ⟨⟨ne, nl, nq, na⟩, nn, ng, np⟩) hs1; dsimp only at k0 k1 k2 k3 k4 k5 k6; go_simp; (try with_reducible rfl)
            (try simp only [Act.put, List.getElem_toArray, List.getElem_cons_zero, List.getElem_cons_succ, List.setIfInBounds_toArray, List.set_cons_zero, List.set_cons_succ])
            refine wpAnyF_take (i := 2) (v := ?_) (by kernel_rfl) (by kernel_rfl) rfl (by kernel_rfl) (by kernel_rfl) (by kernel_rfl) (fun _ _ _ h => h) (Or.inl ⟨by rfl, ?_⟩) (by assumption) ?_
            rotate_left
            · intro w' hSw; (try dsimp only at hSw); obtain ⟨hs1, hs2⟩ := hSw; obtain ⟨k0, k1, k2, k3, k4, k5, k6⟩ := CB.cells7 (l := ⟨⟨ne, nl, nq, na⟩, nn, ng, np⟩) hs1; dsimp only at k0 k1 k2 k3 k4 k5 k6; go_simp; (try with_reducible rfl)
            (try simp only [Act.put, List.getElem_toArray, List.getElem_cons_zero, List.getElem_cons_succ, List.setIfInBounds_toArray, List.set_cons_zero, List.set_cons_succ])
            refine wpAnyF_take (i := 3) (v := ?_) (by kernel_rfl) (by kernel_rfl) rfl (by kernel_rfl) (by kernel_rfl) (by kernel_rfl) (fun _ _ _ h => h) (Or.inl ⟨by rfl, ?_⟩) (by assumption) ?_
            rotate_left
            · intro w' hSw; (try dsimp only at hSw); obtain ⟨hs1, hs2⟩ := hSw; obtain ⟨k0, k1, k2, k3, k4, k5, k6⟩ := CB.cells7 (l := ⟨⟨ne, nl, nq, na⟩, nn, ng, np⟩) hs1; dsimp only at k0 k1 k2 k3 k4 k5 k6; go_simp; (try with_reducible rfl)
            (try simp only [Act.put, List.getElem_toArray, List.getElem_cons_zero, List.getElem_cons_succ, List.setIfInBounds_toArray, List.set_cons_zero, List.set_cons_succ])
            refine wpAnyF_take (i := 4) (v := ?_) (by kernel_rfl) (by kernel_rfl) rfl (by kernel_rfl) (by kernel_rfl) (by kernel_rfl) (fun _ _ _ h => h) (Or.inl ⟨by rfl, ?_⟩) (by assumption) ?_
            rotate_left
            · intro w' hSw; (try dsimp only at hSw); obtain ⟨hs1, hs2⟩ := hSw; obtain ⟨k0, k1, k2, k3, k4, k5, k6⟩ := CB.cells7 (l := ⟨⟨ne, nl, nq, na⟩, nn, ng, np⟩) hs1; dsimp only at k0 k1 k2 k3 k4 k5 k6; go_simp; (try with_reducible rfl)
            (try simp only [Act.put, List.getElem_toArray, List.getElem_cons_zero, List.getElem_cons_succ, List.setIfInBounds_toArray, List.set_cons_zero, List.set_cons_succ])
            refine wpAnyF_take (i := 5) (v := ?_) (by kernel_rfl) (by kernel_rfl) rfl (by kernel_rfl) (by kernel_rfl) (by kernel_rfl) (fun _ _ _ h => h) (Or.inl ⟨by rfl, ?_⟩) (by assumption) ?_
            rotate_left
            · intro w' hSw; (try dsimp only at hSw); obtain ⟨hs1, hs2⟩ := hSw; obtain ⟨k0, k1, k2, k3, k4, k5, k6⟩ := CB.cells7 (l := ⟨⟨ne, nl, nq, na⟩, nn, ng, np⟩) hs1; dsimp only at k0 k1 k2 k3 k4 k5 k6; go_simp; (try with_reducible rfl)
            (try simp only [Act.put, List.getElem_toArray, List.getElem_cons_zero, List.getElem_cons_succ, List.setIfInBounds_toArray, List.set_cons_zero, List.set_cons_succ])
            refine wpAnyF_take (i := 6) (v := ?_) (by kernel_rfl) (by kernel_rfl) rfl (by kernel_rfl) (by kernel_rfl) (by kernel_rfl) (fun _ _ _ h => h) (Or.inl ⟨by rfl, ?_⟩) (by assumption) ?_
            rotate_left
            · intro w' hSw; (try dsimp only at hSw); obtain ⟨hs1, hs2⟩ := hSw; obtain ⟨k0, k1, k2, k3, k4, k5, k6⟩ := CB.cells7 (l := ⟨⟨ne, nl, nq, na⟩, nn, ng, np⟩) hs1; dsimp only at k0 k1 k2 k3 k4 k5 k6; go_simp; (try with_reducible rfl)
            (try simp only [Act.put, List.getElem_toArray, List.getElem_cons_zero, List.getElem_cons_succ, List.setIfInBounds_toArray, List.set_cons_zero, List.set_cons_succ])
            refine wpAnyF_ready (rs := [7]) (by kernel_rfl) (by simp) ?_
            refine AllReadyF.last (by kernel_rfl) rfl (fun KK hKK => ?_) AllReadyF.nil
            rw [if_pos (by rfl)]
            refine wp_store_mid 58 (.tmp 60) (.tmp 59) rfl lg (j * 7) #[.bool ne, .bool nl, .bool nq, .bool na, .bool nn, .int .i64 ng, .int .i64 np] rfl rfl HTH.out size_ln (by simp [Value.oneCell']) ?_
            simp only
            refine hKK.out _ _ ?_
            clear hKK KK
            (try simp only [Act.put, List.getElem_toArray, List.getElem_cons_zero, List.getElem_cons_succ])
            refine wpAnyF_done (by kernel_rfl) ?_ _
            refine NoPanic.normal ?_
            have HR9 := hi (HW6.out.drew.drew.setLn HKE.out HNE.out ⟨⟨ne, nl, nq, na⟩, nn, ng, np⟩)
            go_wp2
            go_roundw
            case rel =>
              refine ⟨k + 1, by omega, by go_num, by rw [HE.out, HSN.out], ?_⟩
              rw [HE.out, HSN.out]
              exact HR9
            case measure => simp only [intOf]; omega
    · obtain rfl : k = c := by omega
      have HBB := hi (show RfAfter w b lg xg la xa lc xc f0 (wrL ⟨r, fp, k⟩ f0 v es (presL f0 n fp k)).1 wr from ⟨HX.out.rf, ((Kept.of HBW.out).trans HX.out.kept).mono (fun i q => ⟨fun e => q.1 (by
        have h1 := HLN.out (presL f0 n fp k)
        rw [e] at h1
        exact List.length_eq_zero_iff.1 h1.symm), q.2⟩)⟩)
      go_wp2
      go_ret
      exact ⟨rfl, HBB.out⟩
end Go.Proofs.YtggeakkofcaklaaGreat
