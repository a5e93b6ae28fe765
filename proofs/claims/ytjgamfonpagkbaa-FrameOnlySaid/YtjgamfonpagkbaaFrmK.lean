/-
  The document's Read.
-/
import Derived.Test.YtjgamfonpagkbaaFrmI
import Derived.Test.YtjgamfonpagkbaaRefC
namespace Go.Proofs.Ytjgamfonpagkbaa
open Go.ChangeShapes Go.WideShapes Go.ChangeAt Go.RowKit Go.Shelf
set_option linter.unusedVariables false
attribute [local go_sem] Oper.semAt_some

theorem pres_zero (f0 : Int) (n : Nat) (fp : Int) : presL f0 n fp 0 = [] := rfl
theorem pres_yes {f0 : Int} {n : Nat} {fp : Int} {k : Nat} (h : hasB f0 n (fp + k) = true) : presL f0 n fp (k + 1) = presL f0 n fp k ++ [k] := by
  rw [presL, List.range_succ, filterN_yes _ h]; rfl
theorem pres_no {f0 : Int} {n : Nat} {fp : Int} {k : Nat} (h : hasB f0 n (fp + k) = false) : presL f0 n fp (k + 1) = presL f0 n fp k := by
  rw [presL, List.range_succ, filterN_no _ h]; rfl
theorem LnC.below {W W' : World} {g o : Nat} {x : Ln} (h : LnC W g o x) (hg : g < W.heap.size) (k : Below W.heap.size W W') : LnC W' g o x := h.heap (k.block g hg)
theorem LnC.drew {W : World} {g o : Nat} {x : Ln} (h : LnC W g o x) : LnC W.drew g o x := h.heap rfl

set_option maxRecDepth 100000 in
set_option maxHeartbeats 16000000 in
theorem rread_any {b lg xg : Nat} {la xa : Option Addr} {lc xc : Nat} {f0 : Int} {es : List En} {p : Pl} {c : Nat} {w : World} (h : RfAt w b lg xg la xa lc xc f0 es) (hf : Fit f0 es.length) (hfine : FineAll es) (hp : PlOk p c) :
    Calls Try.prog 15 #[.pointer (some ⟨b, 0, none⟩), p.v] w fun e w' => e = .returned (.int .u64 (readV p c f0 es : Nat)) ∧ Below w.heap.size w w' := by
  have HF := hi hf
  have HFA := hi hfine
  have H := hi h
  have HAT := hi (fun id W (hW : Below w.heap.size w W) => at_any (id := id) (h.below hW) hf)
  have HWT := hi (fun v k x W hv hx hk hc => rwith_any v p k x W hv hx hk hc)
  obtain ⟨n, hn⟩ : ∃ n, es.length = n := ⟨_, rfl⟩
  have HN := hi hn
  have hpk := hp.cnt
  have hfew := hp.few
  have hpf0 := hp.f0
  have hpf1 := hp.f1
  unfold readV
  rw [hn] at HAT ⊢
  clear h hf hfine hp hn
  obtain ⟨r, fp, pc⟩ := p
  dsimp only at hpk hpf0 hpf1
  subst hpk
  dsimp only [Pl.v, Pl.cs] at HWT ⊢
  have HNW := hi (CB.new w 37 #[.int .i64 r, .int .i64 fp, .int .i64 c])
  have HBW := hi (bal w (.cells #[.int .i64 r, .int .i64 fp, .int .i64 c] 37))
  have HSZ := hi (show (w.alloc (.cells #[.int .i64 r, .int .i64 fp, .int .i64 c] 37)).heap.size = w.heap.size + 1 by simp)
  go_enter Try.func15, Try.ntmps15
  go_wp2
  obtain ⟨w1, hw1⟩ : ∃ w1, w.alloc (.cells #[.int .i64 r, .int .i64 fp, .int .i64 c] 37) = w1 := ⟨_, rfl⟩
  rw [hw1] at HNW HBW HSZ ⊢
  clear hw1
  go_loopw [5, 6] (fun o i wr => ∃ k : Nat, k ≤ c ∧ i = .int .i64 k ∧ o = .int .u64 (readL ⟨r, fp, c⟩ f0 es (presL f0 n fp k) : Nat) ∧ Hi (Below w1.heap.size w1 wr)) (fun _ i _ => c - (intOf i).toNat)
  case atStart => exact ⟨0, Nat.zero_le _, rfl, rfl, hi (Below.refl _ _)⟩
  case round =>
    obtain ⟨k, hk, rfl, rfl, HX⟩ := hrel
    have HP := hi (HNW.out.below HX.out)
    have p0 := HP.out.cell 0
    have p1 := HP.out.cell 1
    have p2 := HP.out.cell 2
    have p0' : wr.cell? ⟨w.heap.size, 0, none⟩ = some (.int .i64 r) := p0
    have p1' : wr.cell? ⟨w.heap.size, 1, none⟩ = some (.int .i64 fp) := p1
    have p2' : wr.cell? ⟨w.heap.size, 2, none⟩ = some (.int .i64 c) := p2
    clear p0 p1 p2
    by_cases hlt : k < c
    · have HBR := hi (HBW.out.trans (HX.out.mono HBW.out.size))
      have HA1 := hi (HAT.out (fp + k) wr HBR.out)
      have hw : IntKind.i64.wrap (fp + k) = fp + k := by rw [IntKind.wrap_i64]; omega
      cases hin : hasB f0 n (fp + k)
      · rw [atI_no hin] at HA1
        have HE := hi (pres_no hin)
        clear hin
        go_wp2_with (go_at_call 34; ((with_reducible refine HA1.out.mono ?_); rintro e w2 ⟨rfl, rfl⟩))
        go_roundw
        case rel => exact ⟨k + 1, by omega, by go_num, by rw [HE.out], HX⟩
        case measure => simp only [intOf]; omega
      · obtain ⟨hid, hjn⟩ := plc_at hin
        have HE := hi (pres_yes hin)
        obtain ⟨j, hj⟩ : ∃ j, plcK f0 fp k = j := ⟨_, rfl⟩
        have HSN := hi (readL_snoc ⟨r, fp, c⟩ f0 es (presL f0 n fp k) k)
        dsimp only at HSN
        rw [hj] at hid hjn HSN
        rw [hid, atI_at hjn] at HA1
        have hje : j < es.length := by rw [HN.out]; exact hjn
        have hne : es ≠ [] := fun e => by rw [e] at hje; simp at hje
        have hfj : Fine (nthE es j).ln := HFA.out.nth hje
        have HR := hi (H.out.below HBR.out)
        obtain ⟨rfl, hxa, hlr, _, _, _, _⟩ := HR.out.ne0 hne
        have hb1 := HR.out.box.cell 1
        rw [HN.out] at hb1
        have HLN := hi (hlr.lnc (nthE_at hje))
        have hlgl := hlr.lt
        have hvlt := readL_lt ⟨r, fp, c⟩ f0 es (presL f0 n fp k)
        obtain ⟨y, hy⟩ : ∃ y, nthE es j = y := ⟨_, rfl⟩
        rw [hy] at hfj HSN HLN
        have HT := hi (fun W => shows_any y.ln r W hfj)
        have hty := toldV_le hfj r
        obtain ⟨t, ht⟩ : ∃ t, toldV y.ln r = t := ⟨_, rfl⟩
        rw [ht] at HT HSN hty
        obtain ⟨v, hv⟩ : ∃ v, readL ⟨r, fp, c⟩ f0 es (presL f0 n fp k) = v := ⟨_, rfl⟩
        rw [hv] at HSN hvlt ⊢
        have HW := hi (fun W => HWT.out v k t W hvlt (by omega) (by omega) (by simpa using hlt))
        obtain ⟨v2, hv2⟩ : ∃ v2, withN (wideN r) v k t = v2 := ⟨_, rfl⟩
        rw [hv2] at HW HSN
        have hbl := HR.out.box.lt
        have HRB := hi HR.out.box
        clear hin hj hy ht hv hv2 hlr hne hfj hje
        obtain ⟨⟨⟨e, lb', q, a⟩, en, gr, pr⟩, s⟩ := y
        dsimp only [Ln.v] at HT HLN
        rw [← hid] at HA1
        clear hid
        go_wp2_with (go_at_call 34; ((with_reducible refine HA1.out.mono ?_); rintro e' w2 ⟨rfl, rfl⟩))
        have hS0 : (fun W' => CB W' w.heap.size 37 #[.int .i64 r, .int .i64 fp, .int .i64 c] ∧ W'.cell? ⟨b, 1, none⟩ = some (.slice (some ⟨lg, 0, none⟩) n lc) ∧ LnC W' lg (j * 7) ⟨⟨e, lb', q, a⟩, en, gr, pr⟩ ∧ b < W'.heap.size ∧ lg < W'.heap.size) wr.drew := ⟨HP.out.drew, hb1, HLN.out.drew, hbl, hlgl⟩
        refine wp_region_noPanic ?_
        refine wp_region_last_drew (S := (fun W' => CB W' w.heap.size 37 #[.int .i64 r, .int .i64 fp, .int .i64 c] ∧ W'.cell? ⟨b, 1, none⟩ = some (.slice (some ⟨lg, 0, none⟩) n lc) ∧ LnC W' lg (j * 7) ⟨⟨e, lb', q, a⟩, en, gr, pr⟩ ∧ b < W'.heap.size ∧ lg < W'.heap.size)) [] (by kernel_rfl) hS0 (fun hHeld => ?_)
        (try simp only [Array.replicate_succ, Array.replicate_zero, List.push_toArray, List.nil_append, List.cons_append])
        refine wpAnyF_take (i := 0) (v := ?_) (by kernel_rfl) (by kernel_rfl) rfl (by kernel_rfl) (by kernel_rfl) (by kernel_rfl) (fun _ _ _ h => h) (Or.inl ⟨by rfl, ?_⟩) (by assumption) ?_
        rotate_left
        · intro w' hSw; (try dsimp only at hSw); obtain ⟨hs1, hs2, hs3, _, _⟩ := hSw; have k0 := hs1.cell 0; have k1 := hs1.cell 1; have k2 := hs1.cell 2; obtain ⟨d0, d1, d2, d3, d4, d5, d6⟩ := hs3; dsimp only at d0 d1 d2 d3 d4 d5 d6; go_simp; (try with_reducible rfl)
        (try simp only [Act.put, List.getElem_toArray, List.getElem_cons_zero, List.setIfInBounds_toArray, List.set_cons_zero, List.set_cons_succ])
        refine wpAnyF_take (i := 1) (v := ?_) (by kernel_rfl) (by kernel_rfl) rfl (by kernel_rfl) (by kernel_rfl) (by kernel_rfl) (fun _ _ _ h => h) (Or.inl ⟨by rfl, ?_⟩) (by assumption) ?_
        rotate_left
        · intro w' hSw; (try dsimp only at hSw); obtain ⟨hs1, hs2, hs3, _, _⟩ := hSw; have k0 := hs1.cell 0; have k1 := hs1.cell 1; have k2 := hs1.cell 2; obtain ⟨d0, d1, d2, d3, d4, d5, d6⟩ := hs3; dsimp only at d0 d1 d2 d3 d4 d5 d6; go_simp; (try with_reducible rfl)
        (try simp only [Act.put, List.getElem_toArray, List.getElem_cons_zero, List.getElem_cons_succ, List.setIfInBounds_toArray, List.set_cons_zero, List.set_cons_succ])
        refine wpAnyF_take (i := 2) (v := ?_) (by kernel_rfl) (by kernel_rfl) rfl (by kernel_rfl) (by kernel_rfl) (by kernel_rfl) (fun _ _ _ h => h) (Or.inl ⟨by rfl, ?_⟩) (by assumption) ?_
        rotate_left
        · intro w' hSw; (try dsimp only at hSw); obtain ⟨hs1, hs2, hs3, _, _⟩ := hSw; have k0 := hs1.cell 0; have k1 := hs1.cell 1; have k2 := hs1.cell 2; obtain ⟨d0, d1, d2, d3, d4, d5, d6⟩ := hs3; dsimp only at d0 d1 d2 d3 d4 d5 d6; go_simp; (try with_reducible rfl)
        (try simp only [Act.put, List.getElem_toArray, List.getElem_cons_zero, List.getElem_cons_succ, List.setIfInBounds_toArray, List.set_cons_zero, List.set_cons_succ])
        refine wpAnyF_take (i := 3) (v := ?_) (by kernel_rfl) (by kernel_rfl) rfl (by kernel_rfl) (by kernel_rfl) (by kernel_rfl) (fun _ _ _ h => h) (Or.inl ⟨by rfl, ?_⟩) (by assumption) ?_
        rotate_left
        · intro w' hSw; (try dsimp only at hSw); obtain ⟨hs1, hs2, hs3, _, _⟩ := hSw; have k0 := hs1.cell 0; have k1 := hs1.cell 1; have k2 := hs1.cell 2; obtain ⟨d0, d1, d2, d3, d4, d5, d6⟩ := hs3; dsimp only at d0 d1 d2 d3 d4 d5 d6; go_simp; (try with_reducible rfl)
        (try simp only [Act.put, List.getElem_toArray, List.getElem_cons_zero, List.getElem_cons_succ, List.setIfInBounds_toArray, List.set_cons_zero, List.set_cons_succ])
        refine wpAnyF_take (i := 4) (v := ?_) (by kernel_rfl) (by kernel_rfl) rfl (by kernel_rfl) (by kernel_rfl) (by kernel_rfl) (fun _ _ _ h => h) (Or.inl ⟨by rfl, ?_⟩) (by assumption) ?_
        rotate_left
        · intro w' hSw; (try dsimp only at hSw); obtain ⟨hs1, hs2, hs3, _, _⟩ := hSw; have k0 := hs1.cell 0; have k1 := hs1.cell 1; have k2 := hs1.cell 2; obtain ⟨d0, d1, d2, d3, d4, d5, d6⟩ := hs3; dsimp only at d0 d1 d2 d3 d4 d5 d6; go_simp; (try with_reducible rfl)
        (try simp only [Act.put, List.getElem_toArray, List.getElem_cons_zero, List.getElem_cons_succ, List.setIfInBounds_toArray, List.set_cons_zero, List.set_cons_succ])
        refine wpAnyF_take (i := 5) (v := ?_) (by kernel_rfl) (by kernel_rfl) rfl (by kernel_rfl) (by kernel_rfl) (by kernel_rfl) (fun _ _ _ h => h) (Or.inl ⟨by rfl, ?_⟩) (by assumption) ?_
        rotate_left
        · intro w' hSw; (try dsimp only at hSw); obtain ⟨hs1, hs2, hs3, _, _⟩ := hSw; have k0 := hs1.cell 0; have k1 := hs1.cell 1; have k2 := hs1.cell 2; obtain ⟨d0, d1, d2, d3, d4, d5, d6⟩ := hs3; dsimp only at d0 d1 d2 d3 d4 d5 d6; go_simp; (try with_reducible rfl)
        (try simp only [Act.put, List.getElem_toArray, List.getElem_cons_zero, List.getElem_cons_succ, List.setIfInBounds_toArray, List.set_cons_zero, List.set_cons_succ])
        refine wpAnyF_take (i := 6) (v := ?_) (by kernel_rfl) (by kernel_rfl) rfl (by kernel_rfl) (by kernel_rfl) (by kernel_rfl) (fun _ _ _ h => h) (Or.inl ⟨by rfl, ?_⟩) (by assumption) ?_
        rotate_left
        · intro w' hSw; (try dsimp only at hSw); obtain ⟨hs1, hs2, hs3, _, _⟩ := hSw; have k0 := hs1.cell 0; have k1 := hs1.cell 1; have k2 := hs1.cell 2; obtain ⟨d0, d1, d2, d3, d4, d5, d6⟩ := hs3; dsimp only at d0 d1 d2 d3 d4 d5 d6; go_simp; (try with_reducible rfl)
        (try simp only [Act.put, List.getElem_toArray, List.getElem_cons_zero, List.getElem_cons_succ, List.setIfInBounds_toArray, List.set_cons_zero, List.set_cons_succ])
        refine wpAnyF_take (i := 7) (v := ?_) (by kernel_rfl) (by kernel_rfl) rfl (by kernel_rfl) (by kernel_rfl) (by kernel_rfl) (fun _ _ _ h => h) (Or.inl ⟨by rfl, ?_⟩) (by assumption) ?_
        rotate_left
        · intro w' hSw; (try dsimp only at hSw); obtain ⟨hs1, hs2, hs3, _, _⟩ := hSw; have k0 := hs1.cell 0; have k1 := hs1.cell 1; have k2 := hs1.cell 2; obtain ⟨d0, d1, d2, d3, d4, d5, d6⟩ := hs3; dsimp only at d0 d1 d2 d3 d4 d5 d6; go_simp; (try with_reducible rfl)
        (try simp only [Act.put, List.getElem_toArray, List.getElem_cons_zero, List.getElem_cons_succ, List.setIfInBounds_toArray, List.set_cons_zero, List.set_cons_succ])
        refine wpAnyF_take (i := 8) (v := ?_) (by kernel_rfl) (by kernel_rfl) rfl (by kernel_rfl) (by kernel_rfl) (by kernel_rfl) (fun _ _ _ h => h) (Or.inl ⟨by rfl, ?_⟩) (by assumption) ?_
        rotate_left
        · intro w' hSw; (try dsimp only at hSw); obtain ⟨hs1, hs2, hs3, _, _⟩ := hSw; have k0 := hs1.cell 0; have k1 := hs1.cell 1; have k2 := hs1.cell 2; obtain ⟨d0, d1, d2, d3, d4, d5, d6⟩ := hs3; dsimp only at d0 d1 d2 d3 d4 d5 d6; go_simp; (try with_reducible rfl)
        (try simp only [Act.put, List.getElem_toArray, List.getElem_cons_zero, List.getElem_cons_succ, List.setIfInBounds_toArray, List.set_cons_zero, List.set_cons_succ])
        refine wpAnyF_take (i := 9) (v := ?_) (by kernel_rfl) (by kernel_rfl) rfl (by kernel_rfl) (by kernel_rfl) (by kernel_rfl) (fun _ _ _ h => h) (Or.inl ⟨by rfl, ?_⟩) (by assumption) ?_
        rotate_left
        · intro w' hSw; (try dsimp only at hSw); obtain ⟨hs1, hs2, hs3, _, _⟩ := hSw; have k0 := hs1.cell 0; have k1 := hs1.cell 1; have k2 := hs1.cell 2; obtain ⟨d0, d1, d2, d3, d4, d5, d6⟩ := hs3; dsimp only at d0 d1 d2 d3 d4 d5 d6; go_simp; (try with_reducible rfl)
        (try simp only [Act.put, List.getElem_toArray, List.getElem_cons_zero, List.getElem_cons_succ, List.setIfInBounds_toArray, List.set_cons_zero, List.set_cons_succ])
        refine wpAnyF_take (i := 10) (v := ?_) (by kernel_rfl) (by kernel_rfl) rfl (by kernel_rfl) (by kernel_rfl) (by kernel_rfl) (fun _ _ _ h => h) (Or.inl ⟨by rfl, ?_⟩) (by assumption) ?_
        rotate_left
        · intro w' hSw; (try dsimp only at hSw); obtain ⟨hs1, hs2, hs3, _, _⟩ := hSw; have k0 := hs1.cell 0; have k1 := hs1.cell 1; have k2 := hs1.cell 2; obtain ⟨d0, d1, d2, d3, d4, d5, d6⟩ := hs3; dsimp only at d0 d1 d2 d3 d4 d5 d6; go_simp; (try with_reducible rfl)
        (try simp only [Act.put, List.getElem_toArray, List.getElem_cons_zero, List.getElem_cons_succ, List.setIfInBounds_toArray, List.set_cons_zero, List.set_cons_succ])
        refine wpAnyF_take (i := 11) (v := ?_) (by kernel_rfl) (by kernel_rfl) rfl (by kernel_rfl) (by kernel_rfl) (by kernel_rfl) (fun _ _ _ h => h) (Or.inl ⟨by rfl, ?_⟩) (by assumption) ?_
        rotate_left
        · intro w' hSw; (try dsimp only at hSw); obtain ⟨hs1, hs2, hs3, _, _⟩ := hSw; have k0 := hs1.cell 0; have k1 := hs1.cell 1; have k2 := hs1.cell 2; obtain ⟨d0, d1, d2, d3, d4, d5, d6⟩ := hs3; dsimp only at d0 d1 d2 d3 d4 d5 d6; go_simp; (try with_reducible rfl)
        (try simp only [Act.put, List.getElem_toArray, List.getElem_cons_zero, List.getElem_cons_succ, List.setIfInBounds_toArray, List.set_cons_zero, List.set_cons_succ])
        refine wpAnyF_ready (rs := [12]) (by kernel_rfl) (by simp) ?_
        refine AllReadyF.cons rfl (fun KK hKK => ?_) AllReadyF.nil
        go_simp
        ((with_reducible refine (HT.out _).mono ?_); rintro e' w3 ⟨rfl, hb3⟩; have HS3 := hi (And.intro (hHeld.1.below hb3) (And.intro ((hb3.cell (p := ⟨b, 1, none⟩) hHeld.2.2.2.1).trans hHeld.2.1) (And.intro (hHeld.2.2.1.below hHeld.2.2.2.2 hb3) (And.intro (Nat.lt_of_lt_of_le hHeld.2.2.2.1 hb3.size) (Nat.lt_of_lt_of_le hHeld.2.2.2.2 hb3.size))))); have HB3 := hi ((Below.drewN (m := 1) (Below.refl wr.heap.size wr)).trans hb3); clear hb3)
        (try go_simp)
        refine hKK.out _ _ HS3.out (fun hHeld => ?_)
        clear hKK KK
        (try simp only [Act.put, List.getElem_toArray, List.getElem_cons_zero, List.getElem_cons_succ, List.setIfInBounds_toArray, List.set_cons_zero, List.set_cons_succ])
        refine wpAnyF_ready (rs := [13]) (by kernel_rfl) (by simp) ?_
        refine AllReadyF.cons rfl (fun KK hKK => ?_) AllReadyF.nil
        go_simp
        ((with_reducible refine (HW.out _).mono ?_); rintro e' w4 ⟨rfl, hb4⟩; have HS4 := hi (And.intro (HS3.out.1.below hb4) (And.intro ((hb4.cell (p := ⟨b, 1, none⟩) HS3.out.2.2.2.1).trans HS3.out.2.1) (And.intro (HS3.out.2.2.1.below HS3.out.2.2.2.2 hb4) (And.intro (Nat.lt_of_lt_of_le HS3.out.2.2.2.1 hb4.size) (Nat.lt_of_lt_of_le HS3.out.2.2.2.2 hb4.size))))); have HB4 := hi (HB3.out.trans (hb4.mono HB3.out.size)); clear hb4)
        (try go_simp)
        refine hKK.out _ _ HS4.out (fun hHeld => ?_)
        clear hKK KK
        (try simp only [Act.put, List.getElem_toArray, List.getElem_cons_zero, List.getElem_cons_succ, List.setIfInBounds_toArray, List.set_cons_zero, List.set_cons_succ])
        refine wpAnyF_take (i := 14) (v := ?_) (by kernel_rfl) (by kernel_rfl) rfl (by kernel_rfl) (by kernel_rfl) (by kernel_rfl) (fun _ _ _ h => h) (Or.inl ⟨by rfl, ?_⟩) (by assumption) ?_
        rotate_left
        · intro w' hSw; (try dsimp only at hSw); obtain ⟨hs1, hs2, hs3, _, _⟩ := hSw; have k0 := hs1.cell 0; have k1 := hs1.cell 1; have k2 := hs1.cell 2; obtain ⟨d0, d1, d2, d3, d4, d5, d6⟩ := hs3; dsimp only at d0 d1 d2 d3 d4 d5 d6; go_simp; (try with_reducible rfl)
        (try simp only [Act.put, List.getElem_toArray, List.getElem_cons_zero, List.getElem_cons_succ, List.setIfInBounds_toArray, List.set_cons_zero, List.set_cons_succ])
        refine wpAnyF_done (by kernel_rfl) ?_ _
        refine NoPanic.normal ?_
        go_wp2
        go_roundw
        case rel => exact ⟨k + 1, by omega, by go_num, by rw [HE.out, HSN.out], hi (HX.out.trans (HB4.out.mono HX.out.size))⟩
        case measure => simp only [intOf]; omega
    · obtain rfl : k = c := by omega
      go_wp2
      go_ret
      exact ⟨rfl, HBW.out.trans (HX.out.mono HBW.out.size)⟩

end Go.Proofs.Ytjgamfonpagkbaa
