import Derived.Test.YtggeakkofcaklaaGreatMg24
namespace Go.Proofs.YtggeakkofcaklaaGreat
open Go.ChangeShapes Go.WideShapes Go.ChangeAt Go.RowKit Go.Shelf
set_option linter.unusedVariables false
attribute [local go_sem] Oper.semAt_some
section
variable {w : World} {lo hi' : Nat} {b c : Nat → Nat} {D : Ds}
end
end Go.Proofs.YtggeakkofcaklaaGreat
namespace Go.Proofs.YtggeakkofcaklaaGreat
open Go.ChangeShapes Go.WideShapes Go.ChangeAt Go.RowKit Go.Shelf
set_option linter.unusedVariables false
attribute [local go_sem] Oper.semAt_some
theorem RfB.below {W W' : World} {x lg xg : Nat} {f : Int} {es : List En} (h : RfB W x lg xg f es) (k : Below W.heap.size W W') : RfB W' x lg xg f es := by
  obtain ⟨la, xa, lc, xc, h⟩ := h
  exact ⟨la, xa, lc, xc, h.below k⟩
section
variable {w : World} {lo hi' : Nat} {b c : Nat → Nat} {D : Ds}
set_option maxRecDepth 100000 in
set_option maxHeartbeats 2000000 in
theorem rput_go (h : RdAt w lo hi' b c D) {k : Nat} {id f : Int} (x lg xg : Nat) (es : List En) (s : St) (hk : k < D.cs.length) (hfit : Fit f es.length)
    (HO : ∀ W, Below w.heap.size w W → Calls Tryz.prog 94 #[.pointer (some ⟨b 0, 0, none⟩), .int .i64 k, .int .i64 id] W fun e w' => e = .returned (.pointer (some ⟨x, 0, none⟩)) ∧ W = w')
    (hB : RfB w x lg xg f es) :
    Calls Tryz.prog 52 #[.pointer (some ⟨b 0, 0, none⟩), .int .i64 k, .int .i64 id, s.v] w fun e w' => e = .returned (.int .i64 (putS f es id s).2) ∧ RfAf w x lg xg f (putS f es id s).1 w' := by
  have hbal := bal w (.cells #[.bool s.e, .bool s.l, .bool s.h, .bool s.a] 31)
  have HT := hi ((h.below hbal).thereNat hk)
  have HO := hi (HO _ hbal)
  have HA := hi (rfb_at id (hB.below hbal) hfit)
  have HB0 := hi hbal
  unfold putS
  cases hb : hasB f es.length id
  · simp only [Bool.false_eq_true, if_false]
    rw [atI_no hb] at HA
    have HF := hi (show RfAf w x lg xg f es _ from ⟨hB.below hbal, Kept.of hbal⟩)
    clear h hb hB hbal HB0
    obtain ⟨se, sl, sh, sa⟩ := s
    dsimp only [St.v] at HO HA HT HF ⊢
    go_enter Tryz.func52, Tryz.ntmps52
    go_wp2_with (first
      | (go_at_call 60; ((with_reducible refine HT.out.mono ?_); rintro e w1 ⟨rfl, rfl⟩))
      | (go_at_call 94; ((with_reducible refine HO.out.mono ?_); rintro e w1 ⟨rfl, rfl⟩))
      | (go_at_call 90; ((with_reducible refine HA.out.mono ?_); rintro e w1 ⟨rfl, rfl⟩)))
    go_ret
    exact ⟨rfl, HF.out⟩
  · simp only [if_true]
    obtain ⟨j, rfl, hj, e1⟩ := has_at hb
    rw [e1]
    rw [atI_at hj] at HA
    obtain ⟨la, xa, lc, xc, hR⟩ := hB
    have hne := hR.ne0 (fun e => by rw [e] at hj; simp at hj)
    have hla := hne.1
    subst hla
    have HKL := hi hj
    have HK := hi (nthE_at hj)
    have HR0 := hi hR
    have hxl : x ≠ lg := hne.2.2.2.2.1
    have hlg : lg < w.heap.size := hne.2.2.1.lt
    have hbl : w.heap.size ≠ lg := by omega
    have hC1 := (hR.below hbal).box.cell 1
    have hS := CB.new w 31 #[.bool s.e, .bool s.l, .bool s.h, .bool s.a]
    obtain ⟨n, hn⟩ : ∃ n, es.length = n := ⟨_, rfl⟩
    have HN := hi hn
    rw [hn] at hC1 hj
    have HXB := hi (And.intro hC1 hS)
    clear h hb hbal hn hR e1 hne hC1 hS
    obtain ⟨se, sl, sh, sa⟩ := s
    dsimp only [St.v] at HO HA HT HB0 HXB ⊢
    go_enter Tryz.func52, Tryz.ntmps52
    go_wp2_with (first
      | (go_at_call 60; ((with_reducible refine HT.out.mono ?_); rintro e w1 ⟨rfl, rfl⟩))
      | (go_at_call 94; ((with_reducible refine HO.out.mono ?_); rintro e w1 ⟨rfl, rfl⟩))
      | (go_at_call 90; ((with_reducible refine HA.out.mono ?_); rintro e w1 ⟨rfl, rfl⟩)))
    clear HO HA HT
    obtain ⟨W1, hW1⟩ : ∃ W1, w.alloc (.cells #[.bool se, .bool sl, .bool sh, .bool sa] 31) = W1 := ⟨_, rfl⟩
    rw [hW1] at HB0 HXB ⊢
    have HB1 := hi (show Below w.heap.size w W1.drew from Below.drewN (m := 1) HB0.out)
    clear hW1
    refine wp_region_noPanic ?_
    refine wp_region_last_drew (S := (fun W' => W'.cell? ⟨x, 1, none⟩ = some (.slice (some ⟨lg, 0, none⟩) n lc) ∧ CB W' w.heap.size 31 #[.bool se, .bool sl, .bool sh, .bool sa])) [] (by kernel_rfl) ⟨HXB.out.1, HXB.out.2.drew⟩ (fun hHeld => ?_)
    (try simp only [Array.replicate_succ, Array.replicate_zero, List.push_toArray, List.nil_append, List.cons_append])
    obtain ⟨Wd, hWd⟩ : ∃ Wd, W1.drew = Wd := ⟨_, rfl⟩
    rw [hWd] at HB1 hHeld ⊢
    clear hWd
    have hRd := HR0.out.below HB1.out
    have hth : Wd.there lg (j * 7) 4 := fun i hi => ((hRd.ne0 (fun e => by have h9 := HKL.out; rw [e] at h9; simp at h9)).2.2.1.lnThere HKL.out) i (by omega)
    have hS9 := hRd.setIrq HK.out ⟨se, sl, sh, sa⟩
    clear hRd
    refine wpAnyF_take (i := 0) (v := ?_) (by kernel_rfl) (by kernel_rfl) rfl (by kernel_rfl) (by kernel_rfl) (by kernel_rfl) (fun _ _ _ h => h) (Or.inl ⟨by rfl, ?_⟩) (by assumption) ?_
    rotate_left
    · intro w' hSw; (try dsimp only at hSw); have k1 := hSw.1; have p0 := hSw.2.cell 0; have p1 := hSw.2.cell 1; have p2 := hSw.2.cell 2; have p3 := hSw.2.cell 3; go_simp; (try with_reducible rfl)
    (try simp only [Act.put, List.getElem_toArray, List.getElem_cons_zero, List.setIfInBounds_toArray, List.set_cons_zero, List.set_cons_succ])
    refine wpAnyF_take (i := 1) (v := ?_) (by kernel_rfl) (by kernel_rfl) rfl (by kernel_rfl) (by kernel_rfl) (by kernel_rfl) (fun _ _ _ h => h) (Or.inl ⟨by rfl, ?_⟩) (by assumption) ?_
    rotate_left
    · intro w' hSw; (try dsimp only at hSw); have k1 := hSw.1; have p0 := hSw.2.cell 0; have p1 := hSw.2.cell 1; have p2 := hSw.2.cell 2; have p3 := hSw.2.cell 3; go_simp; (try with_reducible rfl)
    (try simp only [Act.put, List.getElem_toArray, List.getElem_cons_zero, List.getElem_cons_succ, List.setIfInBounds_toArray, List.set_cons_zero, List.set_cons_succ])
    refine wpAnyF_take (i := 2) (v := ?_) (by kernel_rfl) (by kernel_rfl) rfl (by kernel_rfl) (by kernel_rfl) (by kernel_rfl) (fun _ _ _ h => h) (Or.inl ⟨by rfl, ?_⟩) (by assumption) ?_
    rotate_left
    · intro w' hSw; (try dsimp only at hSw); have k1 := hSw.1; have p0 := hSw.2.cell 0; have p1 := hSw.2.cell 1; have p2 := hSw.2.cell 2; have p3 := hSw.2.cell 3; go_simp; (try with_reducible rfl)
    (try simp only [Act.put, List.getElem_toArray, List.getElem_cons_zero, List.getElem_cons_succ, List.setIfInBounds_toArray, List.set_cons_zero, List.set_cons_succ])
    refine wpAnyF_take (i := 3) (v := ?_) (by kernel_rfl) (by kernel_rfl) rfl (by kernel_rfl) (by kernel_rfl) (by kernel_rfl) (fun _ _ _ h => h) (Or.inl ⟨by rfl, ?_⟩) (by assumption) ?_
    rotate_left
    · intro w' hSw; (try dsimp only at hSw); have k1 := hSw.1; have p0 := hSw.2.cell 0; have p1 := hSw.2.cell 1; have p2 := hSw.2.cell 2; have p3 := hSw.2.cell 3; go_simp; (try with_reducible rfl)
    (try simp only [Act.put, List.getElem_toArray, List.getElem_cons_zero, List.getElem_cons_succ, List.setIfInBounds_toArray, List.set_cons_zero, List.set_cons_succ])
    refine wpAnyF_take (i := 4) (v := ?_) (by kernel_rfl) (by kernel_rfl) rfl (by kernel_rfl) (by kernel_rfl) (by kernel_rfl) (fun _ _ _ h => h) (Or.inl ⟨by rfl, ?_⟩) (by assumption) ?_
    rotate_left
    · intro w' hSw; (try dsimp only at hSw); have k1 := hSw.1; have p0 := hSw.2.cell 0; have p1 := hSw.2.cell 1; have p2 := hSw.2.cell 2; have p3 := hSw.2.cell 3; go_simp; (try with_reducible rfl)
    (try simp only [Act.put, List.getElem_toArray, List.getElem_cons_zero, List.getElem_cons_succ, List.setIfInBounds_toArray, List.set_cons_zero, List.set_cons_succ])
    refine wpAnyF_take (i := 5) (v := ?_) (by kernel_rfl) (by kernel_rfl) rfl (by kernel_rfl) (by kernel_rfl) (by kernel_rfl) (fun _ _ _ h => h) (Or.inl ⟨by rfl, ?_⟩) (by assumption) ?_
    rotate_left
    · intro w' hSw; (try dsimp only at hSw); have k1 := hSw.1; have p0 := hSw.2.cell 0; have p1 := hSw.2.cell 1; have p2 := hSw.2.cell 2; have p3 := hSw.2.cell 3; go_simp; (try with_reducible rfl)
    (try simp only [Act.put, List.getElem_toArray, List.getElem_cons_zero, List.getElem_cons_succ, List.setIfInBounds_toArray, List.set_cons_zero, List.set_cons_succ])
    refine wpAnyF_take (i := 6) (v := ?_) (by kernel_rfl) (by kernel_rfl) rfl (by kernel_rfl) (by kernel_rfl) (by kernel_rfl) (fun _ _ _ h => h) (Or.inl ⟨by rfl, ?_⟩) (by assumption) ?_
    rotate_left
    · intro w' hSw; (try dsimp only at hSw); have k1 := hSw.1; have p0 := hSw.2.cell 0; have p1 := hSw.2.cell 1; have p2 := hSw.2.cell 2; have p3 := hSw.2.cell 3; go_simp; (try with_reducible rfl)
    (try simp only [Act.put, List.getElem_toArray, List.getElem_cons_zero, List.getElem_cons_succ, List.setIfInBounds_toArray, List.set_cons_zero, List.set_cons_succ])
    refine wpAnyF_take (i := 7) (v := ?_) (by kernel_rfl) (by kernel_rfl) rfl (by kernel_rfl) (by kernel_rfl) (by kernel_rfl) (fun _ _ _ h => h) (Or.inl ⟨by rfl, ?_⟩) (by assumption) ?_
    rotate_left
    · intro w' hSw; (try dsimp only at hSw); have k1 := hSw.1; have p0 := hSw.2.cell 0; have p1 := hSw.2.cell 1; have p2 := hSw.2.cell 2; have p3 := hSw.2.cell 3; go_simp; (try with_reducible rfl)
    (try simp only [Act.put, List.getElem_toArray, List.getElem_cons_zero, List.getElem_cons_succ, List.setIfInBounds_toArray, List.set_cons_zero, List.set_cons_succ])
    refine wpAnyF_ready (rs := [8]) (by kernel_rfl) (by simp) ?_
    refine AllReadyF.cons rfl (fun KK hKK => ?_) AllReadyF.nil
    rw [if_pos (by rfl)]
    refine wp_store_mid 31 (.tmp 31) (.tmp 29) rfl lg (j * 7) #[.bool se, .bool sl, .bool sh, .bool sa] rfl rfl hth size_irq (by simp [Value.oneCell']) ?_
    simp only
    refine hKK.out _ _ ⟨(World.cell?_of_block (w := Wd) (a := ⟨x, 1, none⟩) (heap_sets hxl _ _ Wd)).trans hHeld.1, hHeld.2.heap (heap_sets hbl _ _ Wd)⟩ (fun hHeld => ?_)
    clear hKK KK
    (try simp only [Act.put, List.getElem_toArray, List.getElem_cons_zero, List.getElem_cons_succ])
    refine wpAnyF_done (by kernel_rfl) ?_ _
    refine NoPanic.normal ?_
    go_wp2
    go_ret
    exact ⟨rfl, ⟨_, _, _, _, hS9⟩, (kept_sets (bs := fun i => i = lg ∨ i = xg) (b := lg) (.inl rfl) _ _ (Kept.of HB1.out)).mono (fun i h9 => ⟨by rw [List.length_set]; exact Nat.ne_of_gt (Nat.lt_of_le_of_lt (Nat.zero_le _) HKL.out), h9⟩)⟩
theorem rput_dist (h : RdAt w lo hi' b c D) (ok : D.Ok) {k id : Int} (s : St) :
    Calls Tryz.prog 52 #[.pointer (some ⟨b 0, 0, none⟩), .int .i64 k, .int .i64 id, s.v] w fun e w' => e = .returned (.int .i64 (putV D k id s).2) ∧ RdAf w lo hi' b c (putV D k id s).1 w' := by
  unfold putV
  cases hk : hasN D.cs.length k
  · simp only [Bool.false_eq_true, if_false]
    have hbal := bal w (.cells #[.bool s.e, .bool s.l, .bool s.h, .bool s.a] 31)
    have HT := hi ((h.below hbal).there k)
    rw [hk] at HT
    have HF := hi (RdAf.of h hbal)
    clear h hk ok hbal
    obtain ⟨se, sl, sh, sa⟩ := s
    dsimp only [St.v] at HT HF ⊢
    go_enter Tryz.func52, Tryz.ntmps52
    go_wp2_with (go_at_call 60; ((with_reducible refine HT.out.mono ?_); rintro e w1 ⟨rfl, rfl⟩))
    go_ret
    exact ⟨rfl, HF.out⟩
  · obtain ⟨j, rfl, hj⟩ := hasN_at hk
    simp only [if_true, Int.toNat_natCast]
    by_cases h32 : id < 32
    · rw [if_pos h32]
      refine (rput_go h _ _ _ _ s hj (ok.fitO hj) (fun W q => rbank_own (h.below q) hj h32) (h.own j hj)).mono ?_
      rintro e w' ⟨rfl, hA⟩
      exact ⟨rfl, ⟨(h.setOwn hj hA).1, (h.setOwn hj hA).2⟩⟩
    · rw [if_neg h32]
      refine (rput_go h _ _ _ _ s hj ok.fitS (fun W q => rbank_sh (h.below q) h32) h.shr).mono ?_
      rintro e w' ⟨rfl, hA⟩
      have hS := h.setShr hA (putS_len _ _ _ _) (putS_rt _ _ _ _)
      exact ⟨rfl, ⟨hS.1, hS.2⟩⟩
end
end Go.Proofs.YtggeakkofcaklaaGreat
namespace Go.Proofs.YtggeakkofcaklaaGreat
open Go.ChangeShapes Go.WideShapes Go.ChangeAt Go.RowKit Go.Shelf
set_option linter.unusedVariables false
attribute [local go_sem] Oper.semAt_some
theorem rfb_write {x lg xg : Nat} {f : Int} {es : List En} {p : Pl} {n v : Nat} {w : World} (h : RfB w x lg xg f es) (hf : Fit f es.length) (hfine : FineAll es) (hp : PlOk p n) (hv : v < 18446744073709551616) :
    Calls Tryz.prog 91 #[.pointer (some ⟨x, 0, none⟩), p.v, .int .u64 v] w fun e w' => e = .returned (.int .i64 ((writeV p n f v es).2 : Nat)) ∧ RfAf w x lg xg f (writeV p n f v es).1 w' := by
  obtain ⟨la, xa, lc, xc, h⟩ := h
  exact (rwrite_any h hf hfine hp hv).mono fun e w' q => ⟨q.1, q.2.af⟩
section
variable {w : World} {lo hi' : Nat} {b c : Nat → Nat} {D : Ds}
set_option maxRecDepth 100000 in
set_option maxHeartbeats 2000000 in
theorem rwriteOwn_dist (h : RdAt w lo hi' b c D) (ok : D.Ok) {k : Int} {p : Pl} (v : Nat) (hv : v < 18446744073709551616) (hp : ∃ n, PlOk p n) :
    Calls Tryz.prog 48 #[.pointer (some ⟨b 0, 0, none⟩), .int .i64 k, p.v, .int .u64 v] w fun e w' => e = .returned (.int .i64 (writeOwnV D k p v).2) ∧ RdAf w lo hi' b c (writeOwnV D k p v).1 w' := by
  obtain ⟨n0, hp⟩ := hp
  have hp := hp.cn
  have hbal := bal w (.cells p.cs 70)
  have HB0 := hi hbal
  have H1 := h.below hbal
  have hlt := h.box.lt
  have hle := h.le
  unfold writeOwnV
  cases hk : hasN D.cs.length k
  · have HH := hi (H1.there k)
    rw [hk] at HH
    have HF := hi (RdAf.of h hbal)
    clear h hk ok H1 hp hbal
    obtain ⟨r, f, n⟩ := p
    dsimp only [Pl.cs] at HH HB0 HF
    dsimp only [Pl.v]
    go_enter Tryz.func48, Tryz.ntmps48
    go_wp2_with (go_at_call 60; ((with_reducible refine HH.out.mono ?_); rintro e w1 ⟨rfl, rfl⟩))
    go_ret
    exact ⟨rfl, HF.out⟩
  · obtain ⟨j, rfl, hj⟩ := hasN_at hk
    simp only [if_true, Int.toNat_natCast]
    have HH := hi (H1.thereNat hj)
    have HPB := hi (CB.new w 70 p.cs)
    have HD := hi H1
    obtain ⟨n9, hn9⟩ : ∃ n9, D.cs.length = n9 := ⟨_, rfl⟩
    have HN9 := hi hn9
    have HJ := hi hj
    by_cases hr : p.r = 3
    · rw [if_pos hr]
      have c6 := H1.box.cell 6
      have q1 := H1.slpc hj
      rw [hn9] at c6 hj
      have w1 : (v : Int).tdiv 2 = ((v / 2 : Nat) : Int) := by rw [Int.tdiv_eq_ediv_of_nonneg (by omega)]; omega
      obtain ⟨t, ht⟩ : ∃ t, v / 2 = t := ⟨_, rfl⟩
      rw [ht] at w1
      have w2 : IntKind.u64.wrap (t : Int) = t := by rw [IntKind.wrap_u64]; omega
      have w3 : (t : Int).tmod 2 = ((t % 2 : Nat) : Int) := by rw [Int.tmod_eq_emod_of_nonneg (by omega)]; omega
      obtain ⟨u, hu⟩ : ∃ u, t % 2 = u := ⟨_, rfl⟩
      rw [hu] at w3
      obtain ⟨s, hs⟩ : ∃ s, onB v 1 = s := ⟨_, rfl⟩
      have w4 : ((u : Int) == 1) = s := by
        rw [← hs, onB, Nat.pow_one, ht, hu]
        by_cases e : u = 1
        · subst e; rfl
        · have : ((u : Int) == 1) = false := by simpa using fun q => e (by omega)
          rw [this]; simp [e]
      rw [hs]
      obtain ⟨x, hx⟩ : ∃ x, (D.nth j).sl = x := ⟨_, rfl⟩
      rw [hx] at q1
      clear h hk ok H1 hp hs hn9 hbal ht hu hx
      obtain ⟨r, f, n⟩ := p
      dsimp only at hr
      subst hr
      dsimp only [Pl.cs] at HH HB0 HPB HD c6 q1
      dsimp only [Pl.v]
      go_enter Tryz.func48, Tryz.ntmps48
      have fz := HD.out.slp.frozen j
      go_wp2_with (go_at_call 60; ((with_reducible refine HH.out.mono ?_); rintro e w1 ⟨rfl, rfl⟩))
      go_ret
      have hS := HD.out.setSlp HJ.out s
      exact ⟨rfl, ⟨hS.1, (Kept.of HB0.out).trans hS.2⟩⟩
    · rw [if_neg hr]
      have HRD := hi (fun W (q : Below w.heap.size w W) => rfb_write ((h.below q).own j hj) (ok.fitO hj) (ok.fine j hj) hp hv)
      obtain ⟨V, hV⟩ : ∃ V, writeV p p.c.toNat 0 v (D.nth j).es = V := ⟨_, rfl⟩
      rw [hV] at HRD ⊢
      have hq : (p.r == 3) = false := by simpa using hr
      rw [hn9] at hj
      clear h hk ok H1 hp hV hr hn9 hbal
      obtain ⟨r, f, n⟩ := p
      dsimp only at hq
      dsimp only [Pl.cs] at HH HB0 HPB HD
      dsimp only [Pl.v] at HRD ⊢
      go_enter Tryz.func48, Tryz.ntmps48
      go_wp2_with (go_at_call 60; ((with_reducible refine HH.out.mono ?_); rintro e w1 ⟨rfl, rfl⟩))
      obtain ⟨W1, hW1⟩ : ∃ W1, w.alloc (.cells #[.int .i64 r, .int .i64 f, .int .i64 n] 70) = W1 := ⟨_, rfl⟩
      rw [hW1] at HB0 HPB HD ⊢
      have HB1 := hi (show Below w.heap.size w W1.drew from Below.drewN (m := 1) HB0.out)
      have HD1 := hi HD.out.drew
      clear hW1 HH
      refine wp_region_noPanic ?_
      refine wp_region_last_drew (S := (fun W' => (∃ D', RdAt W' lo hi' b c D' ∧ D'.cs.length = n9) ∧ CB W' w.heap.size 70 #[.int .i64 r, .int .i64 f, .int .i64 n])) [] (by kernel_rfl) ⟨⟨D, HD1.out, HN9.out⟩, HPB.out.drew⟩ (fun hHeld => ?_)
      (try simp only [Array.replicate_succ, Array.replicate_zero, List.push_toArray, List.nil_append, List.cons_append])
      refine wpAnyF_take (i := 0) (v := ?_) (by kernel_rfl) (by kernel_rfl) rfl (by kernel_rfl) (by kernel_rfl) (by kernel_rfl) (fun _ _ _ h => h) (Or.inl ⟨by rfl, ?_⟩) (by assumption) ?_
      rotate_left
      · intro w' hSw; (try dsimp only at hSw); obtain ⟨⟨D', hd1, hd2⟩, hpb⟩ := hSw; have k2 := hd1.box.cell 5; rw [hd2] at k2; have k0 := hd1.ptr (k := j) (by rw [hd2]; exact hj); have p0 := hpb.cell 0; have p1 := hpb.cell 1; have p2 := hpb.cell 2; go_simp; (try with_reducible rfl)
      (try simp only [Act.put, List.getElem_toArray, List.getElem_cons_zero, List.setIfInBounds_toArray, List.set_cons_zero, List.set_cons_succ])
      refine wpAnyF_take (i := 1) (v := ?_) (by kernel_rfl) (by kernel_rfl) rfl (by kernel_rfl) (by kernel_rfl) (by kernel_rfl) (fun _ _ _ h => h) (Or.inl ⟨by rfl, ?_⟩) (by assumption) ?_
      rotate_left
      · intro w' hSw; (try dsimp only at hSw); obtain ⟨⟨D', hd1, hd2⟩, hpb⟩ := hSw; have k2 := hd1.box.cell 5; rw [hd2] at k2; have k0 := hd1.ptr (k := j) (by rw [hd2]; exact hj); have p0 := hpb.cell 0; have p1 := hpb.cell 1; have p2 := hpb.cell 2; go_simp; (try with_reducible rfl)
      (try simp only [Act.put, List.getElem_toArray, List.getElem_cons_zero, List.getElem_cons_succ, List.setIfInBounds_toArray, List.set_cons_zero, List.set_cons_succ])
      refine wpAnyF_take (i := 2) (v := ?_) (by kernel_rfl) (by kernel_rfl) rfl (by kernel_rfl) (by kernel_rfl) (by kernel_rfl) (fun _ _ _ h => h) (Or.inl ⟨by rfl, ?_⟩) (by assumption) ?_
      rotate_left
      · intro w' hSw; (try dsimp only at hSw); obtain ⟨⟨D', hd1, hd2⟩, hpb⟩ := hSw; have k2 := hd1.box.cell 5; rw [hd2] at k2; have k0 := hd1.ptr (k := j) (by rw [hd2]; exact hj); have p0 := hpb.cell 0; have p1 := hpb.cell 1; have p2 := hpb.cell 2; go_simp; (try with_reducible rfl)
      (try simp only [Act.put, List.getElem_toArray, List.getElem_cons_zero, List.getElem_cons_succ, List.setIfInBounds_toArray, List.set_cons_zero, List.set_cons_succ])
      refine wpAnyF_take (i := 3) (v := ?_) (by kernel_rfl) (by kernel_rfl) rfl (by kernel_rfl) (by kernel_rfl) (by kernel_rfl) (fun _ _ _ h => h) (Or.inl ⟨by rfl, ?_⟩) (by assumption) ?_
      rotate_left
      · intro w' hSw; (try dsimp only at hSw); obtain ⟨⟨D', hd1, hd2⟩, hpb⟩ := hSw; have k2 := hd1.box.cell 5; rw [hd2] at k2; have k0 := hd1.ptr (k := j) (by rw [hd2]; exact hj); have p0 := hpb.cell 0; have p1 := hpb.cell 1; have p2 := hpb.cell 2; go_simp; (try with_reducible rfl)
      (try simp only [Act.put, List.getElem_toArray, List.getElem_cons_zero, List.getElem_cons_succ, List.setIfInBounds_toArray, List.set_cons_zero, List.set_cons_succ])
      refine wpAnyF_take (i := 4) (v := ?_) (by kernel_rfl) (by kernel_rfl) rfl (by kernel_rfl) (by kernel_rfl) (by kernel_rfl) (fun _ _ _ h => h) (Or.inl ⟨by rfl, ?_⟩) (by assumption) ?_
      rotate_left
      · intro w' hSw; (try dsimp only at hSw); obtain ⟨⟨D', hd1, hd2⟩, hpb⟩ := hSw; have k2 := hd1.box.cell 5; rw [hd2] at k2; have k0 := hd1.ptr (k := j) (by rw [hd2]; exact hj); have p0 := hpb.cell 0; have p1 := hpb.cell 1; have p2 := hpb.cell 2; go_simp; (try with_reducible rfl)
      (try simp only [Act.put, List.getElem_toArray, List.getElem_cons_zero, List.getElem_cons_succ, List.setIfInBounds_toArray, List.set_cons_zero, List.set_cons_succ])
      refine wpAnyF_take (i := 5) (v := ?_) (by kernel_rfl) (by kernel_rfl) rfl (by kernel_rfl) (by kernel_rfl) (by kernel_rfl) (fun _ _ _ h => h) (Or.inl ⟨by rfl, ?_⟩) (by assumption) ?_
      rotate_left
      · intro w' hSw; (try dsimp only at hSw); obtain ⟨⟨D', hd1, hd2⟩, hpb⟩ := hSw; have k2 := hd1.box.cell 5; rw [hd2] at k2; have k0 := hd1.ptr (k := j) (by rw [hd2]; exact hj); have p0 := hpb.cell 0; have p1 := hpb.cell 1; have p2 := hpb.cell 2; go_simp; (try with_reducible rfl)
      (try simp only [Act.put, List.getElem_toArray, List.getElem_cons_zero, List.getElem_cons_succ, List.setIfInBounds_toArray, List.set_cons_zero, List.set_cons_succ])
      refine wpAnyF_take (i := 6) (v := ?_) (by kernel_rfl) (by kernel_rfl) rfl (by kernel_rfl) (by kernel_rfl) (by kernel_rfl) (fun _ _ _ h => h) (Or.inl ⟨by rfl, ?_⟩) (by assumption) ?_
      rotate_left
      · intro w' hSw; (try dsimp only at hSw); obtain ⟨⟨D', hd1, hd2⟩, hpb⟩ := hSw; have k2 := hd1.box.cell 5; rw [hd2] at k2; have k0 := hd1.ptr (k := j) (by rw [hd2]; exact hj); have p0 := hpb.cell 0; have p1 := hpb.cell 1; have p2 := hpb.cell 2; go_simp; (try with_reducible rfl)
      (try simp only [Act.put, List.getElem_toArray, List.getElem_cons_zero, List.getElem_cons_succ, List.setIfInBounds_toArray, List.set_cons_zero, List.set_cons_succ])
      refine wpAnyF_take (i := 7) (v := ?_) (by kernel_rfl) (by kernel_rfl) rfl (by kernel_rfl) (by kernel_rfl) (by kernel_rfl) (fun _ _ _ h => h) (Or.inl ⟨by rfl, ?_⟩) (by assumption) ?_
      rotate_left
      · intro w' hSw; (try dsimp only at hSw); obtain ⟨⟨D', hd1, hd2⟩, hpb⟩ := hSw; have k2 := hd1.box.cell 5; rw [hd2] at k2; have k0 := hd1.ptr (k := j) (by rw [hd2]; exact hj); have p0 := hpb.cell 0; have p1 := hpb.cell 1; have p2 := hpb.cell 2; go_simp; (try with_reducible rfl)
      (try simp only [Act.put, List.getElem_toArray, List.getElem_cons_zero, List.getElem_cons_succ, List.setIfInBounds_toArray, List.set_cons_zero, List.set_cons_succ])
      refine wpAnyF_take (i := 8) (v := ?_) (by kernel_rfl) (by kernel_rfl) rfl (by kernel_rfl) (by kernel_rfl) (by kernel_rfl) (fun _ _ _ h => h) (Or.inl ⟨by rfl, ?_⟩) (by assumption) ?_
      rotate_left
      · intro w' hSw; (try dsimp only at hSw); obtain ⟨⟨D', hd1, hd2⟩, hpb⟩ := hSw; have k2 := hd1.box.cell 5; rw [hd2] at k2; have k0 := hd1.ptr (k := j) (by rw [hd2]; exact hj); have p0 := hpb.cell 0; have p1 := hpb.cell 1; have p2 := hpb.cell 2; go_simp; (try with_reducible rfl)
      (try simp only [Act.put, List.getElem_toArray, List.getElem_cons_zero, List.getElem_cons_succ, List.setIfInBounds_toArray, List.set_cons_zero, List.set_cons_succ])
      refine wpAnyF_ready (rs := [9]) (by kernel_rfl) (by simp) ?_
      refine AllReadyF.cons rfl (fun KK hKK => ?_) AllReadyF.nil
      go_simp
      ((with_reducible refine (HRD.out _ HB1.out).mono ?_); rintro e' w4 ⟨rfl, hA⟩; have hS4 := HD1.out.setOwn HJ.out hA; have HF4 := hi (show RdAf w lo hi' b c (D.setOwn j V.1) w4 from ⟨hS4.1, (Kept.of HB1.out).trans hS4.2⟩); have hSS := And.intro (show ∃ D', RdAt w4 lo hi' b c D' ∧ D'.cs.length = n9 from ⟨D.setOwn j V.1, hS4.1, (Ds.own_len _ _ _).trans HN9.out⟩) (hHeld.2.keptB hS4.2 (fun e => by have := e.2; omega)); clear hA hS4)
      (try go_simp)
      refine hKK.out _ _ hSS (fun hHeld => ?_)
      clear hKK KK
      (try simp only [Act.put, List.getElem_toArray, List.getElem_cons_zero, List.getElem_cons_succ, List.setIfInBounds_toArray, List.set_cons_zero, List.set_cons_succ])
      refine wpAnyF_done (by kernel_rfl) ?_ _
      refine NoPanic.normal ?_
      go_wp2
      go_ret
      exact ⟨rfl, HF4.out⟩
end
end Go.Proofs.YtggeakkofcaklaaGreat
