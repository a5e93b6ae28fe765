import Derived.Test.YtggeakkofcaklaaGreatMg21
namespace Go.Proofs.YtggeakkofcaklaaGreat
open Go.ChangeShapes Go.WideShapes Go.ChangeAt Go.RowKit Go.Shelf
set_option linter.unusedVariables false
attribute [local go_sem] Oper.semAt_some
section
variable {w : World} {lo hi' : Nat} {b c : Nat → Nat} {D : Ds}
def typerN (D : Ds) : Nat := (D.sh.length + 31) / 32 + (D.cs.length - 1) * 32 + 131072
set_option maxHeartbeats 2000000 in
theorem typer_any (h : DiAt w lo hi' b c D) (ok : D.Ok) : Calls Tryz.prog 78 #[.pointer (some ⟨b 0, 0, none⟩)] w fun e w' => e = .returned (.int .u64 (typerN D : Nat)) ∧ Below w.heap.size w w' := by
  have HA := hi (all_it h.shr ok.fitS)
  have HC := hi (fun lo hi' k fv W (q : Iter lo hi' k fv (items 32 D.sh) W) => count_any q (by rw [items_len]; have := ok.m; omega))
  have HI := hi (fun W (q : Below w.heap.size w W) => (h.below q).box)
  have c3 := h.box.cell 3
  have hm := ok.m
  have hn1 := ok.n1
  have hn8 := ok.n8
  rw [items_len] at HC
  unfold typerN
  obtain ⟨m, hm'⟩ : ∃ m, D.sh.length = m := ⟨_, rfl⟩
  obtain ⟨n, hn'⟩ : ∃ n, D.cs.length = n := ⟨_, rfl⟩
  rw [hm'] at HC hm ⊢
  rw [hn'] at HI c3 hn1 hn8 ⊢
  have w1 : IntKind.i64.wrap ((m : Int) + 32) = (m : Int) + 32 := by rw [IntKind.wrap_i64]; omega
  have w2 : IntKind.i64.wrap ((m : Int) + 32 - 1) = ((m + 31 : Nat) : Int) := by rw [IntKind.wrap_i64]; omega
  have w3 : ((m + 31 : Nat) : Int).tdiv 32 = (((m + 31) / 32 : Nat) : Int) := by rw [Int.tdiv_eq_ediv_of_nonneg (by omega)]; omega
  obtain ⟨r, hr⟩ : ∃ r, (m + 31) / 32 = r := ⟨_, rfl⟩
  have hr3 : r ≤ 3 := by omega
  rw [hr] at w3 ⊢
  obtain ⟨x, hx⟩ : ∃ x, m + 31 = x := ⟨_, rfl⟩
  rw [hx] at w2 w3
  have w4 : IntKind.i64.wrap (r : Int) = r := by rw [IntKind.wrap_i64]; omega
  obtain ⟨t, ht⟩ : ∃ t, n - 1 = t := ⟨_, rfl⟩
  have w5 : IntKind.i64.wrap ((n : Int) - 1) = t := by rw [IntKind.wrap_i64]; omega
  have w6 : IntKind.i64.wrap ((t : Int) * 32) = ((t * 32 : Nat) : Int) := by rw [IntKind.wrap_i64]; omega
  rw [ht]
  obtain ⟨y, hy⟩ : ∃ y, t * 32 = y := ⟨_, rfl⟩
  rw [hy] at w6 ⊢
  have w7 : IntKind.i64.wrap ((r : Int) + (y : Int)) = ((r + y : Nat) : Int) := by rw [IntKind.wrap_i64]; omega
  obtain ⟨z, hz⟩ : ∃ z, r + y = z := ⟨_, rfl⟩
  rw [hz] at w7 ⊢
  have w8 : IntKind.i64.wrap ((z : Int) + 131072) = ((z + 131072 : Nat) : Int) := by rw [IntKind.wrap_i64]; omega
  obtain ⟨q, hq⟩ : ∃ q, z + 131072 = q := ⟨_, rfl⟩
  rw [hq] at w8 ⊢
  have w9 : IntKind.u64.wrap (q : Int) = q := by rw [IntKind.wrap_u64]; omega
  clear h ok hm' hn' hr hx ht hy hz hq
  go_enter Tryz.func78, Tryz.ntmps78
  go_wp2_with (first
    | (go_at_call 114; ((with_reducible refine HA.out.mono ?_); rintro e w1' ⟨fv, rfl, hit, hb⟩; have HIT := hi hit; have HB1 := hi hb; clear hit hb))
    | (go_at_call 117; ((with_reducible refine (HC.out _ _ _ _ _ HIT.out).mono ?_); rintro e w2' ⟨rfl, hb⟩; have HB2 := hi (HB1.out.trans (hb.mono HB1.out.size)); have c2 := (HI.out _ HB2.out).cell 2; clear hb)))
  go_ret
  exact ⟨rfl, HB2.out⟩
theorem PlOk.cn {p : Pl} {c : Nat} (h : PlOk p c) : PlOk p p.c.toNat := by
  have := h.cnt
  have e : p.c.toNat = c := by omega
  rw [e]; exact h
theorem rowPtr {W : World} {g k : Nat} {t : TypeId} {b : Nat → Nat} {D : Ds} (h : Row W g t (flat encCo (D.prs b))) (hk : k < D.cs.length) : W.cell? ⟨g, k * 2, none⟩ = some (.pointer (some ⟨b (4 + 2 * k), 0, none⟩)) := by
  have h1 := flat_get encCo_len (D.prs b) k 0 _ (by decide) (Ds.prs_at hk)
  rw [h.cell (by rw [flat_len encCo_len, Ds.prs_len]; omega)]
  exact h1
def writeOwnV (D : Ds) (k : Int) (p : Pl) (v : Nat) : Ds × Int :=
  if hasN D.cs.length k then (if p.r = 3 then (D.setSl k.toNat (onB v 1), 0) else (D.setOwn k.toNat (writeV p p.c.toNat 0 v (D.nth k.toNat).es).1, 0)) else (D, 130)
theorem writeOwnV_ok (ok : D.Ok) (k : Int) (p : Pl) (v : Nat) : (writeOwnV D k p v).1.Ok := by
  unfold writeOwnV
  cases hk : hasN D.cs.length k
  · simpa using ok
  · obtain ⟨j, rfl, hj⟩ := hasN_at hk
    simp only [if_true, Int.toNat_natCast]
    split
    · exact ok.setSl hj _
    · exact ok.setOwn hj (by rw [writeV_len]; exact ok.own j hj) (writeV_fine (ok.fine j hj))
set_option maxRecDepth 100000 in
set_option maxHeartbeats 2000000 in
theorem writeOwn_dist (h : DiAt w lo hi' b c D) (ok : D.Ok) {k : Int} {p : Pl} (v : Nat) (hv : v < 18446744073709551616) (hp : ∃ n, PlOk p n) :
    Calls Tryz.prog 30 #[.pointer (some ⟨b 0, 0, none⟩), .int .i64 k, p.v, .int .u64 v] w fun e w' => e = .returned (.int .i64 (writeOwnV D k p v).2) ∧ DiAf w lo hi' b c (writeOwnV D k p v).1 w' := by
  obtain ⟨n0, hp⟩ := hp
  have hp := hp.cn
  have hbal := bal w (.cells p.cs 70)
  have HB0 := hi hbal
  have H1 := h.below hbal
  have hlt := h.box.lt
  have hle := h.le
  unfold writeOwnV
  cases hk : hasN D.cs.length k
  · have HH := hi (H1.has k)
    rw [hk] at HH
    have HF := hi (DiAf.of h hbal)
    clear h hk ok H1 hp hbal
    obtain ⟨r, f, n⟩ := p
    dsimp only [Pl.cs] at HH HB0 HF
    dsimp only [Pl.v]
    go_enter Tryz.func30, Tryz.ntmps30
    go_wp2_with (go_at_call 71; ((with_reducible refine HH.out.mono ?_); rintro e w1 ⟨rfl, rfl⟩))
    go_ret
    exact ⟨rfl, HF.out⟩
  · obtain ⟨j, rfl, hj⟩ := hasN_at hk
    simp only [if_true, Int.toNat_natCast]
    have HH := hi (H1.hasNat hj)
    have HPB := hi (CB.new w 70 p.cs)
    have HD := hi H1
    obtain ⟨n9, hn9⟩ : ∃ n9, D.cs.length = n9 := ⟨_, rfl⟩
    have HN9 := hi hn9
    have HJ := hi hj
    by_cases hr : p.r = 3
    · rw [if_pos hr]
      have HO := hi (show ∀ W, Calls Tryz.prog 75 #[.int .u64 v, .int .i64 1] W fun e w' => e = .returned (.bool (onB v 1)) ∧ W = w' from fun W => isOne_any v 1 hv (by decide) W)
      obtain ⟨s, hs⟩ : ∃ s, onB v 1 = s := ⟨_, rfl⟩
      rw [hs] at HO ⊢
      have HNE := hi (h.inj 0 1 (by omega) (by omega) (by omega))
      rw [hn9] at hj
      clear h hk ok H1 hp hs hn9 hbal
      obtain ⟨r, f, n⟩ := p
      dsimp only at hr
      subst hr
      dsimp only [Pl.cs] at HH HB0 HPB HD
      dsimp only [Pl.v]
      go_enter Tryz.func30, Tryz.ntmps30
      go_wp2_with (go_at_call 71; ((with_reducible refine HH.out.mono ?_); rintro e w1 ⟨rfl, rfl⟩))
      obtain ⟨W1, hW1⟩ : ∃ W1, w.alloc (.cells #[.int .i64 3, .int .i64 f, .int .i64 n] 70) = W1 := ⟨_, rfl⟩
      rw [hW1] at HB0 HPB HD ⊢
      have HB1 := hi (show Below w.heap.size w W1.drew from Below.drewN (m := 1) HB0.out)
      have HD1 := hi HD.out.drew
      clear hW1 HH
      refine wp_region_noPanic ?_
      refine wp_region_last_drew (S := (fun W' => CB W' (b 0) 83 #[.bool D.g0, .bool D.g1, .slice (some ⟨b 1, 0, none⟩) n9 (c 0), .pointer (some ⟨b 2, 0, none⟩)])) [] (by kernel_rfl) (by have := HD1.out.box; rwa [HN9.out] at this) (fun hHeld => ?_)
      (try simp only [Array.replicate_succ, Array.replicate_zero, List.push_toArray, List.nil_append, List.cons_append])
      obtain ⟨Wd, hWd⟩ : ∃ Wd, W1.drew = Wd := ⟨_, rfl⟩
      rw [hWd] at HD1 HB1 hHeld ⊢
      clear hWd
      refine wpAnyF_take (i := 0) (v := ?_) (by kernel_rfl) (by kernel_rfl) rfl (by kernel_rfl) (by kernel_rfl) (by kernel_rfl) (fun _ _ _ h => h) (Or.inl ⟨by rfl, ?_⟩) (by assumption) ?_
      rotate_left
      · intro w' hSw; (try dsimp only at hSw); have k2 := hSw.cell 2; go_simp; (try with_reducible rfl)
      (try simp only [Act.put, List.getElem_toArray, List.getElem_cons_zero, List.setIfInBounds_toArray, List.set_cons_zero, List.set_cons_succ])
      refine wpAnyF_take (i := 1) (v := ?_) (by kernel_rfl) (by kernel_rfl) rfl (by kernel_rfl) (by kernel_rfl) (by kernel_rfl) (fun _ _ _ h => h) (Or.inl ⟨by rfl, ?_⟩) (by assumption) ?_
      rotate_left
      · intro w' hSw; (try dsimp only at hSw); have k2 := hSw.cell 2; go_simp; (try with_reducible rfl)
      (try simp only [Act.put, List.getElem_toArray, List.getElem_cons_zero, List.getElem_cons_succ, List.setIfInBounds_toArray, List.set_cons_zero, List.set_cons_succ])
      refine wpAnyF_take (i := 2) (v := ?_) (by kernel_rfl) (by kernel_rfl) rfl (by kernel_rfl) (by kernel_rfl) (by kernel_rfl) (fun _ _ _ h => h) (Or.inl ⟨by rfl, ?_⟩) (by assumption) ?_
      rotate_left
      · intro w' hSw; (try dsimp only at hSw); have k2 := hSw.cell 2; go_simp; (try with_reducible rfl)
      (try simp only [Act.put, List.getElem_toArray, List.getElem_cons_zero, List.getElem_cons_succ, List.setIfInBounds_toArray, List.set_cons_zero, List.set_cons_succ])
      refine wpAnyF_take (i := 3) (v := ?_) (by kernel_rfl) (by kernel_rfl) rfl (by kernel_rfl) (by kernel_rfl) (by kernel_rfl) (fun _ _ _ h => h) (Or.inl ⟨by rfl, ?_⟩) (by assumption) ?_
      rotate_left
      · intro w' hSw; (try dsimp only at hSw); have k2 := hSw.cell 2; go_simp; (try with_reducible rfl)
      (try simp only [Act.put, List.getElem_toArray, List.getElem_cons_zero, List.getElem_cons_succ, List.setIfInBounds_toArray, List.set_cons_zero, List.set_cons_succ])
      refine wpAnyF_take (i := 4) (v := ?_) (by kernel_rfl) (by kernel_rfl) rfl (by kernel_rfl) (by kernel_rfl) (by kernel_rfl) (fun _ _ _ h => h) (Or.inl ⟨by rfl, ?_⟩) (by assumption) ?_
      rotate_left
      · intro w' hSw; (try dsimp only at hSw); have k2 := hSw.cell 2; go_simp; (try with_reducible rfl)
      (try simp only [Act.put, List.getElem_toArray, List.getElem_cons_zero, List.getElem_cons_succ, List.setIfInBounds_toArray, List.set_cons_zero, List.set_cons_succ])
      refine wpAnyF_take (i := 5) (v := ?_) (by kernel_rfl) (by kernel_rfl) rfl (by kernel_rfl) (by kernel_rfl) (by kernel_rfl) (fun _ _ _ h => h) (Or.inl ⟨by rfl, ?_⟩) (by assumption) ?_
      rotate_left
      · intro w' hSw; (try dsimp only at hSw); have k2 := hSw.cell 2; go_simp; (try with_reducible rfl)
      (try simp only [Act.put, List.getElem_toArray, List.getElem_cons_zero, List.getElem_cons_succ, List.setIfInBounds_toArray, List.set_cons_zero, List.set_cons_succ])
      refine wpAnyF_ready (rs := [6]) (by kernel_rfl) (by simp) ?_
      refine AllReadyF.cons rfl (fun KK hKK => ?_) AllReadyF.nil
      go_simp
      ((with_reducible refine (HO.out _).mono ?_); rintro e' w4 ⟨rfl, rfl⟩)
      (try go_simp)
      refine hKK.out _ _ hHeld (fun hHeld => ?_)
      clear hKK KK
      (try simp only [Act.put, List.getElem_toArray, List.getElem_cons_zero, List.getElem_cons_succ, List.setIfInBounds_toArray, List.set_cons_zero, List.set_cons_succ])
      refine wpAnyF_take (i := 7) (v := ?_) (by kernel_rfl) (by kernel_rfl) rfl (by kernel_rfl) (by kernel_rfl) (by kernel_rfl) (fun _ _ _ h => h) (Or.inl ⟨by rfl, ?_⟩) (by assumption) ?_
      rotate_left
      · intro w' hSw; (try dsimp only at hSw); have k2 := hSw.cell 2; go_simp; (try with_reducible rfl)
      (try simp only [Act.put, List.getElem_toArray, List.getElem_cons_zero, List.getElem_cons_succ, List.setIfInBounds_toArray, List.set_cons_zero, List.set_cons_succ])
      refine wpAnyF_take (i := 8) (v := ?_) (by kernel_rfl) (by kernel_rfl) rfl (by kernel_rfl) (by kernel_rfl) (by kernel_rfl) (fun _ _ _ h => h) (Or.inl ⟨by rfl, ?_⟩) (by assumption) ?_
      rotate_left
      · intro w' hSw; (try dsimp only at hSw); have k2 := hSw.cell 2; go_simp; (try with_reducible rfl)
      (try simp only [Act.put, List.getElem_toArray, List.getElem_cons_zero, List.getElem_cons_succ, List.setIfInBounds_toArray, List.set_cons_zero, List.set_cons_succ])
      refine wpAnyF_ready (rs := [9]) (by kernel_rfl) (by simp) ?_
      refine AllReadyF.cons rfl (fun KK hKK => ?_) AllReadyF.nil
      go_simp
      have fz := HD1.out.row.frozen (j * 2 + 1)
      have fc := HD1.out.slp HJ.out
      go_simp
      refine hKK.out _ _ (hHeld.other _ _ _ HNE.out) (fun hHeld => ?_)
      clear hKK KK
      (try simp only [Act.put, List.getElem_toArray, List.getElem_cons_zero, List.getElem_cons_succ, List.setIfInBounds_toArray, List.set_cons_zero, List.set_cons_succ])
      refine wpAnyF_done (by kernel_rfl) ?_ _
      refine NoPanic.normal ?_
      go_wp2
      go_ret
      have hS := HD1.out.setSlp HJ.out s
      exact ⟨rfl, ⟨hS.1, (Kept.of HB1.out).trans hS.2⟩⟩
    · rw [if_neg hr]
      have HRD := hi (fun W (q : Below w.heap.size w W) => write_any ((h.below q).own j hj) (ok.fitO hj) (ok.fine j hj) hp hv)
      obtain ⟨V, hV⟩ : ∃ V, writeV p p.c.toNat 0 v (D.nth j).es = V := ⟨_, rfl⟩
      rw [hV] at HRD ⊢
      have hq : (p.r == 3) = false := by simpa using hr
      have HN0 := hi (h.inj 0 (5 + 2 * j) (by omega) (by omega) (by omega))
      have HN1 := hi (h.inj 1 (5 + 2 * j) (by omega) (by omega) (by omega))
      have HR5 := hi (h.rng (5 + 2 * j) (by omega))
      rw [hn9] at hj
      clear h hk ok H1 hp hV hr hn9 hbal
      obtain ⟨r, f, n⟩ := p
      dsimp only at hq
      dsimp only [Pl.cs] at HH HB0 HPB HD
      dsimp only [Pl.v] at HRD ⊢
      go_enter Tryz.func30, Tryz.ntmps30
      go_wp2_with (go_at_call 71; ((with_reducible refine HH.out.mono ?_); rintro e w1 ⟨rfl, rfl⟩))
      obtain ⟨W1, hW1⟩ : ∃ W1, w.alloc (.cells #[.int .i64 r, .int .i64 f, .int .i64 n] 70) = W1 := ⟨_, rfl⟩
      rw [hW1] at HB0 HPB HD ⊢
      have HB1 := hi (show Below w.heap.size w W1.drew from Below.drewN (m := 1) HB0.out)
      have HD1 := hi HD.out.drew
      clear hW1 HH
      refine wp_region_noPanic ?_
      refine wp_region_last_drew (S := (fun W' => CB W' (b 0) 83 #[.bool D.g0, .bool D.g1, .slice (some ⟨b 1, 0, none⟩) n9 (c 0), .pointer (some ⟨b 2, 0, none⟩)] ∧ Row W' (b 1) 86 (flat encCo (D.prs b)) ∧ CB W' w.heap.size 70 #[.int .i64 r, .int .i64 f, .int .i64 n])) [] (by kernel_rfl) ⟨(by have := HD1.out.box; rwa [HN9.out] at this), HD1.out.row, HPB.out.drew⟩ (fun hHeld => ?_)
      (try simp only [Array.replicate_succ, Array.replicate_zero, List.push_toArray, List.nil_append, List.cons_append])
      refine wpAnyF_take (i := 0) (v := ?_) (by kernel_rfl) (by kernel_rfl) rfl (by kernel_rfl) (by kernel_rfl) (by kernel_rfl) (fun _ _ _ h => h) (Or.inl ⟨by rfl, ?_⟩) (by assumption) ?_
      rotate_left
      · intro w' hSw; (try dsimp only at hSw); have k2 := hSw.1.cell 2; have k0 := rowPtr hSw.2.1 HJ.out; have p0 := hSw.2.2.cell 0; have p1 := hSw.2.2.cell 1; have p2 := hSw.2.2.cell 2; go_simp; (try with_reducible rfl)
      (try simp only [Act.put, List.getElem_toArray, List.getElem_cons_zero, List.setIfInBounds_toArray, List.set_cons_zero, List.set_cons_succ])
      refine wpAnyF_take (i := 1) (v := ?_) (by kernel_rfl) (by kernel_rfl) rfl (by kernel_rfl) (by kernel_rfl) (by kernel_rfl) (fun _ _ _ h => h) (Or.inl ⟨by rfl, ?_⟩) (by assumption) ?_
      rotate_left
      · intro w' hSw; (try dsimp only at hSw); have k2 := hSw.1.cell 2; have k0 := rowPtr hSw.2.1 HJ.out; have p0 := hSw.2.2.cell 0; have p1 := hSw.2.2.cell 1; have p2 := hSw.2.2.cell 2; go_simp; (try with_reducible rfl)
      (try simp only [Act.put, List.getElem_toArray, List.getElem_cons_zero, List.getElem_cons_succ, List.setIfInBounds_toArray, List.set_cons_zero, List.set_cons_succ])
      refine wpAnyF_take (i := 2) (v := ?_) (by kernel_rfl) (by kernel_rfl) rfl (by kernel_rfl) (by kernel_rfl) (by kernel_rfl) (fun _ _ _ h => h) (Or.inl ⟨by rfl, ?_⟩) (by assumption) ?_
      rotate_left
      · intro w' hSw; (try dsimp only at hSw); have k2 := hSw.1.cell 2; have k0 := rowPtr hSw.2.1 HJ.out; have p0 := hSw.2.2.cell 0; have p1 := hSw.2.2.cell 1; have p2 := hSw.2.2.cell 2; go_simp; (try with_reducible rfl)
      (try simp only [Act.put, List.getElem_toArray, List.getElem_cons_zero, List.getElem_cons_succ, List.setIfInBounds_toArray, List.set_cons_zero, List.set_cons_succ])
      refine wpAnyF_take (i := 3) (v := ?_) (by kernel_rfl) (by kernel_rfl) rfl (by kernel_rfl) (by kernel_rfl) (by kernel_rfl) (fun _ _ _ h => h) (Or.inl ⟨by rfl, ?_⟩) (by assumption) ?_
      rotate_left
      · intro w' hSw; (try dsimp only at hSw); have k2 := hSw.1.cell 2; have k0 := rowPtr hSw.2.1 HJ.out; have p0 := hSw.2.2.cell 0; have p1 := hSw.2.2.cell 1; have p2 := hSw.2.2.cell 2; go_simp; (try with_reducible rfl)
      (try simp only [Act.put, List.getElem_toArray, List.getElem_cons_zero, List.getElem_cons_succ, List.setIfInBounds_toArray, List.set_cons_zero, List.set_cons_succ])
      refine wpAnyF_take (i := 4) (v := ?_) (by kernel_rfl) (by kernel_rfl) rfl (by kernel_rfl) (by kernel_rfl) (by kernel_rfl) (fun _ _ _ h => h) (Or.inl ⟨by rfl, ?_⟩) (by assumption) ?_
      rotate_left
      · intro w' hSw; (try dsimp only at hSw); have k2 := hSw.1.cell 2; have k0 := rowPtr hSw.2.1 HJ.out; have p0 := hSw.2.2.cell 0; have p1 := hSw.2.2.cell 1; have p2 := hSw.2.2.cell 2; go_simp; (try with_reducible rfl)
      (try simp only [Act.put, List.getElem_toArray, List.getElem_cons_zero, List.getElem_cons_succ, List.setIfInBounds_toArray, List.set_cons_zero, List.set_cons_succ])
      refine wpAnyF_take (i := 5) (v := ?_) (by kernel_rfl) (by kernel_rfl) rfl (by kernel_rfl) (by kernel_rfl) (by kernel_rfl) (fun _ _ _ h => h) (Or.inl ⟨by rfl, ?_⟩) (by assumption) ?_
      rotate_left
      · intro w' hSw; (try dsimp only at hSw); have k2 := hSw.1.cell 2; have k0 := rowPtr hSw.2.1 HJ.out; have p0 := hSw.2.2.cell 0; have p1 := hSw.2.2.cell 1; have p2 := hSw.2.2.cell 2; go_simp; (try with_reducible rfl)
      (try simp only [Act.put, List.getElem_toArray, List.getElem_cons_zero, List.getElem_cons_succ, List.setIfInBounds_toArray, List.set_cons_zero, List.set_cons_succ])
      refine wpAnyF_take (i := 6) (v := ?_) (by kernel_rfl) (by kernel_rfl) rfl (by kernel_rfl) (by kernel_rfl) (by kernel_rfl) (fun _ _ _ h => h) (Or.inl ⟨by rfl, ?_⟩) (by assumption) ?_
      rotate_left
      · intro w' hSw; (try dsimp only at hSw); have k2 := hSw.1.cell 2; have k0 := rowPtr hSw.2.1 HJ.out; have p0 := hSw.2.2.cell 0; have p1 := hSw.2.2.cell 1; have p2 := hSw.2.2.cell 2; go_simp; (try with_reducible rfl)
      (try simp only [Act.put, List.getElem_toArray, List.getElem_cons_zero, List.getElem_cons_succ, List.setIfInBounds_toArray, List.set_cons_zero, List.set_cons_succ])
      refine wpAnyF_take (i := 7) (v := ?_) (by kernel_rfl) (by kernel_rfl) rfl (by kernel_rfl) (by kernel_rfl) (by kernel_rfl) (fun _ _ _ h => h) (Or.inl ⟨by rfl, ?_⟩) (by assumption) ?_
      rotate_left
      · intro w' hSw; (try dsimp only at hSw); have k2 := hSw.1.cell 2; have k0 := rowPtr hSw.2.1 HJ.out; have p0 := hSw.2.2.cell 0; have p1 := hSw.2.2.cell 1; have p2 := hSw.2.2.cell 2; go_simp; (try with_reducible rfl)
      (try simp only [Act.put, List.getElem_toArray, List.getElem_cons_zero, List.getElem_cons_succ, List.setIfInBounds_toArray, List.set_cons_zero, List.set_cons_succ])
      refine wpAnyF_take (i := 8) (v := ?_) (by kernel_rfl) (by kernel_rfl) rfl (by kernel_rfl) (by kernel_rfl) (by kernel_rfl) (fun _ _ _ h => h) (Or.inl ⟨by rfl, ?_⟩) (by assumption) ?_
      rotate_left
      · intro w' hSw; (try dsimp only at hSw); have k2 := hSw.1.cell 2; have k0 := rowPtr hSw.2.1 HJ.out; have p0 := hSw.2.2.cell 0; have p1 := hSw.2.2.cell 1; have p2 := hSw.2.2.cell 2; go_simp; (try with_reducible rfl)
      (try simp only [Act.put, List.getElem_toArray, List.getElem_cons_zero, List.getElem_cons_succ, List.setIfInBounds_toArray, List.set_cons_zero, List.set_cons_succ])
      refine wpAnyF_take (i := 9) (v := ?_) (by kernel_rfl) (by kernel_rfl) rfl (by kernel_rfl) (by kernel_rfl) (by kernel_rfl) (fun _ _ _ h => h) (Or.inl ⟨by rfl, ?_⟩) (by assumption) ?_
      rotate_left
      · intro w' hSw; (try dsimp only at hSw); have k2 := hSw.1.cell 2; have k0 := rowPtr hSw.2.1 HJ.out; have p0 := hSw.2.2.cell 0; have p1 := hSw.2.2.cell 1; have p2 := hSw.2.2.cell 2; go_simp; (try with_reducible rfl)
      (try simp only [Act.put, List.getElem_toArray, List.getElem_cons_zero, List.getElem_cons_succ, List.setIfInBounds_toArray, List.set_cons_zero, List.set_cons_succ])
      refine wpAnyF_ready (rs := [10]) (by kernel_rfl) (by simp) ?_
      refine AllReadyF.cons rfl (fun KK hKK => ?_) AllReadyF.nil
      go_simp
      ((with_reducible refine (HRD.out _ HB1.out).mono ?_); rintro e' w4 ⟨rfl, hA⟩; have hS4 := HD1.out.setOwn HJ.out hA; have HF4 := hi (show DiAf w lo hi' b c (D.setOwn j V.1) w4 from ⟨hS4.1, (Kept.of HB1.out).trans hS4.2⟩); have hSS := And.intro (hHeld.1.keptB hA.kept HN0.out) (And.intro (hHeld.2.1.kept hA.kept HN1.out) (hHeld.2.2.keptB hA.kept (fun e => by have := HR5.out.2; omega))); clear hA hS4)
      (try go_simp)
      refine hKK.out _ _ hSS (fun hHeld => ?_)
      clear hKK KK
      (try simp only [Act.put, List.getElem_toArray, List.getElem_cons_zero, List.getElem_cons_succ, List.setIfInBounds_toArray, List.set_cons_zero, List.set_cons_succ])
      refine wpAnyF_done (by kernel_rfl) ?_ _
      refine NoPanic.normal ?_
      go_wp2
      go_ret
      exact ⟨rfl, HF4.out⟩
end
end Go.Proofs.YtggeakkofcaklaaGreat
