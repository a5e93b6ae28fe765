import Derived.Test.YtggeakkofcaklaaGreatMg22
namespace Go.Proofs.YtggeakkofcaklaaGreat
open Go.ChangeShapes Go.WideShapes Go.ChangeAt Go.RowKit Go.Shelf
set_option linter.unusedVariables false
attribute [local go_sem] Oper.semAt_some
section
variable {w : World} {lo hi' : Nat} {b c : Nat → Nat} {D : Ds}
set_option maxHeartbeats 2000000 in
theorem rtarget_dist (h : RdAt w lo hi' b c D) (ok : D.Ok) (id : Int) :
    Calls Tryz.prog 58 #[.pointer (some ⟨b 0, 0, none⟩), .int .i64 id] w fun e w' => e = .returned (.int .i64 (targetV D id)) ∧ w = w' := by
  have HA := hi (rfb_at id h.shr ok.fitS)
  have c2 := h.box.cell 2
  unfold targetV
  cases hb : hasB 32 D.sh.length id
  · simp only [Bool.false_eq_true, if_false]
    rw [atI_no hb] at HA
    clear h ok hb
    go_enter Tryz.func58, Tryz.ntmps58
    go_wp2_with (go_at_call 90; ((with_reducible refine HA.out.mono ?_); rintro e w1 ⟨rfl, rfl⟩))
    go_ret
    exact ⟨rfl, rfl⟩
  · simp only [if_true]
    obtain ⟨j, rfl, hj, e1⟩ := has_at hb
    rw [e1]
    rw [atI_at hj] at HA
    have c3 := h.box.cell 3
    have c4 := h.box.cell 4
    have c6 := h.box.cell 6
    have q0 := h.corec hj
    have q1 := h.anyc hj
    have HT := hi (fun k => h.there k)
    have n8 := ok.n8
    have HS := hi (fun k (hk : k < D.cs.length) => h.slpc hk)
    obtain ⟨n, hn⟩ : ∃ n, D.cs.length = n := ⟨_, rfl⟩
    obtain ⟨m, hm⟩ : ∃ m, D.sh.length = m := ⟨_, rfl⟩
    obtain ⟨⟨sc, sy⟩, hs⟩ : ∃ s, (nthE D.sh j).s = s := ⟨_, rfl⟩
    rw [hm] at c3 c4 hj
    rw [hs] at q0 q1 ⊢
    dsimp only at q0 q1
    unfold targV
    rw [hn] at c6 n8 HT HS ⊢
    have HF := hi (show firstFrom D (n - 0) 0 = firstV D by rw [firstV, hn, Nat.sub_zero])
    clear h ok hb e1 hm hs hn
    cases sy
    · simp only [Bool.false_eq_true, if_false]
      have HT := hi (HT.out sc)
      clear HS HF
      cases ht : hasN n sc
      all_goals
        rw [ht] at HT
        simp only [Bool.false_eq_true, if_false, if_true]
        clear ht
        go_enter Tryz.func58, Tryz.ntmps58
        go_wp2_with (first
          | (go_at_call 90; ((with_reducible refine HA.out.mono ?_); rintro e w1 ⟨rfl, rfl⟩))
          | (go_at_call 60; ((with_reducible refine HT.out.mono ?_); rintro e w1 ⟨rfl, rfl⟩)))
        go_ret
        exact ⟨rfl, rfl⟩
    · simp only [if_true]
      clear HT
      go_enter Tryz.func58, Tryz.ntmps58
      go_wp2_with (go_at_call 90; ((with_reducible refine HA.out.mono ?_); rintro e w1 ⟨rfl, rfl⟩))
      clear HA c2 c3 c4 q0 q1 hj
      go_loop [6] (fun i => ∃ k : Nat, k ≤ n ∧ i = .int .i64 k ∧ Hi (firstFrom D (n - k) k = firstV D)) (fun i => n - (intOf i).toNat)
      case atStart => exact ⟨0, Nat.zero_le _, rfl, HF⟩
      case round =>
        obtain ⟨k, hk, rfl, HX⟩ := hrel
        clear HF
        by_cases hlt : k < n
        · have q := HS.out k hlt
          have HE := hi (show firstFrom D (n - k) k = if (D.nth k).sl then firstFrom D (n - (k + 1)) (k + 1) else (k : Int) by rw [show n - k = (n - (k + 1)) + 1 by omega]; rfl)
          obtain ⟨sl, hs⟩ : ∃ sl, (D.nth k).sl = sl := ⟨_, rfl⟩
          rw [hs] at q HE
          clear hs
          cases sl
          · have HR := hi (HX.out.symm.trans (HE.out.trans (if_neg (by simp))))
            clear HE
            go_wp2
            go_ret
            exact ⟨by rw [HR.out]; rfl, rfl⟩
          · have HR := hi ((HE.out.trans (if_pos rfl)).symm.trans HX.out)
            clear HE
            go_wp2
            go_round
            case rel => exact ⟨k + 1, by omega, by go_num, HR⟩
            case measure => simp only [intOf]; omega
        · obtain rfl : k = n := by omega
          have HR := hi (show firstV D = -1 by rw [← HX.out, Nat.sub_self]; rfl)
          go_wp2
          go_ret
          exact ⟨by rw [HR.out]; rfl, rfl⟩
end
end Go.Proofs.YtggeakkofcaklaaGreat
namespace Go.Proofs.YtggeakkofcaklaaGreat
open Go.ChangeShapes Go.WideShapes Go.ChangeAt Go.RowKit Go.Shelf
set_option linter.unusedVariables false
attribute [local go_sem] Oper.semAt_some
theorem RfB.below {W W' : World} {x lg xg : Nat} {f : Int} {es : List En} (h : RfB W x lg xg f es) (k : Below W.heap.size W W') : RfB W' x lg xg f es := by
  obtain ⟨la, xa, lc, xc, h⟩ := h
  exact ⟨la, xa, lc, xc, h.below k⟩
section
variable {w : World} {lo hi' : Nat} {b c : Nat → Nat} {D : Ds}
end
end Go.Proofs.YtggeakkofcaklaaGreat
namespace Go.Proofs.YtggeakkofcaklaaGreat
open Go.ChangeShapes Go.WideShapes Go.ChangeAt Go.RowKit Go.Shelf
set_option linter.unusedVariables false
attribute [local go_sem] Oper.semAt_some
theorem rfb_read {x lg xg : Nat} {f : Int} {es : List En} {p : Pl} {n : Nat} {w : World} (h : RfB w x lg xg f es) (hf : Fit f es.length) (hfine : FineAll es) (hp : PlOk p n) :
    Calls Tryz.prog 101 #[.pointer (some ⟨x, 0, none⟩), p.v] w fun e w' => e = .returned (.int .u64 (readV p n f es : Nat)) ∧ Below w.heap.size w w' := by
  obtain ⟨la, xa, lc, xc, h⟩ := h
  exact rread_any h hf hfine hp
section
variable {w : World} {lo hi' : Nat} {b c : Nat → Nat} {D : Ds}
set_option maxRecDepth 100000 in
set_option maxHeartbeats 2000000 in
theorem rreadOwn_dist (h : RdAt w lo hi' b c D) (ok : D.Ok) {k : Int} {p : Pl} (hp : ∃ n, PlOk p n) :
    Calls Tryz.prog 61 #[.pointer (some ⟨b 0, 0, none⟩), .int .i64 k, p.v] w fun e w' => e = .returned (.tuple #[.int .u64 (readOwnV D k p).1, .int .i64 (readOwnV D k p).2]) ∧ Below w.heap.size w w' := by
  obtain ⟨n0, hp⟩ := hp
  have hp := hp.cn
  have hbal := bal w (.cells p.cs 70)
  have HB0 := hi hbal
  have H1 := h.below hbal
  have hlt := h.box.lt
  unfold readOwnV
  cases hk : hasN D.cs.length k
  · have HH := hi (H1.there k)
    rw [hk] at HH
    clear h hk ok H1 hp
    obtain ⟨r, f, n⟩ := p
    dsimp only [Pl.cs] at HH HB0
    dsimp only [Pl.v]
    go_enter Tryz.func61, Tryz.ntmps61
    go_wp2_with (go_at_call 60; ((with_reducible refine HH.out.mono ?_); rintro e w1 ⟨rfl, rfl⟩))
    go_ret2
    exact ⟨rfl, HB0.out⟩
  · obtain ⟨j, rfl, hj⟩ := hasN_at hk
    simp only [if_true, Int.toNat_natCast]
    have HH := hi (H1.thereNat hj)
    by_cases hr : p.r = 3
    · rw [if_pos hr]
      have c6 := H1.box.cell 6
      have q1 := H1.slpc hj
      obtain ⟨s, hs⟩ : ∃ s, (D.nth j).sl = s := ⟨_, rfl⟩
      obtain ⟨n9, hn9⟩ : ∃ n9, D.cs.length = n9 := ⟨_, rfl⟩
      rw [hn9] at c6 hj
      rw [hs] at q1 ⊢
      have HO := hi (show ∀ W, Calls Tryz.prog 100 #[.bool s, .int .u64 6] W fun e w' => e = .returned (.int .u64 ((slN s : Nat) : Int)) ∧ W = w' from fun W => rone_any s 6 W)
      obtain ⟨V, hV⟩ : ∃ V, slN s = V := ⟨_, rfl⟩
      rw [hV] at HO ⊢
      clear h hk ok H1 hp hs hn9 hbal hV
      obtain ⟨r, f, n⟩ := p
      dsimp only at hr
      subst hr
      dsimp only [Pl.cs] at HH HB0 c6 q1
      dsimp only [Pl.v]
      go_enter Tryz.func61, Tryz.ntmps61
      go_wp2_with (first
        | (go_at_call 60; ((with_reducible refine HH.out.mono ?_); rintro e w1 ⟨rfl, rfl⟩))
        | (go_at_call 100; ((with_reducible refine (HO.out _).mono ?_); rintro e w1 ⟨rfl, rfl⟩)))
      go_ret2
      exact ⟨rfl, HB0.out⟩
    · rw [if_neg hr]
      have HRD := hi (fun W (q : Below w.heap.size w W) => rfb_read ((h.below q).own j hj) (ok.fitO hj) (ok.fine j hj) hp)
      have HPB := hi (CB.new w 70 p.cs)
      obtain ⟨V, hV⟩ : ∃ V, readV p p.c.toNat 0 (D.nth j).es = V := ⟨_, rfl⟩
      rw [hV] at HRD ⊢
      have hq : (p.r == 3) = false := by simpa using hr
      have HD := hi H1
      obtain ⟨n9, hn9⟩ : ∃ n9, D.cs.length = n9 := ⟨_, rfl⟩
      have HN9 := hi hn9
      rw [hn9] at hj
      clear h hk ok H1 hp hV hr hn9 hbal
      obtain ⟨r, f, n⟩ := p
      dsimp only at hq
      dsimp only [Pl.cs] at HH HB0 HPB HD
      dsimp only [Pl.v] at HRD ⊢
      go_enter Tryz.func61, Tryz.ntmps61
      go_wp2_with (go_at_call 60; ((with_reducible refine HH.out.mono ?_); rintro e w1 ⟨rfl, rfl⟩))
      obtain ⟨W1, hW1⟩ : ∃ W1, w.alloc (.cells #[.int .i64 r, .int .i64 f, .int .i64 n] 70) = W1 := ⟨_, rfl⟩
      rw [hW1] at HB0 HPB HD ⊢
      have HB1 := hi (show Below w.heap.size w W1.drew from Below.drewN (m := 1) HB0.out)
      clear hW1 HH
      refine wp_region_noPanic ?_
      refine wp_region_last_drew (S := (fun W' => RdAt W' lo hi' b c D ∧ CB W' w.heap.size 70 #[.int .i64 r, .int .i64 f, .int .i64 n])) [] (by kernel_rfl) ⟨HD.out.drew, HPB.out.drew⟩ (fun hHeld => ?_)
      (try simp only [Array.replicate_succ, Array.replicate_zero, List.push_toArray, List.nil_append, List.cons_append])
      refine wpAnyF_take (i := 0) (v := ?_) (by kernel_rfl) (by kernel_rfl) rfl (by kernel_rfl) (by kernel_rfl) (by kernel_rfl) (fun _ _ _ h => h) (Or.inl ⟨by rfl, ?_⟩) (by assumption) ?_
      rotate_left
      · intro w' hSw; (try dsimp only at hSw); have k2 := hSw.1.box.cell 5; rw [HN9.out] at k2; have k0 := hSw.1.ptr (k := j) (by rw [HN9.out]; exact hj); have p0 := hSw.2.cell 0; have p1 := hSw.2.cell 1; have p2 := hSw.2.cell 2; go_simp; (try with_reducible rfl)
      (try simp only [Act.put, List.getElem_toArray, List.getElem_cons_zero, List.setIfInBounds_toArray, List.set_cons_zero, List.set_cons_succ])
      refine wpAnyF_take (i := 1) (v := ?_) (by kernel_rfl) (by kernel_rfl) rfl (by kernel_rfl) (by kernel_rfl) (by kernel_rfl) (fun _ _ _ h => h) (Or.inl ⟨by rfl, ?_⟩) (by assumption) ?_
      rotate_left
      · intro w' hSw; (try dsimp only at hSw); have k2 := hSw.1.box.cell 5; rw [HN9.out] at k2; have k0 := hSw.1.ptr (k := j) (by rw [HN9.out]; exact hj); have p0 := hSw.2.cell 0; have p1 := hSw.2.cell 1; have p2 := hSw.2.cell 2; go_simp; (try with_reducible rfl)
      (try simp only [Act.put, List.getElem_toArray, List.getElem_cons_zero, List.getElem_cons_succ, List.setIfInBounds_toArray, List.set_cons_zero, List.set_cons_succ])
      refine wpAnyF_take (i := 2) (v := ?_) (by kernel_rfl) (by kernel_rfl) rfl (by kernel_rfl) (by kernel_rfl) (by kernel_rfl) (fun _ _ _ h => h) (Or.inl ⟨by rfl, ?_⟩) (by assumption) ?_
      rotate_left
      · intro w' hSw; (try dsimp only at hSw); have k2 := hSw.1.box.cell 5; rw [HN9.out] at k2; have k0 := hSw.1.ptr (k := j) (by rw [HN9.out]; exact hj); have p0 := hSw.2.cell 0; have p1 := hSw.2.cell 1; have p2 := hSw.2.cell 2; go_simp; (try with_reducible rfl)
      (try simp only [Act.put, List.getElem_toArray, List.getElem_cons_zero, List.getElem_cons_succ, List.setIfInBounds_toArray, List.set_cons_zero, List.set_cons_succ])
      refine wpAnyF_take (i := 3) (v := ?_) (by kernel_rfl) (by kernel_rfl) rfl (by kernel_rfl) (by kernel_rfl) (by kernel_rfl) (fun _ _ _ h => h) (Or.inl ⟨by rfl, ?_⟩) (by assumption) ?_
      rotate_left
      · intro w' hSw; (try dsimp only at hSw); have k2 := hSw.1.box.cell 5; rw [HN9.out] at k2; have k0 := hSw.1.ptr (k := j) (by rw [HN9.out]; exact hj); have p0 := hSw.2.cell 0; have p1 := hSw.2.cell 1; have p2 := hSw.2.cell 2; go_simp; (try with_reducible rfl)
      (try simp only [Act.put, List.getElem_toArray, List.getElem_cons_zero, List.getElem_cons_succ, List.setIfInBounds_toArray, List.set_cons_zero, List.set_cons_succ])
      refine wpAnyF_take (i := 4) (v := ?_) (by kernel_rfl) (by kernel_rfl) rfl (by kernel_rfl) (by kernel_rfl) (by kernel_rfl) (fun _ _ _ h => h) (Or.inl ⟨by rfl, ?_⟩) (by assumption) ?_
      rotate_left
      · intro w' hSw; (try dsimp only at hSw); have k2 := hSw.1.box.cell 5; rw [HN9.out] at k2; have k0 := hSw.1.ptr (k := j) (by rw [HN9.out]; exact hj); have p0 := hSw.2.cell 0; have p1 := hSw.2.cell 1; have p2 := hSw.2.cell 2; go_simp; (try with_reducible rfl)
      (try simp only [Act.put, List.getElem_toArray, List.getElem_cons_zero, List.getElem_cons_succ, List.setIfInBounds_toArray, List.set_cons_zero, List.set_cons_succ])
      refine wpAnyF_take (i := 5) (v := ?_) (by kernel_rfl) (by kernel_rfl) rfl (by kernel_rfl) (by kernel_rfl) (by kernel_rfl) (fun _ _ _ h => h) (Or.inl ⟨by rfl, ?_⟩) (by assumption) ?_
      rotate_left
      · intro w' hSw; (try dsimp only at hSw); have k2 := hSw.1.box.cell 5; rw [HN9.out] at k2; have k0 := hSw.1.ptr (k := j) (by rw [HN9.out]; exact hj); have p0 := hSw.2.cell 0; have p1 := hSw.2.cell 1; have p2 := hSw.2.cell 2; go_simp; (try with_reducible rfl)
      (try simp only [Act.put, List.getElem_toArray, List.getElem_cons_zero, List.getElem_cons_succ, List.setIfInBounds_toArray, List.set_cons_zero, List.set_cons_succ])
      refine wpAnyF_take (i := 6) (v := ?_) (by kernel_rfl) (by kernel_rfl) rfl (by kernel_rfl) (by kernel_rfl) (by kernel_rfl) (fun _ _ _ h => h) (Or.inl ⟨by rfl, ?_⟩) (by assumption) ?_
      rotate_left
      · intro w' hSw; (try dsimp only at hSw); have k2 := hSw.1.box.cell 5; rw [HN9.out] at k2; have k0 := hSw.1.ptr (k := j) (by rw [HN9.out]; exact hj); have p0 := hSw.2.cell 0; have p1 := hSw.2.cell 1; have p2 := hSw.2.cell 2; go_simp; (try with_reducible rfl)
      (try simp only [Act.put, List.getElem_toArray, List.getElem_cons_zero, List.getElem_cons_succ, List.setIfInBounds_toArray, List.set_cons_zero, List.set_cons_succ])
      refine wpAnyF_take (i := 7) (v := ?_) (by kernel_rfl) (by kernel_rfl) rfl (by kernel_rfl) (by kernel_rfl) (by kernel_rfl) (fun _ _ _ h => h) (Or.inl ⟨by rfl, ?_⟩) (by assumption) ?_
      rotate_left
      · intro w' hSw; (try dsimp only at hSw); have k2 := hSw.1.box.cell 5; rw [HN9.out] at k2; have k0 := hSw.1.ptr (k := j) (by rw [HN9.out]; exact hj); have p0 := hSw.2.cell 0; have p1 := hSw.2.cell 1; have p2 := hSw.2.cell 2; go_simp; (try with_reducible rfl)
      (try simp only [Act.put, List.getElem_toArray, List.getElem_cons_zero, List.getElem_cons_succ, List.setIfInBounds_toArray, List.set_cons_zero, List.set_cons_succ])
      refine wpAnyF_ready (rs := [8]) (by kernel_rfl) (by simp) ?_
      refine AllReadyF.cons rfl (fun KK hKK => ?_) AllReadyF.nil
      go_simp
      ((with_reducible refine (HRD.out _ HB1.out).mono ?_); rintro e' w4 ⟨rfl, hb⟩; have HB4 := hi (HB1.out.trans (hb.mono HB1.out.size)); have hSS := And.intro (hHeld.1.below hb) (hHeld.2.below hb); clear hb)
      (try go_simp)
      refine hKK.out _ _ hSS (fun hHeld => ?_)
      clear hKK KK
      (try simp only [Act.put, List.getElem_toArray, List.getElem_cons_zero, List.getElem_cons_succ, List.setIfInBounds_toArray, List.set_cons_zero, List.set_cons_succ])
      refine wpAnyF_take (i := 9) (v := ?_) (by kernel_rfl) (by kernel_rfl) rfl (by kernel_rfl) (by kernel_rfl) (by kernel_rfl) (fun _ _ _ h => h) (Or.inl ⟨by rfl, ?_⟩) (by assumption) ?_
      rotate_left
      · intro w' hSw; (try dsimp only at hSw); have k2 := hSw.1.box.cell 5; rw [HN9.out] at k2; have k0 := hSw.1.ptr (k := j) (by rw [HN9.out]; exact hj); have p0 := hSw.2.cell 0; have p1 := hSw.2.cell 1; have p2 := hSw.2.cell 2; go_simp; (try with_reducible rfl)
      (try simp only [Act.put, List.getElem_toArray, List.getElem_cons_zero, List.getElem_cons_succ, List.setIfInBounds_toArray, List.set_cons_zero, List.set_cons_succ])
      refine wpAnyF_take (i := 10) (v := ?_) (by kernel_rfl) (by kernel_rfl) rfl (by kernel_rfl) (by kernel_rfl) (by kernel_rfl) (fun _ _ _ h => h) (Or.inl ⟨by rfl, ?_⟩) (by assumption) ?_
      rotate_left
      · intro w' hSw; (try dsimp only at hSw); have k2 := hSw.1.box.cell 5; rw [HN9.out] at k2; have k0 := hSw.1.ptr (k := j) (by rw [HN9.out]; exact hj); have p0 := hSw.2.cell 0; have p1 := hSw.2.cell 1; have p2 := hSw.2.cell 2; go_simp; (try with_reducible rfl)
      (try simp only [Act.put, List.getElem_toArray, List.getElem_cons_zero, List.getElem_cons_succ, List.setIfInBounds_toArray, List.set_cons_zero, List.set_cons_succ])
      refine wpAnyF_done (by kernel_rfl) ?_ _
      refine NoPanic.normal ?_
      go_wp2
      go_ret2
      exact ⟨rfl, HB4.out⟩
end
end Go.Proofs.YtggeakkofcaklaaGreat
