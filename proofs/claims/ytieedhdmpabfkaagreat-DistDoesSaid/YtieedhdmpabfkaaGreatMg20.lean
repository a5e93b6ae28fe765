import Derived.Test.YtieedhdmpabfkaaGreatMg19
import Derived.Test.YtieedhdmpabfkaaGreatMg02
set_option linter.unusedSimpArgs false
namespace Go.Proofs.YtieedhdmpabfkaaGreat
open Go.ChangeShapes Go.WideShapes Go.ChangeAt Go.RowKit Go.Shelf
set_option linter.unusedVariables false
attribute [local go_sem] Oper.semAt_some
section
variable {w : World} {lo hi' : Nat} {b c : Nat → Nat} {D : Ds}
set_option maxHeartbeats 2000000 in
theorem rtarget_dist (h : RdAt w lo hi' b c D) (ok : D.Ok) (id : Int) :
  Calls Tryz.prog 58 #[.pointer (some ⟨b 0, 0, none⟩), .int .i64 id] w fun e w' => e = .returned (.int .i64 (targetV D id)) ∧ w = w' := by
 have HA := hi (rfb_at id h.shr ok.fitS)
 have c2 := h.box.cell 2
 unfold targetV
 cases hb : hasB 32 D.sh.length id
 ·simp only [Bool.false_eq_true, if_false]
  rw [atI_no hb] at HA
  clear h ok hb
  go_enter Tryz.func58, Tryz.ntmps58
  go_wp2_with (go_at_call 90; ((with_reducible refine HA.out.mono ?_); rintro e w1 ⟨rfl, rfl⟩))
  go_ret
  exact ⟨rfl, rfl⟩
 ·simp only [if_true]
  obtain ⟨j, rfl, hj, e1⟩ := has_at hb
  rw [e1]
  rw [atI_at hj] at HA
  have c3 := h.box.cell 3
  have c4 := h.box.cell 4
  have c6 := h.box.cell 6
  have q0 := h.corec hj
  have q1 := h.anyc hj
  have HT := hi (fun k => h.there k)
  have n8 := ok.n8
  have HS := hi (fun k (hk : k < D.cs.length) => h.slpc hk)
  obtain ⟨n, hn⟩ : ∃ n, D.cs.length = n := ⟨_, rfl⟩
  obtain ⟨m, hm⟩ : ∃ m, D.sh.length = m := ⟨_, rfl⟩
  obtain ⟨⟨sc, sy⟩, hs⟩ : ∃ s, (nthE D.sh j).s = s := ⟨_, rfl⟩
  rw [hm] at c3 c4 hj
  rw [hs] at q0 q1 ⊢
  dsimp only at q0 q1
  unfold targV
  rw [hn] at c6 n8 HT HS ⊢
  have HF := hi (show firstFrom D (n - 0) 0 = firstV D by rw [firstV, hn, Nat.sub_zero])
  clear h ok hb e1 hm hs hn
  cases sy
  ·simp only [Bool.false_eq_true, if_false]
   have HT := hi (HT.out sc)
   clear HS HF
   cases ht : hasN n sc
   all_goals
    rw [ht] at HT
    simp only [Bool.false_eq_true, if_false, if_true]
    clear ht
    go_enter Tryz.func58, Tryz.ntmps58
    go_wp2_with (first
     | (go_at_call 90; ((with_reducible refine HA.out.mono ?_); rintro e w1 ⟨rfl, rfl⟩))
     | (go_at_call 60; ((with_reducible refine HT.out.mono ?_); rintro e w1 ⟨rfl, rfl⟩)))
    go_ret
    exact ⟨rfl, rfl⟩
  ·simp only [if_true]
   clear HT
   go_enter Tryz.func58, Tryz.ntmps58
   go_wp2_with (go_at_call 90; ((with_reducible refine HA.out.mono ?_); rintro e w1 ⟨rfl, rfl⟩))
   clear HA c2 c3 c4 q0 q1 hj
   go_loop [6] (fun i => ∃ k : Nat, k ≤ n ∧ i = .int .i64 k ∧ Hi (firstFrom D (n - k) k = firstV D)) (fun i => n - (intOf i).toNat)
   case atStart => exact ⟨0, Nat.zero_le _, rfl, HF⟩
   case round =>
    obtain ⟨k, hk, rfl, HX⟩ := hrel
    clear HF
    by_cases hlt : k < n
    ·have q := HS.out k hlt
     have HE := hi (show firstFrom D (n - k) k = if (D.nth k).sl then firstFrom D (n - (k + 1)) (k + 1) else (k : Int) by rw [show n - k = (n - (k + 1)) + 1 by omega]; rfl)
     obtain ⟨sl, hs⟩ : ∃ sl, (D.nth k).sl = sl := ⟨_, rfl⟩
     rw [hs] at q HE
     clear hs
     cases sl
     ·have HR := hi (HX.out.symm.trans (HE.out.trans (if_neg (by simp))))
      clear HE
      go_wp2
      go_ret
      exact ⟨by rw [HR.out]; rfl, rfl⟩
     ·have HR := hi ((HE.out.trans (if_pos rfl)).symm.trans HX.out)
      clear HE
      go_wp2
      go_round
      case rel => exact ⟨k + 1, by omega, by go_num, HR⟩
      case measure => simp only [intOf]; omega
    ·obtain rfl : k = n := by omega
     have HR := hi (show firstV D = -1 by rw [← HX.out, Nat.sub_self]; rfl)
     go_wp2
     go_ret
     exact ⟨by rw [HR.out]; rfl, rfl⟩
end
end Go.Proofs.YtieedhdmpabfkaaGreat
namespace Go.Proofs.YtieedhdmpabfkaaGreat
open Go.ChangeShapes Go.WideShapes Go.ChangeAt Go.RowKit Go.Shelf
set_option linter.unusedVariables false
attribute [local go_sem] Oper.semAt_some
theorem RfB.below {W W' : World} {x lg xg : Nat} {f : Int} {es : List En} (h : RfB W x lg xg f es) (k : Below W.heap.size W W') : RfB W' x lg xg f es := by
 obtain ⟨la, xa, lc, xc, h⟩ := h
 exact ⟨la, xa, lc, xc, h.below k⟩
section
variable {w : World} {lo hi' : Nat} {b c : Nat → Nat} {D : Ds}
set_option maxRecDepth 100000 in
set_option maxHeartbeats 2000000 in
theorem rput_go (h : RdAt w lo hi' b c D) {k : Nat} {id f : Int} (x lg xg : Nat) (es : List En) (s : St) (hk : k < D.cs.length) (hfit : Fit f es.length)
  (HO : ∀ W, Below w.heap.size w W → Calls Tryz.prog 94 #[.pointer (some ⟨b 0, 0, none⟩), .int .i64 k, .int .i64 id] W fun e w' => e = .returned (.pointer (some ⟨x, 0, none⟩)) ∧ W = w')
  (hB : RfB w x lg xg f es) :
  Calls Tryz.prog 52 #[.pointer (some ⟨b 0, 0, none⟩), .int .i64 k, .int .i64 id, s.v] w fun e w' => e = .returned (.int .i64 (putS f es id s).2) ∧ RfAf w x lg xg f (putS f es id s).1 w' := by
 have hbal := bal w (.cells #[.bool s.e, .bool s.l, .bool s.h, .bool s.a] 31)
 have HT := hi ((h.below hbal).thereNat hk)
 have HO := hi (HO _ hbal)
 have HA := hi (rfb_at id (hB.below hbal) hfit)
 have HB0 := hi hbal
 unfold putS
 cases hb : hasB f es.length id
 ·simp only [Bool.false_eq_true, if_false]
  rw [atI_no hb] at HA
  have HF := hi (show RfAf w x lg xg f es _ from ⟨hB.below hbal, Kept.of hbal⟩)
  clear h hb hB hbal HB0
  obtain ⟨se, sl, sh, sa⟩ := s
  dsimp only [St.v] at HO HA HT HF ⊢
  go_enter Tryz.func52, Tryz.ntmps52
  go_wp2_with (first
   | (go_at_call 60; ((with_reducible refine HT.out.mono ?_); rintro e w1 ⟨rfl, rfl⟩))
   | (go_at_call 94; ((with_reducible refine HO.out.mono ?_); rintro e w1 ⟨rfl, rfl⟩))
   | (go_at_call 90; ((with_reducible refine HA.out.mono ?_); rintro e w1 ⟨rfl, rfl⟩)))
  go_ret
  exact ⟨rfl, HF.out⟩
 ·simp only [if_true]
  obtain ⟨j, rfl, hj, e1⟩ := has_at hb
  rw [e1]
  rw [atI_at hj] at HA
  obtain ⟨la, xa, lc, xc, hR⟩ := hB
  have hne := hR.ne0 (fun e => by rw [e] at hj; simp at hj)
  have hla := hne.1
  subst hla
  have HKL := hi hj
  have HK := hi (nthE_at hj)
  have HR0 := hi hR
  have hxl : x ≠ lg := hne.2.2.2.2.1
  have hlg : lg < w.heap.size := hne.2.2.1.lt
  have hbl : w.heap.size ≠ lg := by omega
  have hC1 := (hR.below hbal).box.cell 1
  have hS := CB.new w 31 #[.bool s.e, .bool s.l, .bool s.h, .bool s.a]
  obtain ⟨n, hn⟩ : ∃ n, es.length = n := ⟨_, rfl⟩
  have HN := hi hn
  rw [hn] at hC1 hj
  have HXB := hi (And.intro hC1 hS)
  clear h hb hbal hn hR e1 hne hC1 hS
  obtain ⟨se, sl, sh, sa⟩ := s
  dsimp only [St.v] at HO HA HT HB0 HXB ⊢
  go_enter Tryz.func52, Tryz.ntmps52
  go_wp2_with (first
   | (go_at_call 60; ((with_reducible refine HT.out.mono ?_); rintro e w1 ⟨rfl, rfl⟩))
   | (go_at_call 94; ((with_reducible refine HO.out.mono ?_); rintro e w1 ⟨rfl, rfl⟩))
   | (go_at_call 90; ((with_reducible refine HA.out.mono ?_); rintro e w1 ⟨rfl, rfl⟩)))
  clear HO HA HT
  obtain ⟨W1, hW1⟩ : ∃ W1, w.alloc (.cells #[.bool se, .bool sl, .bool sh, .bool sa] 31) = W1 := ⟨_, rfl⟩
  rw [hW1] at HB0 HXB ⊢
  have HB1 := hi (show Below w.heap.size w W1.drew from Below.drewN (m := 1) HB0.out)
  clear hW1
  refine wp_region_noPanic ?_
  refine wp_region_last_drew (S := (fun W' => W'.cell? ⟨x, 1, none⟩ = some (.slice (some ⟨lg, 0, none⟩) n lc) ∧ CB W' w.heap.size 31 #[.bool se, .bool sl, .bool sh, .bool sa])) [] (by kernel_rfl) ⟨HXB.out.1, HXB.out.2.drew⟩ (fun hHeld => ?_)
  (try simp only [r1, r2, r3, r4, r5])
  obtain ⟨Wd, hWd⟩ : ∃ Wd, W1.drew = Wd := ⟨_, rfl⟩
  rw [hWd] at HB1 hHeld ⊢
  clear hWd
  have hRd := HR0.out.below HB1.out
  have hth : Wd.there lg (j * 7) 4 := fun i hi => ((hRd.ne0 (fun e => by have h9 := HKL.out; rw [e] at h9; simp at h9)).2.2.1.lnThere HKL.out) i (by omega)
  have hS9 := hRd.setIrq HK.out ⟨se, sl, sh, sa⟩
  clear hRd
  refine tk 0 (v := ?_) rfl (Or.inl ⟨by rfl, ?_⟩) ?_
  rotate_left
  ·intro w' hSw; (try dsimp only at hSw); have k1 := hSw.1; have p0 := hSw.2.cell 0; have p1 := hSw.2.cell 1; have p2 := hSw.2.cell 2; have p3 := hSw.2.cell 3; go_simp; (try with_reducible rfl)
  (try simp only [Act.put, n1, n2, n4, n5, n6])
  refine tk 1 (v := ?_) rfl (Or.inl ⟨by rfl, ?_⟩) ?_
  rotate_left
  ·intro w' hSw; (try dsimp only at hSw); have k1 := hSw.1; have p0 := hSw.2.cell 0; have p1 := hSw.2.cell 1; have p2 := hSw.2.cell 2; have p3 := hSw.2.cell 3; go_simp; (try with_reducible rfl)
  (try simp only [Act.put, n1, n2, n3, n4, n5, n6])
  refine tk 2 (v := ?_) rfl (Or.inl ⟨by rfl, ?_⟩) ?_
  rotate_left
  ·intro w' hSw; (try dsimp only at hSw); have k1 := hSw.1; have p0 := hSw.2.cell 0; have p1 := hSw.2.cell 1; have p2 := hSw.2.cell 2; have p3 := hSw.2.cell 3; go_simp; (try with_reducible rfl)
  (try simp only [Act.put, n1, n2, n3, n4, n5, n6])
  refine tk 3 (v := ?_) rfl (Or.inl ⟨by rfl, ?_⟩) ?_
  rotate_left
  ·intro w' hSw; (try dsimp only at hSw); have k1 := hSw.1; have p0 := hSw.2.cell 0; have p1 := hSw.2.cell 1; have p2 := hSw.2.cell 2; have p3 := hSw.2.cell 3; go_simp; (try with_reducible rfl)
  (try simp only [Act.put, n1, n2, n3, n4, n5, n6])
  refine tk 4 (v := ?_) rfl (Or.inl ⟨by rfl, ?_⟩) ?_
  rotate_left
  ·intro w' hSw; (try dsimp only at hSw); have k1 := hSw.1; have p0 := hSw.2.cell 0; have p1 := hSw.2.cell 1; have p2 := hSw.2.cell 2; have p3 := hSw.2.cell 3; go_simp; (try with_reducible rfl)
  (try simp only [Act.put, n1, n2, n3, n4, n5, n6])
  refine tk 5 (v := ?_) rfl (Or.inl ⟨by rfl, ?_⟩) ?_
  rotate_left
  ·intro w' hSw; (try dsimp only at hSw); have k1 := hSw.1; have p0 := hSw.2.cell 0; have p1 := hSw.2.cell 1; have p2 := hSw.2.cell 2; have p3 := hSw.2.cell 3; go_simp; (try with_reducible rfl)
  (try simp only [Act.put, n1, n2, n3, n4, n5, n6])
  refine tk 6 (v := ?_) rfl (Or.inl ⟨by rfl, ?_⟩) ?_
  rotate_left
  ·intro w' hSw; (try dsimp only at hSw); have k1 := hSw.1; have p0 := hSw.2.cell 0; have p1 := hSw.2.cell 1; have p2 := hSw.2.cell 2; have p3 := hSw.2.cell 3; go_simp; (try with_reducible rfl)
  (try simp only [Act.put, n1, n2, n3, n4, n5, n6])
  refine tk 7 (v := ?_) rfl (Or.inl ⟨by rfl, ?_⟩) ?_
  rotate_left
  ·intro w' hSw; (try dsimp only at hSw); have k1 := hSw.1; have p0 := hSw.2.cell 0; have p1 := hSw.2.cell 1; have p2 := hSw.2.cell 2; have p3 := hSw.2.cell 3; go_simp; (try with_reducible rfl)
  (try simp only [Act.put, n1, n2, n3, n4, n5, n6])
  refine wpAnyF_ready (rs := [8]) (by kernel_rfl) (by simp) ?_
  refine AllReadyF.cons rfl (fun KK hKK => ?_) AllReadyF.nil
  rw [if_pos (by rfl)]
  refine wp_store_mid 31 (.tmp 31) (.tmp 29) rfl lg (j * 7) #[.bool se, .bool sl, .bool sh, .bool sa] rfl rfl hth size_irq (by simp [Value.oneCell']) ?_
  simp only
  refine hKK.out _ _ ⟨(World.cell?_of_block (w := Wd) (a := ⟨x, 1, none⟩) (heap_sets hxl _ _ Wd)).trans hHeld.1, hHeld.2.heap (heap_sets hbl _ _ Wd)⟩ (fun hHeld => ?_)
  clear hKK KK
  (try simp only [Act.put, List.getElem_toArray, List.getElem_cons_zero, List.getElem_cons_succ])
  refine wpAnyF_done (by kernel_rfl) ?_ _
  refine NoPanic.normal ?_
  go_wp2
  go_ret
  exact ⟨rfl, ⟨_, _, _, _, hS9⟩, (kept_sets (bs := fun i => i = lg ∨ i = xg) (b := lg) (.inl rfl) _ _ (Kept.of HB1.out)).mono (fun i h9 => ⟨by rw [List.length_set]; exact Nat.ne_of_gt (Nat.lt_of_le_of_lt (Nat.zero_le _) HKL.out), h9⟩)⟩
theorem rput_dist (h : RdAt w lo hi' b c D) (ok : D.Ok) {k id : Int} (s : St) :
  Calls Tryz.prog 52 #[.pointer (some ⟨b 0, 0, none⟩), .int .i64 k, .int .i64 id, s.v] w fun e w' => e = .returned (.int .i64 (putV D k id s).2) ∧ RdAf w lo hi' b c (putV D k id s).1 w' := by
 unfold putV
 cases hk : hasN D.cs.length k
 ·simp only [Bool.false_eq_true, if_false]
  have hbal := bal w (.cells #[.bool s.e, .bool s.l, .bool s.h, .bool s.a] 31)
  have HT := hi ((h.below hbal).there k)
  rw [hk] at HT
  have HF := hi (RdAf.of h hbal)
  clear h hk ok hbal
  obtain ⟨se, sl, sh, sa⟩ := s
  dsimp only [St.v] at HT HF ⊢
  go_enter Tryz.func52, Tryz.ntmps52
  go_wp2_with (go_at_call 60; ((with_reducible refine HT.out.mono ?_); rintro e w1 ⟨rfl, rfl⟩))
  go_ret
  exact ⟨rfl, HF.out⟩
 ·obtain ⟨j, rfl, hj⟩ := hasN_at hk
  simp only [if_true, Int.toNat_natCast]
  by_cases h32 : id < 32
  ·rw [if_pos h32]
   refine (rput_go h _ _ _ _ s hj (ok.fitO hj) (fun W q => rbank_own (h.below q) hj h32) (h.own j hj)).mono ?_
   rintro e w' ⟨rfl, hA⟩
   exact ⟨rfl, ⟨(h.setOwn hj hA).1, (h.setOwn hj hA).2⟩⟩
  ·rw [if_neg h32]
   refine (rput_go h _ _ _ _ s hj ok.fitS (fun W q => rbank_sh (h.below q) h32) h.shr).mono ?_
   rintro e w' ⟨rfl, hA⟩
   have hS := h.setShr hA (putS_len _ _ _ _) (putS_rt _ _ _ _)
   exact ⟨rfl, ⟨hS.1, hS.2⟩⟩
end
end Go.Proofs.YtieedhdmpabfkaaGreat
