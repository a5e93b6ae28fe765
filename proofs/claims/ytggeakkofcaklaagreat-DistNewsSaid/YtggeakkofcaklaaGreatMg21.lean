import Derived.Test.YtggeakkofcaklaaGreatMg20
namespace Go.Proofs.YtggeakkofcaklaaGreat
open Go.ChangeShapes Go.WideShapes Go.ChangeAt Go.RowKit Go.Shelf
set_option linter.unusedVariables false
attribute [local go_sem] Oper.semAt_some
theorem CB.otherE {W : World} {B : Nat} {t : TypeId} {cs : Array Value} (h : CB W B t cs) {N : Nat} (hn : B ≠ N) {v0 v1 v2 v3 v4 v5 v6 v7 v8 : Value} : CB (((((((((W.setCell ⟨N, 0, none⟩ v0).setCell ⟨N, 1, none⟩ v1).setCell ⟨N, 2, none⟩ v2).setCell ⟨N, 3, none⟩ v3).setCell ⟨N, 4, none⟩ v4).setCell ⟨N, 5, none⟩ v5).setCell ⟨N, 6, none⟩ v6).setCell ⟨N, 7, none⟩ v7).setCell ⟨N, 8, none⟩ v8) B t cs :=
  ((((((((h.other N _ _ hn).other N _ _ hn).other N _ _ hn).other N _ _ hn).other N _ _ hn).other N _ _ hn).other N _ _ hn).other N _ _ hn).other N _ _ hn
section
variable {w : World} {lo hi' : Nat} {b c : Nat → Nat} {D : Ds}
def routN (D : Ds) (id : Int) : Nat := if hasB 32 D.sh.length id then rtN (nthE D.sh (id - 32).toNat).s else 0
def fdV (off wd : Int) : Pl × Int := findV distRows 65536 off wd
def readPl (D : Ds) (p : Pl) : Nat := if p.r = 1 then ctlrN D else if p.r = 2 then typerN D else if p.r = 13 then routN D p.f else readV p p.c.toNat 32 D.sh
def readDV (D : Ds) (off wd : Int) : Nat × Int := if (fdV off wd).2 = 0 then (readPl D (fdV off wd).1, 0) else (0, (fdV off wd).2)
theorem fd_few (off wd : Int) : ∃ c, PlOk (fdV off wd).1 c := findV_few dist_ok dist_few _ _ _
theorem PlOk.i64 {p : Pl} {c : Nat} (h : PlOk p c) : Int64 p.f := by have := h.f0; have := h.f1; have := h.few; constructor <;> omega
set_option maxRecDepth 100000 in
set_option maxHeartbeats 2000000 in
theorem read_go (h : DiAt w lo hi' b c D) (ok : D.Ok) {off wd : Int} (hoff : Int64 off) (p : Pl) (er : Int) (hf : fdV off wd = (p, er)) :
    Calls Tryz.prog 34 #[.pointer (some ⟨b 0, 0, none⟩), .int .i64 off, .int .i64 wd] w fun e w' => e = .returned (.tuple #[.int .u64 (if er = 0 then readPl D p else 0 : Nat), .int .i64 er]) ∧ Below w.heap.size w w' := by
  have HF := hi (distP_any off wd w hoff)
  rw [show findV distRows 65536 off wd = (p, er) from hf] at HF
  have hp : ∃ c, PlOk p c := by have := fd_few off wd; rwa [hf] at this
  obtain ⟨n0, hp⟩ := hp
  have hp64 := hp.i64
  have hp := hp.cn
  have hlt := h.box.lt
  have HD := hi h
  have HOK := hi ok
  have HP := hi hp
  obtain ⟨r, f, n⟩ := p
  have HPL := hi (show readPl D ⟨r, f, n⟩ = if r = 1 then ctlrN D else if r = 2 then typerN D else if r = 13 then routN D f else readV ⟨r, f, n⟩ n.toNat 32 D.sh from rfl)
  try dsimp only at hp64
  (try unfold Finds at HF)
  (try dsimp only [Pl.v] at HF)
  by_cases he : er = 0
  · subst he
    rw [if_pos rfl, HPL.out]
    by_cases h1 : r = 1
    · subst h1
      rw [if_pos rfl]
      have HC := hi (fun W (q : Below w.heap.size w W) => ctlr_any (h.below q))
      obtain ⟨V, hV⟩ : ∃ V, ctlrN D = V := ⟨_, rfl⟩
      rw [hV] at HC ⊢
      clear h ok hf hp hV HP HPL
      go_enter Tryz.func34, Tryz.ntmps34
      go_wp2_with (first
        | (go_at_call 40; ((with_reducible refine HF.out.mono ?_); rintro e w1 ⟨rfl, hb⟩; have HB := hi hb; clear hb))
        | (go_at_call 77; ((with_reducible refine (HC.out _ (HB.out.alloc HB.out.size _)).mono ?_); rintro e w2 ⟨rfl, rfl⟩)))
      go_ret2
      exact ⟨rfl, HB.out.alloc HB.out.size _⟩
    rw [if_neg h1]
    have q1 : (r == 1) = false := by simpa using h1
    by_cases h2 : r = 2
    · subst h2
      rw [if_pos rfl]
      have HC := hi (fun W (q : Below w.heap.size w W) => typer_any (h.below q) ok)
      obtain ⟨V, hV⟩ : ∃ V, typerN D = V := ⟨_, rfl⟩
      rw [hV] at HC ⊢
      clear h ok hf hp hV h1 q1 HP HPL
      go_enter Tryz.func34, Tryz.ntmps34
      go_wp2_with (first
        | (go_at_call 40; ((with_reducible refine HF.out.mono ?_); rintro e w1 ⟨rfl, hb⟩; have HB := hi hb; clear hb))
        | (go_at_call 78; ((with_reducible refine (HC.out _ (HB.out.alloc HB.out.size _)).mono ?_); rintro e w2 ⟨rfl, hb⟩; have HB2 := hi ((HB.out.alloc HB.out.size _).trans (hb.mono (HB.out.alloc HB.out.size _).size)); clear hb)))
      go_ret2
      exact ⟨rfl, HB2.out⟩
    rw [if_neg h2]
    have q2 : (r == 2) = false := by simpa using h2
    by_cases h13 : r = 13
    · subst h13
      rw [if_pos rfl]
      have HG := hi (fun W (q : Below w.heap.size w W) => get_any (id := f) (h.below q).shr ok.fitS hp64)
      have HE := hi (show ∃ y : En, (getR 32 D.sh f).1 = y ∧ routN D f = rtN y.s ∧ 0 ≤ y.s.c ∧ y.s.c ≤ 255 by
        unfold getR routN
        cases hb : hasB 32 D.sh.length f
        · exact ⟨En.zero, by simp, rfl, by decide, by decide⟩
        · obtain ⟨j, rfl, hj, e1⟩ := has_at hb
          rw [e1]
          exact ⟨nthE D.sh j, by simp, by simp, ok.rt j hj⟩)
      obtain ⟨y, hy1, hy2, hy3, hy4⟩ := HE.out
      obtain ⟨er2, her2⟩ : ∃ er2, (getR 32 D.sh f).2 = er2 := ⟨_, rfl⟩
      rw [hy1, her2] at HG
      rw [hy2]
      have HNU := hi (fun W => number_any y.s hy3 hy4 W)
      obtain ⟨V, hV⟩ : ∃ V, rtN y.s = V := ⟨_, rfl⟩
      rw [hV] at HNU ⊢
      clear h ok hf hp hV h1 q1 h2 q2 HP HPL HE hy1 hy2 hy3 hy4 her2 HOK
      obtain ⟨⟨⟨e, l, q, a⟩, en, gr, pr⟩, ⟨sc, sy⟩⟩ := y
      dsimp only [En.v] at HG
      dsimp only [Rt.v] at HNU
      go_enter Tryz.func34, Tryz.ntmps34
      go_wp2_with (first
        | (go_at_call 40; ((with_reducible refine HF.out.mono ?_); rintro e' w1 ⟨rfl, hb⟩; have HB := hi hb; clear hb)))
      have HPB := hi (CB.new w1 70 #[.int .i64 13, .int .i64 f, .int .i64 n])
      have HBA := hi (HB.out.alloc HB.out.size (.cells #[.int .i64 13, .int .i64 f, .int .i64 n] 70))
      obtain ⟨W1, hW1⟩ : ∃ W1, w1.alloc (.cells #[.int .i64 13, .int .i64 f, .int .i64 n] 70) = W1 := ⟨_, rfl⟩
      obtain ⟨N, hN⟩ : ∃ N, w1.heap.size = N := ⟨_, rfl⟩
      rw [hW1] at HPB HBA ⊢
      rw [hN] at HPB ⊢
      have HB1 := hi (show Below w.heap.size w W1.drew from Below.drewN (m := 1) HBA.out)
      have hx1 := HB.out.size
      have HD1 := hi (HD.out.below HB1.out).box
      have HPD := hi HPB.out.drew
      clear hW1 HD hN hx1
      refine wp_region_noPanic ?_
      refine wp_region_last_drew (S := (fun W' => CB W' (b 0) 83 #[.bool D.g0, .bool D.g1, .slice (some ⟨b 1, 0, none⟩) D.cs.length (c 0), .pointer (some ⟨b 2, 0, none⟩)] ∧ CB W' N 70 #[.int .i64 13, .int .i64 f, .int .i64 n])) [] (by kernel_rfl) ⟨HD1.out, HPD.out⟩ (fun hHeld => ?_)
      (try simp only [Array.replicate_succ, Array.replicate_zero, List.push_toArray, List.nil_append, List.cons_append])
      have hNd : N < W1.drew.heap.size := HPD.out.lt
      obtain ⟨Wd, hWd⟩ : ∃ Wd, W1.drew = Wd := ⟨_, rfl⟩
      rw [hWd] at HD1 HPD HB1 hHeld hNd ⊢
      clear hWd
      refine wpAnyF_take (i := 0) (v := ?_) (by kernel_rfl) (by kernel_rfl) rfl (by kernel_rfl) (by kernel_rfl) (by kernel_rfl) (fun _ _ _ h => h) (Or.inl ⟨by rfl, ?_⟩) (by assumption) ?_
      rotate_left
      · intro w' hSw; (try dsimp only at hSw); have k3 := hSw.1.cell 3; have p0 := hSw.2.cell 0; have p1 := hSw.2.cell 1; have p2 := hSw.2.cell 2; go_simp; (try with_reducible rfl)
      (try simp only [Act.put, List.getElem_toArray, List.getElem_cons_zero, List.setIfInBounds_toArray, List.set_cons_zero, List.set_cons_succ])
      refine wpAnyF_take (i := 1) (v := ?_) (by kernel_rfl) (by kernel_rfl) rfl (by kernel_rfl) (by kernel_rfl) (by kernel_rfl) (fun _ _ _ h => h) (Or.inl ⟨by rfl, ?_⟩) (by assumption) ?_
      rotate_left
      · intro w' hSw; (try dsimp only at hSw); have k3 := hSw.1.cell 3; have p0 := hSw.2.cell 0; have p1 := hSw.2.cell 1; have p2 := hSw.2.cell 2; go_simp; (try with_reducible rfl)
      (try simp only [Act.put, List.getElem_toArray, List.getElem_cons_zero, List.getElem_cons_succ, List.setIfInBounds_toArray, List.set_cons_zero, List.set_cons_succ])
      refine wpAnyF_take (i := 2) (v := ?_) (by kernel_rfl) (by kernel_rfl) rfl (by kernel_rfl) (by kernel_rfl) (by kernel_rfl) (fun _ _ _ h => h) (Or.inl ⟨by rfl, ?_⟩) (by assumption) ?_
      rotate_left
      · intro w' hSw; (try dsimp only at hSw); have k3 := hSw.1.cell 3; have p0 := hSw.2.cell 0; have p1 := hSw.2.cell 1; have p2 := hSw.2.cell 2; go_simp; (try with_reducible rfl)
      (try simp only [Act.put, List.getElem_toArray, List.getElem_cons_zero, List.getElem_cons_succ, List.setIfInBounds_toArray, List.set_cons_zero, List.set_cons_succ])
      refine wpAnyF_take (i := 3) (v := ?_) (by kernel_rfl) (by kernel_rfl) rfl (by kernel_rfl) (by kernel_rfl) (by kernel_rfl) (fun _ _ _ h => h) (Or.inl ⟨by rfl, ?_⟩) (by assumption) ?_
      rotate_left
      · intro w' hSw; (try dsimp only at hSw); have k3 := hSw.1.cell 3; have p0 := hSw.2.cell 0; have p1 := hSw.2.cell 1; have p2 := hSw.2.cell 2; go_simp; (try with_reducible rfl)
      (try simp only [Act.put, List.getElem_toArray, List.getElem_cons_zero, List.getElem_cons_succ, List.setIfInBounds_toArray, List.set_cons_zero, List.set_cons_succ])
      refine wpAnyF_take (i := 4) (v := ?_) (by kernel_rfl) (by kernel_rfl) rfl (by kernel_rfl) (by kernel_rfl) (by kernel_rfl) (fun _ _ _ h => h) (Or.inl ⟨by rfl, ?_⟩) (by assumption) ?_
      rotate_left
      · intro w' hSw; (try dsimp only at hSw); have k3 := hSw.1.cell 3; have p0 := hSw.2.cell 0; have p1 := hSw.2.cell 1; have p2 := hSw.2.cell 2; go_simp; (try with_reducible rfl)
      (try simp only [Act.put, List.getElem_toArray, List.getElem_cons_zero, List.getElem_cons_succ, List.setIfInBounds_toArray, List.set_cons_zero, List.set_cons_succ])
      refine wpAnyF_take (i := 5) (v := ?_) (by kernel_rfl) (by kernel_rfl) rfl (by kernel_rfl) (by kernel_rfl) (by kernel_rfl) (fun _ _ _ h => h) (Or.inl ⟨by rfl, ?_⟩) (by assumption) ?_
      rotate_left
      · intro w' hSw; (try dsimp only at hSw); have k3 := hSw.1.cell 3; have p0 := hSw.2.cell 0; have p1 := hSw.2.cell 1; have p2 := hSw.2.cell 2; go_simp; (try with_reducible rfl)
      (try simp only [Act.put, List.getElem_toArray, List.getElem_cons_zero, List.getElem_cons_succ, List.setIfInBounds_toArray, List.set_cons_zero, List.set_cons_succ])
      refine wpAnyF_ready (rs := [6, 10]) (by kernel_rfl) (by simp) ?_
      refine (AllReadyF.cons rfl (fun KK hKK => ?_) (AllReadyF.cons rfl (fun KK hKK => ?_) AllReadyF.nil))
      · go_simp
        ((with_reducible refine (HG.out _ HB1.out).mono ?_); rintro e' w4 ⟨rfl, hb⟩; have HBB := hi (HB1.out.trans (hb.mono HB1.out.size)); have hSS := And.intro (hHeld.1.below hb) (hHeld.2.below hb); have hz4 := hb.size; clear hb)
        (try go_simp)
        refine hKK.out _ _ hSS (fun hHeld => ?_)
        clear hKK KK
        (try simp only [Act.put, List.getElem_toArray, List.getElem_cons_zero, List.getElem_cons_succ, List.setIfInBounds_toArray, List.set_cons_zero, List.set_cons_succ])
        refine wpAnyF_take (i := 7) (v := ?_) (by kernel_rfl) (by kernel_rfl) rfl (by kernel_rfl) (by kernel_rfl) (by kernel_rfl) (fun _ _ _ h => h) (Or.inl ⟨by rfl, ?_⟩) (by assumption) ?_
        rotate_left
        · intro w' hSw; (try dsimp only at hSw); have k3 := hSw.1.cell 3; have p0 := hSw.2.cell 0; have p1 := hSw.2.cell 1; have p2 := hSw.2.cell 2; go_simp; (try with_reducible rfl)
        (try simp only [Act.put, List.getElem_toArray, List.getElem_cons_zero, List.getElem_cons_succ, List.setIfInBounds_toArray, List.set_cons_zero, List.set_cons_succ])
        refine wpAnyF_take (i := 8) (v := ?_) (by kernel_rfl) (by kernel_rfl) rfl (by kernel_rfl) (by kernel_rfl) (by kernel_rfl) (fun _ _ _ h => h) (Or.inl ⟨by rfl, ?_⟩) (by assumption) ?_
        rotate_left
        · intro w' hSw; (try dsimp only at hSw); have k3 := hSw.1.cell 3; have p0 := hSw.2.cell 0; have p1 := hSw.2.cell 1; have p2 := hSw.2.cell 2; go_simp; (try with_reducible rfl)
        (try simp only [Act.put, List.getElem_toArray, List.getElem_cons_zero, List.getElem_cons_succ, List.setIfInBounds_toArray, List.set_cons_zero, List.set_cons_succ])
        refine wpAnyF_take (i := 9) (v := ?_) (by kernel_rfl) (by kernel_rfl) rfl (by kernel_rfl) (by kernel_rfl) (by kernel_rfl) (fun _ _ _ h => h) (Or.inl ⟨by rfl, ?_⟩) (by assumption) ?_
        rotate_left
        · intro w' hSw; (try dsimp only at hSw); have k3 := hSw.1.cell 3; have p0 := hSw.2.cell 0; have p1 := hSw.2.cell 1; have p2 := hSw.2.cell 2; go_simp; (try with_reducible rfl)
        (try simp only [Act.put, List.getElem_toArray, List.getElem_cons_zero, List.getElem_cons_succ, List.setIfInBounds_toArray, List.set_cons_zero, List.set_cons_succ])
        refine wpAnyF_ready (rs := [10]) (by kernel_rfl) (by simp) ?_
        refine AllReadyF.cons rfl (fun KK hKK => ?_) AllReadyF.nil
        go_simp
        go_simp
        have hbA := bal w4 (.cells #[.bool false, .bool false, .bool false, .bool false, .bool false, .int .i64 0, .int .i64 0, .int .i64 0, .bool false] 115)
        have HX := hi (show CB _ w4.heap.size 115 En.zero.ca from CB.new w4 115 En.zero.ca)
        have HBX := hi (HBB.out.trans (hbA.mono HBB.out.size))
        have hSA := And.intro (hHeld.1.below hbA) (hHeld.2.below hbA)
        (try dsimp only [En.ca, En.zero, Ln.zero, St.zero, Rt.zero] at HX)
        obtain ⟨Wa, hWa⟩ : ∃ Wa, w4.alloc (.cells #[.bool false, .bool false, .bool false, .bool false, .bool false, .int .i64 0, .int .i64 0, .int .i64 0, .bool false] 115) = Wa := ⟨_, rfl⟩
        obtain ⟨NX, hNX0⟩ : ∃ NX, w4.heap.size = NX := ⟨_, rfl⟩
        have hNX : w.heap.size ≤ NX := by rw [← hNX0]; exact HBB.out.size
        have hNN : N ≠ NX := by omega
        rw [hWa] at HX HBX hSA ⊢
        rw [hNX0] at HX ⊢
        clear hWa hNX0 hbA
        refine hKK.out _ _ hSA (fun hHeld => ?_)
        clear hKK KK
        (try simp only [Act.put, List.getElem_toArray, List.getElem_cons_zero, List.getElem_cons_succ, List.setIfInBounds_toArray, List.set_cons_zero, List.set_cons_succ])
        refine wpAnyF_ready (rs := [11]) (by kernel_rfl) (by simp) ?_
        refine AllReadyF.cons rfl (fun KK hKK => ?_) AllReadyF.nil
        go_simp
        have x0 := HX.out.cell 0
        have x1 := HX.out.cell 1
        have x2 := HX.out.cell 2
        have x3 := HX.out.cell 3
        have x4 := HX.out.cell 4
        have x5 := HX.out.cell 5
        have x6 := HX.out.cell 6
        have x7 := HX.out.cell 7
        have x8 := HX.out.cell 8
        have xf := HX.out.frozen
        (try dsimp only [En.ca, En.zero, Ln.zero, St.zero, Rt.zero] at x0 x1 x2 x3 x4 x5 x6 x7 x8)
        go_simp
        clear x0 x1 x2 x3 x4 x5 x6 x7 x8 xf
        have HE5 := hi (show CB (((((((((Wa.setCell ⟨NX, 0, none⟩ (.bool e)).setCell ⟨NX, 1, none⟩ (.bool l)).setCell ⟨NX, 2, none⟩ (.bool q)).setCell ⟨NX, 3, none⟩ (.bool a)).setCell ⟨NX, 4, none⟩ (.bool en)).setCell ⟨NX, 5, none⟩ (.int .i64 gr)).setCell ⟨NX, 6, none⟩ (.int .i64 pr)).setCell ⟨NX, 7, none⟩ (.int .i64 sc)).setCell ⟨NX, 8, none⟩ (.bool sy)) NX 115 #[.bool e, .bool l, .bool q, .bool a, .bool en, .int .i64 gr, .int .i64 pr, .int .i64 sc, .bool sy] from CB.putE (y := En.zero) HX.out ⟨⟨⟨e, l, q, a⟩, en, gr, pr⟩, ⟨sc, sy⟩⟩)
        have HB5 := hi (show Below w.heap.size w (((((((((Wa.setCell ⟨NX, 0, none⟩ (.bool e)).setCell ⟨NX, 1, none⟩ (.bool l)).setCell ⟨NX, 2, none⟩ (.bool q)).setCell ⟨NX, 3, none⟩ (.bool a)).setCell ⟨NX, 4, none⟩ (.bool en)).setCell ⟨NX, 5, none⟩ (.int .i64 gr)).setCell ⟨NX, 6, none⟩ (.int .i64 pr)).setCell ⟨NX, 7, none⟩ (.int .i64 sc)).setCell ⟨NX, 8, none⟩ (.bool sy)) from below_putE (o := 0) HBX.out hNX ⟨⟨⟨e, l, q, a⟩, en, gr, pr⟩, ⟨sc, sy⟩⟩)
        have hSO : CB (((((((((Wa.setCell ⟨NX, 0, none⟩ (.bool e)).setCell ⟨NX, 1, none⟩ (.bool l)).setCell ⟨NX, 2, none⟩ (.bool q)).setCell ⟨NX, 3, none⟩ (.bool a)).setCell ⟨NX, 4, none⟩ (.bool en)).setCell ⟨NX, 5, none⟩ (.int .i64 gr)).setCell ⟨NX, 6, none⟩ (.int .i64 pr)).setCell ⟨NX, 7, none⟩ (.int .i64 sc)).setCell ⟨NX, 8, none⟩ (.bool sy)) (b 0) 83 #[.bool D.g0, .bool D.g1, .slice (some ⟨b 1, 0, none⟩) D.cs.length (c 0), .pointer (some ⟨b 2, 0, none⟩)] ∧ CB (((((((((Wa.setCell ⟨NX, 0, none⟩ (.bool e)).setCell ⟨NX, 1, none⟩ (.bool l)).setCell ⟨NX, 2, none⟩ (.bool q)).setCell ⟨NX, 3, none⟩ (.bool a)).setCell ⟨NX, 4, none⟩ (.bool en)).setCell ⟨NX, 5, none⟩ (.int .i64 gr)).setCell ⟨NX, 6, none⟩ (.int .i64 pr)).setCell ⟨NX, 7, none⟩ (.int .i64 sc)).setCell ⟨NX, 8, none⟩ (.bool sy)) N 70 #[.int .i64 13, .int .i64 f, .int .i64 n] := ⟨hHeld.1.otherE (by have := HD1.out.lt; omega), hHeld.2.otherE hNN⟩
        obtain ⟨W5, hW5⟩ : ∃ W5, (((((((((Wa.setCell ⟨NX, 0, none⟩ (.bool e)).setCell ⟨NX, 1, none⟩ (.bool l)).setCell ⟨NX, 2, none⟩ (.bool q)).setCell ⟨NX, 3, none⟩ (.bool a)).setCell ⟨NX, 4, none⟩ (.bool en)).setCell ⟨NX, 5, none⟩ (.int .i64 gr)).setCell ⟨NX, 6, none⟩ (.int .i64 pr)).setCell ⟨NX, 7, none⟩ (.int .i64 sc)).setCell ⟨NX, 8, none⟩ (.bool sy)) = W5 := ⟨_, rfl⟩
        rw [hW5] at HE5 HB5 hSO ⊢
        clear hW5
        have y7 := HE5.out.cell 7
        have y8 := HE5.out.cell 8
        refine hKK.out _ _ hSO (fun hHeld => ?_)
        clear hKK KK
        (try simp only [Act.put, List.getElem_toArray, List.getElem_cons_zero, List.getElem_cons_succ, List.setIfInBounds_toArray, List.set_cons_zero, List.set_cons_succ])
        refine wpAnyF_take (i := 12) (v := ?_) (by kernel_rfl) (by kernel_rfl) rfl (by kernel_rfl) (by kernel_rfl) (by kernel_rfl) (fun _ _ _ h => h) (Or.inl ⟨by rfl, ?_⟩) (by assumption) ?_
        rotate_left
        · intro w' hSw; (try dsimp only at hSw); have k3 := hSw.1.cell 3; have p0 := hSw.2.cell 0; have p1 := hSw.2.cell 1; have p2 := hSw.2.cell 2; go_simp; (try with_reducible rfl)
        (try simp only [Act.put, List.getElem_toArray, List.getElem_cons_zero, List.getElem_cons_succ, List.setIfInBounds_toArray, List.set_cons_zero, List.set_cons_succ])
        refine wpAnyF_done (by kernel_rfl) ?_ _
        refine NoPanic.normal ?_
        go_wp2_with (go_at_call 79; ((with_reducible refine (HNU.out _).mono ?_); rintro e' w6 ⟨rfl, hb⟩; have HB6 := hi (HB5.out.trans (hb.mono HB5.out.size)); clear hb))
        go_ret2
        exact ⟨rfl, HB6.out⟩
      · go_simp
        go_simp
        have hbA := bal Wd (.cells #[.bool false, .bool false, .bool false, .bool false, .bool false, .int .i64 0, .int .i64 0, .int .i64 0, .bool false] 115)
        have HX0 := hi (CB.new Wd 115 En.zero.ca)
        have HBA2 := hi (HB1.out.trans (hbA.mono HB1.out.size))
        have hSA := And.intro (hHeld.1.below hbA) (hHeld.2.below hbA)
        (try dsimp only [En.ca, En.zero, Ln.zero, St.zero, Rt.zero] at HX0)
        obtain ⟨Wa, hWa⟩ : ∃ Wa, Wd.alloc (.cells #[.bool false, .bool false, .bool false, .bool false, .bool false, .int .i64 0, .int .i64 0, .int .i64 0, .bool false] 115) = Wa := ⟨_, rfl⟩
        obtain ⟨NX, hNX0⟩ : ∃ NX, Wd.heap.size = NX := ⟨_, rfl⟩
        have hNX : w.heap.size ≤ NX := by rw [← hNX0]; exact HB1.out.size
        have hNN : N ≠ NX := by omega
        rw [hWa] at HX0 HBA2 hSA ⊢
        rw [hNX0] at HX0 ⊢
        clear hWa hNX0 hbA
        refine hKK.out _ _ hSA (fun hHeld => ?_)
        clear hKK KK
        (try simp only [Act.put, List.getElem_toArray, List.getElem_cons_zero, List.getElem_cons_succ, List.setIfInBounds_toArray, List.set_cons_zero, List.set_cons_succ])
        refine wpAnyF_ready (rs := [6]) (by kernel_rfl) (by simp) ?_
        refine AllReadyF.cons rfl (fun KK hKK => ?_) AllReadyF.nil
        go_simp
        ((with_reducible refine (HG.out _ HBA2.out).mono ?_); rintro e' w4 ⟨rfl, hb⟩; have HX := hi (show CB w4 NX 115 En.zero.ca from HX0.out.below hb); have HBX := hi (HBA2.out.trans (hb.mono HBA2.out.size)); have hSS := And.intro (hHeld.1.below hb) (hHeld.2.below hb); clear hb)
        (try go_simp)
        refine hKK.out _ _ hSS (fun hHeld => ?_)
        clear hKK KK
        (try simp only [Act.put, List.getElem_toArray, List.getElem_cons_zero, List.getElem_cons_succ, List.setIfInBounds_toArray, List.set_cons_zero, List.set_cons_succ])
        refine wpAnyF_take (i := 7) (v := ?_) (by kernel_rfl) (by kernel_rfl) rfl (by kernel_rfl) (by kernel_rfl) (by kernel_rfl) (fun _ _ _ h => h) (Or.inl ⟨by rfl, ?_⟩) (by assumption) ?_
        rotate_left
        · intro w' hSw; (try dsimp only at hSw); have k3 := hSw.1.cell 3; have p0 := hSw.2.cell 0; have p1 := hSw.2.cell 1; have p2 := hSw.2.cell 2; go_simp; (try with_reducible rfl)
        (try simp only [Act.put, List.getElem_toArray, List.getElem_cons_zero, List.getElem_cons_succ, List.setIfInBounds_toArray, List.set_cons_zero, List.set_cons_succ])
        refine wpAnyF_take (i := 8) (v := ?_) (by kernel_rfl) (by kernel_rfl) rfl (by kernel_rfl) (by kernel_rfl) (by kernel_rfl) (fun _ _ _ h => h) (Or.inl ⟨by rfl, ?_⟩) (by assumption) ?_
        rotate_left
        · intro w' hSw; (try dsimp only at hSw); have k3 := hSw.1.cell 3; have p0 := hSw.2.cell 0; have p1 := hSw.2.cell 1; have p2 := hSw.2.cell 2; go_simp; (try with_reducible rfl)
        (try simp only [Act.put, List.getElem_toArray, List.getElem_cons_zero, List.getElem_cons_succ, List.setIfInBounds_toArray, List.set_cons_zero, List.set_cons_succ])
        refine wpAnyF_take (i := 9) (v := ?_) (by kernel_rfl) (by kernel_rfl) rfl (by kernel_rfl) (by kernel_rfl) (by kernel_rfl) (fun _ _ _ h => h) (Or.inl ⟨by rfl, ?_⟩) (by assumption) ?_
        rotate_left
        · intro w' hSw; (try dsimp only at hSw); have k3 := hSw.1.cell 3; have p0 := hSw.2.cell 0; have p1 := hSw.2.cell 1; have p2 := hSw.2.cell 2; go_simp; (try with_reducible rfl)
        (try simp only [Act.put, List.getElem_toArray, List.getElem_cons_zero, List.getElem_cons_succ, List.setIfInBounds_toArray, List.set_cons_zero, List.set_cons_succ])
        refine wpAnyF_ready (rs := [11]) (by kernel_rfl) (by simp) ?_
        refine AllReadyF.cons rfl (fun KK hKK => ?_) AllReadyF.nil
        go_simp
        have x0 := HX.out.cell 0
        have x1 := HX.out.cell 1
        have x2 := HX.out.cell 2
        have x3 := HX.out.cell 3
        have x4 := HX.out.cell 4
        have x5 := HX.out.cell 5
        have x6 := HX.out.cell 6
        have x7 := HX.out.cell 7
        have x8 := HX.out.cell 8
        have xf := HX.out.frozen
        (try dsimp only [En.ca, En.zero, Ln.zero, St.zero, Rt.zero] at x0 x1 x2 x3 x4 x5 x6 x7 x8)
        go_simp
        clear x0 x1 x2 x3 x4 x5 x6 x7 x8 xf
        have HE5 := hi (show CB (((((((((w4.setCell ⟨NX, 0, none⟩ (.bool e)).setCell ⟨NX, 1, none⟩ (.bool l)).setCell ⟨NX, 2, none⟩ (.bool q)).setCell ⟨NX, 3, none⟩ (.bool a)).setCell ⟨NX, 4, none⟩ (.bool en)).setCell ⟨NX, 5, none⟩ (.int .i64 gr)).setCell ⟨NX, 6, none⟩ (.int .i64 pr)).setCell ⟨NX, 7, none⟩ (.int .i64 sc)).setCell ⟨NX, 8, none⟩ (.bool sy)) NX 115 #[.bool e, .bool l, .bool q, .bool a, .bool en, .int .i64 gr, .int .i64 pr, .int .i64 sc, .bool sy] from CB.putE (y := En.zero) HX.out ⟨⟨⟨e, l, q, a⟩, en, gr, pr⟩, ⟨sc, sy⟩⟩)
        have HB5 := hi (show Below w.heap.size w (((((((((w4.setCell ⟨NX, 0, none⟩ (.bool e)).setCell ⟨NX, 1, none⟩ (.bool l)).setCell ⟨NX, 2, none⟩ (.bool q)).setCell ⟨NX, 3, none⟩ (.bool a)).setCell ⟨NX, 4, none⟩ (.bool en)).setCell ⟨NX, 5, none⟩ (.int .i64 gr)).setCell ⟨NX, 6, none⟩ (.int .i64 pr)).setCell ⟨NX, 7, none⟩ (.int .i64 sc)).setCell ⟨NX, 8, none⟩ (.bool sy)) from below_putE (o := 0) HBX.out hNX ⟨⟨⟨e, l, q, a⟩, en, gr, pr⟩, ⟨sc, sy⟩⟩)
        have hSO : CB (((((((((w4.setCell ⟨NX, 0, none⟩ (.bool e)).setCell ⟨NX, 1, none⟩ (.bool l)).setCell ⟨NX, 2, none⟩ (.bool q)).setCell ⟨NX, 3, none⟩ (.bool a)).setCell ⟨NX, 4, none⟩ (.bool en)).setCell ⟨NX, 5, none⟩ (.int .i64 gr)).setCell ⟨NX, 6, none⟩ (.int .i64 pr)).setCell ⟨NX, 7, none⟩ (.int .i64 sc)).setCell ⟨NX, 8, none⟩ (.bool sy)) (b 0) 83 #[.bool D.g0, .bool D.g1, .slice (some ⟨b 1, 0, none⟩) D.cs.length (c 0), .pointer (some ⟨b 2, 0, none⟩)] ∧ CB (((((((((w4.setCell ⟨NX, 0, none⟩ (.bool e)).setCell ⟨NX, 1, none⟩ (.bool l)).setCell ⟨NX, 2, none⟩ (.bool q)).setCell ⟨NX, 3, none⟩ (.bool a)).setCell ⟨NX, 4, none⟩ (.bool en)).setCell ⟨NX, 5, none⟩ (.int .i64 gr)).setCell ⟨NX, 6, none⟩ (.int .i64 pr)).setCell ⟨NX, 7, none⟩ (.int .i64 sc)).setCell ⟨NX, 8, none⟩ (.bool sy)) N 70 #[.int .i64 13, .int .i64 f, .int .i64 n] := ⟨hHeld.1.otherE (by have := HD1.out.lt; omega), hHeld.2.otherE hNN⟩
        obtain ⟨W5, hW5⟩ : ∃ W5, (((((((((w4.setCell ⟨NX, 0, none⟩ (.bool e)).setCell ⟨NX, 1, none⟩ (.bool l)).setCell ⟨NX, 2, none⟩ (.bool q)).setCell ⟨NX, 3, none⟩ (.bool a)).setCell ⟨NX, 4, none⟩ (.bool en)).setCell ⟨NX, 5, none⟩ (.int .i64 gr)).setCell ⟨NX, 6, none⟩ (.int .i64 pr)).setCell ⟨NX, 7, none⟩ (.int .i64 sc)).setCell ⟨NX, 8, none⟩ (.bool sy)) = W5 := ⟨_, rfl⟩
        rw [hW5] at HE5 HB5 hSO ⊢
        clear hW5
        have y7 := HE5.out.cell 7
        have y8 := HE5.out.cell 8
        refine hKK.out _ _ hSO (fun hHeld => ?_)
        clear hKK KK
        (try simp only [Act.put, List.getElem_toArray, List.getElem_cons_zero, List.getElem_cons_succ, List.setIfInBounds_toArray, List.set_cons_zero, List.set_cons_succ])
        refine wpAnyF_take (i := 12) (v := ?_) (by kernel_rfl) (by kernel_rfl) rfl (by kernel_rfl) (by kernel_rfl) (by kernel_rfl) (fun _ _ _ h => h) (Or.inl ⟨by rfl, ?_⟩) (by assumption) ?_
        rotate_left
        · intro w' hSw; (try dsimp only at hSw); have k3 := hSw.1.cell 3; have p0 := hSw.2.cell 0; have p1 := hSw.2.cell 1; have p2 := hSw.2.cell 2; go_simp; (try with_reducible rfl)
        (try simp only [Act.put, List.getElem_toArray, List.getElem_cons_zero, List.getElem_cons_succ, List.setIfInBounds_toArray, List.set_cons_zero, List.set_cons_succ])
        refine wpAnyF_done (by kernel_rfl) ?_ _
        refine NoPanic.normal ?_
        go_wp2_with (go_at_call 79; ((with_reducible refine (HNU.out _).mono ?_); rintro e' w6 ⟨rfl, hb⟩; have HB6 := hi (HB5.out.trans (hb.mono HB5.out.size)); clear hb))
        go_ret2
        exact ⟨rfl, HB6.out⟩
    rw [if_neg h13]
    have q3 : (r == 13) = false := by simpa using h13
    have HRD := hi (fun W (q : Below w.heap.size w W) => read_any (h.below q).shr ok.fitS ok.fsh hp)
    dsimp only at HRD
    obtain ⟨V, hV⟩ : ∃ V, readV ⟨r, f, n⟩ n.toNat 32 D.sh = V := ⟨_, rfl⟩
    rw [hV] at HRD ⊢
    clear h ok hf hp hV h1 h2 h13 HP HPL HOK
    dsimp only [Pl.v] at HRD
    go_enter Tryz.func34, Tryz.ntmps34
    go_wp2_with (first
      | (go_at_call 40; ((with_reducible refine HF.out.mono ?_); rintro e' w1 ⟨rfl, hb⟩; have HB := hi hb; clear hb)))
    have HPB := hi (CB.new w1 70 #[.int .i64 r, .int .i64 f, .int .i64 n])
    have HBA := hi (HB.out.alloc HB.out.size (.cells #[.int .i64 r, .int .i64 f, .int .i64 n] 70))
    obtain ⟨W1, hW1⟩ : ∃ W1, w1.alloc (.cells #[.int .i64 r, .int .i64 f, .int .i64 n] 70) = W1 := ⟨_, rfl⟩
    obtain ⟨N, hN⟩ : ∃ N, w1.heap.size = N := ⟨_, rfl⟩
    rw [hW1] at HPB HBA ⊢
    rw [hN] at HPB ⊢
    have HB1 := hi (show Below w.heap.size w W1.drew from Below.drewN (m := 1) HBA.out)
    have HD1 := hi (HD.out.below HB1.out).box
    clear hW1 HD hN
    refine wp_region_noPanic ?_
    refine wp_region_last_drew (S := (fun W' => CB W' (b 0) 83 #[.bool D.g0, .bool D.g1, .slice (some ⟨b 1, 0, none⟩) D.cs.length (c 0), .pointer (some ⟨b 2, 0, none⟩)] ∧ CB W' N 70 #[.int .i64 r, .int .i64 f, .int .i64 n])) [] (by kernel_rfl) ⟨HD1.out, HPB.out.drew⟩ (fun hHeld => ?_)
    (try simp only [Array.replicate_succ, Array.replicate_zero, List.push_toArray, List.nil_append, List.cons_append])
    refine wpAnyF_take (i := 0) (v := ?_) (by kernel_rfl) (by kernel_rfl) rfl (by kernel_rfl) (by kernel_rfl) (by kernel_rfl) (fun _ _ _ h => h) (Or.inl ⟨by rfl, ?_⟩) (by assumption) ?_
    rotate_left
    · intro w' hSw; (try dsimp only at hSw); have k3 := hSw.1.cell 3; have p0 := hSw.2.cell 0; have p1 := hSw.2.cell 1; have p2 := hSw.2.cell 2; go_simp; (try with_reducible rfl)
    (try simp only [Act.put, List.getElem_toArray, List.getElem_cons_zero, List.setIfInBounds_toArray, List.set_cons_zero, List.set_cons_succ])
    refine wpAnyF_take (i := 1) (v := ?_) (by kernel_rfl) (by kernel_rfl) rfl (by kernel_rfl) (by kernel_rfl) (by kernel_rfl) (fun _ _ _ h => h) (Or.inl ⟨by rfl, ?_⟩) (by assumption) ?_
    rotate_left
    · intro w' hSw; (try dsimp only at hSw); have k3 := hSw.1.cell 3; have p0 := hSw.2.cell 0; have p1 := hSw.2.cell 1; have p2 := hSw.2.cell 2; go_simp; (try with_reducible rfl)
    (try simp only [Act.put, List.getElem_toArray, List.getElem_cons_zero, List.getElem_cons_succ, List.setIfInBounds_toArray, List.set_cons_zero, List.set_cons_succ])
    refine wpAnyF_take (i := 2) (v := ?_) (by kernel_rfl) (by kernel_rfl) rfl (by kernel_rfl) (by kernel_rfl) (by kernel_rfl) (fun _ _ _ h => h) (Or.inl ⟨by rfl, ?_⟩) (by assumption) ?_
    rotate_left
    · intro w' hSw; (try dsimp only at hSw); have k3 := hSw.1.cell 3; have p0 := hSw.2.cell 0; have p1 := hSw.2.cell 1; have p2 := hSw.2.cell 2; go_simp; (try with_reducible rfl)
    (try simp only [Act.put, List.getElem_toArray, List.getElem_cons_zero, List.getElem_cons_succ, List.setIfInBounds_toArray, List.set_cons_zero, List.set_cons_succ])
    refine wpAnyF_take (i := 3) (v := ?_) (by kernel_rfl) (by kernel_rfl) rfl (by kernel_rfl) (by kernel_rfl) (by kernel_rfl) (fun _ _ _ h => h) (Or.inl ⟨by rfl, ?_⟩) (by assumption) ?_
    rotate_left
    · intro w' hSw; (try dsimp only at hSw); have k3 := hSw.1.cell 3; have p0 := hSw.2.cell 0; have p1 := hSw.2.cell 1; have p2 := hSw.2.cell 2; go_simp; (try with_reducible rfl)
    (try simp only [Act.put, List.getElem_toArray, List.getElem_cons_zero, List.getElem_cons_succ, List.setIfInBounds_toArray, List.set_cons_zero, List.set_cons_succ])
    refine wpAnyF_take (i := 4) (v := ?_) (by kernel_rfl) (by kernel_rfl) rfl (by kernel_rfl) (by kernel_rfl) (by kernel_rfl) (fun _ _ _ h => h) (Or.inl ⟨by rfl, ?_⟩) (by assumption) ?_
    rotate_left
    · intro w' hSw; (try dsimp only at hSw); have k3 := hSw.1.cell 3; have p0 := hSw.2.cell 0; have p1 := hSw.2.cell 1; have p2 := hSw.2.cell 2; go_simp; (try with_reducible rfl)
    (try simp only [Act.put, List.getElem_toArray, List.getElem_cons_zero, List.getElem_cons_succ, List.setIfInBounds_toArray, List.set_cons_zero, List.set_cons_succ])
    refine wpAnyF_ready (rs := [5]) (by kernel_rfl) (by simp) ?_
    refine AllReadyF.cons rfl (fun KK hKK => ?_) AllReadyF.nil
    go_simp
    ((with_reducible refine (HRD.out _ HB1.out).mono ?_); rintro e' w4 ⟨rfl, hb⟩; have HB4 := hi (HB1.out.trans (hb.mono HB1.out.size)); have hSS := And.intro (hHeld.1.below hb) (hHeld.2.below hb); clear hb)
    (try go_simp)
    refine hKK.out _ _ hSS (fun hHeld => ?_)
    clear hKK KK
    (try simp only [Act.put, List.getElem_toArray, List.getElem_cons_zero, List.getElem_cons_succ, List.setIfInBounds_toArray, List.set_cons_zero, List.set_cons_succ])
    refine wpAnyF_take (i := 6) (v := ?_) (by kernel_rfl) (by kernel_rfl) rfl (by kernel_rfl) (by kernel_rfl) (by kernel_rfl) (fun _ _ _ h => h) (Or.inl ⟨by rfl, ?_⟩) (by assumption) ?_
    rotate_left
    · intro w' hSw; (try dsimp only at hSw); have k3 := hSw.1.cell 3; have p0 := hSw.2.cell 0; have p1 := hSw.2.cell 1; have p2 := hSw.2.cell 2; go_simp; (try with_reducible rfl)
    (try simp only [Act.put, List.getElem_toArray, List.getElem_cons_zero, List.getElem_cons_succ, List.setIfInBounds_toArray, List.set_cons_zero, List.set_cons_succ])
    refine wpAnyF_take (i := 7) (v := ?_) (by kernel_rfl) (by kernel_rfl) rfl (by kernel_rfl) (by kernel_rfl) (by kernel_rfl) (fun _ _ _ h => h) (Or.inl ⟨by rfl, ?_⟩) (by assumption) ?_
    rotate_left
    · intro w' hSw; (try dsimp only at hSw); have k3 := hSw.1.cell 3; have p0 := hSw.2.cell 0; have p1 := hSw.2.cell 1; have p2 := hSw.2.cell 2; go_simp; (try with_reducible rfl)
    (try simp only [Act.put, List.getElem_toArray, List.getElem_cons_zero, List.getElem_cons_succ, List.setIfInBounds_toArray, List.set_cons_zero, List.set_cons_succ])
    refine wpAnyF_done (by kernel_rfl) ?_ _
    refine NoPanic.normal ?_
    go_wp2
    go_ret2
    exact ⟨rfl, HB4.out⟩
  · rw [if_neg he]
    have he2 : (er != 0) = true := by simpa using he
    clear h ok hf hp HP HPL HOK HD he
    go_enter Tryz.func34, Tryz.ntmps34
    go_wp2_with (first
      | (go_at_call 40; ((with_reducible refine HF.out.mono ?_); rintro e w1 ⟨rfl, hb⟩; have HB := hi hb; clear hb)))
    go_ret2
    exact ⟨rfl, HB.out.alloc HB.out.size _⟩
theorem read_dist (h : DiAt w lo hi' b c D) (ok : D.Ok) {off wd : Int} (hoff : Int64 off) :
    Calls Tryz.prog 34 #[.pointer (some ⟨b 0, 0, none⟩), .int .i64 off, .int .i64 wd] w fun e w' => e = .returned (.tuple #[.int .u64 (readDV D off wd).1, .int .i64 (readDV D off wd).2]) ∧ Below w.heap.size w w' := by
  obtain ⟨p, er, hf⟩ : ∃ p er, fdV off wd = (p, er) := ⟨_, _, rfl⟩
  refine (read_go h ok hoff p er hf).mono ?_
  rintro e w' ⟨rfl, hb⟩
  refine ⟨?_, hb⟩
  unfold readDV
  rw [hf]
  by_cases he : er = 0
  · simp [he]
  · simp [he]
end
end Go.Proofs.YtggeakkofcaklaaGreat
