import Derived.Test.YtieedhdmpabfkaaGreatMg07
import Derived.Test.YtieedhdmpabfkaaGreatMg14
import Derived.Test.YtieedhdmpabfkaaGreatMg02
import Derived.Test.YtieedhdmpabfkaaGreatMg16
set_option linter.unusedSimpArgs false
namespace Go.Proofs.YtieedhdmpabfkaaGreat
open Go.ChangeShapes Go.WideShapes Go.ChangeAt Go.RowKit Go.Shelf
set_option linter.unusedVariables false
attribute [local go_sem] Oper.semAt_some
theorem zip_two (i j : Nat) (u v : Value) (t : Array Value) : Array.foldl (fun t x => t.setIfInBounds x.fst x.snd) t ((#[i, j] : Array Nat).zip #[u, v]) = (t.setIfInBounds i u).setIfInBounds j v := by simp
set_option maxRecDepth 100000 in
set_option maxHeartbeats 2000000 in
theorem count_any {lo hi' k : Nat} {fv : Value} {xs : List It} {w : World} (h : Iter lo hi' k fv xs w) (hl : xs.length ≤ 20000) :
  Calls Tryz.prog 117 #[fv] w fun e w' => e = .returned (.int .i64 xs.length) ∧ Below w.heap.size w w' := by
 obtain ⟨w3, hw3⟩ : ∃ w3, w.alloc (.cells #[.int .i64 0] 3) = w3 := ⟨_, rfl⟩
 have hz3 : w3.heap.size = w.heap.size + 1 := by rw [← hw3]; simp
 have hB3 : Below w.heap.size w w3 := by rw [← hw3]; exact bal w _
 have hC3 : CB w3 w.heap.size 3 #[.int .i64 0] := by rw [← hw3]; exact CB.new w _ _
 have hhi := h.hi_le
 obtain ⟨gf, lb, rfl, eg, hh3, hq⟩ := h.below hB3
 have hst := hq w3 (Nat.le_refl _) (fun _ _ _ => rfl)
 have HB3 := hi hB3
 have HC3 := hi hC3
 clear hq h hB3 hC3
 subst hw3
 refine (callsIn_wide (n := 6)).1 ?_
 refine callsIn_of_wp_marks Tryz.func117 rfl trivial ?_ rfl
 simp only [Tryz.ntmps117, List.size_toArray, List.length_cons, List.length_nil, Nat.reduceAdd, Nat.reduceSub, Array.replicate_succ, Array.replicate_zero, List.push_toArray, List.append_toArray, List.nil_append, List.cons_append]
 gi_wp2
 obtain ⟨w3, hw3⟩ : ∃ w3, w.alloc (.cells #[.int .i64 0] 3) = w3 := ⟨_, rfl⟩
 rw [hw3] at hz3 hst hh3 HB3 HC3 ⊢
 clear hw3
 refine range_win (n := 6) (by omega) (gf := gf) (lb := lb) rfl eg
  hst (fun a b => KpX.trans a b) (fun V l o o' h1 h2 h3 h4 => kpx_put (by omega) (by omega)) (Below.refl _ _) (fun _ => rfl)
  (fun pre V => CB V w.heap.size 3 #[.int .i64 pre.length] ∧ Below w.heap.size w V)
  (fun cd pre V => False)
  (AbL.of (m := 2 + k) (fun s A A' row hs hg hr => ⟨hs.1.kept hg (fun e => by have := hr _ e.symm; omega), hs.2.grown hg hs.2.size (fun r e => by have := hr _ e; omega)⟩) rfl)
  (fun _ _ _ _ _ hs _ _ => hs)
  ⟨HC3.out, HB3.out⟩
  (fun x a' V => a' = { tmps := #[.func (.func gf) #[] lb, undef, .int .i64 0, .pointer (some ⟨w.heap.size, 0, none⟩), .func (.func gf) #[] lb, .int .i64 x.1, x.2.v, undef, undef, undef], defers := [] })
  (fun x a' => AbL.pure _ _ _)
  ?assign ?body ?done ?stop
 case assign =>
  rintro l' pre x V K h hsz hK
  gi_wp2
  exact hK _ _ (KW.refl _ _) (KpX.refl _ _ _ _ _) h (by rw [zip_two]; rfl)
 case body =>
  rintro l' pre x a' V hsz ⟨hC, hB⟩ rfl hpx
  have hlt : pre.length + 1 ≤ xs.length := by have := hpx.length_le; simpa using this
  have c0 := hC.cell 0
  have f0 := hC.frozen 0
  have HC := hi hC
  obtain ⟨m, hm⟩ : ∃ m, pre.length = m := ⟨_, rfl⟩
  rw [hm] at c0 hlt
  have HM := hi hm
  have hmb : m + 1 ≤ 20000 := by omega
  have HBX := hi hB
  clear hC hpx hm hB
  gi_wp2
  refine ⟨KW.set _ _ _, kpx_set (by omega) (by omega), ?_, below_set HBX.out (Nat.le_refl _) _⟩
  have h2 := HC.out.set 0 (.int .i64 ((m : Int) + 1))
  rw [List.length_append, HM.out]
  exact h2
 case done =>
  rintro ys V rfl ⟨hC, hB⟩ hK _
  have c0 := hC.cell 0
  gi_wp2
  refine ⟨by simp, .inl ⟨_, _, rfl, run_takeDeferred hK, ?_⟩⟩
  exact ⟨_, results_tmp rfl _ _ _, rfl, hB.trans ⟨rfl, rfl, rfl, by simp, fun i hi' => World.putObj_heap_other (by omega)⟩⟩
 case stop =>
  rintro c pre V _ h _ _
  exact h.elim
end Go.Proofs.YtieedhdmpabfkaaGreat
namespace Go.Proofs.YtieedhdmpabfkaaGreat
open Go.ChangeShapes Go.WideShapes Go.ChangeAt Go.RowKit Go.Shelf
set_option linter.unusedVariables false
attribute [local go_sem] Oper.semAt_some
section
variable {w : World} {lo hi' : Nat} {b c : Nat → Nat} {D : Ds}
def onB (v k : Nat) : Bool := decide (v / 2 ^ k % 2 = 1)
set_option maxRecDepth 100000 in
set_option maxHeartbeats 2000000 in
theorem enable_any (h : DiAt w lo hi' b c D) (v : Nat) (hv : v < 18446744073709551616) :
  Calls Tryz.prog 41 #[.pointer (some ⟨b 0, 0, none⟩), .int .u64 v] w fun e w' => e = .returned (.tuple #[]) ∧ DiAf w lo hi' b c (D.setOn (onB v 0) (onB v 1)) w' := by
 have HO0 := hi (show ∀ W, Calls Tryz.prog 75 #[.int .u64 v, .int .i64 0] W fun e w' => e = .returned (.bool (onB v 0)) ∧ W = w' from fun W => isOne_any v 0 hv (by decide) W)
 have HO1 := hi (show ∀ W, Calls Tryz.prog 75 #[.int .u64 v, .int .i64 1] W fun e w' => e = .returned (.bool (onB v 1)) ∧ W = w' from fun W => isOne_any v 1 hv (by decide) W)
 have H0 := hi (DiAf.of h (Below.refl _ _))
 obtain ⟨a0, ha0⟩ : ∃ a0, onB v 0 = a0 := ⟨_, rfl⟩
 obtain ⟨a1, ha1⟩ : ∃ a1, onB v 1 = a1 := ⟨_, rfl⟩
 rw [ha0] at HO0 ⊢
 rw [ha1] at HO1 ⊢
 clear h ha0 ha1
 go_enter Tryz.func41, Tryz.ntmps41
 go_wp2
 go_loopw [5] (fun i wr => (i = .int .i64 0 ∧ Hi (DiAf w lo hi' b c D wr)) ∨ (i = .int .i64 1 ∧ Hi (DiAf w lo hi' b c (D.setOn a0 D.g1) wr)) ∨ (i = .int .i64 2 ∧ Hi (DiAf w lo hi' b c (D.setOn a0 a1) wr))) (fun i _ => 2 - (intOf i).toNat)
 case atStart => exact .inl ⟨rfl, H0⟩
 case round =>
  clear H0
  rcases hrel with ⟨rfl, HX⟩ | ⟨rfl, HX⟩ | ⟨rfl, HX⟩
  ·go_wp2
   have HD := hi HX.out.di.drew
   have HBX := hi HD.out.box
   have HKD := hi HX.out.kept.drew
   clear HX
   refine wp_region_noPanic ?_
   refine wp_region_last_drew (S := (fun _ => True)) [] (by kernel_rfl) trivial (fun hHeld => ?_)
   (try simp only [r1, r2, r3, r4, r5])
   obtain ⟨Wd, hWd⟩ : ∃ Wd, wr.drew = Wd := ⟨_, rfl⟩
   rw [hWd] at HD HBX HKD ⊢
   clear hWd
   refine tk 0 (v := ?_) rfl (Or.inl ⟨by rfl, ?_⟩) ?_
   rotate_left
   ·intro w' hSw; (try dsimp only at hSw); go_simp; (try with_reducible rfl)
   (try simp only [Act.put, n1, n2, n4, n5, n6])
   refine tk 1 (v := ?_) rfl (Or.inl ⟨by rfl, ?_⟩) ?_
   rotate_left
   ·intro w' hSw; (try dsimp only at hSw); go_simp; (try with_reducible rfl)
   (try simp only [Act.put, n1, n2, n3, n4, n5, n6])
   refine tk 2 (v := ?_) rfl (Or.inl ⟨by rfl, ?_⟩) ?_
   rotate_left
   ·intro w' hSw; (try dsimp only at hSw); go_simp; (try with_reducible rfl)
   (try simp only [Act.put, n1, n2, n3, n4, n5, n6])
   refine tk 3 (v := ?_) rfl (Or.inl ⟨by rfl, ?_⟩) ?_
   rotate_left
   ·intro w' hSw; (try dsimp only at hSw); go_simp; (try with_reducible rfl)
   (try simp only [Act.put, n1, n2, n3, n4, n5, n6])
   refine tk 5 (v := ?_) rfl (Or.inl ⟨by rfl, ?_⟩) ?_
   rotate_left
   ·intro w' hSw; (try dsimp only at hSw); go_simp; (try with_reducible rfl)
   (try simp only [Act.put, n1, n2, n3, n4, n5, n6])
   refine tk 6 (v := ?_) rfl (Or.inl ⟨by rfl, ?_⟩) ?_
   rotate_left
   ·intro w' hSw; (try dsimp only at hSw); go_simp; (try with_reducible rfl)
   (try simp only [Act.put, n1, n2, n3, n4, n5, n6])
   refine wpAnyF_ready (rs := [4]) (by kernel_rfl) (by simp) ?_
   refine AllReadyF.cons rfl (fun KK hKK => ?_) AllReadyF.nil
   go_simp
   ((with_reducible refine (HO0.out _).mono ?_); rintro e' w1 ⟨rfl, rfl⟩)
   (try go_simp)
   refine hKK.out _ _ trivial (fun hHeld => ?_)
   clear hKK KK
   (try simp only [Act.put, n1, n2, n3, n4, n5, n6])
   refine tk 7 (v := ?_) rfl (Or.inl ⟨by rfl, ?_⟩) ?_
   rotate_left
   ·intro w' hSw; (try dsimp only at hSw); go_simp; (try with_reducible rfl)
   (try simp only [Act.put, n1, n2, n3, n4, n5, n6])
   refine wpAnyF_ready (rs := [8]) (by kernel_rfl) (by simp) ?_
   refine AllReadyF.cons rfl (fun KK hKK => ?_) AllReadyF.nil
   go_simp
   have fz := HBX.out.frozen 0
   have fc := HBX.out.cell 0
   go_simp
   refine hKK.out _ _ trivial (fun hHeld => ?_)
   clear hKK KK
   (try simp only [Act.put, n1, n2, n3, n4, n5, n6])
   refine wpAnyF_done (by kernel_rfl) ?_ _
   refine NoPanic.normal ?_
   go_wp2
   go_roundw
   case rel =>
    have hS := HD.out.setG a0 D.g1 0 (.bool a0) rfl
    exact .inr (.inl ⟨by go_num, hi ⟨hS.1, HKD.out.trans hS.2⟩⟩)
   case measure => simp [intOf]
  ·go_wp2
   have HD := hi HX.out.di.drew
   have HBX := hi HD.out.box
   have HKD := hi HX.out.kept.drew
   clear HX
   refine wp_region_noPanic ?_
   refine wp_region_last_drew (S := (fun _ => True)) [] (by kernel_rfl) trivial (fun hHeld => ?_)
   (try simp only [r1, r2, r3, r4, r5])
   obtain ⟨Wd, hWd⟩ : ∃ Wd, wr.drew = Wd := ⟨_, rfl⟩
   rw [hWd] at HD HBX HKD ⊢
   clear hWd
   refine tk 0 (v := ?_) rfl (Or.inl ⟨by rfl, ?_⟩) ?_
   rotate_left
   ·intro w' hSw; (try dsimp only at hSw); go_simp; (try with_reducible rfl)
   (try simp only [Act.put, n1, n2, n4, n5, n6])
   refine tk 1 (v := ?_) rfl (Or.inl ⟨by rfl, ?_⟩) ?_
   rotate_left
   ·intro w' hSw; (try dsimp only at hSw); go_simp; (try with_reducible rfl)
   (try simp only [Act.put, n1, n2, n3, n4, n5, n6])
   refine tk 2 (v := ?_) rfl (Or.inl ⟨by rfl, ?_⟩) ?_
   rotate_left
   ·intro w' hSw; (try dsimp only at hSw); go_simp; (try with_reducible rfl)
   (try simp only [Act.put, n1, n2, n3, n4, n5, n6])
   refine tk 3 (v := ?_) rfl (Or.inl ⟨by rfl, ?_⟩) ?_
   rotate_left
   ·intro w' hSw; (try dsimp only at hSw); go_simp; (try with_reducible rfl)
   (try simp only [Act.put, n1, n2, n3, n4, n5, n6])
   refine tk 5 (v := ?_) rfl (Or.inl ⟨by rfl, ?_⟩) ?_
   rotate_left
   ·intro w' hSw; (try dsimp only at hSw); go_simp; (try with_reducible rfl)
   (try simp only [Act.put, n1, n2, n3, n4, n5, n6])
   refine tk 6 (v := ?_) rfl (Or.inl ⟨by rfl, ?_⟩) ?_
   rotate_left
   ·intro w' hSw; (try dsimp only at hSw); go_simp; (try with_reducible rfl)
   (try simp only [Act.put, n1, n2, n3, n4, n5, n6])
   refine wpAnyF_ready (rs := [4]) (by kernel_rfl) (by simp) ?_
   refine AllReadyF.cons rfl (fun KK hKK => ?_) AllReadyF.nil
   go_simp
   ((with_reducible refine (HO1.out _).mono ?_); rintro e' w1 ⟨rfl, rfl⟩)
   (try go_simp)
   refine hKK.out _ _ trivial (fun hHeld => ?_)
   clear hKK KK
   (try simp only [Act.put, n1, n2, n3, n4, n5, n6])
   refine tk 7 (v := ?_) rfl (Or.inl ⟨by rfl, ?_⟩) ?_
   rotate_left
   ·intro w' hSw; (try dsimp only at hSw); go_simp; (try with_reducible rfl)
   (try simp only [Act.put, n1, n2, n3, n4, n5, n6])
   refine wpAnyF_ready (rs := [8]) (by kernel_rfl) (by simp) ?_
   refine AllReadyF.cons rfl (fun KK hKK => ?_) AllReadyF.nil
   go_simp
   have fz := HBX.out.frozen 1
   have fc := HBX.out.cell 1
   go_simp
   refine hKK.out _ _ trivial (fun hHeld => ?_)
   clear hKK KK
   (try simp only [Act.put, n1, n2, n3, n4, n5, n6])
   refine wpAnyF_done (by kernel_rfl) ?_ _
   refine NoPanic.normal ?_
   go_wp2
   go_roundw
   case rel =>
    have hS := HD.out.setG a0 a1 1 (.bool a1) rfl
    exact .inr (.inr ⟨by go_num, hi ⟨hS.1, HKD.out.trans hS.2⟩⟩)
   case measure => simp [intOf]
  ·go_wp2
   go_end0
   exact ⟨rfl, HX.out⟩
def directV (D : Ds) (id : Int) (s : Rt) : Ds := if hasB 32 D.sh.length id then D.setSh (D.sh.set (id - 32).toNat ((nthE D.sh (id - 32).toNat).route s)) else D
theorem directV_ok (ok : D.Ok) (id : Int) {s : Rt} (h0 : 0 ≤ s.c) (h1 : s.c ≤ 255) : (directV D id s).Ok := by
 unfold directV
 split
 ·refine ok.setSh List.length_set (fine_set ok.fsh (fine_nth _ ok.fsh _)) (fun j hj => ?_)
  unfold nthE
  by_cases e : (id - 32).toNat = j
  ·rw [e, List.getElem?_set_self hj]
   exact ⟨h0, h1⟩
  ·rw [List.getElem?_set_ne e]
   exact ok.rt j hj
 ·exact ok
set_option maxRecDepth 100000 in
set_option maxHeartbeats 2000000 in
theorem direct_any (h : DiAt w lo hi' b c D) (ok : D.Ok) {id : Int} (s : Rt) (hid : Int64 id) :
  Calls Tryz.prog 42 #[.pointer (some ⟨b 0, 0, none⟩), .int .i64 id, s.v] w fun e w' => e = .returned (.tuple #[]) ∧ DiAf w lo hi' b c (directV D id s) w' := by
 have hbal := bal w (.cells #[.int .i64 s.c, .bool s.y] 89)
 have HD := hi (get_any (id := id) (h.below hbal).shr ok.fitS hid)
 have c3 := (h.below hbal).box.cell 3
 have c3w := h.box.cell 3
 have hlt := h.box.lt
 unfold directV
 cases hb : hasB 32 D.sh.length id
 ·simp only [Bool.false_eq_true, if_false]
  rw [show getR 32 D.sh id = (En.zero, 90) by simp [getR, hb]] at HD
  have HF := hi (fun W (q : Below w.heap.size w W) => DiAf.of h q)
  clear h ok hb hbal
  obtain ⟨sc, sy⟩ := s
  dsimp only [Rt.v] at HD c3 ⊢
  go_enter Tryz.func42, Tryz.ntmps42
  go_wp2_with (first
   | (go_at_call 68; ((with_reducible refine HD.out.mono ?_); rintro e' w2 ⟨rfl, hb⟩; have HB := hi ((bal w _).trans (hb.mono (bal w _).size)); clear hb)))
  go_end0
  exact ⟨rfl, HF.out _ (HB.out.alloc HB.out.size _)⟩
 ·simp only [if_true]
  obtain ⟨j, rfl, hj, e1⟩ := has_at hb
  rw [e1]
  rw [show getR 32 D.sh (32 + j) = (nthE D.sh j, 0) by rw [getR, if_pos hb, e1]] at HD
  have hfn : Fine (nthE D.sh j).ln := fine_nth _ ok.fsh j
  have HP := hi (fun W (q : Below w.heap.size w W) (y : En) => put_any (id := 32 + j) (x := y) (h.below q).shr ok.fitS hid)
  have HR := hi (show ∀ y : En, y = (nthE D.sh j).route s → putR 32 D.sh (32 + j) y = (D.sh.set j ((nthE D.sh j).route s), 0) from fun y hy => by
   have h1 : Fine y.ln := by rw [hy]; exact hfn
   rw [putR, if_pos hb, if_pos h1.ok, real_fine h1, e1, hy])
  have HN := hi (show b 0 ≠ b 3 from h.inj 0 3 (by omega) (by omega) (by omega))
  have HG := hi (h.rng 3 (by omega))
  have hle := h.le
  have H := hi h
  have HK := hi (bal w (.cells #[.int .i64 s.c, .bool s.y] 89))
  clear h hb hbal e1 hfn hj ok
  obtain ⟨sc, sy⟩ := s
  obtain ⟨y, hy⟩ : ∃ y, nthE D.sh j = y := ⟨_, rfl⟩
  rw [hy] at HD HR ⊢
  clear hy
  obtain ⟨⟨⟨e, l, q, a⟩, en, gr, p⟩, ss⟩ := y
  dsimp only [En.v] at HD
  dsimp only [En.route] at HR ⊢
  have HPP := hi (show ∀ W, Below w.heap.size w W → Calls Tryz.prog 85 #[.pointer (some ⟨b 2, 0, none⟩), .int .i64 (32 + j), (⟨⟨⟨e, l, q, a⟩, en, gr, p⟩, ⟨sc, sy⟩⟩ : En).v] W (fun e' w' => e' = .returned (.int .i64 0) ∧ After W (b 2) (b 3) (c 1) 32 (D.sh.set j ⟨⟨⟨e, l, q, a⟩, en, gr, p⟩, ⟨sc, sy⟩⟩) w') from fun W q' => by have h1 := HP.out W q' ⟨⟨⟨e, l, q, a⟩, en, gr, p⟩, ⟨sc, sy⟩⟩; rwa [HR.out _ rfl] at h1)
  clear HP HR
  dsimp only [En.v] at HPP
  dsimp only [Rt.v] at HD c3 HK ⊢
  go_enter Tryz.func42, Tryz.ntmps42
  go_wp2_with (first
   | (go_at_call 68; ((with_reducible refine HD.out.mono ?_); rintro e' w2 ⟨rfl, hb⟩; have hS := (CB.new w 89 #[.int .i64 sc, .bool sy]).below hb; have hslt := hS.lt; have s0 := hS.cell 0; have s1 := hS.cell 1; have HB := hi (HK.out.trans (hb.mono HK.out.size)); have hz2 := hb.size; clear hb hS)))
  have HEN := hi (CB.new w2 115 (En.ca ⟨⟨⟨e, l, q, a⟩, en, gr, p⟩, ⟨sc, sy⟩⟩))
  have HB3 := hi (HB.out.alloc HB.out.size (.cells (En.ca ⟨⟨⟨e, l, q, a⟩, en, gr, p⟩, ⟨sc, sy⟩⟩) 115))
  dsimp only [En.ca] at HEN HB3
  obtain ⟨W3, hW3⟩ : ∃ W3, w2.alloc (.cells #[.bool e, .bool l, .bool q, .bool a, .bool en, .int .i64 gr, .int .i64 p, .int .i64 sc, .bool sy] 115) = W3 := ⟨_, rfl⟩
  obtain ⟨N, hN⟩ : ∃ N, w2.heap.size = N := ⟨_, rfl⟩
  rw [hW3] at HEN HB3 ⊢
  rw [hN] at HEN ⊢
  have HD3 := hi (H.out.below HB3.out)
  have hNb : b 3 ≠ N := by have := HG.out.2; have := HB.out.size; omega
  have HB3d := hi (show Below w.heap.size w W3.drew from Below.drewN (m := 1) HB3.out)
  clear hW3 hN s0 s1
  refine wp_region_noPanic ?_
  refine wp_region_last_drew (S := (fun W' => CB W' (b 0) 83 #[.bool D.g0, .bool D.g1, .slice (some ⟨b 1, 0, none⟩) D.cs.length (c 0), .pointer (some ⟨b 2, 0, none⟩)] ∧ CB W' N 115 #[.bool e, .bool l, .bool q, .bool a, .bool en, .int .i64 gr, .int .i64 p, .int .i64 sc, .bool sy])) [] (by kernel_rfl) ⟨HD3.out.drew.box, HEN.out.drew⟩ (fun hHeld => ?_)
  (try simp only [r1, r2, r3, r4, r5])
  refine tk 0 (v := ?_) rfl (Or.inl ⟨by rfl, ?_⟩) ?_
  rotate_left
  ·intro w' hSw; (try dsimp only at hSw); have k3 := hSw.1.cell 3; obtain ⟨d0, d1, d2, d3, d4, d5, d6, d7, d8⟩ := CB.ent (x := ⟨⟨⟨e, l, q, a⟩, en, gr, p⟩, ⟨sc, sy⟩⟩) hSw.2; dsimp only at d0 d1 d2 d3 d4 d5 d6 d7 d8; go_simp; (try with_reducible rfl)
  (try simp only [Act.put, n1, n2, n4, n5, n6])
  refine tk 1 (v := ?_) rfl (Or.inl ⟨by rfl, ?_⟩) ?_
  rotate_left
  ·intro w' hSw; (try dsimp only at hSw); have k3 := hSw.1.cell 3; obtain ⟨d0, d1, d2, d3, d4, d5, d6, d7, d8⟩ := CB.ent (x := ⟨⟨⟨e, l, q, a⟩, en, gr, p⟩, ⟨sc, sy⟩⟩) hSw.2; dsimp only at d0 d1 d2 d3 d4 d5 d6 d7 d8; go_simp; (try with_reducible rfl)
  (try simp only [Act.put, n1, n2, n3, n4, n5, n6])
  refine tk 2 (v := ?_) rfl (Or.inl ⟨by rfl, ?_⟩) ?_
  rotate_left
  ·intro w' hSw; (try dsimp only at hSw); have k3 := hSw.1.cell 3; obtain ⟨d0, d1, d2, d3, d4, d5, d6, d7, d8⟩ := CB.ent (x := ⟨⟨⟨e, l, q, a⟩, en, gr, p⟩, ⟨sc, sy⟩⟩) hSw.2; dsimp only at d0 d1 d2 d3 d4 d5 d6 d7 d8; go_simp; (try with_reducible rfl)
  (try simp only [Act.put, n1, n2, n3, n4, n5, n6])
  refine tk 3 (v := ?_) rfl (Or.inl ⟨by rfl, ?_⟩) ?_
  rotate_left
  ·intro w' hSw; (try dsimp only at hSw); have k3 := hSw.1.cell 3; obtain ⟨d0, d1, d2, d3, d4, d5, d6, d7, d8⟩ := CB.ent (x := ⟨⟨⟨e, l, q, a⟩, en, gr, p⟩, ⟨sc, sy⟩⟩) hSw.2; dsimp only at d0 d1 d2 d3 d4 d5 d6 d7 d8; go_simp; (try with_reducible rfl)
  (try simp only [Act.put, n1, n2, n3, n4, n5, n6])
  refine tk 4 (v := ?_) rfl (Or.inl ⟨by rfl, ?_⟩) ?_
  rotate_left
  ·intro w' hSw; (try dsimp only at hSw); have k3 := hSw.1.cell 3; obtain ⟨d0, d1, d2, d3, d4, d5, d6, d7, d8⟩ := CB.ent (x := ⟨⟨⟨e, l, q, a⟩, en, gr, p⟩, ⟨sc, sy⟩⟩) hSw.2; dsimp only at d0 d1 d2 d3 d4 d5 d6 d7 d8; go_simp; (try with_reducible rfl)
  (try simp only [Act.put, n1, n2, n3, n4, n5, n6])
  refine tk 5 (v := ?_) rfl (Or.inl ⟨by rfl, ?_⟩) ?_
  rotate_left
  ·intro w' hSw; (try dsimp only at hSw); have k3 := hSw.1.cell 3; obtain ⟨d0, d1, d2, d3, d4, d5, d6, d7, d8⟩ := CB.ent (x := ⟨⟨⟨e, l, q, a⟩, en, gr, p⟩, ⟨sc, sy⟩⟩) hSw.2; dsimp only at d0 d1 d2 d3 d4 d5 d6 d7 d8; go_simp; (try with_reducible rfl)
  (try simp only [Act.put, n1, n2, n3, n4, n5, n6])
  refine wpAnyF_ready (rs := [6]) (by kernel_rfl) (by simp) ?_
  refine AllReadyF.cons rfl (fun KK hKK => ?_) AllReadyF.nil
  go_simp
  ((with_reducible refine (HPP.out _ HB3d.out).mono ?_); rintro e' w4 ⟨rfl, hA⟩; have hS4 := HD3.out.drew.setShr hA; have HF4 := hi (show DiAf w lo hi' b c (D.setSh (D.sh.set j ⟨⟨⟨e, l, q, a⟩, en, gr, p⟩, ⟨sc, sy⟩⟩)) w4 from ⟨hS4.1, (Kept.of HB3d.out).trans hS4.2⟩); have hSS := And.intro (hHeld.1.keptB hA.kept HN.out) (hHeld.2.keptB hA.kept (Ne.symm hNb)); clear hA hS4)
  (try go_simp)
  refine hKK.out _ _ hSS (fun hHeld => ?_)
  clear hKK KK
  (try simp only [Act.put, n1, n2, n3, n4, n5, n6])
  refine wpAnyF_done (by kernel_rfl) ?_ _
  refine NoPanic.normal ?_
  go_wp2
  go_end0
  exact ⟨rfl, HF4.out⟩
end
end Go.Proofs.YtieedhdmpabfkaaGreat
