import Derived.Test.YtieedhdmpabfkaaGreatMg02
import Derived.Test.YtieedhdmpabfkaaGreatMg27
import Derived.Test.YtieedhdmpabfkaaGreatMg17
import Derived.Test.YtieedhdmpabfkaaGreatMg26
set_option linter.unusedSimpArgs false
namespace Go.Proofs.YtieedhdmpabfkaaGreat
open Go.ChangeShapes Go.WideShapes Go.ChangeAt Go.RowKit Go.Shelf
set_option linter.unusedVariables false
attribute [local go_sem] Oper.semAt_some
def IterS {α : Type} (enc : α → Array Value) (R : Nat → Prop) (fv : Value) (xs : List α) (W : World) : Prop :=
 ∃ (g : Nat) (lb : Array Value), fv = .func (.func g) #[] lb ∧ (∀ args w, (callFunc g args).run Tryz.prog w = .ok (.enter g args) w) ∧ (∀ i, R i → i < W.heap.size) ∧
  ∀ W', W.heap.size ≤ W'.heap.size → (∀ i, R i → W'.heap[i]? = W.heap[i]?) → SeqS Tryz.prog g lb enc R (fun ys => ys = xs) (fun pre => pre <+: xs) (fun pre x => pre ++ [x] <+: xs) W'
section
variable {α : Type} {enc : α → Array Value} {R : Nat → Prop} {fv : Value} {xs : List α} {W W' : World}
theorem IterS.lt (h : IterS enc R fv xs W) : ∀ i, R i → i < W.heap.size := by obtain ⟨_, _, _, _, hl, _⟩ := h; exact hl
theorem IterS.heap (h : IterS enc R fv xs W) (hs : W.heap.size ≤ W'.heap.size) (hk : ∀ i, R i → W'.heap[i]? = W.heap[i]?) : IterS enc R fv xs W' := by
 obtain ⟨g, lb, e, eg, hl, hq⟩ := h
 exact ⟨g, lb, e, eg, fun i r => Nat.lt_of_lt_of_le (hl i r) hs, fun W2 h2 h3 => hq W2 (Nat.le_trans hs h2) (fun i r => (h3 i r).trans (hk i r))⟩
theorem IterS.below (h : IterS enc R fv xs W) (k : Below W.heap.size W W') : IterS enc R fv xs W' := h.heap k.size (fun i r => k.block i (h.lt i r))
theorem IterS.kept (h : IterS enc R fv xs W) {bs : Nat → Prop} (k : Kept bs W W') (hn : ∀ i, bs i → ¬ R i) : IterS enc R fv xs W' := h.heap k.size (fun i r => k.block i (h.lt i r) (fun x => hn i x r))
end
abbrev snR (lo hi p q : Nat) (i : Nat) : Prop := InR lo hi i ∨ i = p ∨ i = q
structure SnAt (W : World) (p q lo hi : Nat) (b c : Nat → Nat) (D : Ds) (k : Int) : Prop where
 di : DiAt W lo hi b c D
 bp : CB W p 24 #[.pointer (some ⟨b 0, 0, none⟩)]
 bq : CB W q 3 #[.int .i64 k]
section
variable {W W' : World} {p q lo hi : Nat} {b c : Nat → Nat} {D : Ds} {k : Int}
theorem SnAt.heap (h : SnAt W p q lo hi b c D k) (hs : W.heap.size ≤ W'.heap.size) (hk : ∀ i, snR lo hi p q i → W'.heap[i]? = W.heap[i]?) : SnAt W' p q lo hi b c D k :=
 ⟨h.di.same hs (fun i a b => hk i (.inl ⟨a, b⟩)), h.bp.heap (hk p (.inr (.inl rfl))), h.bq.heap (hk q (.inr (.inr rfl)))⟩
theorem SnAt.lt (h : SnAt W p q lo hi b c D k) : ∀ i, snR lo hi p q i → i < W.heap.size := fun i r => by
 rcases r with ⟨_, r⟩ | rfl | rfl
 ·exact Nat.lt_of_lt_of_le r h.di.le
 ·exact h.bp.lt
 ·exact h.bq.lt
theorem SnAt.below (h : SnAt W p q lo hi b c D k) (j : Below W.heap.size W W') : SnAt W' p q lo hi b c D k := h.heap j.size (fun i r => j.block i (h.lt i r))
theorem SnAt.drew (h : SnAt W p q lo hi b c D k) : SnAt W.drew p q lo hi b c D k := h.below (Below.drewN (m := 1) (Below.refl _ _))
end
def toB (D : Ds) (k : Int) (x : It) : Bool := decide (targV D x.2.s = k)
def seenL (D : Ds) (k : Int) : List It := if hasN D.cs.length k then items 0 (D.nth k.toNat).es ++ (items 32 D.sh).filter (toB D k) else []
theorem filter_yes {p : It → Bool} {x : It} (pre : List It) (h : p x = true) : (pre ++ [x]).filter p = pre.filter p ++ [x] := by simp [h]
theorem filter_no {p : It → Bool} {x : It} (pre : List It) (h : p x = false) : (pre ++ [x]).filter p = pre.filter p := by simp [h]
theorem filter_pre {p : It → Bool} {pre xs : List It} (h : pre <+: xs) : pre.filter p <+: xs.filter p := by
 obtain ⟨r, rfl⟩ := h
 rw [List.filter_append]
 exact List.prefix_append _ _
def exF (F : Nat → Prop) (a n : Nat) (i : Nat) : Prop := F i ∨ (a ≤ i ∧ i < n)
theorem kept_grown {bs : Nat → Prop} {A A' : World} {row : Option Nat} (hg : A.grownBy A' row) (hr : ∀ r, row = some r → bs r) : Kept bs A A' := ⟨hg.os, hg.tape, hg.output, hg.size, fun k hk hn => hg.block k hk (fun e => hn (hr k e.symm))⟩
theorem kept_put {bs : Nat → Prop} {W : World} {l : Nat} {o : Obj} (h : bs l) : Kept bs W (W.putObj l o) := ⟨rfl, rfl, rfl, by simp, fun i _ hn => World.putObj_heap_other (fun e => hn (e ▸ h))⟩
set_option maxRecDepth 100000 in
set_option maxHeartbeats 8000000 in
theorem seen1_any (lo hi' p q l : Nat) (b c : Nat → Nat) (D : Ds) (k : Int) (ok : D.Ok) (J Jx : List It → (Nat → Prop) → World → Prop) (F : Nat → Prop) (W : World)
  (hA : SnAt W p q lo hi' b c D k) (hJ : FrOk J) (hJx : FrOk Jx) (hF : ∀ i, F i → i < W.heap.size ∧ ¬ snR lo hi' p q i)
  (hY : ∀ (pre : List It) (x : It) (G : Nat → Prop) (W1 : World), J pre G W1 → pre ++ [x] <+: seenL D k → (∀ i, F i → G i) → (∀ i, G i → i < W1.heap.size ∧ ¬ snR lo hi' p q i) → W.heap.size ≤ W1.heap.size → ∀ m, YieldAt Fence.wide m Tryz.prog l (encI x) W1 fun e W' =>
   (e = .returned (.bool true) ∧ J (pre ++ [x]) G W' ∧ KF G (snR lo hi' p q) W1 W') ∨ (e = .returned (.bool false) ∧ Jx (pre ++ [x]) G W' ∧ KF G (snR lo hi' p q) W1 W'))
  (h0 : J [] F W) :
  Calls Tryz.prog 113 #[.func (.yield l) #[] #[], .pointer (some ⟨p, 0, none⟩), .pointer (some ⟨q, 0, none⟩)] W fun e W' => (∃ v, e = .returned v) ∧
   ((∃ xs, xs = seenL D k ∧ ∃ G, (∀ i, F i → G i) ∧ J xs G W') ∨ (∃ pre, pre <+: seenL D k ∧ ∃ G, (∀ i, F i → G i) ∧ Jx pre G W')) := by
 have hlt := hA.lt
 have hB3 : Below W.heap.size W (W.alloc (.cells #[.func (.yield l) #[] #[]] 163)) := bal W _
 have hA3 := hA.below hB3
 have HH := hi (hA3.di.has k)
 unfold seenL at hY ⊢
 cases hk : hasN D.cs.length k
 ·rw [hk] at HH
  have HJ3 := hi (hJ.st _ _ _ _ h0 (Kept.of hB3))
  have z0 := hA3.bp.cell 0
  have z1 := hA3.bq.cell 0
  clear hY hk hA hA3 ok
  refine (callsIn_wide (n := 6)).1 ?_
  refine callsIn_of_wp_marks Tryz.func113 rfl trivial ?_ rfl
  simp only [Tryz.ntmps113, List.size_toArray, List.length_cons, List.length_nil, Nat.reduceAdd, Nat.reduceSub, Array.replicate_succ, Array.replicate_zero, List.push_toArray, List.append_toArray, List.nil_append, List.cons_append]
  refine wpIn_wide.2 ?_
  go_wp2_with (go_at_call 71; ((with_reducible refine HH.out.mono ?_); rintro e w1 ⟨rfl, rfl⟩))
  exact ⟨_, results_none rfl _ _ _, ⟨_, rfl⟩, .inl ⟨F, fun i q => q, HJ3.out⟩⟩
 ·obtain ⟨j, rfl, hj⟩ := hasN_at hk
  rw [hk] at HH
  simp only [hk, if_true, Int.toNat_natCast] at hY ⊢
  have HA1 := hi (fun V (q' : SnAt V p q lo hi' b c D j) => all_it (q'.di.own j hj) (ok.fitO hj))
  have HA2 := hi (fun V (q' : SnAt V p q lo hi' b c D j) => all_it q'.di.shr ok.fitS)
  have HTG := hi (fun V (q' : SnAt V p q lo hi' b c D j) s => target_any q'.di ok s)
  obtain ⟨L1, hL1⟩ : ∃ L1, items 0 (D.nth j).es = L1 := ⟨_, rfl⟩
  obtain ⟨L2, hL2⟩ : ∃ L2, items 32 D.sh = L2 := ⟨_, rfl⟩
  rw [hL1] at HA1
  rw [hL2] at HA2
  rw [hL1, hL2] at hY ⊢
  have HYB := hi (CB.new W 163 #[.func (.yield l) #[] #[]])
  have HN := hi (show (D.cs.length : Nat) = D.cs.length from rfl)
  have HSN := hi hA3
  have HJ := hi hJ
  have HJX := hi hJx
  have HYY := hi hY
  have HF := hi hF
  have HLT := hi hlt
  have HB3 := hi hB3
  have HJ0 := hi h0
  have HJJ := hi hj
  have z0 := hA3.bp.cell 0
  have z1 := hA3.bq.cell 0
  clear hJ hJx hY hF hlt hB3 h0 hA hA3 hL1 hL2 hk ok
  refine (callsIn_wide (n := 6)).1 ?_
  refine callsIn_of_wp_marks Tryz.func113 rfl trivial ?_ rfl
  simp only [Tryz.ntmps113, List.size_toArray, List.length_cons, List.length_nil, Nat.reduceAdd, Nat.reduceSub, Array.replicate_succ, Array.replicate_zero, List.push_toArray, List.append_toArray, List.nil_append, List.cons_append]
  refine wpIn_wide.2 ?_
  go_wp2_with (go_at_call 71; ((with_reducible refine HH.out.mono ?_); rintro e w1 ⟨rfl, rfl⟩))
  clear z0 z1 HH
  have hz3 : (W.alloc (.cells #[.func (.yield l) #[] #[]] 163)).heap.size = W.heap.size + 1 := by simp
  obtain ⟨w3, hw3⟩ : ∃ w3, W.alloc (.cells #[.func (.yield l) #[] #[]] 163) = w3 := ⟨_, rfl⟩
  rw [hw3] at HSN HB3 HYB hz3 ⊢
  clear hw3
  have HSD := hi HSN.out.drew
  have HBD := hi (show Below W.heap.size W w3.drew from Below.drewN (m := 1) HB3.out)
  have HYD := hi HYB.out.drew
  have hzd : w3.drew.heap.size = W.heap.size + 1 := hz3
  refine wp_region_noPanic ?_
  refine wp_region_last_drew (S := (fun W' => SnAt W' p q lo hi' b c D j)) [] (by kernel_rfl) HSD.out (fun hHeld => ?_)
  (try simp only [r1, r2, r3, r4, r5])
  refine tk 0 (v := ?_) rfl (Or.inl ⟨by rfl, ?_⟩) ?_
  rotate_left
  ·intro w' hSw; (try dsimp only at hSw); have k0 := hSw.bp.cell 0; have k1 := hSw.bq.cell 0; have k2 := hSw.di.box.cell 2; have k3 := hSw.di.ptr HJJ.out; go_simp; (try with_reducible rfl)
  (try simp only [Act.put, n1, n2, n4, n5, n6])
  refine tk 1 (v := ?_) rfl (Or.inl ⟨by rfl, ?_⟩) ?_
  rotate_left
  ·intro w' hSw; (try dsimp only at hSw); have k0 := hSw.bp.cell 0; have k1 := hSw.bq.cell 0; have k2 := hSw.di.box.cell 2; have k3 := hSw.di.ptr HJJ.out; go_simp; (try with_reducible rfl)
  (try simp only [Act.put, n1, n2, n3, n4, n5, n6])
  refine tk 2 (v := ?_) rfl (Or.inl ⟨by rfl, ?_⟩) ?_
  rotate_left
  ·intro w' hSw; (try dsimp only at hSw); have k0 := hSw.bp.cell 0; have k1 := hSw.bq.cell 0; have k2 := hSw.di.box.cell 2; have k3 := hSw.di.ptr HJJ.out; go_simp; (try with_reducible rfl)
  (try simp only [Act.put, n1, n2, n3, n4, n5, n6])
  refine tk 3 (v := ?_) rfl (Or.inl ⟨by rfl, ?_⟩) ?_
  rotate_left
  ·intro w' hSw; (try dsimp only at hSw); have k0 := hSw.bp.cell 0; have k1 := hSw.bq.cell 0; have k2 := hSw.di.box.cell 2; have k3 := hSw.di.ptr HJJ.out; go_simp; (try with_reducible rfl)
  (try simp only [Act.put, n1, n2, n3, n4, n5, n6])
  refine tk 4 (v := ?_) rfl (Or.inl ⟨by rfl, ?_⟩) ?_
  rotate_left
  ·intro w' hSw; (try dsimp only at hSw); have k0 := hSw.bp.cell 0; have k1 := hSw.bq.cell 0; have k2 := hSw.di.box.cell 2; have k3 := hSw.di.ptr HJJ.out; go_simp; (try with_reducible rfl)
  (try simp only [Act.put, n1, n2, n3, n4, n5, n6])
  refine tk 5 (v := ?_) rfl (Or.inl ⟨by rfl, ?_⟩) ?_
  rotate_left
  ·intro w' hSw; (try dsimp only at hSw); have k0 := hSw.bp.cell 0; have k1 := hSw.bq.cell 0; have k2 := hSw.di.box.cell 2; have k3 := hSw.di.ptr HJJ.out; go_simp; (try with_reducible rfl)
  (try simp only [Act.put, n1, n2, n3, n4, n5, n6])
  refine tk 6 (v := ?_) rfl (Or.inl ⟨by rfl, ?_⟩) ?_
  rotate_left
  ·intro w' hSw; (try dsimp only at hSw); have k0 := hSw.bp.cell 0; have k1 := hSw.bq.cell 0; have k2 := hSw.di.box.cell 2; have k3 := hSw.di.ptr HJJ.out; go_simp; (try with_reducible rfl)
  (try simp only [Act.put, n1, n2, n3, n4, n5, n6])
  refine tk 7 (v := ?_) rfl (Or.inl ⟨by rfl, ?_⟩) ?_
  rotate_left
  ·intro w' hSw; (try dsimp only at hSw); have k0 := hSw.bp.cell 0; have k1 := hSw.bq.cell 0; have k2 := hSw.di.box.cell 2; have k3 := hSw.di.ptr HJJ.out; go_simp; (try with_reducible rfl)
  (try simp only [Act.put, n1, n2, n3, n4, n5, n6])
  refine wpAnyF_ready (rs := [8]) (by kernel_rfl) (by simp) ?_
  refine AllReadyF.cons rfl (fun KK hKK => ?_) AllReadyF.nil
  go_simp
  ((with_reducible refine (HA1.out _ HSD.out).mono ?_); rintro e' w5 ⟨fv, rfl, hit, hb⟩; have HIT := hi hit; have HS5 := hi (HSD.out.below hb); have HB5 := hi (HBD.out.trans (hb.mono HBD.out.size)); have HY5 := hi (HYD.out.below hb); have hz5 := hb.size; clear hit hb)
  (try go_simp)
  refine hKK.out _ _ HS5.out (fun hHeld => ?_)
  clear hKK KK
  (try simp only [Act.put, n1, n2, n3, n4, n5, n6])
  refine wpAnyF_done (by kernel_rfl) ?_ _
  refine NoPanic.normal ?_
  obtain ⟨gf, lb, rfl, eg, hh5, hq5⟩ := HIT.out
  have hst := hq5 w5 (Nat.le_refl _) (fun _ _ _ => rfl)
  go_wp2
  clear hq5
  have hw5 := HB5.out.size
  have HF5 := hi (show ∀ i, exF F W.heap.size (w5.heap.size + 2) i → i < w5.heap.size + 2 ∧ ¬ snR lo hi' p q i from fun i x => by
   rcases x with x | x
   ·have := HF.out i x
    exact ⟨by omega, this.2⟩
   ·exact ⟨x.2, fun r => by have := HLT.out i r; omega⟩)
  have HJ5 := hi (HJ.out.st _ _ _ _ (HJ.out.sub _ _ (exF F W.heap.size (w5.heap.size + 2)) _ HJ0.out (fun i x => by rcases x with x | x; exact .inl x; exact .inr x.1)) (Kept.of HB5.out))
  refine (wpIn_wide (n := 6)).1 ?_
  refine range_win (n := 6) (by omega) (gf := gf) (lb := lb) rfl eg
   hst (fun a b => KpX.trans a b) (fun V l o o' h1 h2 h3 h4 => kpx_put (by omega) (by omega)) (Below.refl _ _) (fun _ => rfl)
   (fun pre V => (J pre (exF F W.heap.size (w5.heap.size + 2)) V ∧ SnAt V p q lo hi' b c D j) ∧ CB V W.heap.size 163 #[.func (.yield l) #[] #[]])
   (fun cd pre V => cd = .ret ∧ pre <+: L1 ++ L2.filter (toB D j) ∧ Jx pre (exF F W.heap.size (w5.heap.size + 2)) V)
   (AbL.of (m := 2) (fun s A A' row hs hg hr => ⟨⟨HJ.out.st _ _ _ _ hs.1.1 (kept_grown hg (fun r e => .inr (by have := hr r e; omega))), hs.1.2.heap hg.size (fun i r => hg.block i (hs.1.2.lt i r) (fun e => by have := hr _ e.symm; have := HLT.out i r; omega))⟩, hs.2.heap (hg.block _ hs.2.lt (fun e => by have := hr _ e.symm; omega))⟩) rfl)
   (fun cd => AbL.of (m := 2) (fun s A A' row hs hg hr => ⟨hs.1, hs.2.1, HJX.out.st _ _ _ _ hs.2.2 (kept_grown hg (fun r e => .inr (by have := hr r e; omega)))⟩) rfl)
   ⟨⟨HJ5.out, HS5.out⟩, HY5.out⟩
   (fun x a' V => ∃ Bx, w5.heap.size + 2 ≤ Bx ∧ CB V Bx 115 x.2.ca ∧ a' = { tmps := #[.func (.yield l) #[] #[], .pointer (some ⟨p, 0, none⟩), .pointer (some ⟨q, 0, none⟩), .pointer (some ⟨W.heap.size, 0, none⟩), .int .i64 x.1, .pointer (some ⟨Bx, 0, none⟩), undef, undef, .pointer (some ⟨b 0, 0, none⟩), .int .i64 (j : Int), .bool true, .bool false, .pointer (some ⟨b 0, 0, none⟩), .pointer (some ⟨b 0, 0, none⟩), .pointer (some ⟨b 0, 2, none⟩), .slice (some ⟨b 1, 0, none⟩) D.cs.length (c 0), .int .i64 (j : Int), .pointer (some ⟨b 1, j * 2, none⟩), .pointer (some ⟨b 1, j * 2, none⟩), .pointer (some ⟨b (4 + 2 * j), 0, none⟩), .func (.func gf) #[] lb, .int .i64 x.1, x.2.v, undef, undef, undef, undef, undef, undef, undef, undef, undef, undef, undef, undef, undef, undef, undef, undef, undef, undef, undef, undef, undef, undef, undef, undef, undef], defers := [] })
   (fun x a' => AbL.of (m := 2) (fun s A A' row hs hg hr => by obtain ⟨Bx, e1, e2, e3⟩ := hs; exact ⟨Bx, e1, e2.kept hg (fun e => by have := hr _ e.symm; omega), e3⟩) rfl)
   ?assign ?body ?done ?stop
  case assign =>
   rintro l' pre ⟨id, ⟨⟨⟨e, lb', lq, a⟩, en, gr, pr⟩, s⟩⟩ V K h hsz hK
   gi_wp2
   exact hK _ _ (KW.of_below (bal V _)) (KpX.of_below (bal V _) (by omega) hsz) ⟨⟨HJ.out.st _ _ _ _ h.1.1 (Kept.of (bal V _)), h.1.2.below (bal V _)⟩, h.2.below (bal V _)⟩ ⟨V.heap.size, hsz, CB.new _ _ _, rfl⟩
  case body =>
   rintro l' pre ⟨id, ⟨⟨⟨e, lb', lq, a⟩, en, gr, pr⟩, s⟩⟩ a' V hsz ⟨⟨hj5, hS⟩, hyb⟩ ⟨Bx, hBx, hbx, rfl⟩ hpx
   have hpp : pre ++ [(id, (⟨⟨⟨e, lb', lq, a⟩, en, gr, pr⟩, s⟩ : En))] <+: L1 ++ L2.filter (toB D j) := hpx.trans (List.prefix_append _ _)
   obtain ⟨fn, tmps, assign, body, hy, hRd⟩ := HYY.out _ _ (exF F W.heap.size (w5.heap.size + 2)) V hj5 hpp (fun i x => .inl x) (fun i x => ⟨by have := (HF5.out i x).1; omega, (HF5.out i x).2⟩) (by omega) (6 - 1 - 1 - 1)
   dsimp only [encI, En.v] at hy
   obtain ⟨d0, d1, d2, d3, d4, d5, d6, d7, d8⟩ := CB.ent hbx
   dsimp only at d0 d1 d2 d3 d4 d5 d6 d7 d8
   have zy := hyb.cell 0
   have HS := hi hS
   have HYC := hi hyb
   have HPP := hi hpp
   clear hj5 hS hyb hbx hpx hpp
   gi_wp2
   refine hRd.mono ?_
   rintro e3 W3 (⟨rfl, hJ3, hk3⟩ | ⟨rfl, hJx3, hk3⟩)
   ·have hk := hk3.size
    have hKW : KW w5.heap.size V W3 := ⟨hk, fun i o a b h h' => (hk3.same i (.inl (.inr (by omega)))).trans h⟩
    have hKP : KpX w3.drew.heap.size w5.heap.size 0 (w5.heap.size + 2) V W3 := ⟨hk, fun i q => hk3.same i (.inl (.inr (by omega)))⟩
    gi_wp2
    exact ⟨hKW, hKP, ⟨hJ3, HS.out.heap hk (fun i r => hk3.same i (.inr r))⟩, HYC.out.heap (hk3.same _ (.inl (.inr (by omega))))⟩
   ·have hk := hk3.size
    have hKW : KW w5.heap.size V W3 := ⟨hk, fun i o a b h h' => (hk3.same i (.inl (.inr (by omega)))).trans h⟩
    have hKP : KpX w3.drew.heap.size w5.heap.size 0 (w5.heap.size + 2) V W3 := ⟨hk, fun i q => hk3.same i (.inl (.inr (by omega)))⟩
    gi_wp2
    exact ⟨hKW, hKP, rfl, HPP.out, hJx3⟩
  case stop =>
   rintro cd pre V hpre ⟨rfl, hpp, hx⟩ hK _
   gi_wp2
   refine ⟨by simp, .inl ⟨_, _, rfl, run_takeDeferred hK, ?_⟩⟩
   exact ⟨_, results_none rfl _ _ _, ⟨_, rfl⟩, .inr ⟨_, hpp, _, fun i x => .inl x, HJX.out.st _ _ _ _ hx (kept_put (.inr (by omega)))⟩⟩
  case done =>
   rintro ys V rfl ⟨⟨hj5, hS⟩, hyb⟩ hK hs2
   have zp := hS.bp.cell 0
   have c3 := hS.di.box.cell 3
   have HJV := hi hj5
   have HSV := hi hS
   have HYV := hi hyb
   have HKV := hi hK
   clear hj5 hS hyb hK hst HJ5 HS5 HY5 eg
   go_wp2_with (go_at_call 114; ((with_reducible refine (HA2.out _ HSV.out).mono ?_); rintro e' w7 ⟨fv2, rfl, hit, hb⟩; have HIT2 := hi hit; have HS7 := hi (HSV.out.below hb); have HY7 := hi (HYV.out.below hb); have hz7 := hb.size; have HK7 := hi ((hb.block _ (by omega)).trans HKV.out); have HB7 := hi hb; obtain ⟨gf2, lb2, rfl, eg2, hh7, hq7⟩ := hit; clear hb))
   have hst7 := hq7 w7 (Nat.le_refl _) (fun _ _ _ => rfl)
   clear hq7 zp c3
   have hb7 := HB7.out.size
   have HF7 := hi (show ∀ i, exF (exF F W.heap.size (w5.heap.size + 2)) V.heap.size (w7.heap.size + 2) i → i < w7.heap.size + 2 ∧ ¬ snR lo hi' p q i from fun i x => by
    rcases x with x | x
    ·have := HF5.out i x
     exact ⟨by omega, this.2⟩
    ·exact ⟨x.2, fun r => by have := HLT.out i r; omega⟩)
   have HJ7 := hi (HJ.out.st _ _ _ _ (HJ.out.sub _ _ (exF (exF F W.heap.size (w5.heap.size + 2)) V.heap.size (w7.heap.size + 2)) _ HJV.out (fun i x => by rcases x with x | x; exact .inl x; exact .inr x.1)) (Kept.of HB7.out))
   refine (wpIn_wide (n := 6)).1 ?_
   refine range_win (n := 6) (by omega) (gf := gf2) (lb := lb2) rfl eg2
    hst7 (fun a b => KpX.trans a b) (fun V l o o' h1 h2 h3 h4 => kpx_put (by omega) (by omega)) (Below.refl _ _) (fun _ => rfl)
    (fun pre V' => (J (ys ++ pre.filter (toB D j)) (exF (exF F W.heap.size (w5.heap.size + 2)) V.heap.size (w7.heap.size + 2)) V' ∧ SnAt V' p q lo hi' b c D j) ∧ (CB V' W.heap.size 163 #[.func (.yield l) #[] #[]] ∧ V'.heap[w5.heap.size]? = some (.deferred (some []))))
    (fun cd pre V' => cd = .ret ∧ (∃ gs, gs <+: ys ++ L2.filter (toB D j) ∧ Jx gs (exF (exF F W.heap.size (w5.heap.size + 2)) V.heap.size (w7.heap.size + 2)) V') ∧ V'.heap[w5.heap.size]? = some (.deferred (some [])))
    (AbL.of (m := 2) (fun s A A' row hs hg hr => ⟨⟨HJ.out.st _ _ _ _ hs.1.1 (kept_grown hg (fun r e => .inr (by have := hr r e; omega))), hs.1.2.heap hg.size (fun i r => hg.block i (hs.1.2.lt i r) (fun e => by have := hr _ e.symm; have := HLT.out i r; omega))⟩, hs.2.1.heap (hg.block _ hs.2.1.lt (fun e => by have := hr _ e.symm; omega)), (hg.block _ (Array.getElem?_eq_some_iff.1 hs.2.2).1 (fun e => by have := hr _ e.symm; omega)).trans hs.2.2⟩) rfl)
    (fun cd => AbL.of (m := 2) (fun s A A' row hs hg hr => ⟨hs.1, by obtain ⟨gs, e1, e2⟩ := hs.2.1; exact ⟨gs, e1, HJX.out.st _ _ _ _ e2 (kept_grown hg (fun r e => .inr (by have := hr r e; omega)))⟩, (hg.block _ (Array.getElem?_eq_some_iff.1 hs.2.2).1 (fun e => by have := hr _ e.symm; omega)).trans hs.2.2⟩) rfl)
    ⟨⟨by simpa using HJ7.out, HS7.out⟩, HY7.out, HK7.out⟩
    (fun x a' V' => ∃ Bx, w7.heap.size + 2 ≤ Bx ∧ CB V' Bx 115 x.2.ca ∧ a' = { tmps := #[.func (.yield l) #[] #[], .pointer (some ⟨p, 0, none⟩), .pointer (some ⟨q, 0, none⟩), .pointer (some ⟨W.heap.size, 0, none⟩), undef, undef, .int .i64 x.1, .pointer (some ⟨Bx, 0, none⟩), .pointer (some ⟨b 0, 0, none⟩), .int .i64 (j : Int), .bool true, .bool false, .pointer (some ⟨b 0, 0, none⟩), .pointer (some ⟨b 0, 0, none⟩), .pointer (some ⟨b 0, 2, none⟩), .slice (some ⟨b 1, 0, none⟩) D.cs.length (c 0), .int .i64 (j : Int), .pointer (some ⟨b 1, j * 2, none⟩), .pointer (some ⟨b 1, j * 2, none⟩), .pointer (some ⟨b (4 + 2 * j), 0, none⟩), .func (.func gf) #[] lb, undef, undef, undef, undef, undef, undef, undef, .pointer (some ⟨b 0, 0, none⟩), .pointer (some ⟨b 0, 0, none⟩), .pointer (some ⟨b 0, 3, none⟩), .pointer (some ⟨b 2, 0, none⟩), .func (.func gf2) #[] lb2, .int .i64 x.1, x.2.v, undef, undef, undef, undef, undef, undef, undef, undef, undef, undef, undef, undef, undef], defers := [] })
    (fun x a' => AbL.of (m := 2) (fun s A A' row hs hg hr => by obtain ⟨Bx, e1, e2, e3⟩ := hs; exact ⟨Bx, e1, e2.kept hg (fun e => by have := hr _ e.symm; omega), e3⟩) rfl)
    ?assign ?body ?done ?stop
   case assign =>
    rintro l' pre ⟨id, ⟨⟨⟨e, lb', lq, a⟩, en, gr, pr⟩, s⟩⟩ V' K h hsz hK
    gi_wp2
    exact hK _ _ (KW.of_below (bal V' _)) (KpX.of_below (bal V' _) (by omega) hsz) ⟨⟨HJ.out.st _ _ _ _ h.1.1 (Kept.of (bal V' _)), h.1.2.below (bal V' _)⟩, h.2.1.below (bal V' _), ((bal V' _).block _ (Array.getElem?_eq_some_iff.1 h.2.2).1).trans h.2.2⟩ ⟨V'.heap.size, hsz, CB.new _ _ _, rfl⟩
   case stop =>
    rintro cd pre V' hpre ⟨rfl, ⟨gs, hpp, hx⟩, hmk⟩ hK hs3
    gi_wp2
    refine ⟨by simp, .inl ⟨_, _, rfl, run_takeDeferred hK, ?_⟩⟩
    refine ⟨by simp, .inl ⟨_, _, rfl, run_takeDeferred ((World.putObj_heap_other (by omega)).trans hmk), ?_⟩⟩
    exact ⟨_, results_none rfl _ _ _, ⟨_, rfl⟩, .inr ⟨_, hpp, _, fun i x => .inl (.inl x), HJX.out.st _ _ _ _ (HJX.out.st _ _ _ _ hx (kept_put (.inr (by omega)))) (kept_put (.inl (.inr (by omega))))⟩⟩
   case done =>
    rintro zs V' rfl ⟨⟨hj, hS⟩, hyb, hmk⟩ hK hs3
    go_wp2
    refine ⟨by simp, .inl ⟨_, _, rfl, run_takeDeferred hK, ?_⟩⟩
    refine ⟨by simp, .inl ⟨_, _, rfl, run_takeDeferred ((World.putObj_heap_other (by omega)).trans hmk), ?_⟩⟩
    exact ⟨_, results_none rfl _ _ _, ⟨_, rfl⟩, .inl ⟨_, rfl, _, fun i x => .inl (.inl x), HJ.out.st _ _ _ _ (HJ.out.st _ _ _ _ hj (kept_put (.inr (by omega)))) (kept_put (.inl (.inr (by omega))))⟩⟩
   case body =>
    rintro l' pre ⟨id, ⟨⟨⟨e, lb', lq, a⟩, en, gr, pr⟩, ⟨sc, sy⟩⟩⟩ a' V' hsz ⟨⟨hj5, hS⟩, hyb, hmk⟩ ⟨Bx, hBx, hbx, rfl⟩ hpx
    have hpf := filter_pre (p := toB D j) hpx
    have HT := hi (fun V4 (q' : SnAt V4 p q lo hi' b c D j) => HTG.out V4 q' ⟨sc, sy⟩)
    obtain ⟨T, hT⟩ : ∃ T, targV D ⟨sc, sy⟩ = T := ⟨_, rfl⟩
    rw [hT] at HT
    dsimp only [Rt.v] at HT
    have HBX := hi hbx
    have HS := hi hS
    have HYC := hi hyb
    have HMK := hi hmk
    have HJW := hi hj5
    clear hbx hS hyb hmk hj5 hpx
    by_cases hTj : T = j
    ·have hb : toB D j (id, ⟨⟨⟨e, lb', lq, a⟩, en, gr, pr⟩, ⟨sc, sy⟩⟩) = true := by simp [toB, hT, hTj]
     have HE := hi (filter_yes pre hb)
     rw [HE.out] at hpf
     have HPF := hi (show (ys ++ pre.filter (toB D j)) ++ [(id, (⟨⟨⟨e, lb', lq, a⟩, en, gr, pr⟩, ⟨sc, sy⟩⟩ : En))] <+: ys ++ L2.filter (toB D j) by
      rw [List.append_assoc]
      exact (List.prefix_append_right_inj ys).2 hpf)
     subst hTj
     clear hb hpf hT
     gi_wp2
     refine region_held_g (S := (fun W' => SnAt W' p q lo hi' b c D j ∧ CB W' W.heap.size 163 #[.func (.yield l) #[] #[]])) rfl (by kernel_rfl) (by kernel_rfl) ⟨HS.out.drew, HYC.out.drew⟩ (fun hHeld => ?_)
     (try simp only [r1, r2, r3, r4, r5])
     refine tg 0 (v := ?_) rfl rfl (Or.inl ⟨by rfl, ?_⟩) ?_
     rotate_left
     ·intro w' hSw; (try dsimp only at hSw); have k0 := hSw.1.bp.cell 0; have k1 := hSw.1.bq.cell 0; have ky := hSw.2.cell 0; go_simp; (try with_reducible rfl)
     (try simp only [Act.put, n1, n2, n4, n5, n6])
     refine tg 1 (v := ?_) rfl rfl (Or.inl ⟨by rfl, ?_⟩) ?_
     rotate_left
     ·intro w' hSw; (try dsimp only at hSw); have k0 := hSw.1.bp.cell 0; have k1 := hSw.1.bq.cell 0; have ky := hSw.2.cell 0; go_simp; (try with_reducible rfl)
     (try simp only [Act.put, n1, n2, n3, n4, n5, n6])
     refine tg 4 (v := ?_) rfl rfl (Or.inl ⟨by rfl, ?_⟩) ?_
     rotate_left
     ·intro w' hSw; (try dsimp only at hSw); have k0 := hSw.1.bp.cell 0; have k1 := hSw.1.bq.cell 0; have ky := hSw.2.cell 0; go_simp; (try with_reducible rfl)
     (try simp only [Act.put, n1, n2, n3, n4, n5, n6])
     refine wpAnyG_one (i := 2) (by kernel_rfl) rfl (fun KK hKK => ?_)
     obtain ⟨d0, d1, d2, d3, d4, d5, d6, d7, d8⟩ := CB.ent (x := ⟨⟨⟨e, lb', lq, a⟩, en, gr, pr⟩, ⟨sc, sy⟩⟩) HBX.out.drew
     dsimp only at d0 d1 d2 d3 d4 d5 d6 d7 d8
     go_simp
     clear d0 d1 d2 d3 d4 d5 d6 d7 d8
     refine hKK.out _ _ hHeld (fun hHeld => ?_)
     clear hKK KK
     (try simp only [Act.put, n1, n2, n3, n4, n5, n6])
     refine wpAnyG_one (i := 3) (by kernel_rfl) rfl (fun KK hKK => ?_)
     go_simp
     (try refine ⟨trivial, ?_⟩)
     ((with_reducible refine (callsIn_wide.2 (HT.out _ hHeld.1)).mono ?_); rintro e' V4 ⟨rfl, hb⟩; have HBN := hi (show Below V'.heap.size V' V4 from (show Below V'.heap.size V' V'.drew from Below.drewN (m := 1) (Below.refl _ _)).trans hb); have HB4 := hi (HBX.out.drew.below hb); have hSS := And.intro (hHeld.1.below hb) (hHeld.2.below hb); clear hb)
     (try go_simp)
     refine hKK.out _ _ hSS (fun hHeld => ?_)
     clear hKK KK
     (try simp only [Act.put, n1, n2, n3, n4, n5, n6])
     refine tg 5 (v := ?_) rfl rfl (Or.inl ⟨by rfl, ?_⟩) ?_
     rotate_left
     ·intro w' hSw; (try dsimp only at hSw); have k0 := hSw.1.bp.cell 0; have k1 := hSw.1.bq.cell 0; have ky := hSw.2.cell 0; go_simp; (try with_reducible rfl)
     (try simp only [Act.put, n1, n2, n3, n4, n5, n6])
     refine tg 6 (v := ?_) rfl rfl (Or.inl ⟨by rfl, ?_⟩) ?_
     rotate_left
     ·intro w' hSw; (try dsimp only at hSw); have k0 := hSw.1.bp.cell 0; have k1 := hSw.1.bq.cell 0; have ky := hSw.2.cell 0; go_simp; (try with_reducible rfl)
     (try simp only [Act.put, n1, n2, n3, n4, n5, n6])
     refine tg 7 (v := ?_) rfl rfl (Or.inl ⟨by rfl, ?_⟩) ?_
     rotate_left
     ·intro w' hSw; (try dsimp only at hSw); have k0 := hSw.1.bp.cell 0; have k1 := hSw.1.bq.cell 0; have ky := hSw.2.cell 0; go_simp; (try with_reducible rfl)
     (try simp only [Act.put, n1, n2, n3, n4, n5, n6])
     refine tg 8 (v := ?_) rfl rfl (Or.inl ⟨by rfl, ?_⟩) ?_
     rotate_left
     ·intro w' hSw; (try dsimp only at hSw); have k0 := hSw.1.bp.cell 0; have k1 := hSw.1.bq.cell 0; have ky := hSw.2.cell 0; go_simp; (try with_reducible rfl)
     (try simp only [Act.put, n1, n2, n3, n4, n5, n6])
     refine wpAnyG_one (i := 9) (by kernel_rfl) rfl (fun KK hKK => ?_)
     obtain ⟨d0, d1, d2, d3, d4, d5, d6, d7, d8⟩ := CB.ent (x := ⟨⟨⟨e, lb', lq, a⟩, en, gr, pr⟩, ⟨sc, sy⟩⟩) HB4.out
     dsimp only at d0 d1 d2 d3 d4 d5 d6 d7 d8
     go_simp
     clear d0 d1 d2 d3 d4 d5 d6 d7 d8
     refine hKK.out _ _ hHeld (fun hHeld => ?_)
     clear hKK KK
     (try simp only [Act.put, n1, n2, n3, n4, n5, n6])
     obtain ⟨fn, tmps, assign, body, hy, hRd⟩ := HYY.out _ _ (exF (exF F W.heap.size (w5.heap.size + 2)) V.heap.size (w7.heap.size + 2)) V4 (HJ.out.st _ _ _ _ HJW.out (Kept.of HBN.out)) HPF.out (fun i x => .inl (.inl x)) (fun i x => ⟨by have := (HF7.out i x).1; have := HBN.out.size; omega, (HF7.out i x).2⟩) (by have := HBN.out.size; omega) (6 - 1 - 1 - 1)
     dsimp only [encI, En.v] at hy
     refine wpAnyG_one (i := 10) (by kernel_rfl) rfl (fun KK hKK => ?_)
     go_simp
     (first | refine hRd.mono ?_ | (refine ⟨trivial, ?_⟩; refine hRd.mono ?_))
     rintro e3 W3 (⟨rfl, hJ3, hk3⟩ | ⟨rfl, hJx3, hk3⟩)
     ·have hk := hk3.size
      have hbn := HBN.out.size
      have hS3 : SnAt W3 p q lo hi' b c D j := (HS.out.below HBN.out).heap hk (fun i r => hk3.same i (.inr r))
      have hY3 : CB W3 W.heap.size 163 #[.func (.yield l) #[] #[]] := (HYC.out.below HBN.out).heap (hk3.same _ (.inl (.inl (.inr (by omega)))))
      have hM3 : W3.heap[w5.heap.size]? = some (.deferred (some [])) := (hk3.same _ (.inl (.inl (.inr (by omega))))).trans ((HBN.out.block _ (Array.getElem?_eq_some_iff.1 HMK.out).1).trans HMK.out)
      have hKW : KW w7.heap.size V' W3 := ⟨by omega, fun i o a b h h' => ((hk3.same i (.inl (.inr (by omega)))).trans (HBN.out.block i (Array.getElem?_eq_some_iff.1 h).1)).trans h⟩
      have hKP : KpX V.heap.size w7.heap.size 0 (w7.heap.size + 2) V' W3 := ⟨by omega, fun i q => (hk3.same i (.inl (.inr (by omega)))).trans (HBN.out.block i (by omega))⟩
      (try go_simp)
      refine hKK.out _ _ ⟨hS3, hY3⟩ (fun hHeld => ?_)
      clear hKK KK
      (try simp only [Act.put, n1, n2, n3, n4, n5, n6])
      refine tg 11 (v := ?_) rfl rfl (Or.inl ⟨by rfl, ?_⟩) ?_
      rotate_left
      ·intro w' hSw; (try dsimp only at hSw); skip; go_simp; (try with_reducible rfl)
      (try simp only [Act.put, n1, n2, n3, n4, n5, n6])
      refine tg 12 (v := ?_) rfl rfl (Or.inl ⟨by rfl, ?_⟩) ?_
      rotate_left
      ·intro w' hSw; (try dsimp only at hSw); skip; go_simp; (try with_reducible rfl)
      (try simp only [Act.put, n1, n2, n3, n4, n5, n6])
      refine wpAnyG_done (by kernel_rfl) ?_ _
      gi_wp2
      refine ⟨hKW, hKP, ⟨?_, hS3⟩, hY3, hM3⟩
      rw [HE.out, ← List.append_assoc]
      exact hJ3
     ·have hk := hk3.size
      have hbn := HBN.out.size
      have hS3 : SnAt W3 p q lo hi' b c D j := (HS.out.below HBN.out).heap hk (fun i r => hk3.same i (.inr r))
      have hY3 : CB W3 W.heap.size 163 #[.func (.yield l) #[] #[]] := (HYC.out.below HBN.out).heap (hk3.same _ (.inl (.inl (.inr (by omega)))))
      have hM3 : W3.heap[w5.heap.size]? = some (.deferred (some [])) := (hk3.same _ (.inl (.inl (.inr (by omega))))).trans ((HBN.out.block _ (Array.getElem?_eq_some_iff.1 HMK.out).1).trans HMK.out)
      have hKW : KW w7.heap.size V' W3 := ⟨by omega, fun i o a b h h' => ((hk3.same i (.inl (.inr (by omega)))).trans (HBN.out.block i (Array.getElem?_eq_some_iff.1 h).1)).trans h⟩
      have hKP : KpX V.heap.size w7.heap.size 0 (w7.heap.size + 2) V' W3 := ⟨by omega, fun i q => (hk3.same i (.inl (.inr (by omega)))).trans (HBN.out.block i (by omega))⟩
      (try go_simp)
      refine hKK.out _ _ ⟨hS3, hY3⟩ (fun hHeld => ?_)
      clear hKK KK
      (try simp only [Act.put, n1, n2, n3, n4, n5, n6])
      refine tg 11 (v := ?_) rfl rfl (Or.inl ⟨by rfl, ?_⟩) ?_
      rotate_left
      ·intro w' hSw; (try dsimp only at hSw); skip; go_simp; (try with_reducible rfl)
      (try simp only [Act.put, n1, n2, n3, n4, n5, n6])
      refine tg 12 (v := ?_) rfl rfl (Or.inl ⟨by rfl, ?_⟩) ?_
      rotate_left
      ·intro w' hSw; (try dsimp only at hSw); skip; go_simp; (try with_reducible rfl)
      (try simp only [Act.put, n1, n2, n3, n4, n5, n6])
      refine wpAnyG_done (by kernel_rfl) ?_ _
      gi_wp2
      exact ⟨hKW, hKP, rfl, ⟨_, HPF.out, hJx3⟩, hM3⟩
    ·have hb : toB D j (id, ⟨⟨⟨e, lb', lq, a⟩, en, gr, pr⟩, ⟨sc, sy⟩⟩) = false := by simp [toB, hT, hTj]
     have HE := hi (filter_no pre hb)
     have hq : (T == (j : Int)) = false := by simpa using hTj
     clear hb hpf hT hTj
     gi_wp2
     refine region_held_g (S := (fun W' => SnAt W' p q lo hi' b c D j ∧ CB W' W.heap.size 163 #[.func (.yield l) #[] #[]])) rfl (by kernel_rfl) (by kernel_rfl) ⟨HS.out.drew, HYC.out.drew⟩ (fun hHeld => ?_)
     (try simp only [r1, r2, r3, r4, r5])
     refine tg 0 (v := ?_) rfl rfl (Or.inl ⟨by rfl, ?_⟩) ?_
     rotate_left
     ·intro w' hSw; (try dsimp only at hSw); have k0 := hSw.1.bp.cell 0; have k1 := hSw.1.bq.cell 0; have ky := hSw.2.cell 0; go_simp; (try with_reducible rfl)
     (try simp only [Act.put, n1, n2, n4, n5, n6])
     refine tg 1 (v := ?_) rfl rfl (Or.inl ⟨by rfl, ?_⟩) ?_
     rotate_left
     ·intro w' hSw; (try dsimp only at hSw); have k0 := hSw.1.bp.cell 0; have k1 := hSw.1.bq.cell 0; have ky := hSw.2.cell 0; go_simp; (try with_reducible rfl)
     (try simp only [Act.put, n1, n2, n3, n4, n5, n6])
     refine tg 4 (v := ?_) rfl rfl (Or.inl ⟨by rfl, ?_⟩) ?_
     rotate_left
     ·intro w' hSw; (try dsimp only at hSw); have k0 := hSw.1.bp.cell 0; have k1 := hSw.1.bq.cell 0; have ky := hSw.2.cell 0; go_simp; (try with_reducible rfl)
     (try simp only [Act.put, n1, n2, n3, n4, n5, n6])
     refine wpAnyG_one (i := 2) (by kernel_rfl) rfl (fun KK hKK => ?_)
     obtain ⟨d0, d1, d2, d3, d4, d5, d6, d7, d8⟩ := CB.ent (x := ⟨⟨⟨e, lb', lq, a⟩, en, gr, pr⟩, ⟨sc, sy⟩⟩) HBX.out.drew
     dsimp only at d0 d1 d2 d3 d4 d5 d6 d7 d8
     go_simp
     clear d0 d1 d2 d3 d4 d5 d6 d7 d8
     refine hKK.out _ _ hHeld (fun hHeld => ?_)
     clear hKK KK
     (try simp only [Act.put, n1, n2, n3, n4, n5, n6])
     refine wpAnyG_one (i := 3) (by kernel_rfl) rfl (fun KK hKK => ?_)
     go_simp
     (try refine ⟨trivial, ?_⟩)
     ((with_reducible refine (callsIn_wide.2 (HT.out _ hHeld.1)).mono ?_); rintro e' V4 ⟨rfl, hb⟩; have HBN := hi (show Below V'.heap.size V' V4 from (show Below V'.heap.size V' V'.drew from Below.drewN (m := 1) (Below.refl _ _)).trans hb); have HB4 := hi (HBX.out.drew.below hb); have hSS := And.intro (hHeld.1.below hb) (hHeld.2.below hb); clear hb)
     (try go_simp)
     refine hKK.out _ _ hSS (fun hHeld => ?_)
     clear hKK KK
     (try simp only [Act.put, n1, n2, n3, n4, n5, n6])
     refine tg 5 (v := ?_) rfl rfl (Or.inl ⟨by rfl, ?_⟩) ?_
     rotate_left
     ·intro w' hSw; (try dsimp only at hSw); have k0 := hSw.1.bp.cell 0; have k1 := hSw.1.bq.cell 0; have ky := hSw.2.cell 0; go_simp; (try with_reducible rfl)
     (try simp only [Act.put, n1, n2, n3, n4, n5, n6])
     refine tg 6 (v := ?_) rfl rfl (Or.inl ⟨by rfl, ?_⟩) ?_
     rotate_left
     ·intro w' hSw; (try dsimp only at hSw); have k0 := hSw.1.bp.cell 0; have k1 := hSw.1.bq.cell 0; have ky := hSw.2.cell 0; go_simp; (try with_reducible rfl)
     (try simp only [Act.put, n1, n2, n3, n4, n5, n6])
     refine tg 7 (v := undef) rfl rfl (Or.inr ⟨by rfl, rfl⟩) ?_
     (try simp only [Act.put, n1, n2, n3, n4, n5, n6])
     refine tg 8 (v := undef) rfl rfl (Or.inr ⟨by rfl, rfl⟩) ?_
     (try simp only [Act.put, n1, n2, n3, n4, n5, n6])
     refine tg 9 (v := undef) rfl rfl (Or.inr ⟨by rfl, rfl⟩) ?_
     (try simp only [Act.put, n1, n2, n3, n4, n5, n6])
     refine tg 10 (v := undef) rfl rfl (Or.inr ⟨by rfl, rfl⟩) ?_
     (try simp only [Act.put, n1, n2, n3, n4, n5, n6])
     refine tg 11 (v := undef) rfl rfl (Or.inr ⟨by rfl, rfl⟩) ?_
     (try simp only [Act.put, n1, n2, n3, n4, n5, n6])
     refine tg 12 (v := ?_) rfl rfl (Or.inl ⟨by rfl, ?_⟩) ?_
     rotate_left
     ·intro w' hSw; (try dsimp only at hSw); have k0 := hSw.1.bp.cell 0; have k1 := hSw.1.bq.cell 0; have ky := hSw.2.cell 0; go_simp; (try with_reducible rfl)
     (try simp only [Act.put, n1, n2, n3, n4, n5, n6])
     refine wpAnyG_done (by kernel_rfl) ?_ _
     gi_wp2
     refine ⟨KW.of_below HBN.out, KpX.of_below HBN.out (by omega) hsz, ⟨?_, HS.out.below HBN.out⟩, HYC.out.below HBN.out, ((HBN.out.block _ (Array.getElem?_eq_some_iff.1 HMK.out).1)).trans HMK.out⟩
     rw [HE.out]
     exact HJ.out.st _ _ _ _ HJW.out (Kept.of HBN.out)
end Go.Proofs.YtieedhdmpabfkaaGreat
namespace Go.Proofs.YtieedhdmpabfkaaGreat
open Go.ChangeShapes Go.WideShapes Go.ChangeAt Go.RowKit Go.Shelf
set_option linter.unusedVariables false
attribute [local go_sem] Oper.semAt_some
section
variable {w : World} {lo hi' : Nat} {b c : Nat → Nat} {D : Ds} {k : Int}
theorem seen_iter {p q : Nat} {W : World} (h : SnAt W p q lo hi' b c D k) (ok : D.Ok) :
  IterS encI (snR lo hi' p q) (.func (.func 113) #[] #[.pointer (some ⟨p, 0, none⟩), .pointer (some ⟨q, 0, none⟩)]) (seenL D k) W :=
 ⟨_, _, rfl, enters_of Tryz.func113 (by kernel_rfl) rfl, h.lt, fun W' hs hk l J Jx F W2 hW hJ hJx hF hY h0 =>
  seen1_any lo hi' p q l b c D k ok J Jx F W2 ((h.heap hs hk).below hW) hJ hJx hF hY h0⟩
theorem seen_it (h : DiAt w lo hi' b c D) (ok : D.Ok) (k : Int) :
  Calls Tryz.prog 74 #[.pointer (some ⟨b 0, 0, none⟩), .int .i64 k] w fun e w' => ∃ gf lb, e = .returned (.func (.func gf) #[] lb) ∧ IterS encI (snR lo hi' w.heap.size (w.heap.size + 1)) (.func (.func gf) #[] lb) (seenL D k) w' ∧ Below w.heap.size w w' ∧ w.heap.size + 2 ≤ w'.heap.size := by
 have HB := hi (bal_two w (.cells #[.pointer (some ⟨b 0, 0, none⟩)] 24) (.cells #[.int .i64 k] 3))
 have HS := hi (seen_iter (p := w.heap.size) (q := w.heap.size + 1) (W := (w.alloc (.cells #[.pointer (some ⟨b 0, 0, none⟩)] 24)).alloc (.cells #[.int .i64 k] 3)) ⟨h.below HB.out, (CB.new w _ _).alloc _, cb_second⟩ ok)
 clear h ok
 go_enter Tryz.func74, Tryz.ntmps74
 go_wp2
 go_ret
 exact ⟨_, _, rfl, HS.out, HB.out, by simp⟩
end
def rdyB (g0 g1 : Bool) (x : It) : Bool := x.2.ln.en && ((if x.2.ln.g = 0 then g0 else g1) && x.2.ln.st.ready)
def readyL (D : Ds) (k : Int) : List It := if asleepV D k then [] else (seenL D k).filter (rdyB D.g0 D.g1)
theorem items_right {f : Int} {es : List En} (h : FineAll es) : ∀ x ∈ items f es, x.2.ln.Right := by
 induction es generalizing f with
 | nil => intro x hx; cases hx
 | cons y r ih =>
  intro x hx
  rw [items, List.mem_cons] at hx
  rcases hx with rfl | hx
  ·exact (h y (by simp)).right
  ·exact ih (fun z hz => h z (by simp [hz])) x hx
theorem seen_right {D : Ds} (ok : D.Ok) (k : Int) : ∀ x ∈ seenL D k, x.2.ln.Right := by
 intro x hx
 unfold seenL at hx
 cases hk : hasN D.cs.length k
 ·rw [hk] at hx; simp at hx
 ·obtain ⟨j, rfl, hj⟩ := hasN_at hk
  rw [hk, if_pos rfl, List.mem_append] at hx
  rcases hx with hx | hx
  ·exact items_right (ok.fine j hj) x hx
  ·exact items_right ok.fsh x (List.mem_filter.1 hx).1
set_option maxRecDepth 100000 in
set_option maxHeartbeats 8000000 in
theorem ready1_any (lo hi' p q l : Nat) (b c : Nat → Nat) (D : Ds) (k : Int) (ok : D.Ok) (J Jx : List It → (Nat → Prop) → World → Prop) (F : Nat → Prop) (W : World)
  (hA : SnAt W p q lo hi' b c D k) (hJ : FrOk J) (hJx : FrOk Jx) (hF : ∀ i, F i → i < W.heap.size ∧ ¬ snR lo hi' p q i)
  (hY : ∀ (pre : List It) (x : It) (G : Nat → Prop) (W1 : World), J pre G W1 → pre ++ [x] <+: readyL D k → (∀ i, F i → G i) → (∀ i, G i → i < W1.heap.size ∧ ¬ snR lo hi' p q i) → W.heap.size ≤ W1.heap.size → ∀ m, YieldAt Fence.wide m Tryz.prog l (encI x) W1 fun e W' =>
   (e = .returned (.bool true) ∧ J (pre ++ [x]) G W' ∧ KF G (snR lo hi' p q) W1 W') ∨ (e = .returned (.bool false) ∧ Jx (pre ++ [x]) G W' ∧ KF G (snR lo hi' p q) W1 W'))
  (h0 : J [] F W) :
  Calls Tryz.prog 105 #[.func (.yield l) #[] #[], .pointer (some ⟨p, 0, none⟩), .pointer (some ⟨q, 0, none⟩)] W fun e W' => (∃ v, e = .returned v) ∧
   ((∃ xs, xs = readyL D k ∧ ∃ G, (∀ i, F i → G i) ∧ J xs G W') ∨ (∃ pre, pre <+: readyL D k ∧ ∃ G, (∀ i, F i → G i) ∧ Jx pre G W')) := by
 have hlt := hA.lt
 have hB3 : Below W.heap.size W (W.alloc (.cells #[.func (.yield l) #[] #[]] 163)) := bal W _
 have hA3 := hA.below hB3
 have HAS := hi (asleep_dist hA3.di k)
 have z0 := hA3.bp.cell 0
 have z1 := hA3.bq.cell 0
 unfold readyL at hY ⊢
 cases hk : asleepV D k
 ·rw [hk] at HAS
  simp only [hk, Bool.false_eq_true, if_false] at hY ⊢
  have HSN := hi (seen_it hA3.di ok k)
  obtain ⟨L, hL⟩ : ∃ L, seenL D k = L := ⟨_, rfl⟩
  have HRT := hi (show ∀ x ∈ L, x.2.ln.Right by rw [← hL]; exact seen_right ok k)
  rw [hL] at HSN
  rw [hL] at hY ⊢
  have HYB := hi (CB.new W 163 #[.func (.yield l) #[] #[]])
  have HA3 := hi hA3
  have HJ := hi hJ
  have HJX := hi hJx
  have HYY := hi hY
  have HF := hi hF
  have HLT := hi hlt
  have HB3 := hi hB3
  have HJ0 := hi h0
  clear hJ hJx hY hF hlt hB3 h0 hA hA3 hL hk ok
  refine (callsIn_wide (n := 6)).1 ?_
  refine callsIn_of_wp_marks Tryz.func105 rfl trivial ?_ rfl
  simp only [Tryz.ntmps105, List.size_toArray, List.length_cons, List.length_nil, Nat.reduceAdd, Nat.reduceSub, Array.replicate_succ, Array.replicate_zero, List.push_toArray, List.append_toArray, List.nil_append, List.cons_append]
  refine wpIn_wide.2 ?_
  go_wp2_with (first
   | (go_at_call 27; ((with_reducible refine HAS.out.mono ?_); rintro e w1 ⟨rfl, rfl⟩))
   | (go_at_call 74; ((with_reducible refine HSN.out.mono ?_); rintro e w5 ⟨gf, lb, rfl, hit, hb, hs5⟩; have HIT := hi hit; have HB5 := hi (HB3.out.trans (hb.mono HB3.out.size)); have HA5 := hi (HA3.out.below hb); have HY5 := hi (HYB.out.below hb); have hz5 := hb.size; clear hit hb)))
  simp only [World.size_alloc] at HIT hs5 hz5
  have hw5 := HB5.out.size
  obtain ⟨X, hX⟩ : ∃ X : Nat → Prop, X = fun i => W.heap.size ≤ i ∧ i < w5.heap.size + 2 := ⟨_, rfl⟩
  have X1 : ∀ {i : Nat}, W.heap.size ≤ i → i < w5.heap.size + 2 → X i := fun h1 h2 => by rw [hX]; exact ⟨h1, h2⟩
  have X2 : ∀ {i : Nat}, X i → W.heap.size ≤ i ∧ i < w5.heap.size + 2 := fun h1 => by rw [hX] at h1; exact h1
  clear hX
  have HJ5 := hi (HJ.out.st _ _ _ _ (HJ.out.sub _ _ (fun i => F i ∨ X i) _ HJ0.out (fun i x => by rcases x with x | x; exact .inl x; exact .inr (X2 x).1)) (Kept.of HB5.out))
  have hRl := HIT.out.lt
  obtain ⟨gf', lb', hfe, eg, _, hq5⟩ := HIT.out
  obtain ⟨rfl, rfl⟩ : gf = gf' ∧ lb = lb' := by simpa using hfe
  have hst := hq5 w5 (Nat.le_refl _) (fun _ _ => rfl)
  clear hq5 hfe z0 z1 HSN
  refine (wpIn_wide (n := 6)).1 ?_
  refine range_fr (n := 6) (by omega) (gf := gf) (lb := lb) rfl eg hst (Below.refl _ _) (fun _ => rfl) hRl
   F (fun i x => ⟨by have := (HF.out i x).1; omega, fun r => by
    rcases r with r | r | r
    ·exact (HF.out i x).2 (.inl r)
    ·have := (HF.out i x).1; omega
    ·have := (HF.out i x).1; omega⟩)
   (fun pre G V => (J (pre.filter (rdyB D.g0 D.g1)) (fun i => G i ∨ X i) V ∧ ((∀ i, snR lo hi' p q i → ¬ G i) ∧ SnAt V p q lo hi' b c D k)) ∧ OwnB W.heap.size 163 (fun _ => #[.func (.yield l) #[] #[]]) () G V)
   (fun cd pre G V => cd = .ret ∧ ∃ gs, gs <+: L.filter (rdyB D.g0 D.g1) ∧ Jx gs (fun i => G i ∨ X i) V)
   (FrOk.and (FrOk.and ((HJ.out.map (fun pre : List It => pre.filter (rdyB D.g0 D.g1))).with_ X) (FrOk.reads (snR lo hi' p q) (fun _ V => SnAt V p q lo hi' b c D k) (fun _ A h => h.lt) (fun _ A A' h h1 h2 => h.heap h1 h2))) ((FrOk.ownB W.heap.size 163 (fun (_ : Unit) => #[.func (.yield l) #[] #[]])).map (fun _ => ())))
   (fun cd => ⟨fun s F A A' q w => ⟨q.1, by obtain ⟨gs, e1, e2⟩ := q.2; exact ⟨gs, e1, (HJX.out.with_ X).st gs F A A' e2 w⟩⟩, fun s F G A q w => ⟨q.1, by obtain ⟨gs, e1, e2⟩ := q.2; exact ⟨gs, e1, (HJX.out.with_ X).sub gs F G A e2 w⟩⟩⟩)
   ⟨⟨HJ5.out, fun i r x => (HF.out i x).2 r, HA5.out⟩, fun x => by have := (HF.out _ x).1; omega, HY5.out⟩
   (fun x a' G V => ∃ Bx, OwnB Bx 115 (fun _ => x.2.ca) () G V ∧ a' = { tmps := #[.func (.yield l) #[] #[], .pointer (some ⟨p, 0, none⟩), .pointer (some ⟨q, 0, none⟩), .pointer (some ⟨W.heap.size, 0, none⟩), .int .i64 x.1, .pointer (some ⟨Bx, 0, none⟩), .pointer (some ⟨b 0, 0, none⟩), .int .i64 k, .bool false, .pointer (some ⟨b 0, 0, none⟩), .int .i64 k, .func (.func gf) #[] lb, .int .i64 x.1, x.2.v, undef, undef, undef, undef, undef, undef, undef, undef, undef, undef, undef, undef, undef, undef, undef, undef, undef, undef, undef, undef, undef, undef, undef, undef, undef, undef], defers := [] })
   (fun x a' => ⟨fun s F A A' q w => by obtain ⟨Bx, e1, e2⟩ := q; exact ⟨Bx, (FrOk.ownB Bx 115 (fun (_ : Unit) => x.2.ca)).st () F A A' e1 w, e2⟩, fun s F G A q w => by obtain ⟨Bx, e1, e2⟩ := q; exact ⟨Bx, (FrOk.ownB Bx 115 (fun (_ : Unit) => x.2.ca)).sub () F G A e1 w, e2⟩⟩)
   ?assign ?body ?done ?stop
  case assign =>
   rintro l' pre ⟨id, ⟨⟨⟨e, lb', lq, a⟩, en, gr, pr⟩, s⟩⟩ G V K h hFG hG hsz hK
   have hkf : KF G (snR lo hi' (W.heap.size + 1) (W.heap.size + 1 + 1)) V (V.alloc (.cells (En.ca ⟨⟨⟨e, lb', lq, a⟩, en, gr, pr⟩, s⟩) 115)) := KF.of_below (bal V _) (fun i x => by rcases x with x | x; exact (hG i x).1; have := hRl i x; omega)
   gi_wp2
   exact hK _ _ hkf ⟨⟨(HJ.out.with_ X).st _ _ _ _ h.1.1 (Kept.of (bal V _)), h.1.2.1, h.1.2.2.below (bal V _)⟩, h.2.1, h.2.2.below (bal V _)⟩ ⟨V.heap.size, ⟨fun x => by have := (hG _ x).1; omega, CB.new _ _ _⟩, rfl⟩
  case stop =>
   rintro cd pre G V hpre hFG ⟨rfl, gs, hpp, hx⟩ hK hs2
   gi_wp2
   refine ⟨by simp, .inl ⟨_, _, rfl, run_takeDeferred hK, ?_⟩⟩
   exact ⟨_, results_none rfl _ _ _, ⟨_, rfl⟩, .inr ⟨_, hpp, _, fun i x => .inl (hFG i x), HJX.out.st _ _ _ _ hx (kept_put (.inr (X1 (by omega) (by omega))))⟩⟩
  case done =>
   rintro zs G V rfl hFG ⟨⟨hj, hS⟩, hyb⟩ hK hs2
   go_wp2
   refine ⟨by simp, .inl ⟨_, _, rfl, run_takeDeferred hK, ?_⟩⟩
   exact ⟨_, results_none rfl _ _ _, ⟨_, rfl⟩, .inl ⟨_, rfl, _, fun i x => .inl (hFG i x), HJ.out.st _ _ _ _ hj (kept_put (.inr (X1 (by omega) (by omega))))⟩⟩
  case body =>
   rintro l' pre ⟨id, ⟨⟨⟨e, lb', lq, a⟩, en, gr, pr⟩, s⟩⟩ a' G V hFG hG hsz ⟨⟨hj, hRG, hS⟩, hNG, hyb⟩ ⟨Bx, ⟨hBG, hbx⟩, rfl⟩ hpx
   have hright := HRT.out _ (hpx.subset (List.mem_append_right pre (List.mem_singleton.2 rfl)))
   have hp2 := filter_pre (p := rdyB D.g0 D.g1) hpx
   have HR := hi (fun V => ready_any ⟨e, lb', lq, a⟩ V)
   obtain ⟨rd, hrd⟩ : ∃ rd, St.ready ⟨e, lb', lq, a⟩ = rd := ⟨_, rfl⟩
   rw [hrd] at HR
   dsimp only [St.v] at HR
   have HS := hi hS
   have HYC := hi hyb
   have HBX := hi hbx
   have HJV := hi hj
   have HG := hi hG
   have HRG := hi hRG
   have HD := hi (Below.drewN (m := 1) (Below.refl V.heap.size V))
   obtain ⟨g0, hg0⟩ : ∃ g0, D.g0 = g0 := ⟨_, rfl⟩
   obtain ⟨g1, hg1⟩ : ∃ g1, D.g1 = g1 := ⟨_, rfl⟩
   have HG0 := hi hg0
   have HG1 := hi hg1
   have hkV : ∀ V1, Below V.heap.size V V1 → KF G (snR lo hi' (W.heap.size + 1) (W.heap.size + 1 + 1)) V V1 := fun V1 hb => KF.of_below hb (fun i x => by rcases x with x | x; exact (HG.out i x).1; have := hRl i x; omega)
   have HKV := hi hkV
   clear hbx hj hS hyb hpx hG hRG hg0 hg1 hkV
   dsimp only [Ln.Right] at hright
   by_cases hen : en = true
   ·subst hen
    rcases hright with rfl | rfl
    ·by_cases hg : g0 = true
     ·subst hg
      by_cases hr1 : rd = true
      ·subst hr1
       have hb : rdyB true g1 (id, (⟨⟨⟨e, lb', lq, a⟩, true, 0, pr⟩, s⟩ : En)) = true := by simp [rdyB, hrd]
       have HE := hi (filter_yes pre (p := rdyB D.g0 D.g1) (by rw [HG0.out, HG1.out]; exact hb))
       rw [HE.out] at hp2
       have HPF := hi hp2
       clear hb hp2 hrd
       gi_wp2
       refine region_held_g (S := (fun W' => SnAt W' p q lo hi' b c D k ∧ CB W' W.heap.size 163 #[.func (.yield l) #[] #[]])) rfl (by kernel_rfl) (by kernel_rfl) ⟨HS.out.drew, HYC.out.drew⟩ (fun hHeld => ?_)
       (try simp only [r1, r2, r3, r4, r5])
       refine tg 0 (v := ?_) rfl rfl (Or.inl ⟨by rfl, ?_⟩) ?_
       rotate_left
       ·intro w' hSw; (try dsimp only at hSw); have k0 := hSw.1.bp.cell 0; have k1 := hSw.1.di.box.cell 0; have k2 := hSw.1.di.box.cell 1; rw [HG0.out] at k1; rw [HG1.out] at k2; have ky := hSw.2.cell 0; go_simp; (try with_reducible rfl)
       (try simp only [Act.put, n1, n2, n4, n5, n6])
       refine tg 1 (v := ?_) rfl rfl (Or.inl ⟨by rfl, ?_⟩) ?_
       rotate_left
       ·intro w' hSw; (try dsimp only at hSw); have k0 := hSw.1.bp.cell 0; have k1 := hSw.1.di.box.cell 0; have k2 := hSw.1.di.box.cell 1; rw [HG0.out] at k1; rw [HG1.out] at k2; have ky := hSw.2.cell 0; go_simp; (try with_reducible rfl)
       (try simp only [Act.put, n1, n2, n3, n4, n5, n6])
       refine wpAnyG_one (i := 2) (by kernel_rfl) rfl (fun KK hKK => ?_)
       obtain ⟨d0, d1, d2, d3, d4, d5, d6, d7, d8⟩ := CB.ent (x := ⟨⟨⟨e, lb', lq, a⟩, true, 0, pr⟩, s⟩) HBX.out.drew
       dsimp only at d0 d1 d2 d3 d4 d5 d6 d7 d8
       go_simp
       clear d0 d1 d2 d3 d4 d5 d6 d7 d8
       refine hKK.out _ _ hHeld (fun hHeld => ?_)
       clear hKK KK
       (try simp only [Act.put, n1, n2, n3, n4, n5, n6])
       refine tg 3 (v := ?_) rfl rfl (Or.inl ⟨by rfl, ?_⟩) ?_
       rotate_left
       ·intro w' hSw; (try dsimp only at hSw); have k0 := hSw.1.bp.cell 0; have k1 := hSw.1.di.box.cell 0; have k2 := hSw.1.di.box.cell 1; rw [HG0.out] at k1; rw [HG1.out] at k2; have ky := hSw.2.cell 0; go_simp; (try with_reducible rfl)
       (try simp only [Act.put, n1, n2, n3, n4, n5, n6])
       refine tg 4 (v := ?_) rfl rfl (Or.inl ⟨by rfl, ?_⟩) ?_
       rotate_left
       ·intro w' hSw; (try dsimp only at hSw); have k0 := hSw.1.bp.cell 0; have k1 := hSw.1.di.box.cell 0; have k2 := hSw.1.di.box.cell 1; rw [HG0.out] at k1; rw [HG1.out] at k2; have ky := hSw.2.cell 0; go_simp; (try with_reducible rfl)
       (try simp only [Act.put, n1, n2, n3, n4, n5, n6])
       refine tg 5 (v := ?_) rfl rfl (Or.inl ⟨by rfl, ?_⟩) ?_
       rotate_left
       ·intro w' hSw; (try dsimp only at hSw); have k0 := hSw.1.bp.cell 0; have k1 := hSw.1.di.box.cell 0; have k2 := hSw.1.di.box.cell 1; rw [HG0.out] at k1; rw [HG1.out] at k2; have ky := hSw.2.cell 0; go_simp; (try with_reducible rfl)
       (try simp only [Act.put, n1, n2, n3, n4, n5, n6])
       refine tg 6 (v := ?_) rfl rfl (Or.inl ⟨by rfl, ?_⟩) ?_
       rotate_left
       ·intro w' hSw; (try dsimp only at hSw); have k0 := hSw.1.bp.cell 0; have k1 := hSw.1.di.box.cell 0; have k2 := hSw.1.di.box.cell 1; rw [HG0.out] at k1; rw [HG1.out] at k2; have ky := hSw.2.cell 0; go_simp; (try with_reducible rfl)
       (try simp only [Act.put, n1, n2, n3, n4, n5, n6])
       refine tg 8 (v := ?_) rfl rfl (Or.inl ⟨by rfl, ?_⟩) ?_
       rotate_left
       ·intro w' hSw; (try dsimp only at hSw); have k0 := hSw.1.bp.cell 0; have k1 := hSw.1.di.box.cell 0; have k2 := hSw.1.di.box.cell 1; rw [HG0.out] at k1; rw [HG1.out] at k2; have ky := hSw.2.cell 0; go_simp; (try with_reducible rfl)
       (try simp only [Act.put, n1, n2, n3, n4, n5, n6])
       refine tg 9 (v := ?_) rfl rfl (Or.inl ⟨by rfl, ?_⟩) ?_
       rotate_left
       ·intro w' hSw; (try dsimp only at hSw); have k0 := hSw.1.bp.cell 0; have k1 := hSw.1.di.box.cell 0; have k2 := hSw.1.di.box.cell 1; rw [HG0.out] at k1; rw [HG1.out] at k2; have ky := hSw.2.cell 0; go_simp; (try with_reducible rfl)
       (try simp only [Act.put, n1, n2, n3, n4, n5, n6])
       refine wpAnyG_one (i := 7) (by kernel_rfl) rfl (fun KK hKK => ?_)
       obtain ⟨d0, d1, d2, d3, d4, d5, d6, d7, d8⟩ := CB.ent (x := ⟨⟨⟨e, lb', lq, a⟩, true, 0, pr⟩, s⟩) HBX.out.drew
       dsimp only at d0 d1 d2 d3 d4 d5 d6 d7 d8
       go_simp
       clear d0 d1 d2 d3 d4 d5 d6 d7 d8
       refine hKK.out _ _ hHeld (fun hHeld => ?_)
       clear hKK KK
       (try simp only [Act.put, n1, n2, n3, n4, n5, n6])
       refine tg 10 (v := ?_) rfl rfl (Or.inl ⟨by rfl, ?_⟩) ?_
       rotate_left
       ·intro w' hSw; (try dsimp only at hSw); have k0 := hSw.1.bp.cell 0; have k1 := hSw.1.di.box.cell 0; have k2 := hSw.1.di.box.cell 1; rw [HG0.out] at k1; rw [HG1.out] at k2; have ky := hSw.2.cell 0; go_simp; (try with_reducible rfl)
       (try simp only [Act.put, n1, n2, n3, n4, n5, n6])
       refine tg 11 (v := ?_) rfl rfl (Or.inl ⟨by rfl, ?_⟩) ?_
       rotate_left
       ·intro w' hSw; (try dsimp only at hSw); have k0 := hSw.1.bp.cell 0; have k1 := hSw.1.di.box.cell 0; have k2 := hSw.1.di.box.cell 1; rw [HG0.out] at k1; rw [HG1.out] at k2; have ky := hSw.2.cell 0; go_simp; (try with_reducible rfl)
       (try simp only [Act.put, n1, n2, n3, n4, n5, n6])
       refine tg 12 (v := ?_) rfl rfl (Or.inl ⟨by rfl, ?_⟩) ?_
       rotate_left
       ·intro w' hSw; (try dsimp only at hSw); have k0 := hSw.1.bp.cell 0; have k1 := hSw.1.di.box.cell 0; have k2 := hSw.1.di.box.cell 1; rw [HG0.out] at k1; rw [HG1.out] at k2; have ky := hSw.2.cell 0; go_simp; (try with_reducible rfl)
       (try simp only [Act.put, n1, n2, n3, n4, n5, n6])
       refine tg 13 (v := ?_) rfl rfl (Or.inl ⟨by rfl, ?_⟩) ?_
       rotate_left
       ·intro w' hSw; (try dsimp only at hSw); have k0 := hSw.1.bp.cell 0; have k1 := hSw.1.di.box.cell 0; have k2 := hSw.1.di.box.cell 1; rw [HG0.out] at k1; rw [HG1.out] at k2; have ky := hSw.2.cell 0; go_simp; (try with_reducible rfl)
       (try simp only [Act.put, n1, n2, n3, n4, n5, n6])
       refine tg 14 (v := ?_) rfl rfl (Or.inl ⟨by rfl, ?_⟩) ?_
       rotate_left
       ·intro w' hSw; (try dsimp only at hSw); have k0 := hSw.1.bp.cell 0; have k1 := hSw.1.di.box.cell 0; have k2 := hSw.1.di.box.cell 1; rw [HG0.out] at k1; rw [HG1.out] at k2; have ky := hSw.2.cell 0; go_simp; (try with_reducible rfl)
       (try simp only [Act.put, n1, n2, n3, n4, n5, n6])
       refine tg 15 (v := ?_) rfl rfl (Or.inl ⟨by rfl, ?_⟩) ?_
       rotate_left
       ·intro w' hSw; (try dsimp only at hSw); have k0 := hSw.1.bp.cell 0; have k1 := hSw.1.di.box.cell 0; have k2 := hSw.1.di.box.cell 1; rw [HG0.out] at k1; rw [HG1.out] at k2; have ky := hSw.2.cell 0; go_simp; (try with_reducible rfl)
       (try simp only [Act.put, n1, n2, n3, n4, n5, n6])
       refine wpAnyG_one (i := 16) (by kernel_rfl) rfl (fun KK hKK => ?_)
       obtain ⟨d0, d1, d2, d3, d4, d5, d6, d7, d8⟩ := CB.ent (x := ⟨⟨⟨e, lb', lq, a⟩, true, 0, pr⟩, s⟩) HBX.out.drew
       dsimp only at d0 d1 d2 d3 d4 d5 d6 d7 d8
       go_simp
       clear d0 d1 d2 d3 d4 d5 d6 d7 d8
       refine hKK.out _ _ hHeld (fun hHeld => ?_)
       clear hKK KK
       (try simp only [Act.put, n1, n2, n3, n4, n5, n6])
       refine wpAnyG_one (i := 17) (by kernel_rfl) rfl (fun KK hKK => ?_)
       go_simp
       (try refine ⟨trivial, ?_⟩)
       ((with_reducible refine (callsIn_wide.2 (HR.out _)).mono ?_); rintro e' V4 ⟨rfl, hb⟩; have HBN := hi (show Below V.heap.size V V4 from (show Below V.heap.size V V.drew from Below.drewN (m := 1) (Below.refl _ _)).trans hb); have HB4 := hi (HBX.out.drew.below hb); have hSS := And.intro (hHeld.1.below hb) (hHeld.2.below hb); clear hb)
       (try go_simp)
       refine hKK.out _ _ hSS (fun hHeld => ?_)
       clear hKK KK
       (try simp only [Act.put, n1, n2, n3, n4, n5, n6])
       refine tg 18 (v := ?_) rfl rfl (Or.inl ⟨by rfl, ?_⟩) ?_
       rotate_left
       ·intro w' hSw; (try dsimp only at hSw); have k0 := hSw.1.bp.cell 0; have k1 := hSw.1.di.box.cell 0; have k2 := hSw.1.di.box.cell 1; rw [HG0.out] at k1; rw [HG1.out] at k2; have ky := hSw.2.cell 0; go_simp; (try with_reducible rfl)
       (try simp only [Act.put, n1, n2, n3, n4, n5, n6])
       refine tg 19 (v := ?_) rfl rfl (Or.inl ⟨by rfl, ?_⟩) ?_
       rotate_left
       ·intro w' hSw; (try dsimp only at hSw); have k0 := hSw.1.bp.cell 0; have k1 := hSw.1.di.box.cell 0; have k2 := hSw.1.di.box.cell 1; rw [HG0.out] at k1; rw [HG1.out] at k2; have ky := hSw.2.cell 0; go_simp; (try with_reducible rfl)
       (try simp only [Act.put, n1, n2, n3, n4, n5, n6])
       refine tg 20 (v := ?_) rfl rfl (Or.inl ⟨by rfl, ?_⟩) ?_
       rotate_left
       ·intro w' hSw; (try dsimp only at hSw); have k0 := hSw.1.bp.cell 0; have k1 := hSw.1.di.box.cell 0; have k2 := hSw.1.di.box.cell 1; rw [HG0.out] at k1; rw [HG1.out] at k2; have ky := hSw.2.cell 0; go_simp; (try with_reducible rfl)
       (try simp only [Act.put, n1, n2, n3, n4, n5, n6])
       refine tg 21 (v := ?_) rfl rfl (Or.inl ⟨by rfl, ?_⟩) ?_
       rotate_left
       ·intro w' hSw; (try dsimp only at hSw); have k0 := hSw.1.bp.cell 0; have k1 := hSw.1.di.box.cell 0; have k2 := hSw.1.di.box.cell 1; rw [HG0.out] at k1; rw [HG1.out] at k2; have ky := hSw.2.cell 0; go_simp; (try with_reducible rfl)
       (try simp only [Act.put, n1, n2, n3, n4, n5, n6])
       refine wpAnyG_one (i := 22) (by kernel_rfl) rfl (fun KK hKK => ?_)
       obtain ⟨d0, d1, d2, d3, d4, d5, d6, d7, d8⟩ := CB.ent (x := ⟨⟨⟨e, lb', lq, a⟩, true, 0, pr⟩, s⟩) HB4.out
       dsimp only at d0 d1 d2 d3 d4 d5 d6 d7 d8
       go_simp
       clear d0 d1 d2 d3 d4 d5 d6 d7 d8
       refine hKK.out _ _ hHeld (fun hHeld => ?_)
       clear hKK KK
       (try simp only [Act.put, n1, n2, n3, n4, n5, n6])
       obtain ⟨fn, tmps, assign, body, hy, hRd⟩ := HYY.out _ _ (fun i => G i ∨ X i) V4 ((HJ.out.with_ X).st _ _ _ _ HJV.out (Kept.of HBN.out)) HPF.out (fun i x => .inl (hFG i x)) (fun i x => by have hbn := HBN.out.size; rcases x with x | x; exact ⟨by have := (HG.out i x).1; omega, fun r => HRG.out i r x⟩; exact ⟨by have := X2 x; omega, fun r => by have := HLT.out i r; have := X2 x; omega⟩) (by have := HBN.out.size; omega) (6 - 1 - 1 - 1)
       dsimp only [encI, En.v] at hy
       refine wpAnyG_one (i := 23) (by kernel_rfl) rfl (fun KK hKK => ?_)
       go_simp
       (first | refine hRd.mono ?_ | (refine ⟨trivial, ?_⟩; refine hRd.mono ?_))
       rintro e3 W3 (⟨rfl, hJ3, hk3⟩ | ⟨rfl, hJx3, hk3⟩)
       ·have hk := hk3.size
        have hbn := HBN.out.size
        have hS3 : SnAt W3 p q lo hi' b c D k := (HS.out.below HBN.out).heap hk (fun i r => hk3.same i (.inr r))
        have hY3 : CB W3 W.heap.size 163 #[.func (.yield l) #[] #[]] := (HYC.out.below HBN.out).heap (hk3.same _ (.inl (.inr (X1 (by omega) (by omega)))))
        have hKK3 : KF G (snR lo hi' (W.heap.size + 1) (W.heap.size + 1 + 1)) V W3 := (HKV.out _ HBN.out).trans (hk3.mono (fun i x => by rcases x with x | x | x | x; exact .inl (.inl x); exact .inr (.inl x); exact .inl (.inr (X1 (by omega) (by omega))); exact .inl (.inr (X1 (by omega) (by omega)))))
        (try go_simp)
        refine hKK.out _ _ ⟨hS3, hY3⟩ (fun hHeld => ?_)
        clear hKK KK
        (try simp only [Act.put, n1, n2, n3, n4, n5, n6])
        refine tg 24 (v := ?_) rfl rfl (Or.inl ⟨by rfl, ?_⟩) ?_
        rotate_left
        ·intro w' hSw; (try dsimp only at hSw); skip; go_simp; (try with_reducible rfl)
        (try simp only [Act.put, n1, n2, n3, n4, n5, n6])
        refine tg 25 (v := ?_) rfl rfl (Or.inl ⟨by rfl, ?_⟩) ?_
        rotate_left
        ·intro w' hSw; (try dsimp only at hSw); skip; go_simp; (try with_reducible rfl)
        (try simp only [Act.put, n1, n2, n3, n4, n5, n6])
        refine wpAnyG_done (by kernel_rfl) ?_ _
        gi_wp2
        refine ⟨hKK3, ⟨⟨?_, HRG.out, hS3⟩, hNG, hY3⟩⟩
        rw [HE.out]
        exact hJ3
       ·have hk := hk3.size
        have hbn := HBN.out.size
        have hS3 : SnAt W3 p q lo hi' b c D k := (HS.out.below HBN.out).heap hk (fun i r => hk3.same i (.inr r))
        have hY3 : CB W3 W.heap.size 163 #[.func (.yield l) #[] #[]] := (HYC.out.below HBN.out).heap (hk3.same _ (.inl (.inr (X1 (by omega) (by omega)))))
        have hKK3 : KF G (snR lo hi' (W.heap.size + 1) (W.heap.size + 1 + 1)) V W3 := (HKV.out _ HBN.out).trans (hk3.mono (fun i x => by rcases x with x | x | x | x; exact .inl (.inl x); exact .inr (.inl x); exact .inl (.inr (X1 (by omega) (by omega))); exact .inl (.inr (X1 (by omega) (by omega)))))
        (try go_simp)
        refine hKK.out _ _ ⟨hS3, hY3⟩ (fun hHeld => ?_)
        clear hKK KK
        (try simp only [Act.put, n1, n2, n3, n4, n5, n6])
        refine tg 24 (v := ?_) rfl rfl (Or.inl ⟨by rfl, ?_⟩) ?_
        rotate_left
        ·intro w' hSw; (try dsimp only at hSw); skip; go_simp; (try with_reducible rfl)
        (try simp only [Act.put, n1, n2, n3, n4, n5, n6])
        refine tg 25 (v := ?_) rfl rfl (Or.inl ⟨by rfl, ?_⟩) ?_
        rotate_left
        ·intro w' hSw; (try dsimp only at hSw); skip; go_simp; (try with_reducible rfl)
        (try simp only [Act.put, n1, n2, n3, n4, n5, n6])
        refine wpAnyG_done (by kernel_rfl) ?_ _
        gi_wp2
        exact ⟨hKK3, rfl, _, HPF.out, hJx3⟩
      ·obtain rfl : rd = false := by simpa using hr1
       have hb : rdyB true g1 (id, (⟨⟨⟨e, lb', lq, a⟩, true, 0, pr⟩, s⟩ : En)) = false := by simp [rdyB, hrd]
       have HE := hi (filter_no pre (p := rdyB D.g0 D.g1) (by rw [HG0.out, HG1.out]; exact hb))
       clear hb hp2 hrd hr1
       gi_wp2
       refine region_held_g (S := (fun W' => SnAt W' p q lo hi' b c D k ∧ CB W' W.heap.size 163 #[.func (.yield l) #[] #[]])) rfl (by kernel_rfl) (by kernel_rfl) ⟨HS.out.drew, HYC.out.drew⟩ (fun hHeld => ?_)
       (try simp only [r1, r2, r3, r4, r5])
       refine tg 0 (v := ?_) rfl rfl (Or.inl ⟨by rfl, ?_⟩) ?_
       rotate_left
       ·intro w' hSw; (try dsimp only at hSw); have k0 := hSw.1.bp.cell 0; have k1 := hSw.1.di.box.cell 0; have k2 := hSw.1.di.box.cell 1; rw [HG0.out] at k1; rw [HG1.out] at k2; have ky := hSw.2.cell 0; go_simp; (try with_reducible rfl)
       (try simp only [Act.put, n1, n2, n4, n5, n6])
       refine tg 1 (v := ?_) rfl rfl (Or.inl ⟨by rfl, ?_⟩) ?_
       rotate_left
       ·intro w' hSw; (try dsimp only at hSw); have k0 := hSw.1.bp.cell 0; have k1 := hSw.1.di.box.cell 0; have k2 := hSw.1.di.box.cell 1; rw [HG0.out] at k1; rw [HG1.out] at k2; have ky := hSw.2.cell 0; go_simp; (try with_reducible rfl)
       (try simp only [Act.put, n1, n2, n3, n4, n5, n6])
       refine wpAnyG_one (i := 2) (by kernel_rfl) rfl (fun KK hKK => ?_)
       obtain ⟨d0, d1, d2, d3, d4, d5, d6, d7, d8⟩ := CB.ent (x := ⟨⟨⟨e, lb', lq, a⟩, true, 0, pr⟩, s⟩) HBX.out.drew
       dsimp only at d0 d1 d2 d3 d4 d5 d6 d7 d8
       go_simp
       clear d0 d1 d2 d3 d4 d5 d6 d7 d8
       refine hKK.out _ _ hHeld (fun hHeld => ?_)
       clear hKK KK
       (try simp only [Act.put, n1, n2, n3, n4, n5, n6])
       refine tg 3 (v := ?_) rfl rfl (Or.inl ⟨by rfl, ?_⟩) ?_
       rotate_left
       ·intro w' hSw; (try dsimp only at hSw); have k0 := hSw.1.bp.cell 0; have k1 := hSw.1.di.box.cell 0; have k2 := hSw.1.di.box.cell 1; rw [HG0.out] at k1; rw [HG1.out] at k2; have ky := hSw.2.cell 0; go_simp; (try with_reducible rfl)
       (try simp only [Act.put, n1, n2, n3, n4, n5, n6])
       refine tg 4 (v := ?_) rfl rfl (Or.inl ⟨by rfl, ?_⟩) ?_
       rotate_left
       ·intro w' hSw; (try dsimp only at hSw); have k0 := hSw.1.bp.cell 0; have k1 := hSw.1.di.box.cell 0; have k2 := hSw.1.di.box.cell 1; rw [HG0.out] at k1; rw [HG1.out] at k2; have ky := hSw.2.cell 0; go_simp; (try with_reducible rfl)
       (try simp only [Act.put, n1, n2, n3, n4, n5, n6])
       refine tg 5 (v := ?_) rfl rfl (Or.inl ⟨by rfl, ?_⟩) ?_
       rotate_left
       ·intro w' hSw; (try dsimp only at hSw); have k0 := hSw.1.bp.cell 0; have k1 := hSw.1.di.box.cell 0; have k2 := hSw.1.di.box.cell 1; rw [HG0.out] at k1; rw [HG1.out] at k2; have ky := hSw.2.cell 0; go_simp; (try with_reducible rfl)
       (try simp only [Act.put, n1, n2, n3, n4, n5, n6])
       refine tg 6 (v := ?_) rfl rfl (Or.inl ⟨by rfl, ?_⟩) ?_
       rotate_left
       ·intro w' hSw; (try dsimp only at hSw); have k0 := hSw.1.bp.cell 0; have k1 := hSw.1.di.box.cell 0; have k2 := hSw.1.di.box.cell 1; rw [HG0.out] at k1; rw [HG1.out] at k2; have ky := hSw.2.cell 0; go_simp; (try with_reducible rfl)
       (try simp only [Act.put, n1, n2, n3, n4, n5, n6])
       refine tg 8 (v := ?_) rfl rfl (Or.inl ⟨by rfl, ?_⟩) ?_
       rotate_left
       ·intro w' hSw; (try dsimp only at hSw); have k0 := hSw.1.bp.cell 0; have k1 := hSw.1.di.box.cell 0; have k2 := hSw.1.di.box.cell 1; rw [HG0.out] at k1; rw [HG1.out] at k2; have ky := hSw.2.cell 0; go_simp; (try with_reducible rfl)
       (try simp only [Act.put, n1, n2, n3, n4, n5, n6])
       refine tg 9 (v := ?_) rfl rfl (Or.inl ⟨by rfl, ?_⟩) ?_
       rotate_left
       ·intro w' hSw; (try dsimp only at hSw); have k0 := hSw.1.bp.cell 0; have k1 := hSw.1.di.box.cell 0; have k2 := hSw.1.di.box.cell 1; rw [HG0.out] at k1; rw [HG1.out] at k2; have ky := hSw.2.cell 0; go_simp; (try with_reducible rfl)
       (try simp only [Act.put, n1, n2, n3, n4, n5, n6])
       refine wpAnyG_one (i := 7) (by kernel_rfl) rfl (fun KK hKK => ?_)
       obtain ⟨d0, d1, d2, d3, d4, d5, d6, d7, d8⟩ := CB.ent (x := ⟨⟨⟨e, lb', lq, a⟩, true, 0, pr⟩, s⟩) HBX.out.drew
       dsimp only at d0 d1 d2 d3 d4 d5 d6 d7 d8
       go_simp
       clear d0 d1 d2 d3 d4 d5 d6 d7 d8
       refine hKK.out _ _ hHeld (fun hHeld => ?_)
       clear hKK KK
       (try simp only [Act.put, n1, n2, n3, n4, n5, n6])
       refine tg 10 (v := ?_) rfl rfl (Or.inl ⟨by rfl, ?_⟩) ?_
       rotate_left
       ·intro w' hSw; (try dsimp only at hSw); have k0 := hSw.1.bp.cell 0; have k1 := hSw.1.di.box.cell 0; have k2 := hSw.1.di.box.cell 1; rw [HG0.out] at k1; rw [HG1.out] at k2; have ky := hSw.2.cell 0; go_simp; (try with_reducible rfl)
       (try simp only [Act.put, n1, n2, n3, n4, n5, n6])
       refine tg 11 (v := ?_) rfl rfl (Or.inl ⟨by rfl, ?_⟩) ?_
       rotate_left
       ·intro w' hSw; (try dsimp only at hSw); have k0 := hSw.1.bp.cell 0; have k1 := hSw.1.di.box.cell 0; have k2 := hSw.1.di.box.cell 1; rw [HG0.out] at k1; rw [HG1.out] at k2; have ky := hSw.2.cell 0; go_simp; (try with_reducible rfl)
       (try simp only [Act.put, n1, n2, n3, n4, n5, n6])
       refine tg 12 (v := ?_) rfl rfl (Or.inl ⟨by rfl, ?_⟩) ?_
       rotate_left
       ·intro w' hSw; (try dsimp only at hSw); have k0 := hSw.1.bp.cell 0; have k1 := hSw.1.di.box.cell 0; have k2 := hSw.1.di.box.cell 1; rw [HG0.out] at k1; rw [HG1.out] at k2; have ky := hSw.2.cell 0; go_simp; (try with_reducible rfl)
       (try simp only [Act.put, n1, n2, n3, n4, n5, n6])
       refine tg 13 (v := ?_) rfl rfl (Or.inl ⟨by rfl, ?_⟩) ?_
       rotate_left
       ·intro w' hSw; (try dsimp only at hSw); have k0 := hSw.1.bp.cell 0; have k1 := hSw.1.di.box.cell 0; have k2 := hSw.1.di.box.cell 1; rw [HG0.out] at k1; rw [HG1.out] at k2; have ky := hSw.2.cell 0; go_simp; (try with_reducible rfl)
       (try simp only [Act.put, n1, n2, n3, n4, n5, n6])
       refine tg 14 (v := ?_) rfl rfl (Or.inl ⟨by rfl, ?_⟩) ?_
       rotate_left
       ·intro w' hSw; (try dsimp only at hSw); have k0 := hSw.1.bp.cell 0; have k1 := hSw.1.di.box.cell 0; have k2 := hSw.1.di.box.cell 1; rw [HG0.out] at k1; rw [HG1.out] at k2; have ky := hSw.2.cell 0; go_simp; (try with_reducible rfl)
       (try simp only [Act.put, n1, n2, n3, n4, n5, n6])
       refine tg 15 (v := ?_) rfl rfl (Or.inl ⟨by rfl, ?_⟩) ?_
       rotate_left
       ·intro w' hSw; (try dsimp only at hSw); have k0 := hSw.1.bp.cell 0; have k1 := hSw.1.di.box.cell 0; have k2 := hSw.1.di.box.cell 1; rw [HG0.out] at k1; rw [HG1.out] at k2; have ky := hSw.2.cell 0; go_simp; (try with_reducible rfl)
       (try simp only [Act.put, n1, n2, n3, n4, n5, n6])
       refine wpAnyG_one (i := 16) (by kernel_rfl) rfl (fun KK hKK => ?_)
       obtain ⟨d0, d1, d2, d3, d4, d5, d6, d7, d8⟩ := CB.ent (x := ⟨⟨⟨e, lb', lq, a⟩, true, 0, pr⟩, s⟩) HBX.out.drew
       dsimp only at d0 d1 d2 d3 d4 d5 d6 d7 d8
       go_simp
       clear d0 d1 d2 d3 d4 d5 d6 d7 d8
       refine hKK.out _ _ hHeld (fun hHeld => ?_)
       clear hKK KK
       (try simp only [Act.put, n1, n2, n3, n4, n5, n6])
       refine wpAnyG_one (i := 17) (by kernel_rfl) rfl (fun KK hKK => ?_)
       go_simp
       (try refine ⟨trivial, ?_⟩)
       ((with_reducible refine (callsIn_wide.2 (HR.out _)).mono ?_); rintro e' V4 ⟨rfl, hb⟩; have HBN := hi (show Below V.heap.size V V4 from (show Below V.heap.size V V.drew from Below.drewN (m := 1) (Below.refl _ _)).trans hb); have HB4 := hi (HBX.out.drew.below hb); have hSS := And.intro (hHeld.1.below hb) (hHeld.2.below hb); clear hb)
       (try go_simp)
       refine hKK.out _ _ hSS (fun hHeld => ?_)
       clear hKK KK
       (try simp only [Act.put, n1, n2, n3, n4, n5, n6])
       refine tg 18 (v := ?_) rfl rfl (Or.inl ⟨by rfl, ?_⟩) ?_
       rotate_left
       ·intro w' hSw; (try dsimp only at hSw); have k0 := hSw.1.bp.cell 0; have k1 := hSw.1.di.box.cell 0; have k2 := hSw.1.di.box.cell 1; rw [HG0.out] at k1; rw [HG1.out] at k2; have ky := hSw.2.cell 0; go_simp; (try with_reducible rfl)
       (try simp only [Act.put, n1, n2, n3, n4, n5, n6])
       refine tg 19 (v := ?_) rfl rfl (Or.inl ⟨by rfl, ?_⟩) ?_
       rotate_left
       ·intro w' hSw; (try dsimp only at hSw); have k0 := hSw.1.bp.cell 0; have k1 := hSw.1.di.box.cell 0; have k2 := hSw.1.di.box.cell 1; rw [HG0.out] at k1; rw [HG1.out] at k2; have ky := hSw.2.cell 0; go_simp; (try with_reducible rfl)
       (try simp only [Act.put, n1, n2, n3, n4, n5, n6])
       refine tg 20 (v := undef) rfl rfl (Or.inr ⟨by rfl, rfl⟩) ?_
       (try simp only [Act.put, n1, n2, n3, n4, n5, n6])
       refine tg 21 (v := undef) rfl rfl (Or.inr ⟨by rfl, rfl⟩) ?_
       (try simp only [Act.put, n1, n2, n3, n4, n5, n6])
       refine tg 22 (v := undef) rfl rfl (Or.inr ⟨by rfl, rfl⟩) ?_
       (try simp only [Act.put, n1, n2, n3, n4, n5, n6])
       refine tg 23 (v := undef) rfl rfl (Or.inr ⟨by rfl, rfl⟩) ?_
       (try simp only [Act.put, n1, n2, n3, n4, n5, n6])
       refine tg 24 (v := undef) rfl rfl (Or.inr ⟨by rfl, rfl⟩) ?_
       (try simp only [Act.put, n1, n2, n3, n4, n5, n6])
       refine tg 25 (v := ?_) rfl rfl (Or.inl ⟨by rfl, ?_⟩) ?_
       rotate_left
       ·intro w' hSw; (try dsimp only at hSw); have k0 := hSw.1.bp.cell 0; have k1 := hSw.1.di.box.cell 0; have k2 := hSw.1.di.box.cell 1; rw [HG0.out] at k1; rw [HG1.out] at k2; have ky := hSw.2.cell 0; go_simp; (try with_reducible rfl)
       (try simp only [Act.put, n1, n2, n3, n4, n5, n6])
       refine wpAnyG_done (by kernel_rfl) ?_ _
       gi_wp2
       refine ⟨HKV.out _ HBN.out, ⟨⟨?_, HRG.out, HS.out.below HBN.out⟩, hNG, HYC.out.below HBN.out⟩⟩
       rw [HE.out]
       exact (HJ.out.with_ X).st _ _ _ _ HJV.out (Kept.of HBN.out)
     ·obtain rfl : g0 = false := by simpa using hg
      have hb : rdyB false g1 (id, (⟨⟨⟨e, lb', lq, a⟩, true, 0, pr⟩, s⟩ : En)) = false := by simp [rdyB]
      have HE := hi (filter_no pre (p := rdyB D.g0 D.g1) (by rw [HG0.out, HG1.out]; exact hb))
      clear hb hp2 hrd hg
      gi_wp2
      refine region_held_g (S := (fun W' => SnAt W' p q lo hi' b c D k ∧ CB W' W.heap.size 163 #[.func (.yield l) #[] #[]])) rfl (by kernel_rfl) (by kernel_rfl) ⟨HS.out.drew, HYC.out.drew⟩ (fun hHeld => ?_)
      (try simp only [r1, r2, r3, r4, r5])
      refine tg 0 (v := ?_) rfl rfl (Or.inl ⟨by rfl, ?_⟩) ?_
      rotate_left
      ·intro w' hSw; (try dsimp only at hSw); have k0 := hSw.1.bp.cell 0; have k1 := hSw.1.di.box.cell 0; have k2 := hSw.1.di.box.cell 1; rw [HG0.out] at k1; rw [HG1.out] at k2; have ky := hSw.2.cell 0; go_simp; (try with_reducible rfl)
      (try simp only [Act.put, n1, n2, n4, n5, n6])
      refine tg 1 (v := ?_) rfl rfl (Or.inl ⟨by rfl, ?_⟩) ?_
      rotate_left
      ·intro w' hSw; (try dsimp only at hSw); have k0 := hSw.1.bp.cell 0; have k1 := hSw.1.di.box.cell 0; have k2 := hSw.1.di.box.cell 1; rw [HG0.out] at k1; rw [HG1.out] at k2; have ky := hSw.2.cell 0; go_simp; (try with_reducible rfl)
      (try simp only [Act.put, n1, n2, n3, n4, n5, n6])
      refine wpAnyG_one (i := 2) (by kernel_rfl) rfl (fun KK hKK => ?_)
      obtain ⟨d0, d1, d2, d3, d4, d5, d6, d7, d8⟩ := CB.ent (x := ⟨⟨⟨e, lb', lq, a⟩, true, 0, pr⟩, s⟩) HBX.out.drew
      dsimp only at d0 d1 d2 d3 d4 d5 d6 d7 d8
      go_simp
      clear d0 d1 d2 d3 d4 d5 d6 d7 d8
      refine hKK.out _ _ hHeld (fun hHeld => ?_)
      clear hKK KK
      (try simp only [Act.put, n1, n2, n3, n4, n5, n6])
      refine tg 3 (v := ?_) rfl rfl (Or.inl ⟨by rfl, ?_⟩) ?_
      rotate_left
      ·intro w' hSw; (try dsimp only at hSw); have k0 := hSw.1.bp.cell 0; have k1 := hSw.1.di.box.cell 0; have k2 := hSw.1.di.box.cell 1; rw [HG0.out] at k1; rw [HG1.out] at k2; have ky := hSw.2.cell 0; go_simp; (try with_reducible rfl)
      (try simp only [Act.put, n1, n2, n3, n4, n5, n6])
      refine tg 4 (v := ?_) rfl rfl (Or.inl ⟨by rfl, ?_⟩) ?_
      rotate_left
      ·intro w' hSw; (try dsimp only at hSw); have k0 := hSw.1.bp.cell 0; have k1 := hSw.1.di.box.cell 0; have k2 := hSw.1.di.box.cell 1; rw [HG0.out] at k1; rw [HG1.out] at k2; have ky := hSw.2.cell 0; go_simp; (try with_reducible rfl)
      (try simp only [Act.put, n1, n2, n3, n4, n5, n6])
      refine tg 5 (v := ?_) rfl rfl (Or.inl ⟨by rfl, ?_⟩) ?_
      rotate_left
      ·intro w' hSw; (try dsimp only at hSw); have k0 := hSw.1.bp.cell 0; have k1 := hSw.1.di.box.cell 0; have k2 := hSw.1.di.box.cell 1; rw [HG0.out] at k1; rw [HG1.out] at k2; have ky := hSw.2.cell 0; go_simp; (try with_reducible rfl)
      (try simp only [Act.put, n1, n2, n3, n4, n5, n6])
      refine tg 6 (v := ?_) rfl rfl (Or.inl ⟨by rfl, ?_⟩) ?_
      rotate_left
      ·intro w' hSw; (try dsimp only at hSw); have k0 := hSw.1.bp.cell 0; have k1 := hSw.1.di.box.cell 0; have k2 := hSw.1.di.box.cell 1; rw [HG0.out] at k1; rw [HG1.out] at k2; have ky := hSw.2.cell 0; go_simp; (try with_reducible rfl)
      (try simp only [Act.put, n1, n2, n3, n4, n5, n6])
      refine tg 8 (v := ?_) rfl rfl (Or.inl ⟨by rfl, ?_⟩) ?_
      rotate_left
      ·intro w' hSw; (try dsimp only at hSw); have k0 := hSw.1.bp.cell 0; have k1 := hSw.1.di.box.cell 0; have k2 := hSw.1.di.box.cell 1; rw [HG0.out] at k1; rw [HG1.out] at k2; have ky := hSw.2.cell 0; go_simp; (try with_reducible rfl)
      (try simp only [Act.put, n1, n2, n3, n4, n5, n6])
      refine tg 9 (v := ?_) rfl rfl (Or.inl ⟨by rfl, ?_⟩) ?_
      rotate_left
      ·intro w' hSw; (try dsimp only at hSw); have k0 := hSw.1.bp.cell 0; have k1 := hSw.1.di.box.cell 0; have k2 := hSw.1.di.box.cell 1; rw [HG0.out] at k1; rw [HG1.out] at k2; have ky := hSw.2.cell 0; go_simp; (try with_reducible rfl)
      (try simp only [Act.put, n1, n2, n3, n4, n5, n6])
      refine wpAnyG_one (i := 7) (by kernel_rfl) rfl (fun KK hKK => ?_)
      obtain ⟨d0, d1, d2, d3, d4, d5, d6, d7, d8⟩ := CB.ent (x := ⟨⟨⟨e, lb', lq, a⟩, true, 0, pr⟩, s⟩) HBX.out.drew
      dsimp only at d0 d1 d2 d3 d4 d5 d6 d7 d8
      go_simp
      clear d0 d1 d2 d3 d4 d5 d6 d7 d8
      refine hKK.out _ _ hHeld (fun hHeld => ?_)
      clear hKK KK
      (try simp only [Act.put, n1, n2, n3, n4, n5, n6])
      refine tg 10 (v := ?_) rfl rfl (Or.inl ⟨by rfl, ?_⟩) ?_
      rotate_left
      ·intro w' hSw; (try dsimp only at hSw); have k0 := hSw.1.bp.cell 0; have k1 := hSw.1.di.box.cell 0; have k2 := hSw.1.di.box.cell 1; rw [HG0.out] at k1; rw [HG1.out] at k2; have ky := hSw.2.cell 0; go_simp; (try with_reducible rfl)
      (try simp only [Act.put, n1, n2, n3, n4, n5, n6])
      refine tg 11 (v := ?_) rfl rfl (Or.inl ⟨by rfl, ?_⟩) ?_
      rotate_left
      ·intro w' hSw; (try dsimp only at hSw); have k0 := hSw.1.bp.cell 0; have k1 := hSw.1.di.box.cell 0; have k2 := hSw.1.di.box.cell 1; rw [HG0.out] at k1; rw [HG1.out] at k2; have ky := hSw.2.cell 0; go_simp; (try with_reducible rfl)
      (try simp only [Act.put, n1, n2, n3, n4, n5, n6])
      refine tg 12 (v := ?_) rfl rfl (Or.inl ⟨by rfl, ?_⟩) ?_
      rotate_left
      ·intro w' hSw; (try dsimp only at hSw); have k0 := hSw.1.bp.cell 0; have k1 := hSw.1.di.box.cell 0; have k2 := hSw.1.di.box.cell 1; rw [HG0.out] at k1; rw [HG1.out] at k2; have ky := hSw.2.cell 0; go_simp; (try with_reducible rfl)
      (try simp only [Act.put, n1, n2, n3, n4, n5, n6])
      refine tg 13 (v := ?_) rfl rfl (Or.inl ⟨by rfl, ?_⟩) ?_
      rotate_left
      ·intro w' hSw; (try dsimp only at hSw); have k0 := hSw.1.bp.cell 0; have k1 := hSw.1.di.box.cell 0; have k2 := hSw.1.di.box.cell 1; rw [HG0.out] at k1; rw [HG1.out] at k2; have ky := hSw.2.cell 0; go_simp; (try with_reducible rfl)
      (try simp only [Act.put, n1, n2, n3, n4, n5, n6])
      refine tg 14 (v := undef) rfl rfl (Or.inr ⟨by rfl, rfl⟩) ?_
      (try simp only [Act.put, n1, n2, n3, n4, n5, n6])
      refine tg 15 (v := undef) rfl rfl (Or.inr ⟨by rfl, rfl⟩) ?_
      (try simp only [Act.put, n1, n2, n3, n4, n5, n6])
      refine tg 16 (v := undef) rfl rfl (Or.inr ⟨by rfl, rfl⟩) ?_
      (try simp only [Act.put, n1, n2, n3, n4, n5, n6])
      refine wpAnyG_one (i := 17) (by kernel_rfl) rfl (fun KK hKK => ?_)
      go_simp
      (first | refine ⟨noFn, ?_⟩ | refine ⟨fun _ _ => trivial, ?_⟩ | refine ⟨trivial, ?_⟩)
      refine hKK.out _ _ hHeld (fun hHeld => ?_)
      clear hKK KK
      (try simp only [Act.put, n1, n2, n3, n4, n5, n6])
      refine tg 18 (v := ?_) rfl rfl (Or.inl ⟨by rfl, ?_⟩) ?_
      rotate_left
      ·intro w' hSw; (try dsimp only at hSw); have k0 := hSw.1.bp.cell 0; have k1 := hSw.1.di.box.cell 0; have k2 := hSw.1.di.box.cell 1; rw [HG0.out] at k1; rw [HG1.out] at k2; have ky := hSw.2.cell 0; go_simp; (try with_reducible rfl)
      (try simp only [Act.put, n1, n2, n3, n4, n5, n6])
      refine tg 19 (v := ?_) rfl rfl (Or.inl ⟨by rfl, ?_⟩) ?_
      rotate_left
      ·intro w' hSw; (try dsimp only at hSw); have k0 := hSw.1.bp.cell 0; have k1 := hSw.1.di.box.cell 0; have k2 := hSw.1.di.box.cell 1; rw [HG0.out] at k1; rw [HG1.out] at k2; have ky := hSw.2.cell 0; go_simp; (try with_reducible rfl)
      (try simp only [Act.put, n1, n2, n3, n4, n5, n6])
      refine tg 20 (v := undef) rfl rfl (Or.inr ⟨by rfl, rfl⟩) ?_
      (try simp only [Act.put, n1, n2, n3, n4, n5, n6])
      refine tg 21 (v := undef) rfl rfl (Or.inr ⟨by rfl, rfl⟩) ?_
      (try simp only [Act.put, n1, n2, n3, n4, n5, n6])
      refine tg 22 (v := undef) rfl rfl (Or.inr ⟨by rfl, rfl⟩) ?_
      (try simp only [Act.put, n1, n2, n3, n4, n5, n6])
      refine tg 23 (v := undef) rfl rfl (Or.inr ⟨by rfl, rfl⟩) ?_
      (try simp only [Act.put, n1, n2, n3, n4, n5, n6])
      refine tg 24 (v := undef) rfl rfl (Or.inr ⟨by rfl, rfl⟩) ?_
      (try simp only [Act.put, n1, n2, n3, n4, n5, n6])
      refine tg 25 (v := ?_) rfl rfl (Or.inl ⟨by rfl, ?_⟩) ?_
      rotate_left
      ·intro w' hSw; (try dsimp only at hSw); have k0 := hSw.1.bp.cell 0; have k1 := hSw.1.di.box.cell 0; have k2 := hSw.1.di.box.cell 1; rw [HG0.out] at k1; rw [HG1.out] at k2; have ky := hSw.2.cell 0; go_simp; (try with_reducible rfl)
      (try simp only [Act.put, n1, n2, n3, n4, n5, n6])
      refine wpAnyG_done (by kernel_rfl) ?_ _
      gi_wp2
      refine ⟨HKV.out _ HD.out, ⟨⟨?_, HRG.out, HS.out.below HD.out⟩, hNG, HYC.out.below HD.out⟩⟩
      rw [HE.out]
      exact (HJ.out.with_ X).st _ _ _ _ HJV.out (Kept.of HD.out)
    ·by_cases hg : g1 = true
     ·subst hg
      by_cases hr1 : rd = true
      ·subst hr1
       have hb : rdyB g0 true (id, (⟨⟨⟨e, lb', lq, a⟩, true, 1, pr⟩, s⟩ : En)) = true := by simp [rdyB, hrd]
       have HE := hi (filter_yes pre (p := rdyB D.g0 D.g1) (by rw [HG0.out, HG1.out]; exact hb))
       rw [HE.out] at hp2
       have HPF := hi hp2
       clear hb hp2 hrd
       gi_wp2
       refine region_held_g (S := (fun W' => SnAt W' p q lo hi' b c D k ∧ CB W' W.heap.size 163 #[.func (.yield l) #[] #[]])) rfl (by kernel_rfl) (by kernel_rfl) ⟨HS.out.drew, HYC.out.drew⟩ (fun hHeld => ?_)
       (try simp only [r1, r2, r3, r4, r5])
       refine tg 0 (v := ?_) rfl rfl (Or.inl ⟨by rfl, ?_⟩) ?_
       rotate_left
       ·intro w' hSw; (try dsimp only at hSw); have k0 := hSw.1.bp.cell 0; have k1 := hSw.1.di.box.cell 0; have k2 := hSw.1.di.box.cell 1; rw [HG0.out] at k1; rw [HG1.out] at k2; have ky := hSw.2.cell 0; go_simp; (try with_reducible rfl)
       (try simp only [Act.put, n1, n2, n4, n5, n6])
       refine tg 1 (v := ?_) rfl rfl (Or.inl ⟨by rfl, ?_⟩) ?_
       rotate_left
       ·intro w' hSw; (try dsimp only at hSw); have k0 := hSw.1.bp.cell 0; have k1 := hSw.1.di.box.cell 0; have k2 := hSw.1.di.box.cell 1; rw [HG0.out] at k1; rw [HG1.out] at k2; have ky := hSw.2.cell 0; go_simp; (try with_reducible rfl)
       (try simp only [Act.put, n1, n2, n3, n4, n5, n6])
       refine wpAnyG_one (i := 2) (by kernel_rfl) rfl (fun KK hKK => ?_)
       obtain ⟨d0, d1, d2, d3, d4, d5, d6, d7, d8⟩ := CB.ent (x := ⟨⟨⟨e, lb', lq, a⟩, true, 1, pr⟩, s⟩) HBX.out.drew
       dsimp only at d0 d1 d2 d3 d4 d5 d6 d7 d8
       go_simp
       clear d0 d1 d2 d3 d4 d5 d6 d7 d8
       refine hKK.out _ _ hHeld (fun hHeld => ?_)
       clear hKK KK
       (try simp only [Act.put, n1, n2, n3, n4, n5, n6])
       refine tg 3 (v := ?_) rfl rfl (Or.inl ⟨by rfl, ?_⟩) ?_
       rotate_left
       ·intro w' hSw; (try dsimp only at hSw); have k0 := hSw.1.bp.cell 0; have k1 := hSw.1.di.box.cell 0; have k2 := hSw.1.di.box.cell 1; rw [HG0.out] at k1; rw [HG1.out] at k2; have ky := hSw.2.cell 0; go_simp; (try with_reducible rfl)
       (try simp only [Act.put, n1, n2, n3, n4, n5, n6])
       refine tg 4 (v := ?_) rfl rfl (Or.inl ⟨by rfl, ?_⟩) ?_
       rotate_left
       ·intro w' hSw; (try dsimp only at hSw); have k0 := hSw.1.bp.cell 0; have k1 := hSw.1.di.box.cell 0; have k2 := hSw.1.di.box.cell 1; rw [HG0.out] at k1; rw [HG1.out] at k2; have ky := hSw.2.cell 0; go_simp; (try with_reducible rfl)
       (try simp only [Act.put, n1, n2, n3, n4, n5, n6])
       refine tg 5 (v := ?_) rfl rfl (Or.inl ⟨by rfl, ?_⟩) ?_
       rotate_left
       ·intro w' hSw; (try dsimp only at hSw); have k0 := hSw.1.bp.cell 0; have k1 := hSw.1.di.box.cell 0; have k2 := hSw.1.di.box.cell 1; rw [HG0.out] at k1; rw [HG1.out] at k2; have ky := hSw.2.cell 0; go_simp; (try with_reducible rfl)
       (try simp only [Act.put, n1, n2, n3, n4, n5, n6])
       refine tg 6 (v := ?_) rfl rfl (Or.inl ⟨by rfl, ?_⟩) ?_
       rotate_left
       ·intro w' hSw; (try dsimp only at hSw); have k0 := hSw.1.bp.cell 0; have k1 := hSw.1.di.box.cell 0; have k2 := hSw.1.di.box.cell 1; rw [HG0.out] at k1; rw [HG1.out] at k2; have ky := hSw.2.cell 0; go_simp; (try with_reducible rfl)
       (try simp only [Act.put, n1, n2, n3, n4, n5, n6])
       refine tg 8 (v := ?_) rfl rfl (Or.inl ⟨by rfl, ?_⟩) ?_
       rotate_left
       ·intro w' hSw; (try dsimp only at hSw); have k0 := hSw.1.bp.cell 0; have k1 := hSw.1.di.box.cell 0; have k2 := hSw.1.di.box.cell 1; rw [HG0.out] at k1; rw [HG1.out] at k2; have ky := hSw.2.cell 0; go_simp; (try with_reducible rfl)
       (try simp only [Act.put, n1, n2, n3, n4, n5, n6])
       refine tg 9 (v := ?_) rfl rfl (Or.inl ⟨by rfl, ?_⟩) ?_
       rotate_left
       ·intro w' hSw; (try dsimp only at hSw); have k0 := hSw.1.bp.cell 0; have k1 := hSw.1.di.box.cell 0; have k2 := hSw.1.di.box.cell 1; rw [HG0.out] at k1; rw [HG1.out] at k2; have ky := hSw.2.cell 0; go_simp; (try with_reducible rfl)
       (try simp only [Act.put, n1, n2, n3, n4, n5, n6])
       refine wpAnyG_one (i := 7) (by kernel_rfl) rfl (fun KK hKK => ?_)
       obtain ⟨d0, d1, d2, d3, d4, d5, d6, d7, d8⟩ := CB.ent (x := ⟨⟨⟨e, lb', lq, a⟩, true, 1, pr⟩, s⟩) HBX.out.drew
       dsimp only at d0 d1 d2 d3 d4 d5 d6 d7 d8
       go_simp
       clear d0 d1 d2 d3 d4 d5 d6 d7 d8
       refine hKK.out _ _ hHeld (fun hHeld => ?_)
       clear hKK KK
       (try simp only [Act.put, n1, n2, n3, n4, n5, n6])
       refine tg 10 (v := ?_) rfl rfl (Or.inl ⟨by rfl, ?_⟩) ?_
       rotate_left
       ·intro w' hSw; (try dsimp only at hSw); have k0 := hSw.1.bp.cell 0; have k1 := hSw.1.di.box.cell 0; have k2 := hSw.1.di.box.cell 1; rw [HG0.out] at k1; rw [HG1.out] at k2; have ky := hSw.2.cell 0; go_simp; (try with_reducible rfl)
       (try simp only [Act.put, n1, n2, n3, n4, n5, n6])
       refine tg 11 (v := ?_) rfl rfl (Or.inl ⟨by rfl, ?_⟩) ?_
       rotate_left
       ·intro w' hSw; (try dsimp only at hSw); have k0 := hSw.1.bp.cell 0; have k1 := hSw.1.di.box.cell 0; have k2 := hSw.1.di.box.cell 1; rw [HG0.out] at k1; rw [HG1.out] at k2; have ky := hSw.2.cell 0; go_simp; (try with_reducible rfl)
       (try simp only [Act.put, n1, n2, n3, n4, n5, n6])
       refine tg 12 (v := ?_) rfl rfl (Or.inl ⟨by rfl, ?_⟩) ?_
       rotate_left
       ·intro w' hSw; (try dsimp only at hSw); have k0 := hSw.1.bp.cell 0; have k1 := hSw.1.di.box.cell 0; have k2 := hSw.1.di.box.cell 1; rw [HG0.out] at k1; rw [HG1.out] at k2; have ky := hSw.2.cell 0; go_simp; (try with_reducible rfl)
       (try simp only [Act.put, n1, n2, n3, n4, n5, n6])
       refine tg 13 (v := ?_) rfl rfl (Or.inl ⟨by rfl, ?_⟩) ?_
       rotate_left
       ·intro w' hSw; (try dsimp only at hSw); have k0 := hSw.1.bp.cell 0; have k1 := hSw.1.di.box.cell 0; have k2 := hSw.1.di.box.cell 1; rw [HG0.out] at k1; rw [HG1.out] at k2; have ky := hSw.2.cell 0; go_simp; (try with_reducible rfl)
       (try simp only [Act.put, n1, n2, n3, n4, n5, n6])
       refine tg 14 (v := ?_) rfl rfl (Or.inl ⟨by rfl, ?_⟩) ?_
       rotate_left
       ·intro w' hSw; (try dsimp only at hSw); have k0 := hSw.1.bp.cell 0; have k1 := hSw.1.di.box.cell 0; have k2 := hSw.1.di.box.cell 1; rw [HG0.out] at k1; rw [HG1.out] at k2; have ky := hSw.2.cell 0; go_simp; (try with_reducible rfl)
       (try simp only [Act.put, n1, n2, n3, n4, n5, n6])
       refine tg 15 (v := ?_) rfl rfl (Or.inl ⟨by rfl, ?_⟩) ?_
       rotate_left
       ·intro w' hSw; (try dsimp only at hSw); have k0 := hSw.1.bp.cell 0; have k1 := hSw.1.di.box.cell 0; have k2 := hSw.1.di.box.cell 1; rw [HG0.out] at k1; rw [HG1.out] at k2; have ky := hSw.2.cell 0; go_simp; (try with_reducible rfl)
       (try simp only [Act.put, n1, n2, n3, n4, n5, n6])
       refine wpAnyG_one (i := 16) (by kernel_rfl) rfl (fun KK hKK => ?_)
       obtain ⟨d0, d1, d2, d3, d4, d5, d6, d7, d8⟩ := CB.ent (x := ⟨⟨⟨e, lb', lq, a⟩, true, 1, pr⟩, s⟩) HBX.out.drew
       dsimp only at d0 d1 d2 d3 d4 d5 d6 d7 d8
       go_simp
       clear d0 d1 d2 d3 d4 d5 d6 d7 d8
       refine hKK.out _ _ hHeld (fun hHeld => ?_)
       clear hKK KK
       (try simp only [Act.put, n1, n2, n3, n4, n5, n6])
       refine wpAnyG_one (i := 17) (by kernel_rfl) rfl (fun KK hKK => ?_)
       go_simp
       (try refine ⟨trivial, ?_⟩)
       ((with_reducible refine (callsIn_wide.2 (HR.out _)).mono ?_); rintro e' V4 ⟨rfl, hb⟩; have HBN := hi (show Below V.heap.size V V4 from (show Below V.heap.size V V.drew from Below.drewN (m := 1) (Below.refl _ _)).trans hb); have HB4 := hi (HBX.out.drew.below hb); have hSS := And.intro (hHeld.1.below hb) (hHeld.2.below hb); clear hb)
       (try go_simp)
       refine hKK.out _ _ hSS (fun hHeld => ?_)
       clear hKK KK
       (try simp only [Act.put, n1, n2, n3, n4, n5, n6])
       refine tg 18 (v := ?_) rfl rfl (Or.inl ⟨by rfl, ?_⟩) ?_
       rotate_left
       ·intro w' hSw; (try dsimp only at hSw); have k0 := hSw.1.bp.cell 0; have k1 := hSw.1.di.box.cell 0; have k2 := hSw.1.di.box.cell 1; rw [HG0.out] at k1; rw [HG1.out] at k2; have ky := hSw.2.cell 0; go_simp; (try with_reducible rfl)
       (try simp only [Act.put, n1, n2, n3, n4, n5, n6])
       refine tg 19 (v := ?_) rfl rfl (Or.inl ⟨by rfl, ?_⟩) ?_
       rotate_left
       ·intro w' hSw; (try dsimp only at hSw); have k0 := hSw.1.bp.cell 0; have k1 := hSw.1.di.box.cell 0; have k2 := hSw.1.di.box.cell 1; rw [HG0.out] at k1; rw [HG1.out] at k2; have ky := hSw.2.cell 0; go_simp; (try with_reducible rfl)
       (try simp only [Act.put, n1, n2, n3, n4, n5, n6])
       refine tg 20 (v := ?_) rfl rfl (Or.inl ⟨by rfl, ?_⟩) ?_
       rotate_left
       ·intro w' hSw; (try dsimp only at hSw); have k0 := hSw.1.bp.cell 0; have k1 := hSw.1.di.box.cell 0; have k2 := hSw.1.di.box.cell 1; rw [HG0.out] at k1; rw [HG1.out] at k2; have ky := hSw.2.cell 0; go_simp; (try with_reducible rfl)
       (try simp only [Act.put, n1, n2, n3, n4, n5, n6])
       refine tg 21 (v := ?_) rfl rfl (Or.inl ⟨by rfl, ?_⟩) ?_
       rotate_left
       ·intro w' hSw; (try dsimp only at hSw); have k0 := hSw.1.bp.cell 0; have k1 := hSw.1.di.box.cell 0; have k2 := hSw.1.di.box.cell 1; rw [HG0.out] at k1; rw [HG1.out] at k2; have ky := hSw.2.cell 0; go_simp; (try with_reducible rfl)
       (try simp only [Act.put, n1, n2, n3, n4, n5, n6])
       refine wpAnyG_one (i := 22) (by kernel_rfl) rfl (fun KK hKK => ?_)
       obtain ⟨d0, d1, d2, d3, d4, d5, d6, d7, d8⟩ := CB.ent (x := ⟨⟨⟨e, lb', lq, a⟩, true, 1, pr⟩, s⟩) HB4.out
       dsimp only at d0 d1 d2 d3 d4 d5 d6 d7 d8
       go_simp
       clear d0 d1 d2 d3 d4 d5 d6 d7 d8
       refine hKK.out _ _ hHeld (fun hHeld => ?_)
       clear hKK KK
       (try simp only [Act.put, n1, n2, n3, n4, n5, n6])
       obtain ⟨fn, tmps, assign, body, hy, hRd⟩ := HYY.out _ _ (fun i => G i ∨ X i) V4 ((HJ.out.with_ X).st _ _ _ _ HJV.out (Kept.of HBN.out)) HPF.out (fun i x => .inl (hFG i x)) (fun i x => by have hbn := HBN.out.size; rcases x with x | x; exact ⟨by have := (HG.out i x).1; omega, fun r => HRG.out i r x⟩; exact ⟨by have := X2 x; omega, fun r => by have := HLT.out i r; have := X2 x; omega⟩) (by have := HBN.out.size; omega) (6 - 1 - 1 - 1)
       dsimp only [encI, En.v] at hy
       refine wpAnyG_one (i := 23) (by kernel_rfl) rfl (fun KK hKK => ?_)
       go_simp
       (first | refine hRd.mono ?_ | (refine ⟨trivial, ?_⟩; refine hRd.mono ?_))
       rintro e3 W3 (⟨rfl, hJ3, hk3⟩ | ⟨rfl, hJx3, hk3⟩)
       ·have hk := hk3.size
        have hbn := HBN.out.size
        have hS3 : SnAt W3 p q lo hi' b c D k := (HS.out.below HBN.out).heap hk (fun i r => hk3.same i (.inr r))
        have hY3 : CB W3 W.heap.size 163 #[.func (.yield l) #[] #[]] := (HYC.out.below HBN.out).heap (hk3.same _ (.inl (.inr (X1 (by omega) (by omega)))))
        have hKK3 : KF G (snR lo hi' (W.heap.size + 1) (W.heap.size + 1 + 1)) V W3 := (HKV.out _ HBN.out).trans (hk3.mono (fun i x => by rcases x with x | x | x | x; exact .inl (.inl x); exact .inr (.inl x); exact .inl (.inr (X1 (by omega) (by omega))); exact .inl (.inr (X1 (by omega) (by omega)))))
        (try go_simp)
        refine hKK.out _ _ ⟨hS3, hY3⟩ (fun hHeld => ?_)
        clear hKK KK
        (try simp only [Act.put, n1, n2, n3, n4, n5, n6])
        refine tg 24 (v := ?_) rfl rfl (Or.inl ⟨by rfl, ?_⟩) ?_
        rotate_left
        ·intro w' hSw; (try dsimp only at hSw); skip; go_simp; (try with_reducible rfl)
        (try simp only [Act.put, n1, n2, n3, n4, n5, n6])
        refine tg 25 (v := ?_) rfl rfl (Or.inl ⟨by rfl, ?_⟩) ?_
        rotate_left
        ·intro w' hSw; (try dsimp only at hSw); skip; go_simp; (try with_reducible rfl)
        (try simp only [Act.put, n1, n2, n3, n4, n5, n6])
        refine wpAnyG_done (by kernel_rfl) ?_ _
        gi_wp2
        refine ⟨hKK3, ⟨⟨?_, HRG.out, hS3⟩, hNG, hY3⟩⟩
        rw [HE.out]
        exact hJ3
       ·have hk := hk3.size
        have hbn := HBN.out.size
        have hS3 : SnAt W3 p q lo hi' b c D k := (HS.out.below HBN.out).heap hk (fun i r => hk3.same i (.inr r))
        have hY3 : CB W3 W.heap.size 163 #[.func (.yield l) #[] #[]] := (HYC.out.below HBN.out).heap (hk3.same _ (.inl (.inr (X1 (by omega) (by omega)))))
        have hKK3 : KF G (snR lo hi' (W.heap.size + 1) (W.heap.size + 1 + 1)) V W3 := (HKV.out _ HBN.out).trans (hk3.mono (fun i x => by rcases x with x | x | x | x; exact .inl (.inl x); exact .inr (.inl x); exact .inl (.inr (X1 (by omega) (by omega))); exact .inl (.inr (X1 (by omega) (by omega)))))
        (try go_simp)
        refine hKK.out _ _ ⟨hS3, hY3⟩ (fun hHeld => ?_)
        clear hKK KK
        (try simp only [Act.put, n1, n2, n3, n4, n5, n6])
        refine tg 24 (v := ?_) rfl rfl (Or.inl ⟨by rfl, ?_⟩) ?_
        rotate_left
        ·intro w' hSw; (try dsimp only at hSw); skip; go_simp; (try with_reducible rfl)
        (try simp only [Act.put, n1, n2, n3, n4, n5, n6])
        refine tg 25 (v := ?_) rfl rfl (Or.inl ⟨by rfl, ?_⟩) ?_
        rotate_left
        ·intro w' hSw; (try dsimp only at hSw); skip; go_simp; (try with_reducible rfl)
        (try simp only [Act.put, n1, n2, n3, n4, n5, n6])
        refine wpAnyG_done (by kernel_rfl) ?_ _
        gi_wp2
        exact ⟨hKK3, rfl, _, HPF.out, hJx3⟩
      ·obtain rfl : rd = false := by simpa using hr1
       have hb : rdyB g0 true (id, (⟨⟨⟨e, lb', lq, a⟩, true, 1, pr⟩, s⟩ : En)) = false := by simp [rdyB, hrd]
       have HE := hi (filter_no pre (p := rdyB D.g0 D.g1) (by rw [HG0.out, HG1.out]; exact hb))
       clear hb hp2 hrd hr1
       gi_wp2
       refine region_held_g (S := (fun W' => SnAt W' p q lo hi' b c D k ∧ CB W' W.heap.size 163 #[.func (.yield l) #[] #[]])) rfl (by kernel_rfl) (by kernel_rfl) ⟨HS.out.drew, HYC.out.drew⟩ (fun hHeld => ?_)
       (try simp only [r1, r2, r3, r4, r5])
       refine tg 0 (v := ?_) rfl rfl (Or.inl ⟨by rfl, ?_⟩) ?_
       rotate_left
       ·intro w' hSw; (try dsimp only at hSw); have k0 := hSw.1.bp.cell 0; have k1 := hSw.1.di.box.cell 0; have k2 := hSw.1.di.box.cell 1; rw [HG0.out] at k1; rw [HG1.out] at k2; have ky := hSw.2.cell 0; go_simp; (try with_reducible rfl)
       (try simp only [Act.put, n1, n2, n4, n5, n6])
       refine tg 1 (v := ?_) rfl rfl (Or.inl ⟨by rfl, ?_⟩) ?_
       rotate_left
       ·intro w' hSw; (try dsimp only at hSw); have k0 := hSw.1.bp.cell 0; have k1 := hSw.1.di.box.cell 0; have k2 := hSw.1.di.box.cell 1; rw [HG0.out] at k1; rw [HG1.out] at k2; have ky := hSw.2.cell 0; go_simp; (try with_reducible rfl)
       (try simp only [Act.put, n1, n2, n3, n4, n5, n6])
       refine wpAnyG_one (i := 2) (by kernel_rfl) rfl (fun KK hKK => ?_)
       obtain ⟨d0, d1, d2, d3, d4, d5, d6, d7, d8⟩ := CB.ent (x := ⟨⟨⟨e, lb', lq, a⟩, true, 1, pr⟩, s⟩) HBX.out.drew
       dsimp only at d0 d1 d2 d3 d4 d5 d6 d7 d8
       go_simp
       clear d0 d1 d2 d3 d4 d5 d6 d7 d8
       refine hKK.out _ _ hHeld (fun hHeld => ?_)
       clear hKK KK
       (try simp only [Act.put, n1, n2, n3, n4, n5, n6])
       refine tg 3 (v := ?_) rfl rfl (Or.inl ⟨by rfl, ?_⟩) ?_
       rotate_left
       ·intro w' hSw; (try dsimp only at hSw); have k0 := hSw.1.bp.cell 0; have k1 := hSw.1.di.box.cell 0; have k2 := hSw.1.di.box.cell 1; rw [HG0.out] at k1; rw [HG1.out] at k2; have ky := hSw.2.cell 0; go_simp; (try with_reducible rfl)
       (try simp only [Act.put, n1, n2, n3, n4, n5, n6])
       refine tg 4 (v := ?_) rfl rfl (Or.inl ⟨by rfl, ?_⟩) ?_
       rotate_left
       ·intro w' hSw; (try dsimp only at hSw); have k0 := hSw.1.bp.cell 0; have k1 := hSw.1.di.box.cell 0; have k2 := hSw.1.di.box.cell 1; rw [HG0.out] at k1; rw [HG1.out] at k2; have ky := hSw.2.cell 0; go_simp; (try with_reducible rfl)
       (try simp only [Act.put, n1, n2, n3, n4, n5, n6])
       refine tg 5 (v := ?_) rfl rfl (Or.inl ⟨by rfl, ?_⟩) ?_
       rotate_left
       ·intro w' hSw; (try dsimp only at hSw); have k0 := hSw.1.bp.cell 0; have k1 := hSw.1.di.box.cell 0; have k2 := hSw.1.di.box.cell 1; rw [HG0.out] at k1; rw [HG1.out] at k2; have ky := hSw.2.cell 0; go_simp; (try with_reducible rfl)
       (try simp only [Act.put, n1, n2, n3, n4, n5, n6])
       refine tg 6 (v := ?_) rfl rfl (Or.inl ⟨by rfl, ?_⟩) ?_
       rotate_left
       ·intro w' hSw; (try dsimp only at hSw); have k0 := hSw.1.bp.cell 0; have k1 := hSw.1.di.box.cell 0; have k2 := hSw.1.di.box.cell 1; rw [HG0.out] at k1; rw [HG1.out] at k2; have ky := hSw.2.cell 0; go_simp; (try with_reducible rfl)
       (try simp only [Act.put, n1, n2, n3, n4, n5, n6])
       refine tg 8 (v := ?_) rfl rfl (Or.inl ⟨by rfl, ?_⟩) ?_
       rotate_left
       ·intro w' hSw; (try dsimp only at hSw); have k0 := hSw.1.bp.cell 0; have k1 := hSw.1.di.box.cell 0; have k2 := hSw.1.di.box.cell 1; rw [HG0.out] at k1; rw [HG1.out] at k2; have ky := hSw.2.cell 0; go_simp; (try with_reducible rfl)
       (try simp only [Act.put, n1, n2, n3, n4, n5, n6])
       refine tg 9 (v := ?_) rfl rfl (Or.inl ⟨by rfl, ?_⟩) ?_
       rotate_left
       ·intro w' hSw; (try dsimp only at hSw); have k0 := hSw.1.bp.cell 0; have k1 := hSw.1.di.box.cell 0; have k2 := hSw.1.di.box.cell 1; rw [HG0.out] at k1; rw [HG1.out] at k2; have ky := hSw.2.cell 0; go_simp; (try with_reducible rfl)
       (try simp only [Act.put, n1, n2, n3, n4, n5, n6])
       refine wpAnyG_one (i := 7) (by kernel_rfl) rfl (fun KK hKK => ?_)
       obtain ⟨d0, d1, d2, d3, d4, d5, d6, d7, d8⟩ := CB.ent (x := ⟨⟨⟨e, lb', lq, a⟩, true, 1, pr⟩, s⟩) HBX.out.drew
       dsimp only at d0 d1 d2 d3 d4 d5 d6 d7 d8
       go_simp
       clear d0 d1 d2 d3 d4 d5 d6 d7 d8
       refine hKK.out _ _ hHeld (fun hHeld => ?_)
       clear hKK KK
       (try simp only [Act.put, n1, n2, n3, n4, n5, n6])
       refine tg 10 (v := ?_) rfl rfl (Or.inl ⟨by rfl, ?_⟩) ?_
       rotate_left
       ·intro w' hSw; (try dsimp only at hSw); have k0 := hSw.1.bp.cell 0; have k1 := hSw.1.di.box.cell 0; have k2 := hSw.1.di.box.cell 1; rw [HG0.out] at k1; rw [HG1.out] at k2; have ky := hSw.2.cell 0; go_simp; (try with_reducible rfl)
       (try simp only [Act.put, n1, n2, n3, n4, n5, n6])
       refine tg 11 (v := ?_) rfl rfl (Or.inl ⟨by rfl, ?_⟩) ?_
       rotate_left
       ·intro w' hSw; (try dsimp only at hSw); have k0 := hSw.1.bp.cell 0; have k1 := hSw.1.di.box.cell 0; have k2 := hSw.1.di.box.cell 1; rw [HG0.out] at k1; rw [HG1.out] at k2; have ky := hSw.2.cell 0; go_simp; (try with_reducible rfl)
       (try simp only [Act.put, n1, n2, n3, n4, n5, n6])
       refine tg 12 (v := ?_) rfl rfl (Or.inl ⟨by rfl, ?_⟩) ?_
       rotate_left
       ·intro w' hSw; (try dsimp only at hSw); have k0 := hSw.1.bp.cell 0; have k1 := hSw.1.di.box.cell 0; have k2 := hSw.1.di.box.cell 1; rw [HG0.out] at k1; rw [HG1.out] at k2; have ky := hSw.2.cell 0; go_simp; (try with_reducible rfl)
       (try simp only [Act.put, n1, n2, n3, n4, n5, n6])
       refine tg 13 (v := ?_) rfl rfl (Or.inl ⟨by rfl, ?_⟩) ?_
       rotate_left
       ·intro w' hSw; (try dsimp only at hSw); have k0 := hSw.1.bp.cell 0; have k1 := hSw.1.di.box.cell 0; have k2 := hSw.1.di.box.cell 1; rw [HG0.out] at k1; rw [HG1.out] at k2; have ky := hSw.2.cell 0; go_simp; (try with_reducible rfl)
       (try simp only [Act.put, n1, n2, n3, n4, n5, n6])
       refine tg 14 (v := ?_) rfl rfl (Or.inl ⟨by rfl, ?_⟩) ?_
       rotate_left
       ·intro w' hSw; (try dsimp only at hSw); have k0 := hSw.1.bp.cell 0; have k1 := hSw.1.di.box.cell 0; have k2 := hSw.1.di.box.cell 1; rw [HG0.out] at k1; rw [HG1.out] at k2; have ky := hSw.2.cell 0; go_simp; (try with_reducible rfl)
       (try simp only [Act.put, n1, n2, n3, n4, n5, n6])
       refine tg 15 (v := ?_) rfl rfl (Or.inl ⟨by rfl, ?_⟩) ?_
       rotate_left
       ·intro w' hSw; (try dsimp only at hSw); have k0 := hSw.1.bp.cell 0; have k1 := hSw.1.di.box.cell 0; have k2 := hSw.1.di.box.cell 1; rw [HG0.out] at k1; rw [HG1.out] at k2; have ky := hSw.2.cell 0; go_simp; (try with_reducible rfl)
       (try simp only [Act.put, n1, n2, n3, n4, n5, n6])
       refine wpAnyG_one (i := 16) (by kernel_rfl) rfl (fun KK hKK => ?_)
       obtain ⟨d0, d1, d2, d3, d4, d5, d6, d7, d8⟩ := CB.ent (x := ⟨⟨⟨e, lb', lq, a⟩, true, 1, pr⟩, s⟩) HBX.out.drew
       dsimp only at d0 d1 d2 d3 d4 d5 d6 d7 d8
       go_simp
       clear d0 d1 d2 d3 d4 d5 d6 d7 d8
       refine hKK.out _ _ hHeld (fun hHeld => ?_)
       clear hKK KK
       (try simp only [Act.put, n1, n2, n3, n4, n5, n6])
       refine wpAnyG_one (i := 17) (by kernel_rfl) rfl (fun KK hKK => ?_)
       go_simp
       (try refine ⟨trivial, ?_⟩)
       ((with_reducible refine (callsIn_wide.2 (HR.out _)).mono ?_); rintro e' V4 ⟨rfl, hb⟩; have HBN := hi (show Below V.heap.size V V4 from (show Below V.heap.size V V.drew from Below.drewN (m := 1) (Below.refl _ _)).trans hb); have HB4 := hi (HBX.out.drew.below hb); have hSS := And.intro (hHeld.1.below hb) (hHeld.2.below hb); clear hb)
       (try go_simp)
       refine hKK.out _ _ hSS (fun hHeld => ?_)
       clear hKK KK
       (try simp only [Act.put, n1, n2, n3, n4, n5, n6])
       refine tg 18 (v := ?_) rfl rfl (Or.inl ⟨by rfl, ?_⟩) ?_
       rotate_left
       ·intro w' hSw; (try dsimp only at hSw); have k0 := hSw.1.bp.cell 0; have k1 := hSw.1.di.box.cell 0; have k2 := hSw.1.di.box.cell 1; rw [HG0.out] at k1; rw [HG1.out] at k2; have ky := hSw.2.cell 0; go_simp; (try with_reducible rfl)
       (try simp only [Act.put, n1, n2, n3, n4, n5, n6])
       refine tg 19 (v := ?_) rfl rfl (Or.inl ⟨by rfl, ?_⟩) ?_
       rotate_left
       ·intro w' hSw; (try dsimp only at hSw); have k0 := hSw.1.bp.cell 0; have k1 := hSw.1.di.box.cell 0; have k2 := hSw.1.di.box.cell 1; rw [HG0.out] at k1; rw [HG1.out] at k2; have ky := hSw.2.cell 0; go_simp; (try with_reducible rfl)
       (try simp only [Act.put, n1, n2, n3, n4, n5, n6])
       refine tg 20 (v := undef) rfl rfl (Or.inr ⟨by rfl, rfl⟩) ?_
       (try simp only [Act.put, n1, n2, n3, n4, n5, n6])
       refine tg 21 (v := undef) rfl rfl (Or.inr ⟨by rfl, rfl⟩) ?_
       (try simp only [Act.put, n1, n2, n3, n4, n5, n6])
       refine tg 22 (v := undef) rfl rfl (Or.inr ⟨by rfl, rfl⟩) ?_
       (try simp only [Act.put, n1, n2, n3, n4, n5, n6])
       refine tg 23 (v := undef) rfl rfl (Or.inr ⟨by rfl, rfl⟩) ?_
       (try simp only [Act.put, n1, n2, n3, n4, n5, n6])
       refine tg 24 (v := undef) rfl rfl (Or.inr ⟨by rfl, rfl⟩) ?_
       (try simp only [Act.put, n1, n2, n3, n4, n5, n6])
       refine tg 25 (v := ?_) rfl rfl (Or.inl ⟨by rfl, ?_⟩) ?_
       rotate_left
       ·intro w' hSw; (try dsimp only at hSw); have k0 := hSw.1.bp.cell 0; have k1 := hSw.1.di.box.cell 0; have k2 := hSw.1.di.box.cell 1; rw [HG0.out] at k1; rw [HG1.out] at k2; have ky := hSw.2.cell 0; go_simp; (try with_reducible rfl)
       (try simp only [Act.put, n1, n2, n3, n4, n5, n6])
       refine wpAnyG_done (by kernel_rfl) ?_ _
       gi_wp2
       refine ⟨HKV.out _ HBN.out, ⟨⟨?_, HRG.out, HS.out.below HBN.out⟩, hNG, HYC.out.below HBN.out⟩⟩
       rw [HE.out]
       exact (HJ.out.with_ X).st _ _ _ _ HJV.out (Kept.of HBN.out)
     ·obtain rfl : g1 = false := by simpa using hg
      have hb : rdyB g0 false (id, (⟨⟨⟨e, lb', lq, a⟩, true, 1, pr⟩, s⟩ : En)) = false := by simp [rdyB]
      have HE := hi (filter_no pre (p := rdyB D.g0 D.g1) (by rw [HG0.out, HG1.out]; exact hb))
      clear hb hp2 hrd hg
      gi_wp2
      refine region_held_g (S := (fun W' => SnAt W' p q lo hi' b c D k ∧ CB W' W.heap.size 163 #[.func (.yield l) #[] #[]])) rfl (by kernel_rfl) (by kernel_rfl) ⟨HS.out.drew, HYC.out.drew⟩ (fun hHeld => ?_)
      (try simp only [r1, r2, r3, r4, r5])
      refine tg 0 (v := ?_) rfl rfl (Or.inl ⟨by rfl, ?_⟩) ?_
      rotate_left
      ·intro w' hSw; (try dsimp only at hSw); have k0 := hSw.1.bp.cell 0; have k1 := hSw.1.di.box.cell 0; have k2 := hSw.1.di.box.cell 1; rw [HG0.out] at k1; rw [HG1.out] at k2; have ky := hSw.2.cell 0; go_simp; (try with_reducible rfl)
      (try simp only [Act.put, n1, n2, n4, n5, n6])
      refine tg 1 (v := ?_) rfl rfl (Or.inl ⟨by rfl, ?_⟩) ?_
      rotate_left
      ·intro w' hSw; (try dsimp only at hSw); have k0 := hSw.1.bp.cell 0; have k1 := hSw.1.di.box.cell 0; have k2 := hSw.1.di.box.cell 1; rw [HG0.out] at k1; rw [HG1.out] at k2; have ky := hSw.2.cell 0; go_simp; (try with_reducible rfl)
      (try simp only [Act.put, n1, n2, n3, n4, n5, n6])
      refine wpAnyG_one (i := 2) (by kernel_rfl) rfl (fun KK hKK => ?_)
      obtain ⟨d0, d1, d2, d3, d4, d5, d6, d7, d8⟩ := CB.ent (x := ⟨⟨⟨e, lb', lq, a⟩, true, 1, pr⟩, s⟩) HBX.out.drew
      dsimp only at d0 d1 d2 d3 d4 d5 d6 d7 d8
      go_simp
      clear d0 d1 d2 d3 d4 d5 d6 d7 d8
      refine hKK.out _ _ hHeld (fun hHeld => ?_)
      clear hKK KK
      (try simp only [Act.put, n1, n2, n3, n4, n5, n6])
      refine tg 3 (v := ?_) rfl rfl (Or.inl ⟨by rfl, ?_⟩) ?_
      rotate_left
      ·intro w' hSw; (try dsimp only at hSw); have k0 := hSw.1.bp.cell 0; have k1 := hSw.1.di.box.cell 0; have k2 := hSw.1.di.box.cell 1; rw [HG0.out] at k1; rw [HG1.out] at k2; have ky := hSw.2.cell 0; go_simp; (try with_reducible rfl)
      (try simp only [Act.put, n1, n2, n3, n4, n5, n6])
      refine tg 4 (v := ?_) rfl rfl (Or.inl ⟨by rfl, ?_⟩) ?_
      rotate_left
      ·intro w' hSw; (try dsimp only at hSw); have k0 := hSw.1.bp.cell 0; have k1 := hSw.1.di.box.cell 0; have k2 := hSw.1.di.box.cell 1; rw [HG0.out] at k1; rw [HG1.out] at k2; have ky := hSw.2.cell 0; go_simp; (try with_reducible rfl)
      (try simp only [Act.put, n1, n2, n3, n4, n5, n6])
      refine tg 5 (v := ?_) rfl rfl (Or.inl ⟨by rfl, ?_⟩) ?_
      rotate_left
      ·intro w' hSw; (try dsimp only at hSw); have k0 := hSw.1.bp.cell 0; have k1 := hSw.1.di.box.cell 0; have k2 := hSw.1.di.box.cell 1; rw [HG0.out] at k1; rw [HG1.out] at k2; have ky := hSw.2.cell 0; go_simp; (try with_reducible rfl)
      (try simp only [Act.put, n1, n2, n3, n4, n5, n6])
      refine tg 6 (v := ?_) rfl rfl (Or.inl ⟨by rfl, ?_⟩) ?_
      rotate_left
      ·intro w' hSw; (try dsimp only at hSw); have k0 := hSw.1.bp.cell 0; have k1 := hSw.1.di.box.cell 0; have k2 := hSw.1.di.box.cell 1; rw [HG0.out] at k1; rw [HG1.out] at k2; have ky := hSw.2.cell 0; go_simp; (try with_reducible rfl)
      (try simp only [Act.put, n1, n2, n3, n4, n5, n6])
      refine tg 8 (v := ?_) rfl rfl (Or.inl ⟨by rfl, ?_⟩) ?_
      rotate_left
      ·intro w' hSw; (try dsimp only at hSw); have k0 := hSw.1.bp.cell 0; have k1 := hSw.1.di.box.cell 0; have k2 := hSw.1.di.box.cell 1; rw [HG0.out] at k1; rw [HG1.out] at k2; have ky := hSw.2.cell 0; go_simp; (try with_reducible rfl)
      (try simp only [Act.put, n1, n2, n3, n4, n5, n6])
      refine tg 9 (v := ?_) rfl rfl (Or.inl ⟨by rfl, ?_⟩) ?_
      rotate_left
      ·intro w' hSw; (try dsimp only at hSw); have k0 := hSw.1.bp.cell 0; have k1 := hSw.1.di.box.cell 0; have k2 := hSw.1.di.box.cell 1; rw [HG0.out] at k1; rw [HG1.out] at k2; have ky := hSw.2.cell 0; go_simp; (try with_reducible rfl)
      (try simp only [Act.put, n1, n2, n3, n4, n5, n6])
      refine wpAnyG_one (i := 7) (by kernel_rfl) rfl (fun KK hKK => ?_)
      obtain ⟨d0, d1, d2, d3, d4, d5, d6, d7, d8⟩ := CB.ent (x := ⟨⟨⟨e, lb', lq, a⟩, true, 1, pr⟩, s⟩) HBX.out.drew
      dsimp only at d0 d1 d2 d3 d4 d5 d6 d7 d8
      go_simp
      clear d0 d1 d2 d3 d4 d5 d6 d7 d8
      refine hKK.out _ _ hHeld (fun hHeld => ?_)
      clear hKK KK
      (try simp only [Act.put, n1, n2, n3, n4, n5, n6])
      refine tg 10 (v := ?_) rfl rfl (Or.inl ⟨by rfl, ?_⟩) ?_
      rotate_left
      ·intro w' hSw; (try dsimp only at hSw); have k0 := hSw.1.bp.cell 0; have k1 := hSw.1.di.box.cell 0; have k2 := hSw.1.di.box.cell 1; rw [HG0.out] at k1; rw [HG1.out] at k2; have ky := hSw.2.cell 0; go_simp; (try with_reducible rfl)
      (try simp only [Act.put, n1, n2, n3, n4, n5, n6])
      refine tg 11 (v := ?_) rfl rfl (Or.inl ⟨by rfl, ?_⟩) ?_
      rotate_left
      ·intro w' hSw; (try dsimp only at hSw); have k0 := hSw.1.bp.cell 0; have k1 := hSw.1.di.box.cell 0; have k2 := hSw.1.di.box.cell 1; rw [HG0.out] at k1; rw [HG1.out] at k2; have ky := hSw.2.cell 0; go_simp; (try with_reducible rfl)
      (try simp only [Act.put, n1, n2, n3, n4, n5, n6])
      refine tg 12 (v := ?_) rfl rfl (Or.inl ⟨by rfl, ?_⟩) ?_
      rotate_left
      ·intro w' hSw; (try dsimp only at hSw); have k0 := hSw.1.bp.cell 0; have k1 := hSw.1.di.box.cell 0; have k2 := hSw.1.di.box.cell 1; rw [HG0.out] at k1; rw [HG1.out] at k2; have ky := hSw.2.cell 0; go_simp; (try with_reducible rfl)
      (try simp only [Act.put, n1, n2, n3, n4, n5, n6])
      refine tg 13 (v := ?_) rfl rfl (Or.inl ⟨by rfl, ?_⟩) ?_
      rotate_left
      ·intro w' hSw; (try dsimp only at hSw); have k0 := hSw.1.bp.cell 0; have k1 := hSw.1.di.box.cell 0; have k2 := hSw.1.di.box.cell 1; rw [HG0.out] at k1; rw [HG1.out] at k2; have ky := hSw.2.cell 0; go_simp; (try with_reducible rfl)
      (try simp only [Act.put, n1, n2, n3, n4, n5, n6])
      refine tg 14 (v := undef) rfl rfl (Or.inr ⟨by rfl, rfl⟩) ?_
      (try simp only [Act.put, n1, n2, n3, n4, n5, n6])
      refine tg 15 (v := undef) rfl rfl (Or.inr ⟨by rfl, rfl⟩) ?_
      (try simp only [Act.put, n1, n2, n3, n4, n5, n6])
      refine tg 16 (v := undef) rfl rfl (Or.inr ⟨by rfl, rfl⟩) ?_
      (try simp only [Act.put, n1, n2, n3, n4, n5, n6])
      refine wpAnyG_one (i := 17) (by kernel_rfl) rfl (fun KK hKK => ?_)
      go_simp
      (first | refine ⟨noFn, ?_⟩ | refine ⟨fun _ _ => trivial, ?_⟩ | refine ⟨trivial, ?_⟩)
      refine hKK.out _ _ hHeld (fun hHeld => ?_)
      clear hKK KK
      (try simp only [Act.put, n1, n2, n3, n4, n5, n6])
      refine tg 18 (v := ?_) rfl rfl (Or.inl ⟨by rfl, ?_⟩) ?_
      rotate_left
      ·intro w' hSw; (try dsimp only at hSw); have k0 := hSw.1.bp.cell 0; have k1 := hSw.1.di.box.cell 0; have k2 := hSw.1.di.box.cell 1; rw [HG0.out] at k1; rw [HG1.out] at k2; have ky := hSw.2.cell 0; go_simp; (try with_reducible rfl)
      (try simp only [Act.put, n1, n2, n3, n4, n5, n6])
      refine tg 19 (v := ?_) rfl rfl (Or.inl ⟨by rfl, ?_⟩) ?_
      rotate_left
      ·intro w' hSw; (try dsimp only at hSw); have k0 := hSw.1.bp.cell 0; have k1 := hSw.1.di.box.cell 0; have k2 := hSw.1.di.box.cell 1; rw [HG0.out] at k1; rw [HG1.out] at k2; have ky := hSw.2.cell 0; go_simp; (try with_reducible rfl)
      (try simp only [Act.put, n1, n2, n3, n4, n5, n6])
      refine tg 20 (v := undef) rfl rfl (Or.inr ⟨by rfl, rfl⟩) ?_
      (try simp only [Act.put, n1, n2, n3, n4, n5, n6])
      refine tg 21 (v := undef) rfl rfl (Or.inr ⟨by rfl, rfl⟩) ?_
      (try simp only [Act.put, n1, n2, n3, n4, n5, n6])
      refine tg 22 (v := undef) rfl rfl (Or.inr ⟨by rfl, rfl⟩) ?_
      (try simp only [Act.put, n1, n2, n3, n4, n5, n6])
      refine tg 23 (v := undef) rfl rfl (Or.inr ⟨by rfl, rfl⟩) ?_
      (try simp only [Act.put, n1, n2, n3, n4, n5, n6])
      refine tg 24 (v := undef) rfl rfl (Or.inr ⟨by rfl, rfl⟩) ?_
      (try simp only [Act.put, n1, n2, n3, n4, n5, n6])
      refine tg 25 (v := ?_) rfl rfl (Or.inl ⟨by rfl, ?_⟩) ?_
      rotate_left
      ·intro w' hSw; (try dsimp only at hSw); have k0 := hSw.1.bp.cell 0; have k1 := hSw.1.di.box.cell 0; have k2 := hSw.1.di.box.cell 1; rw [HG0.out] at k1; rw [HG1.out] at k2; have ky := hSw.2.cell 0; go_simp; (try with_reducible rfl)
      (try simp only [Act.put, n1, n2, n3, n4, n5, n6])
      refine wpAnyG_done (by kernel_rfl) ?_ _
      gi_wp2
      refine ⟨HKV.out _ HD.out, ⟨⟨?_, HRG.out, HS.out.below HD.out⟩, hNG, HYC.out.below HD.out⟩⟩
      rw [HE.out]
      exact (HJ.out.with_ X).st _ _ _ _ HJV.out (Kept.of HD.out)
   ·obtain rfl : en = false := by simpa using hen
    have hb : rdyB g0 g1 (id, (⟨⟨⟨e, lb', lq, a⟩, false, gr, pr⟩, s⟩ : En)) = false := by simp [rdyB]
    have HE := hi (filter_no pre (p := rdyB D.g0 D.g1) (by rw [HG0.out, HG1.out]; exact hb))
    clear hb hp2 hrd hen
    gi_wp2
    refine region_held_g (S := (fun W' => SnAt W' p q lo hi' b c D k ∧ CB W' W.heap.size 163 #[.func (.yield l) #[] #[]])) rfl (by kernel_rfl) (by kernel_rfl) ⟨HS.out.drew, HYC.out.drew⟩ (fun hHeld => ?_)
    (try simp only [r1, r2, r3, r4, r5])
    refine tg 0 (v := ?_) rfl rfl (Or.inl ⟨by rfl, ?_⟩) ?_
    rotate_left
    ·intro w' hSw; (try dsimp only at hSw); have k0 := hSw.1.bp.cell 0; have k1 := hSw.1.di.box.cell 0; have k2 := hSw.1.di.box.cell 1; rw [HG0.out] at k1; rw [HG1.out] at k2; have ky := hSw.2.cell 0; go_simp; (try with_reducible rfl)
    (try simp only [Act.put, n1, n2, n4, n5, n6])
    refine tg 1 (v := ?_) rfl rfl (Or.inl ⟨by rfl, ?_⟩) ?_
    rotate_left
    ·intro w' hSw; (try dsimp only at hSw); have k0 := hSw.1.bp.cell 0; have k1 := hSw.1.di.box.cell 0; have k2 := hSw.1.di.box.cell 1; rw [HG0.out] at k1; rw [HG1.out] at k2; have ky := hSw.2.cell 0; go_simp; (try with_reducible rfl)
    (try simp only [Act.put, n1, n2, n3, n4, n5, n6])
    refine wpAnyG_one (i := 2) (by kernel_rfl) rfl (fun KK hKK => ?_)
    obtain ⟨d0, d1, d2, d3, d4, d5, d6, d7, d8⟩ := CB.ent (x := ⟨⟨⟨e, lb', lq, a⟩, false, gr, pr⟩, s⟩) HBX.out.drew
    dsimp only at d0 d1 d2 d3 d4 d5 d6 d7 d8
    go_simp
    clear d0 d1 d2 d3 d4 d5 d6 d7 d8
    refine hKK.out _ _ hHeld (fun hHeld => ?_)
    clear hKK KK
    (try simp only [Act.put, n1, n2, n3, n4, n5, n6])
    refine tg 3 (v := ?_) rfl rfl (Or.inl ⟨by rfl, ?_⟩) ?_
    rotate_left
    ·intro w' hSw; (try dsimp only at hSw); have k0 := hSw.1.bp.cell 0; have k1 := hSw.1.di.box.cell 0; have k2 := hSw.1.di.box.cell 1; rw [HG0.out] at k1; rw [HG1.out] at k2; have ky := hSw.2.cell 0; go_simp; (try with_reducible rfl)
    (try simp only [Act.put, n1, n2, n3, n4, n5, n6])
    refine tg 4 (v := undef) rfl rfl (Or.inr ⟨by rfl, rfl⟩) ?_
    (try simp only [Act.put, n1, n2, n3, n4, n5, n6])
    refine tg 5 (v := undef) rfl rfl (Or.inr ⟨by rfl, rfl⟩) ?_
    (try simp only [Act.put, n1, n2, n3, n4, n5, n6])
    refine tg 6 (v := undef) rfl rfl (Or.inr ⟨by rfl, rfl⟩) ?_
    (try simp only [Act.put, n1, n2, n3, n4, n5, n6])
    refine tg 7 (v := undef) rfl rfl (Or.inr ⟨by rfl, rfl⟩) ?_
    (try simp only [Act.put, n1, n2, n3, n4, n5, n6])
    refine tg 8 (v := undef) rfl rfl (Or.inr ⟨by rfl, rfl⟩) ?_
    (try simp only [Act.put, n1, n2, n3, n4, n5, n6])
    refine tg 9 (v := undef) rfl rfl (Or.inr ⟨by rfl, rfl⟩) ?_
    (try simp only [Act.put, n1, n2, n3, n4, n5, n6])
    refine tg 10 (v := undef) rfl rfl (Or.inr ⟨by rfl, rfl⟩) ?_
    (try simp only [Act.put, n1, n2, n3, n4, n5, n6])
    refine tg 11 (v := undef) rfl rfl (Or.inr ⟨by rfl, rfl⟩) ?_
    (try simp only [Act.put, n1, n2, n3, n4, n5, n6])
    refine tg 12 (v := ?_) rfl rfl (Or.inl ⟨by rfl, ?_⟩) ?_
    rotate_left
    ·intro w' hSw; (try dsimp only at hSw); have k0 := hSw.1.bp.cell 0; have k1 := hSw.1.di.box.cell 0; have k2 := hSw.1.di.box.cell 1; rw [HG0.out] at k1; rw [HG1.out] at k2; have ky := hSw.2.cell 0; go_simp; (try with_reducible rfl)
    (try simp only [Act.put, n1, n2, n3, n4, n5, n6])
    refine tg 13 (v := ?_) rfl rfl (Or.inl ⟨by rfl, ?_⟩) ?_
    rotate_left
    ·intro w' hSw; (try dsimp only at hSw); have k0 := hSw.1.bp.cell 0; have k1 := hSw.1.di.box.cell 0; have k2 := hSw.1.di.box.cell 1; rw [HG0.out] at k1; rw [HG1.out] at k2; have ky := hSw.2.cell 0; go_simp; (try with_reducible rfl)
    (try simp only [Act.put, n1, n2, n3, n4, n5, n6])
    refine tg 14 (v := undef) rfl rfl (Or.inr ⟨by rfl, rfl⟩) ?_
    (try simp only [Act.put, n1, n2, n3, n4, n5, n6])
    refine tg 15 (v := undef) rfl rfl (Or.inr ⟨by rfl, rfl⟩) ?_
    (try simp only [Act.put, n1, n2, n3, n4, n5, n6])
    refine tg 16 (v := undef) rfl rfl (Or.inr ⟨by rfl, rfl⟩) ?_
    (try simp only [Act.put, n1, n2, n3, n4, n5, n6])
    refine wpAnyG_one (i := 17) (by kernel_rfl) rfl (fun KK hKK => ?_)
    go_simp
    (first | refine ⟨noFn, ?_⟩ | refine ⟨fun _ _ => trivial, ?_⟩ | refine ⟨trivial, ?_⟩)
    refine hKK.out _ _ hHeld (fun hHeld => ?_)
    clear hKK KK
    (try simp only [Act.put, n1, n2, n3, n4, n5, n6])
    refine tg 18 (v := ?_) rfl rfl (Or.inl ⟨by rfl, ?_⟩) ?_
    rotate_left
    ·intro w' hSw; (try dsimp only at hSw); have k0 := hSw.1.bp.cell 0; have k1 := hSw.1.di.box.cell 0; have k2 := hSw.1.di.box.cell 1; rw [HG0.out] at k1; rw [HG1.out] at k2; have ky := hSw.2.cell 0; go_simp; (try with_reducible rfl)
    (try simp only [Act.put, n1, n2, n3, n4, n5, n6])
    refine tg 19 (v := ?_) rfl rfl (Or.inl ⟨by rfl, ?_⟩) ?_
    rotate_left
    ·intro w' hSw; (try dsimp only at hSw); have k0 := hSw.1.bp.cell 0; have k1 := hSw.1.di.box.cell 0; have k2 := hSw.1.di.box.cell 1; rw [HG0.out] at k1; rw [HG1.out] at k2; have ky := hSw.2.cell 0; go_simp; (try with_reducible rfl)
    (try simp only [Act.put, n1, n2, n3, n4, n5, n6])
    refine tg 20 (v := undef) rfl rfl (Or.inr ⟨by rfl, rfl⟩) ?_
    (try simp only [Act.put, n1, n2, n3, n4, n5, n6])
    refine tg 21 (v := undef) rfl rfl (Or.inr ⟨by rfl, rfl⟩) ?_
    (try simp only [Act.put, n1, n2, n3, n4, n5, n6])
    refine tg 22 (v := undef) rfl rfl (Or.inr ⟨by rfl, rfl⟩) ?_
    (try simp only [Act.put, n1, n2, n3, n4, n5, n6])
    refine tg 23 (v := undef) rfl rfl (Or.inr ⟨by rfl, rfl⟩) ?_
    (try simp only [Act.put, n1, n2, n3, n4, n5, n6])
    refine tg 24 (v := undef) rfl rfl (Or.inr ⟨by rfl, rfl⟩) ?_
    (try simp only [Act.put, n1, n2, n3, n4, n5, n6])
    refine tg 25 (v := ?_) rfl rfl (Or.inl ⟨by rfl, ?_⟩) ?_
    rotate_left
    ·intro w' hSw; (try dsimp only at hSw); have k0 := hSw.1.bp.cell 0; have k1 := hSw.1.di.box.cell 0; have k2 := hSw.1.di.box.cell 1; rw [HG0.out] at k1; rw [HG1.out] at k2; have ky := hSw.2.cell 0; go_simp; (try with_reducible rfl)
    (try simp only [Act.put, n1, n2, n3, n4, n5, n6])
    refine wpAnyG_done (by kernel_rfl) ?_ _
    gi_wp2
    refine ⟨HKV.out _ HD.out, ⟨⟨?_, HRG.out, HS.out.below HD.out⟩, hNG, HYC.out.below HD.out⟩⟩
    rw [HE.out]
    exact (HJ.out.with_ X).st _ _ _ _ HJV.out (Kept.of HD.out)
 ·rw [hk] at HAS
  have HJ3 := hi (hJ.st _ _ _ _ h0 (Kept.of hB3))
  clear hY hk hA hA3 ok
  refine (callsIn_wide (n := 6)).1 ?_
  refine callsIn_of_wp_marks Tryz.func105 rfl trivial ?_ rfl
  simp only [Tryz.ntmps105, List.size_toArray, List.length_cons, List.length_nil, Nat.reduceAdd, Nat.reduceSub, Array.replicate_succ, Array.replicate_zero, List.push_toArray, List.append_toArray, List.nil_append, List.cons_append]
  refine wpIn_wide.2 ?_
  go_wp2_with (go_at_call 27; ((with_reducible refine HAS.out.mono ?_); rintro e w1 ⟨rfl, rfl⟩))
  exact ⟨_, results_none rfl _ _ _, ⟨_, rfl⟩, .inl ⟨F, fun i q => q, HJ3.out⟩⟩
end Go.Proofs.YtieedhdmpabfkaaGreat
