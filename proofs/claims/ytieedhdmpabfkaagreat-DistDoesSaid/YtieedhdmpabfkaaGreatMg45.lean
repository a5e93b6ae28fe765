import Derived.Test.YtieedhdmpabfkaaGreatMg02
import Derived.Test.YtieedhdmpabfkaaGreatMg43
import Derived.Test.YtieedhdmpabfkaaGreatMg44
set_option linter.unusedSimpArgs false
namespace Go.Proofs.YtieedhdmpabfkaaGreat
open Go.ChangeShapes Go.WideShapes Go.ChangeAt Go.RowKit Go.Shelf
set_option linter.unusedVariables false
attribute [local go_sem] Oper.semAt_some
attribute [local go_sem high] eqlLn neqLn guardL neqC guardC
theorem eqLn_it (e l h a en : Bool) (g p : Int) : eqLn e l h a en g p e l h a en g p = true := by simp [eqLn, eqI]
theorem Col.ints {w W : World} {o : Value} {xs : List Int} (h : Col w o xs W) : IntsAt W o xs := intsAt_row h.own
structure LowA (w : World) (p q : Nat) (b c : Nat → Nat) (p2 q2 : Nat) (b2 c2 : Nat → Nat) (D : Ds) (G : Nat → Prop) (W : World) : Prop where
 tw : TwD W p q p2 q2 b c b2 c2 D
 bx : CB W w.heap.size 25 #[.pointer (some ⟨b2 0, 0, none⟩)]
 rb : CB W (w.heap.size + 1) 4 #[.bool false]
 below : Below w.heap.size w W
 ge : ∀ i, G i → w.heap.size + 2 ≤ i
 hq : q ≤ w.heap.size ∧ q2 ≤ w.heap.size
theorem LowA.set {w : World} {p q : Nat} {b c : Nat → Nat} {p2 q2 : Nat} {b2 c2 : Nat → Nat} {D : Ds} {G : Nat → Prop} {W W' : World} (h : LowA w p q b c p2 q2 b2 c2 D G W) (k : Below (w.heap.size + 2) W W') : LowA w p q b c p2 q2 b2 c2 D G W' := by
 have hq := h.hq
 exact ⟨⟨h.tw.di.same k.size (fun i x y => k.block i (by omega)), h.tw.rd.same k.size (fun i x y => k.block i (by omega)), h.tw.sep⟩, h.bx.heap (k.block _ (by omega)), h.rb.heap (k.block _ (by omega)), h.below.trans (k.mono (by omega)), h.ge, h.hq⟩
theorem FrOk.lowA {β : Type} (w : World) (p q : Nat) (b c : Nat → Nat) (p2 q2 : Nat) (b2 c2 : Nat → Nat) (D : Ds) : FrOk (fun (_ : β) G W => LowA w p q b c p2 q2 b2 c2 D G W) :=
 ⟨fun s F A A' h k => h.set (k.toBelow h.rb.lt (fun i x => h.ge i x)),
  fun s F G A h k => ⟨h.tw, h.bx, h.rb, h.below, fun i x => by rcases k i x with y | y; exact h.ge i y; have := h.rb.lt; omega, h.hq⟩⟩
structure AliI (w : World) (p q : Nat) (b c : Nat → Nat) (p2 q2 : Nat) (b2 c2 : Nat → Nat) (D : Ds) (k kb : Nat) (rs : List Nat) (W : World) : Prop where
 low : LowA w p q b c p2 q2 b2 c2 D (fun _ => False) W
 bk : CB W kb 3 #[.int .i64 k]
 ms : Marks (w.heap.size + 2) rs W
 kl : w.heap.size + 2 ≤ kb
theorem AliI.later {w : World} {p q : Nat} {b c : Nat → Nat} {p2 q2 : Nat} {b2 c2 : Nat → Nat} {D : Ds} {k kb : Nat} {rs : List Nat} {W W' : World} (h : AliI w p q b c p2 q2 b2 c2 D k kb rs W) (j : Below W.heap.size W W') : AliI w p q b c p2 q2 b2 c2 D k kb rs W' :=
 ⟨h.low.set (j.mono h.low.rb.lt), h.bk.below j, h.ms.below j, h.kl⟩
def AliJ (w : World) (p q : Nat) (b c : Nat → Nat) (p2 q2 : Nat) (b2 c2 : Nat → Nat) (D : Ds) (k kb : Nat) (rs : List Nat) (pre : List It) (G : Nat → Prop) (V : World) : Prop :=
 OwnB kb 3 (fun _ : List It => #[.int .i64 k]) pre G V ∧ LowA w p q b c p2 q2 b2 c2 D G V ∧ ((∀ i, i ∈ rs → ¬ G i) ∧ Marks (w.heap.size + 2) rs V)
theorem AliJ.fr (w : World) (p q : Nat) (b c : Nat → Nat) (p2 q2 : Nat) (b2 c2 : Nat → Nat) (D : Ds) (k kb : Nat) (rs : List Nat) : FrOk (AliJ w p q b c p2 q2 b2 c2 D k kb rs) :=
 (FrOk.ownB _ _ _).and ((FrOk.lowA _ _ _ _ _ _ _ _ _ _).and (FrOk.reads (· ∈ rs) (fun _ V => Marks (w.heap.size + 2) rs V) (fun s A h => h.lt) (fun s A A' h _ e => h.heap e)))
theorem AliI.begin {w : World} {p q : Nat} {b c : Nat → Nat} {p2 q2 : Nat} {b2 c2 : Nat → Nat} {D : Ds} {k kb : Nat} {rs : List Nat} {W : World} (h : AliI w p q b c p2 q2 b2 c2 D k kb rs W) : AliJ w p q b c p2 q2 b2 c2 D k kb rs [] (fun _ => False) W :=
 ⟨⟨fun x => x, h.bk⟩, h.low, fun i hi x => x, h.ms⟩
theorem AliJ.over {w : World} {p q : Nat} {b c : Nat → Nat} {p2 q2 : Nat} {b2 c2 : Nat → Nat} {D : Ds} {k kb : Nat} {rs : List Nat} {V W' : World} {G : Nat → Prop} {ys : List It} {r : Nat} (h : AliJ w p q b c p2 q2 b2 c2 D k kb rs ys G V) (hr : V.heap[r]? = some (.deferred (some []))) (hr1 : w.heap.size + 2 ≤ r) (hr2 : r ∉ rs)
  (j : Below V.heap.size V W') (hk : CB W' V.heap.size 3 #[.int .i64 (k + 1 : Nat)]) : AliI w p q b c p2 q2 b2 c2 D (k + 1) V.heap.size (r :: rs) W' := by
 obtain ⟨_, h2, _, hm⟩ := h
 have h3 : LowA w p q b c p2 q2 b2 c2 D (fun _ => False) V := ⟨h2.tw, h2.bx, h2.rb, h2.below, fun i x => x.elim, h2.hq⟩
 exact ⟨h3.set (j.mono h2.rb.lt), hk, (hm.below j).cons hr1 ((j.block r (Array.getElem?_eq_some_iff.1 hr).1).trans hr) hr2, h2.rb.lt⟩
def kOf5 (a : Act) (W : World) : Nat := match a.tmps.getD 5 undef with
 | .pointer (some p) => match W.cell? p with
  | some (.int _ i) => i.toNat
  | _ => 0
 | _ => 0
def AliA (w : World) (p q : Nat) (b c : Nat → Nat) (p2 q2 : Nat) (b2 c2 : Nat → Nat) (D : Ds) (a : Act) (W : World) : Prop := ∃ (k kb : Nat) (rs : List Nat) (e15 e16 e17 e18 e19 e20 e21 e22 e23 e24 e25 e26 e27 e28 e29 e30 e31 e32 e33 e34 e35 e36 e37 e38 e39 e40 e41 e42 e43 e44 e45 e46 e47 e48 e49 e50 e51 e52 e53 e54 e55 e56 e57 e58 e59 e60 e61 e62 e63 e64 e65 e66 e67 e68 e69 e70 e71 e72 e73 e74 e75 e76 e89 : Value), a = { tmps := #[.pointer (some ⟨b 0, 0, none⟩), .pointer (some ⟨b2 0, 0, none⟩), undef, .pointer (some ⟨w.heap.size, 0, none⟩), .pointer (some ⟨w.heap.size + 1, 0, none⟩), .pointer (some ⟨kb, 0, none⟩), undef, undef, undef, undef, undef, undef, undef, undef, undef, e15, e16, e17, e18, e19, e20, e21, e22, e23, e24, e25, e26, e27, e28, e29, e30, e31, e32, e33, e34, e35, e36, e37, e38, e39, e40, e41, e42, e43, e44, e45, e46, e47, e48, e49, e50, e51, e52, e53, e54, e55, e56, e57, e58, e59, e60, e61, e62, e63, e64, e65, e66, e67, e68, e69, e70, e71, e72, e73, e74, e75, e76, undef, undef, undef, undef, undef, undef, undef, undef, undef, undef, undef, undef, e89, undef, undef, undef, undef, undef, undef, undef, undef, undef, undef, undef, undef, undef, undef, undef, undef, undef, undef, undef, undef, undef, undef, undef, undef, undef, undef, undef, undef, undef, undef, undef, undef, undef, undef, undef, undef, undef, undef], defers := rs.map markD } ∧ k ≤ D.cs.length ∧ AliI w p q b c p2 q2 b2 c2 D k kb rs W
def AliX (w : World) (b b2 : Nat → Nat) (kb Bx : Nat) (x : It) (a : Act) : Prop := ∃ (e15 e16 e17 e18 e19 e20 e21 e22 e23 e24 e25 e26 e27 e28 e29 e30 e31 e32 e33 e34 e35 e36 e37 e38 e39 e40 e41 e42 e43 e44 e45 e46 e47 e48 e49 e50 e51 e52 e53 e54 e55 e56 e57 e58 e59 e60 e61 e62 e63 e64 e65 e66 e67 e68 e69 e70 e71 e72 e73 e74 e75 e76 e89 : Value), a = { tmps := #[.pointer (some ⟨b 0, 0, none⟩), .pointer (some ⟨b2 0, 0, none⟩), undef, .pointer (some ⟨w.heap.size, 0, none⟩), .pointer (some ⟨w.heap.size + 1, 0, none⟩), .pointer (some ⟨kb, 0, none⟩), .int .i64 x.1, .pointer (some ⟨Bx, 0, none⟩), undef, undef, undef, undef, undef, undef, undef, e15, e16, e17, e18, e19, e20, e21, e22, e23, e24, e25, e26, e27, e28, e29, e30, e31, e32, e33, e34, e35, e36, e37, e38, e39, e40, e41, e42, e43, e44, e45, e46, e47, e48, e49, e50, e51, e52, e53, e54, e55, e56, e57, e58, e59, e60, e61, e62, e63, e64, e65, e66, e67, e68, e69, e70, e71, e72, e73, e74, e75, e76, .int .i64 x.1, x.2.ln.v, undef, undef, undef, undef, undef, undef, undef, undef, undef, undef, e89, undef, undef, undef, undef, undef, undef, undef, undef, undef, undef, undef, undef, undef, undef, undef, undef, undef, undef, undef, undef, undef, undef, undef, undef, undef, undef, undef, undef, undef, undef, undef, undef, undef, undef, undef, undef, undef, undef], defers := [] }
set_option maxRecDepth 100000 in
set_option maxHeartbeats 16000000 in
theorem alike_any {w : World} {p q p2 q2 : Nat} {b c b2 c2 : Nat → Nat} {D : Ds} (h : TwD w p q p2 q2 b c b2 c2 D) (ok : D.Ok) :
  Calls Tryz.prog 16 #[.pointer (some ⟨b 0, 0, none⟩), .pointer (some ⟨b2 0, 0, none⟩)] w fun e w' => e = .returned (.bool true) ∧ Below w.heap.size w w' := by
 have b2a := bal_two w (.cells #[.pointer (some ⟨b2 0, 0, none⟩)] 25) (.cells #[.bool false] 4)
 have HT2 := hi (h.below b2a)
 have HX := hi ((CB.new w 25 #[.pointer (some ⟨b2 0, 0, none⟩)]).alloc (.cells #[.bool false] 4))
 have HR0 := hi (cb_second (w := w) (o := .cells #[.pointer (some ⟨b2 0, 0, none⟩)] 25) (cs := #[.bool false]) (t := 4))
 have HB2 := hi b2a
 have HQ := hi (show q ≤ w.heap.size ∧ q2 ≤ w.heap.size from ⟨h.di.le, h.rd.le⟩)
 have HOK := hi ok
 have CO := hi (fun W (z : DiAt W p q b c D) => cores_any z)
 clear b2a h
 refine (callsIn_wide (n := 6)).1 ?_
 refine callsIn_of_wp_marks Tryz.func16 rfl trivial ?_ rfl
 simp only [Tryz.ntmps16, List.size_toArray, List.length_cons, List.length_nil, Nat.reduceAdd, Nat.reduceSub, Array.replicate_succ, Array.replicate_zero, List.push_toArray, List.append_toArray, List.nil_append, List.cons_append]
 refine wpIn_wide.2 ?_
 go_wp2
 refine wp_region_noPanic ?_
 refine wp_region_last_drew (S := (fun W' => CB W' w.heap.size 25 #[.pointer (some ⟨b2 0, 0, none⟩)] ∧ TwD W' p q p2 q2 b c b2 c2 D)) [] (by kernel_rfl) ⟨HX.out.drew, (HT2.out.below (Below.drewN (m := 1) (Below.refl _ _)))⟩ (fun hHeld => ?_)
 (try simp only [r1, r2, r3, r4, r5])
 refine tk 0 (v := ?_) rfl (Or.inl ⟨by rfl, ?_⟩) ?_
 rotate_left
 ·intro w' hSw; (try dsimp only at hSw); have r0 := hSw.1.cell 0; have z5 := hSw.2.rd.box.cell 5; go_simp; (try with_reducible rfl)
 (try simp only [Act.put, n1, n2, n3, n4, n5, n6])
 refine tk 2 (v := ?_) rfl (Or.inl ⟨by rfl, ?_⟩) ?_
 rotate_left
 ·intro w' hSw; (try dsimp only at hSw); have r0 := hSw.1.cell 0; have z5 := hSw.2.rd.box.cell 5; go_simp; (try with_reducible rfl)
 (try simp only [Act.put, n1, n2, n3, n4, n5, n6])
 refine tk 3 (v := ?_) rfl (Or.inl ⟨by rfl, ?_⟩) ?_
 rotate_left
 ·intro w' hSw; (try dsimp only at hSw); have r0 := hSw.1.cell 0; have z5 := hSw.2.rd.box.cell 5; go_simp; (try with_reducible rfl)
 (try simp only [Act.put, n1, n2, n3, n4, n5, n6])
 refine tk 4 (v := ?_) rfl (Or.inl ⟨by rfl, ?_⟩) ?_
 rotate_left
 ·intro w' hSw; (try dsimp only at hSw); have r0 := hSw.1.cell 0; have z5 := hSw.2.rd.box.cell 5; go_simp; (try with_reducible rfl)
 (try simp only [Act.put, n1, n2, n3, n4, n5, n6])
 refine tk 5 (v := ?_) rfl (Or.inl ⟨by rfl, ?_⟩) ?_
 rotate_left
 ·intro w' hSw; (try dsimp only at hSw); have r0 := hSw.1.cell 0; have z5 := hSw.2.rd.box.cell 5; go_simp; (try with_reducible rfl)
 (try simp only [Act.put, n1, n2, n3, n4, n5, n6])
 refine tk 6 (v := ?_) rfl (Or.inl ⟨by rfl, ?_⟩) ?_
 rotate_left
 ·intro w' hSw; (try dsimp only at hSw); have r0 := hSw.1.cell 0; have z5 := hSw.2.rd.box.cell 5; go_simp; (try with_reducible rfl)
 (try simp only [Act.put, n1, n2, n3, n4, n5, n6])
 refine wpAnyF_ready (rs := [1]) (by kernel_rfl) (by simp) ?_
 refine AllReadyF.cons rfl (fun KK hKK => ?_) AllReadyF.nil
 go_simp
 ((with_reducible refine (CO.out _ hHeld.2.di).mono ?_); rintro e' w5 ⟨rfl, rfl⟩)
 (try go_simp)
 refine hKK.out _ _ hHeld (fun hHeld => ?_)
 clear hKK KK
 (try simp only [Act.put, n1, n2, n3, n4, n5, n6])
 refine tk 7 (v := ?_) rfl (Or.inl ⟨by rfl, ?_⟩) ?_
 rotate_left
 ·intro w' hSw; (try dsimp only at hSw); have r0 := hSw.1.cell 0; have z5 := hSw.2.rd.box.cell 5; go_simp; (try with_reducible rfl)
 (try simp only [Act.put, n1, n2, n3, n4, n5, n6])
 refine wpAnyF_done (by kernel_rfl) ?_ _
 refine NoPanic.normal ?_
 clear hHeld
 go_wp2
 obtain ⟨W3, hW3, HI0⟩ : ∃ W, (((w.alloc (.cells #[.pointer (some ⟨b2 0, 0, none⟩)] 25)).alloc (.cells #[.bool false] 4)).alloc (.cells #[.int .i64 0] 3)).drew = W ∧ AliI w p q b c p2 q2 b2 c2 D 0 (w.heap.size + 1 + 1) [] W := by
  have k2 := bal ((w.alloc (.cells #[.pointer (some ⟨b2 0, 0, none⟩)] 25)).alloc (.cells #[.bool false] 4)) (.cells #[.int .i64 0] 3)
  have k3 := Below.drewN (m := 1) k2
  have hlow : LowA w p q b c p2 q2 b2 c2 D (fun _ => False) ((w.alloc (.cells #[.pointer (some ⟨b2 0, 0, none⟩)] 25)).alloc (.cells #[.bool false] 4)) := ⟨HT2.out, HX.out, HR0.out, HB2.out, fun i x => x.elim, HQ.out⟩
  refine ⟨_, rfl, hlow.set (k3.mono (by simp)), ?_, Marks.nil _ _, by omega⟩
  have := CB.new ((w.alloc (.cells #[.pointer (some ⟨b2 0, 0, none⟩)] 25)).alloc (.cells #[.bool false] 4)) 3 #[.int .i64 0]
  exact CB.drew (by simpa using this)
 rw [hW3]
 have HI0 := hi HI0
 clear hW3 HT2 HX HR0 HB2
 refine wp_loop (AliA w p q b c p2 q2 b2 c2 D) (fun a W => D.cs.length - kOf5 a W) ?_ ?_
 ·exact ⟨0, w.heap.size + 1 + 1, [], _, _, _, _, _, _, _, _, _, _, _, _, _, _, _, _, _, _, _, _, _, _, _, _, _, _, _, _, _, _, _, _, _, _, _, _, _, _, _, _, _, _, _, _, _, _, _, _, _, _, _, _, _, _, _, _, _, _, _, _, _, _, _, rfl, Nat.zero_le _, HI0.out⟩
 ·rintro a W ⟨k, kb, rs, e15, e16, e17, e18, e19, e20, e21, e22, e23, e24, e25, e26, e27, e28, e29, e30, e31, e32, e33, e34, e35, e36, e37, e38, e39, e40, e41, e42, e43, e44, e45, e46, e47, e48, e49, e50, e51, e52, e53, e54, e55, e56, e57, e58, e59, e60, e61, e62, e63, e64, e65, e66, e67, e68, e69, e70, e71, e72, e73, e74, e75, e76, e89, rfl, hk, hI⟩
  have HI := hi hI
  have HKO := hi (show ∀ t d, kOf5 { tmps := t, defers := d } W = k ∨ t.getD 5 undef ≠ .pointer (some ⟨kb, 0, none⟩) from fun t d => by
   by_cases ht : t.getD 5 undef = .pointer (some ⟨kb, 0, none⟩)
   ·left
    unfold kOf5
    simp only [ht, hI.bk.cell 0]
    simp
   ·exact .inr ht)
  have HID := hi (show AliI w p q b c p2 q2 b2 c2 D k kb rs W.drew from hI.later (Below.drewN (m := 1) (Below.refl _ _)))
  clear hI
  by_cases hlt : k < D.cs.length
  ·have HLT := hi hlt
   have t1 : decide ((k : Int) < D.cs.length) = true := by simp; omega
   have hlt' : (k : Int) < D.cs.length := by omega
   go_wp2
   refine wp_region_noPanic ?_
   refine wp_region_last_drew (S := (fun W' => AliI w p q b c p2 q2 b2 c2 D k kb rs W')) [] (by kernel_rfl) HID.out (fun hHeld => ?_)
   (try simp only [r1, r2, r3, r4, r5])
   refine tk 0 (v := ?_) rfl (Or.inl ⟨by rfl, ?_⟩) ?_
   rotate_left
   ·intro w' hSw; (try dsimp only at hSw); have k0 := hSw.bk.cell 0; have r0 := hSw.low.bx.cell 0; have z5 := hSw.low.tw.rd.box.cell 5; go_simp; (try with_reducible rfl)
   (try simp only [Act.put, n1, n2, n3, n4, n5, n6])
   refine tk 1 (v := ?_) rfl (Or.inl ⟨by rfl, ?_⟩) ?_
   rotate_left
   ·intro w' hSw; (try dsimp only at hSw); have k0 := hSw.bk.cell 0; have r0 := hSw.low.bx.cell 0; have z5 := hSw.low.tw.rd.box.cell 5; go_simp; (try with_reducible rfl)
   (try simp only [Act.put, n1, n2, n3, n4, n5, n6])
   refine tk 2 (v := ?_) rfl (Or.inl ⟨by rfl, ?_⟩) ?_
   rotate_left
   ·intro w' hSw; (try dsimp only at hSw); have k0 := hSw.bk.cell 0; have r0 := hSw.low.bx.cell 0; have z5 := hSw.low.tw.rd.box.cell 5; go_simp; (try with_reducible rfl)
   (try simp only [Act.put, n1, n2, n3, n4, n5, n6])
   refine tk 3 (v := ?_) rfl (Or.inl ⟨by rfl, ?_⟩) ?_
   rotate_left
   ·intro w' hSw; (try dsimp only at hSw); have k0 := hSw.bk.cell 0; have r0 := hSw.low.bx.cell 0; have z5 := hSw.low.tw.rd.box.cell 5; go_simp; (try with_reducible rfl)
   (try simp only [Act.put, n1, n2, n3, n4, n5, n6])
   refine tk 4 (v := ?_) rfl (Or.inl ⟨by rfl, ?_⟩) ?_
   rotate_left
   ·intro w' hSw; (try dsimp only at hSw); have k0 := hSw.bk.cell 0; have r0 := hSw.low.bx.cell 0; have z5 := hSw.low.tw.rd.box.cell 5; go_simp; (try with_reducible rfl)
   (try simp only [Act.put, n1, n2, n3, n4, n5, n6])
   refine tk 5 (v := ?_) rfl (Or.inl ⟨by rfl, ?_⟩) ?_
   rotate_left
   ·intro w' hSw; (try dsimp only at hSw); have k0 := hSw.bk.cell 0; have r0 := hSw.low.bx.cell 0; have z5 := hSw.low.tw.rd.box.cell 5; go_simp; (try with_reducible rfl)
   (try simp only [Act.put, n1, n2, n3, n4, n5, n6])
   refine tk 6 (v := ?_) rfl (Or.inl ⟨by rfl, ?_⟩) ?_
   rotate_left
   ·intro w' hSw; (try dsimp only at hSw); have k0 := hSw.bk.cell 0; have r0 := hSw.low.bx.cell 0; have z5 := hSw.low.tw.rd.box.cell 5; go_simp; (try with_reducible rfl)
   (try simp only [Act.put, n1, n2, n3, n4, n5, n6])
   refine wpAnyF_done (by kernel_rfl) ?_ _
   refine NoPanic.normal ?_
   clear hHeld
   have HI6 := hi (show AliI w p q b c p2 q2 b2 c2 D k kb rs W.drew.drew from HID.out.later (Below.drewN (m := 1) (Below.refl _ _)))
   have hsl : asleepV D (k : Int) = (D.nth k).sl := by
    unfold asleepV
    have hz : hasN D.cs.length (k : Int) = true := by simp [hasN]; omega
    rw [hz, Int.toNat_natCast]
    simp
   obtain ⟨sl9, hsl9⟩ : ∃ sl9, (D.nth k).sl = sl9 := ⟨_, rfl⟩
   have ASL := hi (fun W (z : DiAt W p q b c D) => asleep_dist z (k : Int))
   rw [hsl, hsl9] at ASL
   have BE := hi (fun W (z : DiAt W p q b c D) => best_dist z HOK.out (k : Int))
   have RBE := hi (fun W (z : RdAt W p2 q2 b2 c2 D) => rbest_dist z HOK.out (k : Int))
   rw [best_same HOK.out] at RBE
   obtain ⟨⟨ci, cp, cg, cis⟩, hC⟩ : ∃ C, bestC (readyL D k) = C := ⟨_, rfl⟩
   rw [hC] at BE RBE
   dsimp only [Cd.v] at BE RBE
   have SEE := hi (fun W (z : DiAt W p q b c D) => seen_dist z HOK.out (k : Int))
   have RDY := hi (fun W (z : DiAt W p q b c D) => ready_dist z HOK.out (k : Int))
   have RSE := hi (fun W (z : RdAt W p2 q2 b2 c2 D) => rseen_dist z HOK.out (k : Int))
   have RRD := hi (fun W (z : RdAt W p2 q2 b2 c2 D) => rready_dist z HOK.out (k : Int))
   rw [← seen_ids HOK.out] at RSE
   rw [← ready_ids HOK.out] at RRD
   have HL4 := hi (show (seenL D k).length ≤ 400 from Nat.le_trans (seenL_len HOK.out k) (by decide))
   have HL5 := hi (show (readyL D k).length ≤ 400 from Nat.le_trans (readyL_len HOK.out k) (by decide))
   have SA4 := hi (fun W va vb (ha : IntsAt W va (idsOf (seenL D k))) (hb : IntsAt W vb (idsOf (seenL D k))) => show Calls Tryz.prog 33 #[va, vb] W fun e w' => e = .returned (.bool true) ∧ ∃ m, w' = W.drewN m from by
    have z := same_any _ _ va vb W ha hb (by rw [idsOf_len]; have := HL4.out; omega) (by rw [idsOf_len]; have := HL4.out; omega)
    rw [show sameB (idsOf (seenL D k)) (idsOf (seenL D k)) = true from by simp [sameB]] at z
    exact z)
   have SA5 := hi (fun W va vb (ha : IntsAt W va (idsOf (readyL D k))) (hb : IntsAt W vb (idsOf (readyL D k))) => show Calls Tryz.prog 33 #[va, vb] W fun e w' => e = .returned (.bool true) ∧ ∃ m, w' = W.drewN m from by
    have z := same_any _ _ va vb W ha hb (by rw [idsOf_len]; have := HL5.out; omega) (by rw [idsOf_len]; have := HL5.out; omega)
    rw [show sameB (idsOf (readyL D k)) (idsOf (readyL D k)) = true from by simp [sameB]] at z
    exact z)
   clear hsl hC hlt
   go_wp2
   refine wp_region_noPanic ?_
   refine wp_region_last_drew (S := (fun W' => AliI w p q b c p2 q2 b2 c2 D k kb rs W')) [] (by kernel_rfl) HI6.out (fun hHeld => ?_)
   (try simp only [r1, r2, r3, r4, r5])
   refine tk 0 (v := ?_) rfl (Or.inl ⟨by rfl, ?_⟩) ?_
   rotate_left
   ·intro w' hSw; (try dsimp only at hSw); have k0 := hSw.bk.cell 0; have r0 := hSw.low.bx.cell 0; have z6 := hSw.low.tw.rd.box.cell 6; have zs := hSw.low.tw.rd.slpc HLT.out; go_simp; (try with_reducible rfl)
   (try simp only [Act.put, n1, n2, n3, n4, n5, n6])
   refine tk 1 (v := ?_) rfl (Or.inl ⟨by rfl, ?_⟩) ?_
   rotate_left
   ·intro w' hSw; (try dsimp only at hSw); have k0 := hSw.bk.cell 0; have r0 := hSw.low.bx.cell 0; have z6 := hSw.low.tw.rd.box.cell 6; have zs := hSw.low.tw.rd.slpc HLT.out; go_simp; (try with_reducible rfl)
   (try simp only [Act.put, n1, n2, n3, n4, n5, n6])
   refine tk 3 (v := ?_) rfl (Or.inl ⟨by rfl, ?_⟩) ?_
   rotate_left
   ·intro w' hSw; (try dsimp only at hSw); have k0 := hSw.bk.cell 0; have r0 := hSw.low.bx.cell 0; have z6 := hSw.low.tw.rd.box.cell 6; have zs := hSw.low.tw.rd.slpc HLT.out; go_simp; (try with_reducible rfl)
   (try simp only [Act.put, n1, n2, n3, n4, n5, n6])
   refine tk 4 (v := ?_) rfl (Or.inl ⟨by rfl, ?_⟩) ?_
   rotate_left
   ·intro w' hSw; (try dsimp only at hSw); have k0 := hSw.bk.cell 0; have r0 := hSw.low.bx.cell 0; have z6 := hSw.low.tw.rd.box.cell 6; have zs := hSw.low.tw.rd.slpc HLT.out; go_simp; (try with_reducible rfl)
   (try simp only [Act.put, n1, n2, n3, n4, n5, n6])
   refine tk 5 (v := ?_) rfl (Or.inl ⟨by rfl, ?_⟩) ?_
   rotate_left
   ·intro w' hSw; (try dsimp only at hSw); have k0 := hSw.bk.cell 0; have r0 := hSw.low.bx.cell 0; have z6 := hSw.low.tw.rd.box.cell 6; have zs := hSw.low.tw.rd.slpc HLT.out; go_simp; (try with_reducible rfl)
   (try simp only [Act.put, n1, n2, n3, n4, n5, n6])
   refine tk 6 (v := ?_) rfl (Or.inl ⟨by rfl, ?_⟩) ?_
   rotate_left
   ·intro w' hSw; (try dsimp only at hSw); have k0 := hSw.bk.cell 0; have r0 := hSw.low.bx.cell 0; have z6 := hSw.low.tw.rd.box.cell 6; have zs := hSw.low.tw.rd.slpc HLT.out; go_simp; (try with_reducible rfl)
   (try simp only [Act.put, n1, n2, n3, n4, n5, n6])
   refine tk 7 (v := ?_) rfl (Or.inl ⟨by rfl, ?_⟩) ?_
   rotate_left
   ·intro w' hSw; (try dsimp only at hSw); have k0 := hSw.bk.cell 0; have r0 := hSw.low.bx.cell 0; have z6 := hSw.low.tw.rd.box.cell 6; have zs := hSw.low.tw.rd.slpc HLT.out; go_simp; (try with_reducible rfl)
   (try simp only [Act.put, n1, n2, n3, n4, n5, n6])
   refine tk 8 (v := ?_) rfl (Or.inl ⟨by rfl, ?_⟩) ?_
   rotate_left
   ·intro w' hSw; (try dsimp only at hSw); have k0 := hSw.bk.cell 0; have r0 := hSw.low.bx.cell 0; have z6 := hSw.low.tw.rd.box.cell 6; have zs := hSw.low.tw.rd.slpc HLT.out; go_simp; (try with_reducible rfl)
   (try simp only [Act.put, n1, n2, n3, n4, n5, n6])
   refine tk 9 (v := ?_) rfl (Or.inl ⟨by rfl, ?_⟩) ?_
   rotate_left
   ·intro w' hSw; (try dsimp only at hSw); have k0 := hSw.bk.cell 0; have r0 := hSw.low.bx.cell 0; have z6 := hSw.low.tw.rd.box.cell 6; have zs := hSw.low.tw.rd.slpc HLT.out; go_simp; (try with_reducible rfl)
   (try simp only [Act.put, n1, n2, n3, n4, n5, n6])
   refine wpAnyF_ready (rs := [2]) (by kernel_rfl) (by simp) ?_
   refine AllReadyF.cons rfl (fun KK hKK => ?_) AllReadyF.nil
   go_simp
   ((with_reducible refine (ASL.out _ hHeld.low.tw.di).mono ?_); rintro e' w61 ⟨rfl, rfl⟩)
   (try go_simp)
   refine hKK.out _ _ hHeld (fun hHeld => ?_)
   clear hKK KK
   (try simp only [Act.put, n1, n2, n3, n4, n5, n6])
   refine tk 10 (v := ?_) rfl (Or.inl ⟨by rfl, ?_⟩) ?_
   rotate_left
   ·intro w' hSw; (try dsimp only at hSw); have k0 := hSw.bk.cell 0; have r0 := hSw.low.bx.cell 0; have z6 := hSw.low.tw.rd.box.cell 6; have zs := hSw.low.tw.rd.slpc HLT.out; go_simp; (try with_reducible rfl)
   (try simp only [Act.put, n1, n2, n3, n4, n5, n6])
   refine tk 11 (v := ?_) rfl (Or.inl ⟨by rfl, ?_⟩) ?_
   rotate_left
   ·intro w' hSw; (try dsimp only at hSw); have k0 := hSw.bk.cell 0; have r0 := hSw.low.bx.cell 0; have z6 := hSw.low.tw.rd.box.cell 6; have zs := hSw.low.tw.rd.slpc HLT.out; go_simp; (try with_reducible rfl)
   (try simp only [Act.put, n1, n2, n3, n4, n5, n6])
   refine tk 12 (v := ?_) rfl (Or.inl ⟨by rfl, ?_⟩) ?_
   rotate_left
   ·intro w' hSw; (try dsimp only at hSw); have k0 := hSw.bk.cell 0; have r0 := hSw.low.bx.cell 0; have z6 := hSw.low.tw.rd.box.cell 6; have zs := hSw.low.tw.rd.slpc HLT.out; go_simp; (try with_reducible rfl)
   (try simp only [Act.put, n1, n2, n3, n4, n5, n6])
   refine tk 13 (v := ?_) rfl (Or.inl ⟨by rfl, ?_⟩) ?_
   rotate_left
   ·intro w' hSw; (try dsimp only at hSw); have k0 := hSw.bk.cell 0; have r0 := hSw.low.bx.cell 0; have z6 := hSw.low.tw.rd.box.cell 6; have zs := hSw.low.tw.rd.slpc HLT.out; go_simp; (try with_reducible rfl)
   (try simp only [Act.put, n1, n2, n3, n4, n5, n6])
   refine tk 15 (v := ?_) rfl (Or.inl ⟨by rfl, ?_⟩) ?_
   rotate_left
   ·intro w' hSw; (try dsimp only at hSw); have k0 := hSw.bk.cell 0; have r0 := hSw.low.bx.cell 0; have z6 := hSw.low.tw.rd.box.cell 6; have zs := hSw.low.tw.rd.slpc HLT.out; go_simp; (try with_reducible rfl)
   (try simp only [Act.put, n1, n2, n3, n4, n5, n6])
   refine tk 16 (v := ?_) rfl (Or.inl ⟨by rfl, ?_⟩) ?_
   rotate_left
   ·intro w' hSw; (try dsimp only at hSw); have k0 := hSw.bk.cell 0; have r0 := hSw.low.bx.cell 0; have z6 := hSw.low.tw.rd.box.cell 6; have zs := hSw.low.tw.rd.slpc HLT.out; go_simp; (try with_reducible rfl)
   (try simp only [Act.put, n1, n2, n3, n4, n5, n6])
   refine wpAnyF_ready (rs := [14]) (by kernel_rfl) (by simp) ?_
   refine AllReadyF.cons rfl (fun KK hKK => ?_) AllReadyF.nil
   go_simp
   ((with_reducible refine (BE.out _ hHeld.low.tw.di).mono ?_); rintro e' w62 ⟨rfl, hb⟩; have hSS := hHeld.later hb; clear hb)
   (try go_simp)
   refine hKK.out _ _ hSS (fun hHeld => ?_)
   clear hKK KK
   (try simp only [Act.put, n1, n2, n3, n4, n5, n6])
   refine wpAnyF_ready (rs := [17]) (by kernel_rfl) (by simp) ?_
   refine AllReadyF.cons rfl (fun KK hKK => ?_) AllReadyF.nil
   go_simp
   ((with_reducible refine (RBE.out _ hHeld.low.tw.rd).mono ?_); rintro e' w63 ⟨rfl, hb⟩; have hSS := hHeld.later hb; clear hb)
   (try go_simp)
   refine hKK.out _ _ hSS (fun hHeld => ?_)
   clear hKK KK
   (try simp only [Act.put, n1, n2, n3, n4, n5, n6])
   refine tk 18 (v := ?_) rfl (Or.inl ⟨by rfl, ?_⟩) ?_
   rotate_left
   ·intro w' hSw; (try dsimp only at hSw); have k0 := hSw.bk.cell 0; have r0 := hSw.low.bx.cell 0; have z6 := hSw.low.tw.rd.box.cell 6; have zs := hSw.low.tw.rd.slpc HLT.out; go_simp; (try with_reducible rfl)
   (try simp only [Act.put, n1, n2, n3, n4, n5, n6])
   refine tk 19 (v := ?_) rfl (Or.inl ⟨by rfl, ?_⟩) ?_
   rotate_left
   ·intro w' hSw; (try dsimp only at hSw); have k0 := hSw.bk.cell 0; have r0 := hSw.low.bx.cell 0; have z6 := hSw.low.tw.rd.box.cell 6; have zs := hSw.low.tw.rd.slpc HLT.out; go_simp; (try with_reducible rfl)
   (try simp only [Act.put, n1, n2, n3, n4, n5, n6])
   refine tk 20 (v := ?_) rfl (Or.inl ⟨by rfl, ?_⟩) ?_
   rotate_left
   ·intro w' hSw; (try dsimp only at hSw); have k0 := hSw.bk.cell 0; have r0 := hSw.low.bx.cell 0; have z6 := hSw.low.tw.rd.box.cell 6; have zs := hSw.low.tw.rd.slpc HLT.out; go_simp; (try with_reducible rfl)
   (try simp only [Act.put, n1, n2, n3, n4, n5, n6])
   refine tk 21 (v := ?_) rfl (Or.inl ⟨by rfl, ?_⟩) ?_
   rotate_left
   ·intro w' hSw; (try dsimp only at hSw); have k0 := hSw.bk.cell 0; have r0 := hSw.low.bx.cell 0; have z6 := hSw.low.tw.rd.box.cell 6; have zs := hSw.low.tw.rd.slpc HLT.out; go_simp; (try with_reducible rfl)
   (try simp only [Act.put, n1, n2, n3, n4, n5, n6])
   refine tk 22 (v := ?_) rfl (Or.inl ⟨by rfl, ?_⟩) ?_
   rotate_left
   ·intro w' hSw; (try dsimp only at hSw); have k0 := hSw.bk.cell 0; have r0 := hSw.low.bx.cell 0; have z6 := hSw.low.tw.rd.box.cell 6; have zs := hSw.low.tw.rd.slpc HLT.out; go_simp; (try with_reducible rfl)
   (try simp only [Act.put, n1, n2, n3, n4, n5, n6])
   refine tk 25 (v := ?_) rfl (Or.inl ⟨by rfl, ?_⟩) ?_
   rotate_left
   ·intro w' hSw; (try dsimp only at hSw); have k0 := hSw.bk.cell 0; have r0 := hSw.low.bx.cell 0; have z6 := hSw.low.tw.rd.box.cell 6; have zs := hSw.low.tw.rd.slpc HLT.out; go_simp; (try with_reducible rfl)
   (try simp only [Act.put, n1, n2, n3, n4, n5, n6])
   refine tk 26 (v := ?_) rfl (Or.inl ⟨by rfl, ?_⟩) ?_
   rotate_left
   ·intro w' hSw; (try dsimp only at hSw); have k0 := hSw.bk.cell 0; have r0 := hSw.low.bx.cell 0; have z6 := hSw.low.tw.rd.box.cell 6; have zs := hSw.low.tw.rd.slpc HLT.out; go_simp; (try with_reducible rfl)
   (try simp only [Act.put, n1, n2, n3, n4, n5, n6])
   refine wpAnyF_ready (rs := [23]) (by kernel_rfl) (by simp) ?_
   refine AllReadyF.cons rfl (fun KK hKK => ?_) AllReadyF.nil
   go_simp
   ((with_reducible refine (SEE.out _ hHeld.low.tw.di).mono ?_); rintro e' w64 ⟨R4, gf4, lb4, rfl, hR4, hit4, hb⟩; have hSS := hHeld.later hb; have IT4 := hi hit4; clear hb hR4 hit4)
   (try go_simp)
   refine hKK.out _ _ hSS (fun hHeld => ?_)
   clear hKK KK
   (try simp only [Act.put, n1, n2, n3, n4, n5, n6])
   refine wpAnyF_ready (rs := [24]) (by kernel_rfl) (by simp) ?_
   refine AllReadyF.cons rfl (fun KK hKK => ?_) AllReadyF.nil
   go_simp
   ((with_reducible refine (idsS_any IT4.out HL4.out).mono ?_); rintro e' w65 ⟨v4, rfl, ho4, hb⟩; have hSS := hHeld.later hb; have OW4 := hi ho4; clear hb ho4)
   (try go_simp)
   refine hKK.out _ _ hSS (fun hHeld => ?_)
   clear hKK KK
   (try simp only [Act.put, n1, n2, n3, n4, n5, n6])
   refine wpAnyF_ready (rs := [27]) (by kernel_rfl) (by simp) ?_
   refine AllReadyF.cons rfl (fun KK hKK => ?_) AllReadyF.nil
   go_simp
   ((with_reducible refine (RSE.out _ hHeld.low.tw.rd).mono ?_); rintro e' w66 ⟨o4, rfl, hc4⟩; have hb := hc4.below; have hSS := hHeld.later hb; have OX4 := hi (OW4.out.below hb).at_; have CX4 := hi hc4.ints; clear hb hc4)
   (try go_simp)
   refine hKK.out _ _ hSS (fun hHeld => ?_)
   clear hKK KK
   (try simp only [Act.put, n1, n2, n3, n4, n5, n6])
   refine wpAnyF_ready (rs := [28]) (by kernel_rfl) (by simp) ?_
   refine AllReadyF.cons rfl (fun KK hKK => ?_) AllReadyF.nil
   go_simp
   ((with_reducible refine (SA4.out _ _ _ OX4.out CX4.out).mono ?_); rintro e' w67 ⟨rfl, m4, rfl⟩; have hSS := hHeld.later (Below.drewN (m := m4) (Below.refl _ _)))
   (try go_simp)
   refine hKK.out _ _ hSS (fun hHeld => ?_)
   clear hKK KK
   (try simp only [Act.put, n1, n2, n3, n4, n5, n6])
   refine tk 29 (v := ?_) rfl (Or.inl ⟨by rfl, ?_⟩) ?_
   rotate_left
   ·intro w' hSw; (try dsimp only at hSw); have k0 := hSw.bk.cell 0; have r0 := hSw.low.bx.cell 0; have z6 := hSw.low.tw.rd.box.cell 6; have zs := hSw.low.tw.rd.slpc HLT.out; go_simp; (try with_reducible rfl)
   (try simp only [Act.put, n1, n2, n3, n4, n5, n6])
   refine tk 30 (v := ?_) rfl (Or.inl ⟨by rfl, ?_⟩) ?_
   rotate_left
   ·intro w' hSw; (try dsimp only at hSw); have k0 := hSw.bk.cell 0; have r0 := hSw.low.bx.cell 0; have z6 := hSw.low.tw.rd.box.cell 6; have zs := hSw.low.tw.rd.slpc HLT.out; go_simp; (try with_reducible rfl)
   (try simp only [Act.put, n1, n2, n3, n4, n5, n6])
   refine tk 31 (v := ?_) rfl (Or.inl ⟨by rfl, ?_⟩) ?_
   rotate_left
   ·intro w' hSw; (try dsimp only at hSw); have k0 := hSw.bk.cell 0; have r0 := hSw.low.bx.cell 0; have z6 := hSw.low.tw.rd.box.cell 6; have zs := hSw.low.tw.rd.slpc HLT.out; go_simp; (try with_reducible rfl)
   (try simp only [Act.put, n1, n2, n3, n4, n5, n6])
   refine tk 32 (v := ?_) rfl (Or.inl ⟨by rfl, ?_⟩) ?_
   rotate_left
   ·intro w' hSw; (try dsimp only at hSw); have k0 := hSw.bk.cell 0; have r0 := hSw.low.bx.cell 0; have z6 := hSw.low.tw.rd.box.cell 6; have zs := hSw.low.tw.rd.slpc HLT.out; go_simp; (try with_reducible rfl)
   (try simp only [Act.put, n1, n2, n3, n4, n5, n6])
   refine tk 33 (v := ?_) rfl (Or.inl ⟨by rfl, ?_⟩) ?_
   rotate_left
   ·intro w' hSw; (try dsimp only at hSw); have k0 := hSw.bk.cell 0; have r0 := hSw.low.bx.cell 0; have z6 := hSw.low.tw.rd.box.cell 6; have zs := hSw.low.tw.rd.slpc HLT.out; go_simp; (try with_reducible rfl)
   (try simp only [Act.put, n1, n2, n3, n4, n5, n6])
   refine tk 36 (v := ?_) rfl (Or.inl ⟨by rfl, ?_⟩) ?_
   rotate_left
   ·intro w' hSw; (try dsimp only at hSw); have k0 := hSw.bk.cell 0; have r0 := hSw.low.bx.cell 0; have z6 := hSw.low.tw.rd.box.cell 6; have zs := hSw.low.tw.rd.slpc HLT.out; go_simp; (try with_reducible rfl)
   (try simp only [Act.put, n1, n2, n3, n4, n5, n6])
   refine tk 37 (v := ?_) rfl (Or.inl ⟨by rfl, ?_⟩) ?_
   rotate_left
   ·intro w' hSw; (try dsimp only at hSw); have k0 := hSw.bk.cell 0; have r0 := hSw.low.bx.cell 0; have z6 := hSw.low.tw.rd.box.cell 6; have zs := hSw.low.tw.rd.slpc HLT.out; go_simp; (try with_reducible rfl)
   (try simp only [Act.put, n1, n2, n3, n4, n5, n6])
   refine wpAnyF_ready (rs := [34]) (by kernel_rfl) (by simp) ?_
   refine AllReadyF.cons rfl (fun KK hKK => ?_) AllReadyF.nil
   go_simp
   ((with_reducible refine (RDY.out _ hHeld.low.tw.di).mono ?_); rintro e' w68 ⟨R5, gf5, lb5, rfl, hR5, hit5, hb⟩; have hSS := hHeld.later hb; have IT5 := hi hit5; clear hb hR5 hit5)
   (try go_simp)
   refine hKK.out _ _ hSS (fun hHeld => ?_)
   clear hKK KK
   (try simp only [Act.put, n1, n2, n3, n4, n5, n6])
   refine wpAnyF_ready (rs := [35]) (by kernel_rfl) (by simp) ?_
   refine AllReadyF.cons rfl (fun KK hKK => ?_) AllReadyF.nil
   go_simp
   ((with_reducible refine (idsS_any IT5.out HL5.out).mono ?_); rintro e' w69 ⟨v5, rfl, ho5, hb⟩; have hSS := hHeld.later hb; have OW5 := hi ho5; clear hb ho5)
   (try go_simp)
   refine hKK.out _ _ hSS (fun hHeld => ?_)
   clear hKK KK
   (try simp only [Act.put, n1, n2, n3, n4, n5, n6])
   refine wpAnyF_ready (rs := [38]) (by kernel_rfl) (by simp) ?_
   refine AllReadyF.cons rfl (fun KK hKK => ?_) AllReadyF.nil
   go_simp
   ((with_reducible refine (RRD.out _ hHeld.low.tw.rd).mono ?_); rintro e' w70 ⟨o5, rfl, hc5⟩; have hb := hc5.below; have hSS := hHeld.later hb; have OX5 := hi (OW5.out.below hb).at_; have CX5 := hi hc5.ints; clear hb hc5)
   (try go_simp)
   refine hKK.out _ _ hSS (fun hHeld => ?_)
   clear hKK KK
   (try simp only [Act.put, n1, n2, n3, n4, n5, n6])
   refine wpAnyF_ready (rs := [39]) (by kernel_rfl) (by simp) ?_
   refine AllReadyF.cons rfl (fun KK hKK => ?_) AllReadyF.nil
   go_simp
   ((with_reducible refine (SA5.out _ _ _ OX5.out CX5.out).mono ?_); rintro e' w71 ⟨rfl, m5, rfl⟩; have hSS := hHeld.later (Below.drewN (m := m5) (Below.refl _ _)))
   (try go_simp)
   refine hKK.out _ _ hSS (fun hHeld => ?_)
   clear hKK KK
   (try simp only [Act.put, n1, n2, n3, n4, n5, n6])
   refine tk 40 (v := ?_) rfl (Or.inl ⟨by rfl, ?_⟩) ?_
   rotate_left
   ·intro w' hSw; (try dsimp only at hSw); have k0 := hSw.bk.cell 0; have r0 := hSw.low.bx.cell 0; have z6 := hSw.low.tw.rd.box.cell 6; have zs := hSw.low.tw.rd.slpc HLT.out; go_simp; (try with_reducible rfl)
   (try simp only [Act.put, n1, n2, n3, n4, n5, n6])
   refine tk 41 (v := ?_) rfl (Or.inl ⟨by rfl, ?_⟩) ?_
   rotate_left
   ·intro w' hSw; (try dsimp only at hSw); have k0 := hSw.bk.cell 0; have r0 := hSw.low.bx.cell 0; have z6 := hSw.low.tw.rd.box.cell 6; have zs := hSw.low.tw.rd.slpc HLT.out; go_simp; (try with_reducible rfl)
   (try simp only [Act.put, n1, n2, n3, n4, n5, n6])
   refine wpAnyF_done (by kernel_rfl) ?_ _
   refine NoPanic.normal ?_
   have HI7 := hi hHeld
   clear hHeld
   have kd0 : w70.cell? ⟨kb, 0, none⟩ = some (.int .i64 k) := HI7.out.bk.cell 0
   have rd0 : w70.cell? ⟨w.heap.size, 0, none⟩ = some (.pointer (some ⟨b2 0, 0, none⟩)) := HI7.out.low.bx.cell 0
   have HWS := hi (show w.heap.size + 2 ≤ (w70.drewN m5).heap.size from HI7.out.low.rb.lt)
   clear ASL BE RBE RDY RSE RRD HL4 SA4 SA5 IT4 IT5 OW4 OW5 OX4 OX5 CX4 CX5
   go_wp2_with (go_at_call 29; ((with_reducible refine (SEE.out _ HI7.out.low.tw.di).mono ?_); rintro e w80 ⟨R, gf, lb, rfl, hR, hit, hb⟩; have HBG := hi (HI7.out.later hb).begin; have HIT := hi hit; have S6 := hi hb.size; clear hit hb hR))
   obtain ⟨gf', lb', eq9, eg, hh6, hq⟩ := HIT.out
   obtain ⟨rfl, rfl⟩ : gf = gf' ∧ lb = lb' := by simpa using eq9
   have hRw := HIT.out.lt
   have HRW := hi hRw
   have hst := hq w80 (Nat.le_refl _) (fun _ _ => rfl)
   clear hq eq9
   refine (wpIn_wide (n := 6)).1 ?_
   refine range_fr (n := 6) (by omega) (gf := gf) (lb := lb) rfl eg hst (Below.refl _ _) (fun _ => rfl) hRw
    (fun _ => False) (fun i x => x.elim)
    (AliJ w p q b c p2 q2 b2 c2 D k kb rs)
    (fun cd pre G V => False)
    (AliJ.fr w p q b c p2 q2 b2 c2 D k kb rs)
    (fun _ => ⟨fun _ _ _ _ h _ => h, fun _ _ _ _ h _ => h⟩)
    HBG.out
    (fun x a' G V => ∃ Bx, OwnB Bx 58 (fun _ : Unit => x.2.ln.cs.toArray) () G V ∧ AliX w b b2 kb Bx x a')
    (fun x a' => ⟨fun s F A A' q w => by obtain ⟨Bx, e1, e2⟩ := q; exact ⟨Bx, (FrOk.ownB Bx 58 (fun (_ : Unit) => x.2.ln.cs.toArray)).st () F A A' e1 w, e2⟩, fun s F G A q w => by obtain ⟨Bx, e1, e2⟩ := q; exact ⟨Bx, (FrOk.ownB Bx 58 (fun (_ : Unit) => x.2.ln.cs.toArray)).sub () F G A e1 w, e2⟩⟩)
    ?assign ?body ?done ?stop
   case assign =>
    rintro l' pre ⟨id, ⟨⟨⟨e, lb', q', a⟩, en, gr, pp⟩, s⟩⟩ G V K h hFG hG hsz hK
    have hkf : KF G R V (V.alloc (.cells #[.bool e, .bool lb', .bool q', .bool a, .bool en, .int .i64 gr, .int .i64 pp] 58)) := KF.of_below (bal V _) (fun i x => by rcases x with x | x; exact (hG i x).1; have := HRW.out i x; omega)
    have hJ := (AliJ.fr w p q b c p2 q2 b2 c2 D k kb rs).st _ _ _ _ h (Kept.of (bal V (.cells #[.bool e, .bool lb', .bool q', .bool a, .bool en, .int .i64 gr, .int .i64 pp] 58)))
    gi_wp2
    exact hK _ _ hkf hJ ⟨V.heap.size, ⟨fun x => by have := (hG _ x).1; omega, CB.new _ _ _⟩, _, _, _, _, _, _, _, _, _, _, _, _, _, _, _, _, _, _, _, _, _, _, _, _, _, _, _, _, _, _, _, _, _, _, _, _, _, _, _, _, _, _, _, _, _, _, _, _, _, _, _, _, _, _, _, _, _, _, _, _, _, _, _, rfl⟩
   case body =>
    rintro l' pre ⟨id, ⟨⟨⟨e2, l2, h1, a2⟩, n2, g2, p2'⟩, s⟩⟩ a' G V hFG hG hsz hJ ⟨Bx, ⟨hBn, hbx⟩, e15, e16, e17, e18, e19, e20, e21, e22, e23, e24, e25, e26, e27, e28, e29, e30, e31, e32, e33, e34, e35, e36, e37, e38, e39, e40, e41, e42, e43, e44, e45, e46, e47, e48, e49, e50, e51, e52, e53, e54, e55, e56, e57, e58, e59, e60, e61, e62, e63, e64, e65, e66, e67, e68, e69, e70, e71, e72, e73, e74, e75, e76, e89, rfl⟩ hpx
    have hmem := hpx.subset (show (id, (⟨⟨⟨e2, l2, h1, a2⟩, n2, g2, p2'⟩, s⟩ : En)) ∈ pre ++ [(id, ⟨⟨⟨e2, l2, h1, a2⟩, n2, g2, p2'⟩, s⟩)] by simp)
    have hgv := seen_get HOK.out hmem
    dsimp only at hgv
    replace hbx : CB V Bx 58 #[.bool e2, .bool l2, .bool h1, .bool a2, .bool n2, .int .i64 g2, .int .i64 p2'] := hbx
    have HJ := hi hJ
    have HFL := hi (show ∀ i, G i ∨ R i → i < V.heap.size from fun i z => by rcases z with z | z; exact (hG i z).1; have := HRW.out i z; omega)
    have hkb0 := hJ.1.2.cell 0
    have hr0 := hJ.2.1.bx.cell 0
    have HBX := hi hbx
    have gt0 := rget_dist hJ.2.1.tw.rd HOK.out (k : Int) id
    rw [hgv] at gt0
    have GT := hi (show Calls Tryz.prog 57 #[.pointer (some ⟨b2 0, 0, none⟩), .int .i64 k, .int .i64 id] V fun e w' => e = .returned (.tuple #[.agg #[.bool e2, .bool l2, .bool h1, .bool a2, .bool n2, .int .i64 g2, .int .i64 p2'], .int .i64 0]) ∧ Below V.heap.size V w' from gt0)
    have el1 := eqLn_it e2 l2 h1 a2 n2 g2 p2'
    clear hJ hG hbx gt0 hpx hmem hgv
    gi_wp2_with (first
     | (refine ⟨trivial, ?_⟩; gi_at_call 57; ((with_reducible refine (CallsIn.inRound l' (callsIn_wide.2 GT.out)).mono ?_); rintro e9 V1 ⟨rfl, hb⟩; have hb2 := hb.alloc hb.size (.cells #[.bool e2, .bool l2, .bool h1, .bool a2, .bool n2, .int .i64 g2, .int .i64 p2'] 58); have HB2 := hi hb2; have x2 := (HBX.out.below hb2); have xc0 := x2.cell 0; have xc1 := x2.cell 1; have xc2 := x2.cell 2; have xc3 := x2.cell 3; have xc4 := x2.cell 4; have xc5 := x2.cell 5; have xc6 := x2.cell 6; clear hb hb2 x2))
     | gi_in)
    exact ⟨KF.of_below HB2.out HFL.out, (AliJ.fr w p q b c p2 q2 b2 c2 D k kb rs).st _ _ _ _ HJ.out (Kept.of HB2.out)⟩
   case done =>
    rintro ys G V hys hFG hJ hK hs2
    have hkc := hJ.1.2.cell 0
    have hw9 : IntKind.i64.wrap ((k : Int) + 1) = ((k + 1 : Nat) : Int) := by rw [IntKind.wrap_i64]; have := HOK.out.n8; have := HLT.out; omega
    have HOV := hi (fun W' (j : Below V.heap.size V W') (hk : CB W' V.heap.size 3 #[.int .i64 (k + 1 : Nat)]) => AliJ.over hJ hK (by have := HWS.out; have := S6.out; omega) (fun hm => by have := HI7.out.ms.lt _ hm; have := S6.out; omega) j hk)
    clear hJ hK hst
    go_wp2
    refine ⟨⟨k + 1, V.heap.size, w80.heap.size :: rs, _, _, _, _, _, _, _, _, _, _, _, _, _, _, _, _, _, _, _, _, _, _, _, _, _, _, _, _, _, _, _, _, _, _, _, _, _, _, _, _, _, _, _, _, _, _, _, _, _, _, _, _, _, _, _, _, _, _, _, _, _, _, _, rfl, by have := HLT.out; omega, HOV.out _ (bal V _) (CB.new V _ _)⟩, ?_⟩
    have e1 := (HKO.out #[.pointer (some ⟨b 0, 0, none⟩), .pointer (some ⟨b2 0, 0, none⟩), undef, .pointer (some ⟨w.heap.size, 0, none⟩), .pointer (some ⟨w.heap.size + 1, 0, none⟩), .pointer (some ⟨kb, 0, none⟩), undef, undef, undef, undef, undef, undef, undef, undef, undef, e15, e16, e17, e18, e19, e20, e21, e22, e23, e24, e25, e26, e27, e28, e29, e30, e31, e32, e33, e34, e35, e36, e37, e38, e39, e40, e41, e42, e43, e44, e45, e46, e47, e48, e49, e50, e51, e52, e53, e54, e55, e56, e57, e58, e59, e60, e61, e62, e63, e64, e65, e66, e67, e68, e69, e70, e71, e72, e73, e74, e75, e76, undef, undef, undef, undef, undef, undef, undef, undef, undef, undef, undef, undef, e89, undef, undef, undef, undef, undef, undef, undef, undef, undef, undef, undef, undef, undef, undef, undef, undef, undef, undef, undef, undef, undef, undef, undef, undef, undef, undef, undef, undef, undef, undef, undef, undef, undef, undef, undef, undef, undef, undef] (rs.map markD)).resolve_right (fun z => z rfl)
    rw [e1]
    have e2 : ∀ (t : Array Value) (d : List Deferred), t.getD 5 undef = .pointer (some ⟨V.heap.size, 0, none⟩) → kOf5 { tmps := t, defers := d } (V.alloc (.cells #[.int .i64 ((k : Int) + 1)] 3)) = k + 1 := fun t d ht => by
     unfold kOf5
     simp only [ht, (CB.new V 3 #[.int .i64 ((k : Int) + 1)]).cell 0]
     simp
     try omega
    rw [e2 _ _ rfl]
    have := HLT.out
    omega
   case stop =>
    rintro c pre G V _ _ h _ _
    exact h.elim
  ·have t1 : decide ((k : Int) < D.cs.length) = false := by simp; omega
   have hlt' : ¬ (k : Int) < D.cs.length := by omega
   go_wp2
   refine wp_region_noPanic ?_
   refine wp_region_last_drew (S := (fun W' => AliI w p q b c p2 q2 b2 c2 D k kb rs W')) [] (by kernel_rfl) HID.out (fun hHeld => ?_)
   (try simp only [r1, r2, r3, r4, r5])
   refine tk 0 (v := ?_) rfl (Or.inl ⟨by rfl, ?_⟩) ?_
   rotate_left
   ·intro w' hSw; (try dsimp only at hSw); have k0 := hSw.bk.cell 0; have r0 := hSw.low.bx.cell 0; have z5 := hSw.low.tw.rd.box.cell 5; go_simp; (try with_reducible rfl)
   (try simp only [Act.put, n1, n2, n3, n4, n5, n6])
   refine tk 1 (v := ?_) rfl (Or.inl ⟨by rfl, ?_⟩) ?_
   rotate_left
   ·intro w' hSw; (try dsimp only at hSw); have k0 := hSw.bk.cell 0; have r0 := hSw.low.bx.cell 0; have z5 := hSw.low.tw.rd.box.cell 5; go_simp; (try with_reducible rfl)
   (try simp only [Act.put, n1, n2, n3, n4, n5, n6])
   refine tk 2 (v := ?_) rfl (Or.inl ⟨by rfl, ?_⟩) ?_
   rotate_left
   ·intro w' hSw; (try dsimp only at hSw); have k0 := hSw.bk.cell 0; have r0 := hSw.low.bx.cell 0; have z5 := hSw.low.tw.rd.box.cell 5; go_simp; (try with_reducible rfl)
   (try simp only [Act.put, n1, n2, n3, n4, n5, n6])
   refine tk 3 (v := ?_) rfl (Or.inl ⟨by rfl, ?_⟩) ?_
   rotate_left
   ·intro w' hSw; (try dsimp only at hSw); have k0 := hSw.bk.cell 0; have r0 := hSw.low.bx.cell 0; have z5 := hSw.low.tw.rd.box.cell 5; go_simp; (try with_reducible rfl)
   (try simp only [Act.put, n1, n2, n3, n4, n5, n6])
   refine tk 4 (v := ?_) rfl (Or.inl ⟨by rfl, ?_⟩) ?_
   rotate_left
   ·intro w' hSw; (try dsimp only at hSw); have k0 := hSw.bk.cell 0; have r0 := hSw.low.bx.cell 0; have z5 := hSw.low.tw.rd.box.cell 5; go_simp; (try with_reducible rfl)
   (try simp only [Act.put, n1, n2, n3, n4, n5, n6])
   refine tk 5 (v := ?_) rfl (Or.inl ⟨by rfl, ?_⟩) ?_
   rotate_left
   ·intro w' hSw; (try dsimp only at hSw); have k0 := hSw.bk.cell 0; have r0 := hSw.low.bx.cell 0; have z5 := hSw.low.tw.rd.box.cell 5; go_simp; (try with_reducible rfl)
   (try simp only [Act.put, n1, n2, n3, n4, n5, n6])
   refine tk 6 (v := ?_) rfl (Or.inl ⟨by rfl, ?_⟩) ?_
   rotate_left
   ·intro w' hSw; (try dsimp only at hSw); have k0 := hSw.bk.cell 0; have r0 := hSw.low.bx.cell 0; have z5 := hSw.low.tw.rd.box.cell 5; go_simp; (try with_reducible rfl)
   (try simp only [Act.put, n1, n2, n3, n4, n5, n6])
   refine wpAnyF_done (by kernel_rfl) ?_ _
   refine NoPanic.normal ?_
   clear hHeld
   have HI6 := hi (show AliI w p q b c p2 q2 b2 c2 D k kb rs W.drew from HID.out)
   have hm64 := HOK.out.m
   obtain ⟨sn, hsn⟩ : ∃ sn, D.sh.length = sn := ⟨_, rfl⟩
   have HSN := hi hsn
   rw [hsn] at hm64
   have hwl : IntKind.i64.wrap (32 + (sn : Int)) = 32 + (sn : Int) := by rw [IntKind.wrap_i64]; omega
   clear hsn HKO hlt hlt' t1
   go_wp2
   go_loopw [10] (fun i wr => ∃ m : Nat, m ≤ sn ∧ i = .int .i64 (32 + (m : Int)) ∧ AliI w p q b c p2 q2 b2 c2 D k kb rs wr) (fun i _ => (32 + sn) - (intOf i).toNat)
   case atStart => exact ⟨0, Nat.zero_le _, rfl, HI6.out⟩
   case round =>
    obtain ⟨m, hm, rfl, hA⟩ := hrel
    have HA := hi hA
    have r0 := hA.low.bx.cell 0
    have z3 : wr.cell? ⟨b2 0, 3, none⟩ = some (.slice (some ⟨b2 1, 0, none⟩) sn (c2 0)) := by
     have := hA.low.tw.rd.box.cell 3
     rw [this, ← HSN.out]
     rfl
    clear hA
    by_cases hms : m < sn
    ·have t2 : decide (32 + (m : Int) < 32 + (sn : Int)) = true := by simp; omega
     have t3 : 32 + (m : Int) < 32 + (sn : Int) := by omega
     have t4 : (m : Int) < (sn : Int) := by omega
     have hm9 : m < D.sh.length := by rw [HSN.out]; exact hms
     have hgv := getV_sh (D := D) (k := 0) (i := m) (by have := HOK.out.n1; omega) hm9
     obtain ⟨⟨⟨ee, ll, hh, aa⟩, nn, gg, pp⟩, hL⟩ : ∃ L, (nthE D.sh m).ln = L := ⟨_, rfl⟩
     rw [hL] at hgv
     obtain ⟨tv, htv⟩ : ∃ tv, targetV D (32 + (m : Int)) = tv := ⟨_, rfl⟩
     have hid : Int64 (32 + (m : Int)) := by constructor <;> show _ ≤ _ <;> omega
     have GTP := hi (fun W (z : DiAt W p q b c D) => show Calls Tryz.prog 26 #[.pointer (some ⟨b 0, 0, none⟩), .int .i64 0, .int .i64 (32 + (m : Int))] W fun e w' => e = .returned (.tuple #[.agg #[.bool ee, .bool ll, .bool hh, .bool aa, .bool nn, .int .i64 gg, .int .i64 pp], .int .i64 0]) ∧ Below W.heap.size W w' from by
      have z9 := get_dist z HOK.out (k := ((0 : Nat) : Int)) hid
      rw [hgv] at z9
      exact z9)
     have RTP := hi (fun W (z : RdAt W p2 q2 b2 c2 D) => show Calls Tryz.prog 57 #[.pointer (some ⟨b2 0, 0, none⟩), .int .i64 0, .int .i64 (32 + (m : Int))] W fun e w' => e = .returned (.tuple #[.agg #[.bool ee, .bool ll, .bool hh, .bool aa, .bool nn, .int .i64 gg, .int .i64 pp], .int .i64 0]) ∧ Below W.heap.size W w' from by
      have z9 := rget_dist z HOK.out ((0 : Nat) : Int) (32 + (m : Int))
      rw [hgv] at z9
      exact z9)
     have TG := hi (fun W (z : DiAt W p q b c D) => htv ▸ target_dist z HOK.out hid)
     have RTG := hi (fun W (z : RdAt W p2 q2 b2 c2 D) => htv ▸ rtarget_dist z HOK.out (32 + (m : Int)))
     have el1 := eqLn_it ee ll hh aa nn gg pp
     have hwm : IntKind.i64.wrap (32 + (m : Int) + 1) = 32 + (m : Int) + 1 := by rw [IntKind.wrap_i64]; omega
     clear hgv hL htv hid hm9
     go_wp2_with (first
      | (go_at_call 26; ((with_reducible refine (GTP.out _ HA.out.low.tw.di).mono ?_); rintro e w1 ⟨rfl, hb⟩; have hb1 := hb.alloc hb.size (.cells #[.bool ee, .bool ll, .bool hh, .bool aa, .bool nn, .int .i64 gg, .int .i64 pp] 58); have HA1 := hi (HA.out.later hb1); have LB1 := hi (CB.new w1 58 #[.bool ee, .bool ll, .bool hh, .bool aa, .bool nn, .int .i64 gg, .int .i64 pp]); have r1 := HA1.out.low.bx.cell 0; clear hb hb1))
      | (go_at_call 57; ((with_reducible refine (RTP.out _ HA1.out.low.tw.rd).mono ?_); rintro e w2 ⟨rfl, hb⟩; have hb1 := hb.alloc hb.size (.cells #[.bool ee, .bool ll, .bool hh, .bool aa, .bool nn, .int .i64 gg, .int .i64 pp] 58); have HS2 := hi (show AliI w p q b c p2 q2 b2 c2 D k kb rs (w2.alloc (.cells #[.bool ee, .bool ll, .bool hh, .bool aa, .bool nn, .int .i64 gg, .int .i64 pp] 58)) ∧ CB (w2.alloc (.cells #[.bool ee, .bool ll, .bool hh, .bool aa, .bool nn, .int .i64 gg, .int .i64 pp] 58)) w1.heap.size 58 #[.bool ee, .bool ll, .bool hh, .bool aa, .bool nn, .int .i64 gg, .int .i64 pp] ∧ CB (w2.alloc (.cells #[.bool ee, .bool ll, .bool hh, .bool aa, .bool nn, .int .i64 gg, .int .i64 pp] 58)) w2.heap.size 58 #[.bool ee, .bool ll, .bool hh, .bool aa, .bool nn, .int .i64 gg, .int .i64 pp] from ⟨HA1.out.later hb1, LB1.out.below hb1, CB.new w2 58 #[.bool ee, .bool ll, .bool hh, .bool aa, .bool nn, .int .i64 gg, .int .i64 pp]⟩); clear hb hb1)))
     refine wp_region_noPanic ?_
     refine wp_region_last_drew (S := (fun W' => AliI w p q b c p2 q2 b2 c2 D k kb rs W' ∧ CB W' w1.heap.size 58 #[.bool ee, .bool ll, .bool hh, .bool aa, .bool nn, .int .i64 gg, .int .i64 pp] ∧ CB W' w2.heap.size 58 #[.bool ee, .bool ll, .bool hh, .bool aa, .bool nn, .int .i64 gg, .int .i64 pp])) [] (by kernel_rfl) ⟨HS2.out.1.later (Below.drewN (m := 1) (Below.refl _ _)), HS2.out.2.1.drew, HS2.out.2.2.drew⟩ (fun hHeld => ?_)
     (try simp only [r1, r2, r3, r4, r5])
     refine tk 0 (v := ?_) rfl (Or.inl ⟨by rfl, ?_⟩) ?_
     rotate_left
     ·intro w' hSw; (try dsimp only at hSw); have x0 := hSw.2.1.cell 0; have x1 := hSw.2.1.cell 1; have x2 := hSw.2.1.cell 2; have x3 := hSw.2.1.cell 3; have x4 := hSw.2.1.cell 4; have x5 := hSw.2.1.cell 5; have x6 := hSw.2.1.cell 6; have y0 := hSw.2.2.cell 0; have y1 := hSw.2.2.cell 1; have y2 := hSw.2.2.cell 2; have y3 := hSw.2.2.cell 3; have y4 := hSw.2.2.cell 4; have y5 := hSw.2.2.cell 5; have y6 := hSw.2.2.cell 6; have r9 := hSw.1.low.bx.cell 0; go_simp; (try with_reducible rfl)
     (try simp only [Act.put, n1, n2, n3, n4, n5, n6])
     refine tk 1 (v := ?_) rfl (Or.inl ⟨by rfl, ?_⟩) ?_
     rotate_left
     ·intro w' hSw; (try dsimp only at hSw); have x0 := hSw.2.1.cell 0; have x1 := hSw.2.1.cell 1; have x2 := hSw.2.1.cell 2; have x3 := hSw.2.1.cell 3; have x4 := hSw.2.1.cell 4; have x5 := hSw.2.1.cell 5; have x6 := hSw.2.1.cell 6; have y0 := hSw.2.2.cell 0; have y1 := hSw.2.2.cell 1; have y2 := hSw.2.2.cell 2; have y3 := hSw.2.2.cell 3; have y4 := hSw.2.2.cell 4; have y5 := hSw.2.2.cell 5; have y6 := hSw.2.2.cell 6; have r9 := hSw.1.low.bx.cell 0; go_simp; (try with_reducible rfl)
     (try simp only [Act.put, n1, n2, n3, n4, n5, n6])
     refine tk 2 (v := ?_) rfl (Or.inl ⟨by rfl, ?_⟩) ?_
     rotate_left
     ·intro w' hSw; (try dsimp only at hSw); have x0 := hSw.2.1.cell 0; have x1 := hSw.2.1.cell 1; have x2 := hSw.2.1.cell 2; have x3 := hSw.2.1.cell 3; have x4 := hSw.2.1.cell 4; have x5 := hSw.2.1.cell 5; have x6 := hSw.2.1.cell 6; have y0 := hSw.2.2.cell 0; have y1 := hSw.2.2.cell 1; have y2 := hSw.2.2.cell 2; have y3 := hSw.2.2.cell 3; have y4 := hSw.2.2.cell 4; have y5 := hSw.2.2.cell 5; have y6 := hSw.2.2.cell 6; have r9 := hSw.1.low.bx.cell 0; go_simp; (try with_reducible rfl)
     (try simp only [Act.put, n1, n2, n3, n4, n5, n6])
     refine tk 3 (v := ?_) rfl (Or.inl ⟨by rfl, ?_⟩) ?_
     rotate_left
     ·intro w' hSw; (try dsimp only at hSw); have x0 := hSw.2.1.cell 0; have x1 := hSw.2.1.cell 1; have x2 := hSw.2.1.cell 2; have x3 := hSw.2.1.cell 3; have x4 := hSw.2.1.cell 4; have x5 := hSw.2.1.cell 5; have x6 := hSw.2.1.cell 6; have y0 := hSw.2.2.cell 0; have y1 := hSw.2.2.cell 1; have y2 := hSw.2.2.cell 2; have y3 := hSw.2.2.cell 3; have y4 := hSw.2.2.cell 4; have y5 := hSw.2.2.cell 5; have y6 := hSw.2.2.cell 6; have r9 := hSw.1.low.bx.cell 0; go_simp; (try with_reducible rfl)
     (try simp only [Act.put, n1, n2, n3, n4, n5, n6])
     refine tk 4 (v := ?_) rfl (Or.inl ⟨by rfl, ?_⟩) ?_
     rotate_left
     ·intro w' hSw; (try dsimp only at hSw); have x0 := hSw.2.1.cell 0; have x1 := hSw.2.1.cell 1; have x2 := hSw.2.1.cell 2; have x3 := hSw.2.1.cell 3; have x4 := hSw.2.1.cell 4; have x5 := hSw.2.1.cell 5; have x6 := hSw.2.1.cell 6; have y0 := hSw.2.2.cell 0; have y1 := hSw.2.2.cell 1; have y2 := hSw.2.2.cell 2; have y3 := hSw.2.2.cell 3; have y4 := hSw.2.2.cell 4; have y5 := hSw.2.2.cell 5; have y6 := hSw.2.2.cell 6; have r9 := hSw.1.low.bx.cell 0; go_simp; (try with_reducible rfl)
     (try simp only [Act.put, n1, n2, n3, n4, n5, n6])
     refine tk 5 (v := ?_) rfl (Or.inl ⟨by rfl, ?_⟩) ?_
     rotate_left
     ·intro w' hSw; (try dsimp only at hSw); have x0 := hSw.2.1.cell 0; have x1 := hSw.2.1.cell 1; have x2 := hSw.2.1.cell 2; have x3 := hSw.2.1.cell 3; have x4 := hSw.2.1.cell 4; have x5 := hSw.2.1.cell 5; have x6 := hSw.2.1.cell 6; have y0 := hSw.2.2.cell 0; have y1 := hSw.2.2.cell 1; have y2 := hSw.2.2.cell 2; have y3 := hSw.2.2.cell 3; have y4 := hSw.2.2.cell 4; have y5 := hSw.2.2.cell 5; have y6 := hSw.2.2.cell 6; have r9 := hSw.1.low.bx.cell 0; go_simp; (try with_reducible rfl)
     (try simp only [Act.put, n1, n2, n3, n4, n5, n6])
     refine tk 6 (v := ?_) rfl (Or.inl ⟨by rfl, ?_⟩) ?_
     rotate_left
     ·intro w' hSw; (try dsimp only at hSw); have x0 := hSw.2.1.cell 0; have x1 := hSw.2.1.cell 1; have x2 := hSw.2.1.cell 2; have x3 := hSw.2.1.cell 3; have x4 := hSw.2.1.cell 4; have x5 := hSw.2.1.cell 5; have x6 := hSw.2.1.cell 6; have y0 := hSw.2.2.cell 0; have y1 := hSw.2.2.cell 1; have y2 := hSw.2.2.cell 2; have y3 := hSw.2.2.cell 3; have y4 := hSw.2.2.cell 4; have y5 := hSw.2.2.cell 5; have y6 := hSw.2.2.cell 6; have r9 := hSw.1.low.bx.cell 0; go_simp; (try with_reducible rfl)
     (try simp only [Act.put, n1, n2, n3, n4, n5, n6])
     refine tk 7 (v := ?_) rfl (Or.inl ⟨by rfl, ?_⟩) ?_
     rotate_left
     ·intro w' hSw; (try dsimp only at hSw); have x0 := hSw.2.1.cell 0; have x1 := hSw.2.1.cell 1; have x2 := hSw.2.1.cell 2; have x3 := hSw.2.1.cell 3; have x4 := hSw.2.1.cell 4; have x5 := hSw.2.1.cell 5; have x6 := hSw.2.1.cell 6; have y0 := hSw.2.2.cell 0; have y1 := hSw.2.2.cell 1; have y2 := hSw.2.2.cell 2; have y3 := hSw.2.2.cell 3; have y4 := hSw.2.2.cell 4; have y5 := hSw.2.2.cell 5; have y6 := hSw.2.2.cell 6; have r9 := hSw.1.low.bx.cell 0; go_simp; (try with_reducible rfl)
     (try simp only [Act.put, n1, n2, n3, n4, n5, n6])
     refine tk 8 (v := ?_) rfl (Or.inl ⟨by rfl, ?_⟩) ?_
     rotate_left
     ·intro w' hSw; (try dsimp only at hSw); have x0 := hSw.2.1.cell 0; have x1 := hSw.2.1.cell 1; have x2 := hSw.2.1.cell 2; have x3 := hSw.2.1.cell 3; have x4 := hSw.2.1.cell 4; have x5 := hSw.2.1.cell 5; have x6 := hSw.2.1.cell 6; have y0 := hSw.2.2.cell 0; have y1 := hSw.2.2.cell 1; have y2 := hSw.2.2.cell 2; have y3 := hSw.2.2.cell 3; have y4 := hSw.2.2.cell 4; have y5 := hSw.2.2.cell 5; have y6 := hSw.2.2.cell 6; have r9 := hSw.1.low.bx.cell 0; go_simp; (try with_reducible rfl)
     (try simp only [Act.put, n1, n2, n3, n4, n5, n6])
     refine tk 9 (v := ?_) rfl (Or.inl ⟨by rfl, ?_⟩) ?_
     rotate_left
     ·intro w' hSw; (try dsimp only at hSw); have x0 := hSw.2.1.cell 0; have x1 := hSw.2.1.cell 1; have x2 := hSw.2.1.cell 2; have x3 := hSw.2.1.cell 3; have x4 := hSw.2.1.cell 4; have x5 := hSw.2.1.cell 5; have x6 := hSw.2.1.cell 6; have y0 := hSw.2.2.cell 0; have y1 := hSw.2.2.cell 1; have y2 := hSw.2.2.cell 2; have y3 := hSw.2.2.cell 3; have y4 := hSw.2.2.cell 4; have y5 := hSw.2.2.cell 5; have y6 := hSw.2.2.cell 6; have r9 := hSw.1.low.bx.cell 0; go_simp; (try with_reducible rfl)
     (try simp only [Act.put, n1, n2, n3, n4, n5, n6])
     refine tk 11 (v := ?_) rfl (Or.inl ⟨by rfl, ?_⟩) ?_
     rotate_left
     ·intro w' hSw; (try dsimp only at hSw); have x0 := hSw.2.1.cell 0; have x1 := hSw.2.1.cell 1; have x2 := hSw.2.1.cell 2; have x3 := hSw.2.1.cell 3; have x4 := hSw.2.1.cell 4; have x5 := hSw.2.1.cell 5; have x6 := hSw.2.1.cell 6; have y0 := hSw.2.2.cell 0; have y1 := hSw.2.2.cell 1; have y2 := hSw.2.2.cell 2; have y3 := hSw.2.2.cell 3; have y4 := hSw.2.2.cell 4; have y5 := hSw.2.2.cell 5; have y6 := hSw.2.2.cell 6; have r9 := hSw.1.low.bx.cell 0; go_simp; (try with_reducible rfl)
     (try simp only [Act.put, n1, n2, n3, n4, n5, n6])
     refine tk 12 (v := ?_) rfl (Or.inl ⟨by rfl, ?_⟩) ?_
     rotate_left
     ·intro w' hSw; (try dsimp only at hSw); have x0 := hSw.2.1.cell 0; have x1 := hSw.2.1.cell 1; have x2 := hSw.2.1.cell 2; have x3 := hSw.2.1.cell 3; have x4 := hSw.2.1.cell 4; have x5 := hSw.2.1.cell 5; have x6 := hSw.2.1.cell 6; have y0 := hSw.2.2.cell 0; have y1 := hSw.2.2.cell 1; have y2 := hSw.2.2.cell 2; have y3 := hSw.2.2.cell 3; have y4 := hSw.2.2.cell 4; have y5 := hSw.2.2.cell 5; have y6 := hSw.2.2.cell 6; have r9 := hSw.1.low.bx.cell 0; go_simp; (try with_reducible rfl)
     (try simp only [Act.put, n1, n2, n3, n4, n5, n6])
     refine wpAnyF_ready (rs := [10]) (by kernel_rfl) (by simp) ?_
     refine AllReadyF.cons rfl (fun KK hKK => ?_) AllReadyF.nil
     go_simp
     ((with_reducible refine (TG.out _ hHeld.1.low.tw.di).mono ?_); rintro e' w21 ⟨rfl, hb⟩; have hSS := And.intro (hHeld.1.later hb) (And.intro (hHeld.2.1.below hb) (hHeld.2.2.below hb)); clear hb)
     (try go_simp)
     refine hKK.out _ _ hSS (fun hHeld => ?_)
     clear hKK KK
     (try simp only [Act.put, n1, n2, n3, n4, n5, n6])
     refine wpAnyF_ready (rs := [13]) (by kernel_rfl) (by simp) ?_
     refine AllReadyF.cons rfl (fun KK hKK => ?_) AllReadyF.nil
     go_simp
     ((with_reducible refine (RTG.out _ hHeld.1.low.tw.rd).mono ?_); rintro e' w22 ⟨rfl, rfl⟩)
     (try go_simp)
     refine hKK.out _ _ hHeld (fun hHeld => ?_)
     clear hKK KK
     (try simp only [Act.put, n1, n2, n3, n4, n5, n6])
     refine tk 14 (v := ?_) rfl (Or.inl ⟨by rfl, ?_⟩) ?_
     rotate_left
     ·intro w' hSw; (try dsimp only at hSw); have x0 := hSw.2.1.cell 0; have x1 := hSw.2.1.cell 1; have x2 := hSw.2.1.cell 2; have x3 := hSw.2.1.cell 3; have x4 := hSw.2.1.cell 4; have x5 := hSw.2.1.cell 5; have x6 := hSw.2.1.cell 6; have y0 := hSw.2.2.cell 0; have y1 := hSw.2.2.cell 1; have y2 := hSw.2.2.cell 2; have y3 := hSw.2.2.cell 3; have y4 := hSw.2.2.cell 4; have y5 := hSw.2.2.cell 5; have y6 := hSw.2.2.cell 6; have r9 := hSw.1.low.bx.cell 0; go_simp; (try with_reducible rfl)
     (try simp only [Act.put, n1, n2, n3, n4, n5, n6])
     refine tk 15 (v := ?_) rfl (Or.inl ⟨by rfl, ?_⟩) ?_
     rotate_left
     ·intro w' hSw; (try dsimp only at hSw); have x0 := hSw.2.1.cell 0; have x1 := hSw.2.1.cell 1; have x2 := hSw.2.1.cell 2; have x3 := hSw.2.1.cell 3; have x4 := hSw.2.1.cell 4; have x5 := hSw.2.1.cell 5; have x6 := hSw.2.1.cell 6; have y0 := hSw.2.2.cell 0; have y1 := hSw.2.2.cell 1; have y2 := hSw.2.2.cell 2; have y3 := hSw.2.2.cell 3; have y4 := hSw.2.2.cell 4; have y5 := hSw.2.2.cell 5; have y6 := hSw.2.2.cell 6; have r9 := hSw.1.low.bx.cell 0; go_simp; (try with_reducible rfl)
     (try simp only [Act.put, n1, n2, n3, n4, n5, n6])
     refine wpAnyF_done (by kernel_rfl) ?_ _
     refine NoPanic.normal ?_
     have HZ := hi hHeld.1
     clear hHeld
     go_wp2
     go_roundw
     case rel => exact ⟨m + 1, by omega, by go_num, HZ.out⟩
     case measure => simp [intOf]; omega
    ·have t2 : decide (32 + (m : Int) < 32 + (sn : Int)) = false := by simp; omega
     have t3 : ¬ 32 + (m : Int) < 32 + (sn : Int) := by omega
     have t4 : ¬ (m : Int) < (sn : Int) := by omega
     have rb0 := HA.out.low.rb.cell 0
     have rbf := HA.out.low.rb.frozen
     go_wp2
     refine leaves_marks rs (w.heap.size + 2) (wr.setCell ⟨w.heap.size + 1, 0, none⟩ (.bool true)) (by rw [World.size_setCell]; exact HA.out.low.rb.lt) (HA.out.ms.heap (fun r hr => Below.heap_setCell _ ⟨w.heap.size + 1, 0, none⟩ (.bool true) r (by have := (HA.out.ms.2 r hr).1; show r ≠ w.heap.size + 1; omega))) (fun W' hb hn => ?_)
     exact ⟨_, results_cellb rfl _ _ (w.heap.size + 1) true rfl ((HA.out.low.rb.set 0 (.bool true)).heap (hb.block _ (by omega))), rfl, (HA.out.low.below.setCell (p := ⟨w.heap.size + 1, 0, none⟩) (show w.heap.size ≤ w.heap.size + 1 by omega) (.bool true)).trans (hb.mono (by omega))⟩
end Go.Proofs.YtieedhdmpabfkaaGreat
