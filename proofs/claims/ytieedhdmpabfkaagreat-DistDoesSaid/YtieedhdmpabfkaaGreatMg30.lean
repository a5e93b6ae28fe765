import Derived.Test.YtieedhdmpabfkaaGreatMg29
import Derived.Test.YtieedhdmpabfkaaGreatMg25
set_option linter.unusedSimpArgs false
namespace Go.Proofs.YtieedhdmpabfkaaGreat
open Go.ChangeShapes Go.WideShapes Go.ChangeAt Go.RowKit Go.Shelf
set_option linter.unusedVariables false
attribute [local go_sem] Oper.semAt_some
abbrev encLn (x : It) : Array Value := #[.int .i64 x.1, x.2.ln.v]
set_option maxRecDepth 100000 in
set_option maxHeartbeats 4000000 in
theorem lines1_any {R : Nat → Prop} {fv : Value} {xs : List It} (p l : Nat) (J Jx : List It → (Nat → Prop) → World → Prop) (F : Nat → Prop) (W : World)
  (hit : IterS encI R fv xs W) (hp : CB W p 112 #[fv]) (hJ : FrOk J) (hJx : FrOk Jx) (hF : ∀ i, F i → i < W.heap.size ∧ ¬ (R i ∨ i = p))
  (hY : ∀ (pre : List It) (x : It) (G : Nat → Prop) (W1 : World), J pre G W1 → pre ++ [x] <+: xs → (∀ i, F i → G i) → (∀ i, G i → i < W1.heap.size ∧ ¬ (R i ∨ i = p)) → W.heap.size ≤ W1.heap.size → ∀ m, YieldAt Fence.wide m Tryz.prog l (encLn x) W1 fun e W' =>
   (e = .returned (.bool true) ∧ J (pre ++ [x]) G W' ∧ KF G (fun i => R i ∨ i = p) W1 W') ∨ (e = .returned (.bool false) ∧ Jx (pre ++ [x]) G W' ∧ KF G (fun i => R i ∨ i = p) W1 W'))
  (h0 : J [] F W) :
  Calls Tryz.prog 104 #[.func (.yield l) #[] #[], .pointer (some ⟨p, 0, none⟩)] W fun e W' => (∃ v, e = .returned v) ∧
   ((∃ ys, ys = xs ∧ ∃ G, (∀ i, F i → G i) ∧ J ys G W') ∨ (∃ pre, pre <+: xs ∧ ∃ G, (∀ i, F i → G i) ∧ Jx pre G W')) := by
 have hB3 : Below W.heap.size W (W.alloc (.cells #[.func (.yield l) #[] #[]] 162)) := bal W _
 have HYB := hi (CB.new W 162 #[.func (.yield l) #[] #[]])
 have HIT := hi (hit.below hB3)
 have HPB := hi (hp.below hB3)
 have hRW := hit.lt
 have hpl := hp.lt
 have hz3 : (W.alloc (.cells #[.func (.yield l) #[] #[]] 162)).heap.size = W.heap.size + 1 := by simp
 obtain ⟨gf, lb, rfl, eg, _, _⟩ := hit
 have z0 := HPB.out.cell 0
 have HJ := hi hJ
 have HJX := hi hJx
 have HYY := hi hY
 have HF := hi hF
 have HB3 := hi hB3
 have HJ0 := hi h0
 have HRW := hi hRW
 clear hJ hJx hY hF hB3 h0 hp hRW
 refine (callsIn_wide (n := 6)).1 ?_
 refine callsIn_of_wp_marks Tryz.func104 rfl trivial ?_ rfl
 simp only [Tryz.ntmps104, List.size_toArray, List.length_cons, List.length_nil, Nat.reduceAdd, Nat.reduceSub, Array.replicate_succ, Array.replicate_zero, List.push_toArray, List.append_toArray, List.nil_append, List.cons_append]
 refine wpIn_wide.2 ?_
 go_wp2
 obtain ⟨w5, hw5⟩ : ∃ w5, W.alloc (.cells #[.func (.yield l) #[] #[]] 162) = w5 := ⟨_, rfl⟩
 rw [hw5] at HYB HIT HPB HB3 hz3 ⊢
 clear hw5 z0
 obtain ⟨X, hX⟩ : ∃ X : Nat → Prop, X = fun i => W.heap.size ≤ i ∧ i < w5.heap.size + 2 := ⟨_, rfl⟩
 have X1 : ∀ {i : Nat}, W.heap.size ≤ i → i < w5.heap.size + 2 → X i := fun h1 h2 => by rw [hX]; exact ⟨h1, h2⟩
 have X2 : ∀ {i : Nat}, X i → W.heap.size ≤ i ∧ i < w5.heap.size + 2 := fun h1 => by rw [hX] at h1; exact h1
 clear hX
 have HJ5 := hi (HJ.out.st _ _ _ _ (HJ.out.sub _ _ (fun i => F i ∨ X i) _ HJ0.out (fun i x => by rcases x with x | x; exact .inl x; exact .inr (X2 x).1)) (Kept.of HB3.out))
 have hRl := HIT.out.lt
 obtain ⟨gf', lb', hfe, eg', _, hq5⟩ := HIT.out
 obtain ⟨rfl, rfl⟩ : gf = gf' ∧ lb = lb' := by simpa using hfe
 have hst := hq5 w5 (Nat.le_refl _) (fun _ _ => rfl)
 clear hq5 hfe
 refine (wpIn_wide (n := 6)).1 ?_
 refine range_fr (n := 6) (by omega) (gf := gf) (lb := lb) rfl eg hst (Below.refl _ _) (fun _ => rfl) hRl
  F (fun i x => ⟨by have := (HF.out i x).1; omega, fun r => (HF.out i x).2 (.inl r)⟩)
  (fun pre G V => (J pre (fun i => G i ∨ X i) V ∧ OwnB W.heap.size 162 (fun _ => #[.func (.yield l) #[] #[]]) () G V) ∧ OwnB p 112 (fun _ => #[.func (.func gf) #[] lb]) () G V)
  (fun cd pre G V => cd = .ret ∧ pre <+: xs ∧ Jx pre (fun i => G i ∨ X i) V)
  (FrOk.and (FrOk.and (HJ.out.with_ X) ((FrOk.ownB W.heap.size 162 (fun (_ : Unit) => #[.func (.yield l) #[] #[]])).map (fun _ => ()))) ((FrOk.ownB p 112 (fun (_ : Unit) => #[.func (.func gf) #[] lb])).map (fun _ => ())))
  (fun cd => ⟨fun s F A A' q w => ⟨q.1, q.2.1, (HJX.out.with_ X).st s F A A' q.2.2 w⟩, fun s F G A q w => ⟨q.1, q.2.1, (HJX.out.with_ X).sub s F G A q.2.2 w⟩⟩)
  ⟨⟨HJ5.out, fun x => by have := (HF.out _ x).1; omega, HYB.out⟩, fun x => (HF.out _ x).2 (.inr rfl), HPB.out⟩
  (fun x a' G V => ∃ Bx, OwnB Bx 115 (fun _ => x.2.ca) () G V ∧ a' = { tmps := #[.func (.yield l) #[] #[], .pointer (some ⟨p, 0, none⟩), .pointer (some ⟨W.heap.size, 0, none⟩), .int .i64 x.1, .pointer (some ⟨Bx, 0, none⟩), .func (.func gf) #[] lb, .int .i64 x.1, x.2.v, undef, undef, undef, undef, undef, undef], defers := [] })
  (fun x a' => ⟨fun s F A A' q w => by obtain ⟨Bx, e1, e2⟩ := q; exact ⟨Bx, (FrOk.ownB Bx 115 (fun (_ : Unit) => x.2.ca)).st () F A A' e1 w, e2⟩, fun s F G A q w => by obtain ⟨Bx, e1, e2⟩ := q; exact ⟨Bx, (FrOk.ownB Bx 115 (fun (_ : Unit) => x.2.ca)).sub () F G A e1 w, e2⟩⟩)
  ?assign ?body ?done ?stop
 case assign =>
  rintro l' pre ⟨id, ⟨⟨⟨e, lb'', lq, a⟩, en, gr, pr⟩, s⟩⟩ G V K h hFG hG hsz hK
  have hkf : KF G R V (V.alloc (.cells (En.ca ⟨⟨⟨e, lb'', lq, a⟩, en, gr, pr⟩, s⟩) 115)) := KF.of_below (bal V _) (fun i x => by rcases x with x | x; exact (hG i x).1; have := hRl i x; omega)
  gi_wp2
  exact hK _ _ hkf ⟨⟨(HJ.out.with_ X).st _ _ _ _ h.1.1 (Kept.of (bal V _)), h.1.2.1, h.1.2.2.below (bal V _)⟩, h.2.1, h.2.2.below (bal V _)⟩ ⟨V.heap.size, ⟨fun x => by have := (hG _ x).1; omega, CB.new _ _ _⟩, rfl⟩
 case stop =>
  rintro cd pre G V hpre hFG ⟨rfl, hpp, hx⟩ hK hs2
  gi_wp2
  refine ⟨by simp, .inl ⟨_, _, rfl, run_takeDeferred hK, ?_⟩⟩
  exact ⟨_, results_none rfl _ _ _, ⟨_, rfl⟩, .inr ⟨_, hpp, _, fun i x => .inl (hFG i x), HJX.out.st _ _ _ _ hx (kept_put (.inr (X1 (by omega) (by omega))))⟩⟩
 case done =>
  rintro zs G V rfl hFG ⟨⟨hj, hyb⟩, hpb⟩ hK hs2
  go_wp2
  refine ⟨by simp, .inl ⟨_, _, rfl, run_takeDeferred hK, ?_⟩⟩
  exact ⟨_, results_none rfl _ _ _, ⟨_, rfl⟩, .inl ⟨_, rfl, _, fun i x => .inl (hFG i x), HJ.out.st _ _ _ _ hj (kept_put (.inr (X1 (by omega) (by omega))))⟩⟩
 case body =>
  rintro l' pre ⟨id, ⟨⟨⟨e, lb'', lq, a⟩, en, gr, pr⟩, s⟩⟩ a' G V hFG hG hsz ⟨⟨hj, hNG, hyb⟩, hNP, hpb⟩ ⟨Bx, ⟨hBG, hbx⟩, rfl⟩ hpx
  obtain ⟨fn, tmps, assign, body, hy, hRd⟩ := HYY.out _ _ (fun i => G i ∨ X i) V hj hpx (fun i x => .inl (hFG i x)) (fun i x => by rcases x with x | x; exact ⟨(hG i x).1, fun r => by rcases r with r | r; exact (hG i x).2 r; exact hNP (r ▸ x)⟩; exact ⟨by have := X2 x; omega, fun r => by have := X2 x; rcases r with r | r; (have := HRW.out i r; omega); omega⟩) (by omega) (6 - 1 - 1 - 1)
  dsimp only [encLn, Ln.v] at hy
  obtain ⟨d0, d1, d2, d3, d4, d5, d6, d7, d8⟩ := CB.ent (x := ⟨⟨⟨e, lb'', lq, a⟩, en, gr, pr⟩, s⟩) hbx
  dsimp only at d0 d1 d2 d3 d4 d5 d6 d7 d8
  have zy := hyb.cell 0
  have HYC := hi hyb
  have HPC := hi hpb
  have HPP := hi hpx
  have HNG := hi hNG
  have HNP := hi hNP
  clear hj hyb hpb hbx hpx hG hFG hNG hNP hBG
  gi_wp2
  refine hRd.mono ?_
  rintro e3 W3 (⟨rfl, hJ3, hk3⟩ | ⟨rfl, hJx3, hk3⟩)
  ·have hkf : KF G R V W3 := hk3.mono (fun i x => by rcases x with x | x; exact .inl (.inl x); exact .inr (.inl x))
   have hY3 := HYC.out.heap (hk3.same _ (.inl (.inr (X1 (by omega) (by omega)))))
   have hP3 := HPC.out.heap (hk3.same _ (.inr (.inr rfl)))
   gi_wp2
   exact ⟨hkf, ⟨hJ3, HNG.out, hY3⟩, HNP.out, hP3⟩
  ·have hkf : KF G R V W3 := hk3.mono (fun i x => by rcases x with x | x; exact .inl (.inl x); exact .inr (.inl x))
   gi_wp2
   exact ⟨hkf, rfl, HPP.out, hJx3⟩
theorem lines_iter {R : Nat → Prop} {fv : Value} {xs : List It} {p : Nat} {W : World} (hit : IterS encI R fv xs W) (hp : CB W p 112 #[fv]) :
  IterS encLn (fun i => R i ∨ i = p) (.func (.func 104) #[] #[.pointer (some ⟨p, 0, none⟩)]) xs W :=
 ⟨_, _, rfl, enters_of Tryz.func104 (by kernel_rfl) rfl, fun i r => by rcases r with r | rfl; exact hit.lt i r; exact hp.lt, fun W' hs hk l J Jx F W2 hW hJ hJx hF hY h0 =>
  lines1_any p l J Jx F W2 ((hit.heap hs (fun i r => hk i (.inl r))).below hW) ((hp.heap (hk p (.inr rfl))).below hW) hJ hJx hF hY h0⟩
theorem lines_it {R : Nat → Prop} {gf : Nat} {lb : Array Value} {xs : List It} {w : World} (hit : IterS encI R (.func (.func gf) #[] lb) xs w) :
  Calls Tryz.prog 66 #[.func (.func gf) #[] lb] w fun e w' => ∃ gf' lb', e = .returned (.func (.func gf') #[] lb') ∧ IterS encLn (fun i => R i ∨ i = w.heap.size) (.func (.func gf') #[] lb') xs w' ∧ Below w.heap.size w w' := by
 have HI := hi (lines_iter (p := w.heap.size) (hit.below (bal w (.cells #[.func (.func gf) #[] lb] 112))) (CB.new w _ _))
 clear hit
 go_enter Tryz.func66, Tryz.ntmps66
 go_wp2
 go_ret
 exact ⟨_, _, rfl, HI.out, bal w _⟩
section
variable {w : World} {lo hi' : Nat} {b c : Nat → Nat} {D : Ds} {k : Int}
def Outs (w : World) (lo hi : Nat) (xs : List It) (e : Ending) (w' : World) : Prop := ∃ R gf lb, e = .returned (.func (.func gf) #[] lb) ∧ (∀ i, R i → InR lo hi i ∨ w.heap.size ≤ i) ∧ IterS encLn R (.func (.func gf) #[] lb) xs w' ∧ Below w.heap.size w w'
theorem seen_dist (h : DiAt w lo hi' b c D) (ok : D.Ok) (k : Int) : Calls Tryz.prog 29 #[.pointer (some ⟨b 0, 0, none⟩), .int .i64 k] w (Outs w lo hi' (seenL D k)) := by
 have HS := hi (seen_it h ok k)
 have HL := hi (fun R gf lb W (q : IterS encI R (.func (.func gf) #[] lb) (seenL D k) W) => lines_it q)
 unfold Outs
 clear h ok
 go_enter Tryz.func29, Tryz.ntmps29
 go_wp2_with (first
  | (go_at_call 74; ((with_reducible refine HS.out.mono ?_); rintro e w1 ⟨gf, lb, rfl, hit, hb, _⟩; have HIT := hi hit; have HB1 := hi hb; clear hit hb))
  | (go_at_call 66; ((with_reducible refine (HL.out _ _ _ _ HIT.out).mono ?_); rintro e w2 ⟨gf2, lb2, rfl, hit2, hb⟩; have HIT2 := hi hit2; have HB2 := hi (HB1.out.trans (hb.mono HB1.out.size)); clear hb hit2)))
 go_ret
 refine ⟨_, _, _, rfl, fun i r => ?_, HIT2.out, HB2.out⟩
 have := HB1.out.size
 rcases r with (r | r | r) | r
 ·exact .inl r
 ·exact .inr (by omega)
 ·exact .inr (by omega)
 ·exact .inr (by omega)
theorem ready_dist (h : DiAt w lo hi' b c D) (ok : D.Ok) (k : Int) : Calls Tryz.prog 22 #[.pointer (some ⟨b 0, 0, none⟩), .int .i64 k] w (Outs w lo hi' (readyL D k)) := by
 have HS := hi (ready_it h ok k)
 have HL := hi (fun R gf lb W (q : IterS encI R (.func (.func gf) #[] lb) (readyL D k) W) => lines_it q)
 unfold Outs
 clear h ok
 go_enter Tryz.func22, Tryz.ntmps22
 go_wp2_with (first
  | (go_at_call 67; ((with_reducible refine HS.out.mono ?_); rintro e w1 ⟨gf, lb, rfl, hit, hb, _⟩; have HIT := hi hit; have HB1 := hi hb; clear hit hb))
  | (go_at_call 66; ((with_reducible refine (HL.out _ _ _ _ HIT.out).mono ?_); rintro e w2 ⟨gf2, lb2, rfl, hit2, hb⟩; have HIT2 := hi hit2; have HB2 := hi (HB1.out.trans (hb.mono HB1.out.size)); clear hb hit2)))
 go_ret
 refine ⟨_, _, _, rfl, fun i r => ?_, HIT2.out, HB2.out⟩
 have := HB1.out.size
 rcases r with (r | r | r) | r
 ·exact .inl r
 ·exact .inr (by omega)
 ·exact .inr (by omega)
 ·exact .inr (by omega)
end
end Go.Proofs.YtieedhdmpabfkaaGreat
namespace Go.Proofs.YtieedhdmpabfkaaGreat
open Go.ChangeShapes Go.WideShapes Go.ChangeAt Go.RowKit Go.Shelf
set_option linter.unusedVariables false
attribute [local go_sem] Oper.semAt_some
theorem Kept.grownD {bs : Nat → Prop} {w V V' : World} {row : Option Nat} (h : Kept bs w V) (hg : V.grownBy V' row) (hr : ∀ r, row = some r → w.heap.size ≤ r) : Kept bs w V' :=
 ⟨hg.os.trans h.os, hg.tape.trans h.tape, hg.output.trans h.output, Nat.le_trans h.size hg.size, fun i hi hn => (hg.block i (Nat.lt_of_lt_of_le hi h.size) (fun e => by have := hr i e.symm; omega)).trans (h.block i hi hn)⟩
theorem KW.of_keptD {B : Nat} {bs : Nat → Prop} {W W' : World} (h : Kept bs W W') (hb : ∀ i, bs i → i < B) : KW B W W' := ⟨h.size, fun i o h1 _ hc _ => (h.block i (Array.getElem?_eq_some_iff.1 hc).1 (fun x => by have := hb i x; omega)).trans hc⟩
theorem Stays.of_keptD {lo hi : Nat} {bs : Nat → Prop} {W W' : World} (h : Kept bs W W') (hb : ∀ i, bs i → i < lo) (hh : hi ≤ W.heap.size) : Stays lo hi W W' := ⟨h.size, fun i h1 h2 => h.block i (by omega) (fun x => by have := hb i x; omega)⟩
structure CaI (w : World) (lo hi' : Nat) (b c : Nat → Nat) (n3 : Nat) (g : Int) (cl : Cl) (Q : Ds × Nat) (V : World) : Prop where
 di : DiAt V lo hi' b c Q.1
 k : Kept (InR lo hi') w V
 p : CB V w.heap.size 24 #[.pointer (some ⟨b 0, 0, none⟩)]
 g : CB V (w.heap.size + 1) 3 #[.int .i64 g]
 n : CB V n3 3 #[.int .i64 (Q.2 : Nat)]
 cc : CB V (n3 + 1) 121 cl.cs
theorem CaI.abL {w : World} {lo hi' : Nat} {b c : Nat → Nat} {n3 B : Nat} {g : Int} {cl : Cl} (f : List Nat → Ds × Nat) (hle : hi' ≤ w.heap.size) (h2 : w.heap.size + 2 ≤ n3) (h3 : n3 + 2 ≤ B) : AbL B 0 (fun pre V => CaI w lo hi' b c n3 g cl (f pre) V) :=
 AbL.of (m := 2) (fun s A A' row hs hg hr => ⟨hs.di.same hg.size (fun i p q => hg.block i (Nat.lt_of_lt_of_le q hs.di.le) (fun e => by have := hr i e.symm; omega)), hs.k.grownD hg (fun r e => by have := hr r e; omega),
  hs.p.kept hg (fun e => by have := hr _ e.symm; omega), hs.g.kept hg (fun e => by have := hr _ e.symm; omega), hs.n.kept hg (fun e => by have := hr _ e.symm; omega), hs.cc.kept hg (fun e => by have := hr _ e.symm; omega)⟩) rfl
theorem CaI.below {w : World} {lo hi' : Nat} {b c : Nat → Nat} {n3 : Nat} {g : Int} {cl : Cl} {Q : Ds × Nat} {V V' : World} (h : CaI w lo hi' b c n3 g cl Q V) (k : Below V.heap.size V V') : CaI w lo hi' b c n3 g cl Q V' :=
 ⟨h.di.below k, h.k.trans (Kept.of k), h.p.below k, h.g.below k, h.n.below k, h.cc.below k⟩
end Go.Proofs.YtieedhdmpabfkaaGreat
