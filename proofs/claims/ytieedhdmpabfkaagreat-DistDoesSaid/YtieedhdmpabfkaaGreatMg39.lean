import Derived.Test.YtieedhdmpabfkaaGreatMg38
import Derived.Test.YtieedhdmpabfkaaGreatMg30
import Derived.Maps.OwnIn
set_option linter.unusedSimpArgs false
namespace Go.Proofs.YtieedhdmpabfkaaGreat
open Go.ChangeShapes Go.WideShapes Go.ChangeAt Go.RowKit Go.Shelf
set_option linter.unusedVariables false
attribute [local go_sem] Oper.semAt_some
theorem own_heap {W W' : World} {base sz n : Nat} {te : TypeId} {v : Value} {cs : List Value} (h : W.ownsRow base te sz v n cs) (hk : ∀ g, v.ownBlock = some g → W'.heap[g]? = W.heap[g]?) : W'.ownsRow base te sz v n cs := by
 rcases h with ⟨h0, h1 | ⟨g, cap, cur, rfl, hb, hg, rest⟩⟩
 ·exact ⟨h0, .inl h1⟩
 ·exact ⟨h0, .inr ⟨g, cap, cur, rfl, hb, (hk g rfl).trans hg, rest⟩⟩
def GrJ (base b : Nat) (xs : List Int) (F : Nat → Prop) (W : World) : Prop :=
 ∃ v, ¬ F b ∧ CB W b 47 #[v] ∧ W.ownsRow base 3 1 v xs.length (ints xs) ∧ ∀ g, v.ownBlock = some g → ¬ F g
theorem FrOk.grJ {β : Type} (base b : Nat) (f : β → List Int) : FrOk (fun s F W => GrJ base b (f s) F W) :=
 ⟨fun s F A A' q k => by
  obtain ⟨v, h1, h2, h3, h4⟩ := q
  exact ⟨v, h1, h2.heap (k.block b h2.lt h1), own_heap h3 (fun g e => k.block g (h3.lt g e).2 (h4 g e)), h4⟩,
  fun s F G A q k => by
  obtain ⟨v, h1, h2, h3, h4⟩ := q
  exact ⟨v, fun g => by rcases k b g with x | x; exact h1 x; have := h2.lt; omega, h2, h3, fun g e x => by rcases k g x with y | y; exact h4 g e y; have := (h3.lt g e).2; omega⟩⟩
theorem GrJ.step {base b : Nat} {xs : List Int} {F R : Nat → Prop} {V w9 : World} {v v' : Value} {x : Int} {tmp : Obj} {m : Nat} (hm : xs.length = m) (hb : b < base) (h1 : ¬ F b) (h2 : CB V b 47 #[v]) (h3 : V.ownsRow base 3 1 v m (ints xs)) (h4 : ∀ g, v.ownBlock = some g → ¬ F g)
  (hF : ∀ i, F i → i < V.heap.size ∧ ¬ R i) (hR : ∀ i, R i → i < base ∧ i ≠ b) (hz : base ≤ V.heap.size)
  (ho : w9.ownsRow base 3 1 v' (m + 1) (ints xs ++ [.int .i64 x])) (hg : (V.alloc tmp).grownBy w9 v.ownBlock) (hat : v'.ownBlock = v.ownBlock ∨ v'.ownBlock = some (V.alloc tmp).heap.size) :
  CB w9 b 47 #[v] ∧ GrJ base b (xs ++ [x]) F (w9.setCell ⟨b, 0, none⟩ v') ∧ KF F R V (w9.setCell ⟨b, 0, none⟩ v') ∧ Below b V (w9.setCell ⟨b, 0, none⟩ v') := by
 subst hm
 have hbv := h2.lt
 have hgz := hg.size
 rw [World.size_alloc] at hgz
 have hvb : ∀ g, v.ownBlock = some g → base ≤ g ∧ g < V.heap.size := fun g e => h3.lt g e
 have K : ∀ i, i < V.heap.size → v.ownBlock ≠ some i → w9.heap[i]? = V.heap[i]? := fun i q1 q2 => (hg.block i (by rw [World.size_alloc]; omega) (Ne.symm q2)).trans ((bal V tmp).block i q1)
 have hb9 : CB w9 b 47 #[v] := h2.heap (K b hbv (fun e => by have := hvb b e; omega))
 have S : ∀ i, i ≠ b → (w9.setCell ⟨b, 0, none⟩ v').heap[i]? = w9.heap[i]? := fun i q => Below.heap_setCell w9 ⟨b, 0, none⟩ v' i q
 refine ⟨hb9, ⟨v', h1, by simpa using hb9.set 0 v', ?_, fun g e => ?_⟩, ⟨by rw [World.size_setCell]; omega, fun i q => ?_⟩, ?_⟩
 ·rw [List.length_append, ints_append]
  refine own_heap ho (fun g e => S g (fun e2 => ?_))
  have := (ho.lt g e).1
  omega
 ·rcases hat with q | q
  ·exact h4 g (by rw [← q]; exact e)
  ·rw [q, World.size_alloc] at e
   simp only [Option.some.injEq] at e
   intro x
   have := (hF g x).1
   omega
 ·have hi : i < V.heap.size ∧ v.ownBlock ≠ some i ∧ i ≠ b := by
   rcases q with q | q
   ·exact ⟨(hF i q).1, fun e => h4 i e q, fun e => h1 (e ▸ q)⟩
   ·have := hR i q
    exact ⟨by omega, fun e => by have := hvb i e; omega, this.2⟩
  rw [S i hi.2.2, K i hi.1 hi.2.1]
 ·exact (((Below.refl b V).alloc (by omega) tmp).grown hg (by rw [World.size_alloc]; omega) (fun j e => by have := hvb j e; omega)).setCell (p := ⟨b, 0, none⟩) (Nat.le_refl _) v'
def idsOf (xs : List It) : List Int := xs.map (·.1)
theorem idsOf_append (a b : List It) : idsOf (a ++ b) = idsOf a ++ idsOf b := by simp [idsOf]
theorem idsOf_len (a : List It) : (idsOf a).length = a.length := by simp [idsOf]
theorem ownsRow_put {W : World} {base sz n : Nat} {te : TypeId} {v : Value} {cs : List Value} (h : W.ownsRow base te sz v n cs) {l : Nat} {o : Obj} (hl : l < base) : (W.putObj l o).ownsRow base te sz v n cs :=
 own_heap h (fun g e => World.putObj_heap_other (fun e2 => by have := (h.lt g e).1; omega))
def OwnI (B : Nat) (W : World) (v : Value) (xs : List Int) : Prop := ∃ base, B ≤ base ∧ W.ownsRow base 3 1 v xs.length (ints xs)
theorem OwnI.at_ {B : Nat} {W : World} {v : Value} {xs : List Int} (h : OwnI B W v xs) : IntsAt W v xs := by obtain ⟨base, _, h⟩ := h; exact intsAt_row h
theorem OwnI.slice {B : Nat} {W : World} {v : Value} {xs : List Int} (h : OwnI B W v xs) : ∃ a c, v = .slice a xs.length c := by obtain ⟨base, _, h⟩ := h; exact own_slice h
theorem OwnI.kept {B : Nat} {W W' : World} {v : Value} {xs : List Int} {bs : Nat → Prop} (h : OwnI B W v xs) (k : Kept bs W W') (hb : ∀ i, bs i → i < B) : OwnI B W' v xs := by
 obtain ⟨base, hB, h⟩ := h
 exact ⟨base, hB, own_heap h (fun g e => k.block g (h.lt g e).2 (fun x => by have := hb g x; have := (h.lt g e).1; omega))⟩
theorem OwnI.below {B : Nat} {W W' : World} {v : Value} {xs : List Int} (h : OwnI B W v xs) (k : Below W.heap.size W W') : OwnI B W' v xs := by
 obtain ⟨base, hB, h⟩ := h
 exact ⟨base, hB, own_heap h (fun g e => k.block g (h.lt g e).2)⟩
set_option maxRecDepth 100000 in
set_option maxHeartbeats 4000000 in
theorem idsS_any {R : Nat → Prop} {fv : Value} {xs : List It} {w : World} (h : IterS encLn R fv xs w) (hl : xs.length ≤ 400) :
  Calls Tryz.prog 31 #[fv] w fun e W' => ∃ v, e = .returned v ∧ OwnI w.heap.size W' v (idsOf xs) ∧ Below w.heap.size w W' := by
 obtain ⟨i0, hi2, hz0, hz1, hz2⟩ := info_parts info_i
 obtain ⟨w3, hw3⟩ : ∃ w3, w.alloc (.cells #[.slice none 0 0] 47) = w3 := ⟨_, rfl⟩
 have hz3 : w3.heap.size = w.heap.size + 1 := by rw [← hw3]; simp
 have hB3 : Below w.heap.size w w3 := by rw [← hw3]; exact bal w _
 have hC3 : CB w3 w.heap.size 47 #[.slice none 0 0] := by rw [← hw3]; exact CB.new w _ _
 have hRw := h.lt
 obtain ⟨gf, lb, rfl, eg, hh3, hq⟩ := h.below hB3
 have hst := hq w3 (Nat.le_refl _) (fun _ _ => rfl)
 have HB3 := hi hB3
 have HC3 := hi hC3
 clear hq h hB3 hC3
 subst hw3
 refine (callsIn_wide (n := 6)).1 ?_
 refine callsIn_of_wp_marks Tryz.func31 rfl trivial ?_ rfl
 simp only [Tryz.ntmps31, List.size_toArray, List.length_cons, List.length_nil, Nat.reduceAdd, Nat.reduceSub, Array.replicate_succ, Array.replicate_zero, List.push_toArray, List.append_toArray, List.nil_append, List.cons_append]
 gi_wp2
 obtain ⟨w3, hw3⟩ : ∃ w3, w.alloc (.cells #[.slice none 0 0] 47) = w3 := ⟨_, rfl⟩
 rw [hw3] at hz3 hst hh3 HB3 HC3 ⊢
 clear hw3
 refine range_fr (n := 6) (by omega) (gf := gf) (lb := lb) rfl eg hst (Below.refl _ _) (fun _ => rfl) hh3
  (fun _ => False) (fun i x => x.elim)
  (fun pre G V => GrJ (w.heap.size + 3) w.heap.size (idsOf pre) G V ∧ (∀ i, G i → w.heap.size ≤ i) ∧ Below w.heap.size w V)
  (fun cd pre G V => False)
  ((FrOk.grJ _ _ _).and (FrOk.since w.heap.size w (Nat.le_refl _)))
  (fun _ => ⟨fun _ _ _ _ h _ => h, fun _ _ _ _ h _ => h⟩)
  ⟨⟨_, fun x => x, HC3.out, World.ownsRow_nil _ _ _ _, fun g e => by simp [Value.ownBlock] at e⟩, fun i x => x.elim, HB3.out⟩
  (fun x a' G V => a' = { tmps := #[.func (.func gf) #[] lb, undef, .slice none 0 0, .pointer (some ⟨w.heap.size, 0, none⟩), .int .i64 x.1, .func (.func gf) #[] lb, .int .i64 x.1, x.2.ln.v, undef, undef, undef, undef, undef, undef, undef, undef], defers := [] })
  (fun x a' => ⟨fun s F A A' q _ => q, fun s F G A q _ => q⟩)
  ?assign ?body ?done ?stop
 case assign =>
  rintro l' pre x G V K h hFG hG hsz hK
  gi_wp2
  exact hK _ _ (KF.refl _ _ _) h rfl
 case body =>
  rintro l' pre x a' G V hFG hG hsz ⟨⟨v, hnb, hv, hrow, hng⟩, hge, hB⟩ rfl hpx
  have hlt : pre.length < xs.length := by have := hpx.length_le; simp at this; omega
  have hcv := hv.cell 0
  have HG := hi hG
  have HR := hi (fun i (r : R i) => show i < w.heap.size + 3 ∧ i ≠ w.heap.size from by have := hRw i r; omega)
  have HGE := hi hge
  have HB := hi hB
  have HV := hi hv
  have HNB := hi hnb
  have HNG := hi hng
  obtain ⟨q, hq⟩ : ∃ q, idsOf pre = q := ⟨_, rfl⟩
  have hm := idsOf_len pre
  rw [hq] at hrow hm
  obtain ⟨m, hm2⟩ : ∃ m, q.length = m := ⟨_, rfl⟩
  have HM := hi hm2
  rw [hm2] at hrow hm
  rw [← hm] at hlt
  have hmb : m + 1 ≤ 400 := by omega
  have HQ := hi hq
  clear hq hm hm2 hB hge hG hnb hng hpx hv
  obtain ⟨va, vc, rfl⟩ := own_slice hrow
  gi_wp2_with (first
   | (gi_at_builtin; go_loud (refine wpListIn_append_own_at _ rfl _ _ 47 rfl (w.heap.size + 3) 3 i0 (.int .i64 0) 1 8 Tryz.underlying47 hi2 hz0 hz1 hz2 rfl (by decide) _ _ _ rfl (hrow.alloc _) ⟨V.heap.size, 0, none⟩ 1 1 [.int .i64 x.1] rfl rfl (cell_one_new _ _ _) (by simp [Value.oneCell']) (by unfold maxLen; omega) (by omega) (by simp; omega) ?_; intro v' w9 hown' hgrow _ hat; obtain ⟨g', cap', rfl⟩ := ownsRow_succ hown'; obtain ⟨hv1, hgj, hkf, hbl⟩ := GrJ.step (R := R) (x := x.1) HM.out (by omega) HNB.out HV.out hrow HNG.out HG.out HR.out (by omega) hown' hgrow hat; have hc1 := hv1.cell 0; have hf1 := hv1.frozen; have HGJ := hi hgj; have HKF := hi hkf; have HBL := hi hbl; have hc2 := (hv1.set 0 (.slice (some ⟨g', 0, none⟩) (m + 1) cap')).cell 0; clear hv1 hgj hkf hbl))
   | gi_in)
  refine ⟨HKF.out, ?_, HGE.out, HB.out.trans HBL.out⟩
  rw [idsOf_append, HQ.out, show idsOf [x] = [x.1] from rfl]
  exact HGJ.out
 case done =>
  rintro ys G V rfl hFG ⟨⟨v, hnb, hv, hrow, hng⟩, hge, hB⟩ hK _
  have hcv := hv.cell 0
  obtain ⟨va, vc, rfl⟩ := own_slice hrow
  gi_wp2
  refine ⟨by simp, .inl ⟨_, _, rfl, run_takeDeferred hK, ?_⟩⟩
  exact ⟨_, results_tmp rfl _ _ _, _, rfl, ⟨w.heap.size + 3, by omega, ownsRow_put hrow (by omega)⟩, below_put hB _ hB.size (by omega)⟩
 case stop =>
  rintro c pre G V _ _ h _ _
  exact h.elim
theorem seenL_len {D : Ds} (ok : D.Ok) (k : Int) : (seenL D k).length ≤ 96 := by
 unfold seenL
 split
 ·rename_i h
  obtain ⟨j, rfl, hj⟩ := hasN_at h
  have h1 := ok.own j hj
  have h2 := ok.m
  have h3 := List.length_filter_le (toB D j) (items 32 D.sh)
  rw [items_len] at h3
  rw [List.length_append, items_len, Int.toNat_natCast, h1]
  omega
 ·simp
theorem readyL_len {D : Ds} (ok : D.Ok) (k : Int) : (readyL D k).length ≤ 96 := by
 unfold readyL
 split
 ·simp
 ·exact Nat.le_trans (List.length_filter_le _ _) (seenL_len ok k)
end Go.Proofs.YtieedhdmpabfkaaGreat
