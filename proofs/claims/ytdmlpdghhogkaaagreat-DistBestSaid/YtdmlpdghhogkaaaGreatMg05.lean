import Derived.Test.YtdmlpdghhogkaaaGreatMg04
import Derived.Laws.AppendOwn
import Derived.Maps.AppendAt
import Derived.Shelf.Abstract
namespace Go.Proofs.YtdmlpdghhogkaaaGreat
open Go.ChangeShapes Go.WideShapes Go.ChangeAt Go.RowKit Go.Shelf
set_option linter.unusedVariables false
attribute [local go_sem] Oper.semAt_some
theorem addr_add (b o c : Nat) : (⟨b, o, none⟩ : Addr).add c = ⟨b, o + c, none⟩ := by
  unfold Addr.add
  split <;> simp_all
theorem info_en : (Tryz.prog.info? 115).map (fun i => (i.zero, i.size, i.bytes)) = some (some (.agg #[.bool false, .bool false, .bool false, .bool false, .bool false, .int .i64 0, .int .i64 0, .int .i64 0, .bool false]), 9, 40) := by kernel_rfl
theorem info_parts {P : Program} {t : TypeId} {z : Value} {s b : Nat} (h : (P.info? t).map (fun i => (i.zero, i.size, i.bytes)) = some (some z, s, b)) : ∃ i, P.info? t = some i ∧ i.zero = some z ∧ i.size = s ∧ i.bytes = b := by
  cases hi : P.info? t with
  | none => simp [hi] at h
  | some i => simp [hi] at h; exact ⟨i, rfl, h.1, h.2.1, h.2.2⟩
def Cloned (w : World) (n : Nat) (es : List En) (e : Ending) (w' : World) : Prop := ∃ g' cap', e = .returned (.slice (some ⟨g', 0, none⟩) n cap') ∧ w.heap.size ≤ g' ∧ Row w' g' 115 (flE es) ∧ Below w.heap.size w w'
set_option maxHeartbeats 1000000 in
theorem clone_any (g n cap : Nat) (es : List En) (w : World) (h : Row w g 115 (flE es)) (hn : es.length = n) (hl : n ≤ 16384) :
    Calls Tryz.prog 80 #[.slice (some ⟨g, 0, none⟩) n cap] w (Cloned w n es) := by
  obtain ⟨i0, hi2, hz0, hz1, hz2⟩ := info_parts info_en
  have hnil : ∀ W, (binOp .eql 130 (.slice (some ⟨g, 0, none⟩) n cap) (.slice none 0 0)).run Tryz.prog W = .ok (.bool false) W := fun W => Lib.run_eql_slice_nil W _ _ (some ⟨g, 0, none⟩) n cap 0 0 Tryz.underlying130
  have hcs : ∀ (j : Nat) (u : Value), (flE es)[j]? = some u → (w.alloc (.cells #[] 115)).cell? ((⟨g, 0, none⟩ : Addr).add j) = some u := by
    intro j u hu
    have hj : j < (flE es).length := (List.getElem?_eq_some_iff.1 hu).1
    rw [addr_add, Nat.zero_add, World.cell?_alloc_lt _ _ _ h.lt, h.cell hj, hu]
  have HCS := hi hcs
  clear hcs h
  have hown : (w.alloc (.cells #[] 115)).ownsRow w.heap.size 115 9 (.slice (some ⟨w.heap.size, 0, none⟩) 0 0) 0 [] :=
    ⟨rfl, .inr ⟨w.heap.size, 0, #[], rfl, Nat.le_refl _, World.alloc_heap_new w _, Nat.le_refl _, by unfold maxLen; omega, rfl, rfl⟩⟩
  have HO := hi hown
  clear hown
  have HFL := hi (show (flE es).length = n * 9 by rw [flE_len, hn])
  have HF1 := hi (flat_one_cell en_one es)
  clear hn
  go_enter Tryz.func80, Tryz.ntmps80
  go_wp2_with (first
    | (at_builtin; refine wpList_append_own _ rfl _ _ 130 rfl w.heap.size 115 i0 (.agg #[.bool false, .bool false, .bool false, .bool false, .bool false, .int .i64 0, .int .i64 0, .int .i64 0, .bool false]) 9 40 Tryz.underlying130 hi2 hz0 hz1 hz2 rfl (by decide) _ _ _ rfl HO.out ⟨g, 0, none⟩ n cap (flE es) rfl HFL.out HCS.out HF1.out (by unfold maxLen; omega) (by omega) (by simp) ?_; intro v9 w9 hown9 hgrow9 hnn9; have HW := hi hown9; have HG := hi hgrow9; have HNN := hi hnn9; clear hown9 hgrow9 hnn9))
  go_ret
  have hb : Below w.heap.size w w9 := (bal w _).grown HG.out (by simp) (fun k e => by cases e; exact Nat.le_refl _)
  have h2 := HW.out
  rw [List.nil_append, Nat.zero_add] at h2
  rcases h2.2 with ⟨e, _⟩ | ⟨g', c', cur, e, hb', hg, _⟩
  · cases (HNN.out.1 e).1
  · subst e
    exact ⟨g', c', rfl, hb', Row.own h2, hb⟩
structure CP (w : World) (b g cap : Nat) (f : Int) (es : List En) (W : World) : Prop where
  bk : BkAt W b g cap f es
  below : Below w.heap.size w W
theorem CP.later {w W W' : World} {b g cap : Nat} {f : Int} {es : List En} (h : CP w b g cap f es W) (k : Below W.heap.size W W') : CP w b g cap f es W' := ⟨h.bk.below k, h.below.trans (k.mono h.below.size)⟩
theorem CP.drew {w W : World} {b g cap : Nat} {f : Int} {es : List En} (h : CP w b g cap f es W) : CP w b g cap f es W.drew := ⟨h.bk.drew, Below.drewN (m := 1) h.below⟩
theorem CP.c {w W : World} {b g cap n : Nat} {f : Int} {es : List En} (h : CP w b g cap f es W) (hn : es.length = n) : W.cell? ⟨b, 0, none⟩ = some (.int .i64 f) ∧ W.cell? ⟨b, 1, none⟩ = some (.slice (some ⟨g, 0, none⟩) n cap) ∧ CP w b g cap f es W := ⟨h.bk.box.cell 0, by subst hn; exact h.bk.box.cell 1, h⟩
structure AS (w : World) (b g cap : Nat) (f : Int) (es : List En) (pf pb : Option Nat) (cl : Option (Nat × Nat)) (W : World) : Prop where
  cp : CP w b g cap f es W
  f : ∀ p, pf = some p → w.heap.size ≤ p ∧ CB W p 3 #[.int .i64 0]
  b : ∀ p, pb = some p → w.heap.size ≤ p ∧ CB W p 130 #[.slice none 0 0]
  c : ∀ q, cl = some q → w.heap.size ≤ q.1 ∧ Row W q.1 115 (flE es)
  fb : ∀ p q, pf = some p → pb = some q → p ≠ q
  fc : ∀ p q, pf = some p → cl = some q → p ≠ q.1
  bc : ∀ p q, pb = some p → cl = some q → p ≠ q.1
section
variable {w W W' : World} {b g cap : Nat} {f : Int} {es : List En} {pf pb : Option Nat} {cl : Option (Nat × Nat)}
theorem AS.later (h : AS w b g cap f es pf pb cl W) (k : Below W.heap.size W W') : AS w b g cap f es pf pb cl W' :=
  ⟨h.cp.later k, fun p e => ⟨(h.f p e).1, (h.f p e).2.below k⟩, fun p e => ⟨(h.b p e).1, (h.b p e).2.below k⟩, fun p e => ⟨(h.c p e).1, (h.c p e).2.below k⟩, h.fb, h.fc, h.bc⟩
theorem AS.newF (h : AS w b g cap f es none pb cl W) : AS w b g cap f es (some W.heap.size) pb cl (W.alloc (.cells #[.int .i64 0] 3)) :=
  have k := h.later (bal W (.cells #[.int .i64 0] 3))
  ⟨k.cp, fun p e => by cases e; exact ⟨h.cp.below.size, CB.new _ _ _⟩, k.b, k.c, fun p q e e' => by cases e; have := (h.b q e').2.lt; omega, fun p q e e' => by cases e; have := (h.c q e').2.lt; omega, k.bc⟩
theorem AS.newB (h : AS w b g cap f es pf none cl W) : AS w b g cap f es pf (some W.heap.size) cl (W.alloc (.cells #[.slice none 0 0] 130)) :=
  have k := h.later (bal W (.cells #[.slice none 0 0] 130))
  ⟨k.cp, k.f, fun p e => by cases e; exact ⟨h.cp.below.size, CB.new _ _ _⟩, k.c, fun p q e e' => by cases e'; have := (h.f p e).2.lt; omega, k.fc, fun p q e e' => by cases e; have := (h.c q e').2.lt; omega⟩
theorem AS.newC (h : AS w b g cap f es pf pb none W) {g2 c2 : Nat} (hg : W.heap.size ≤ g2) (hr : Row W' g2 115 (flE es)) (k : Below W.heap.size W W') : AS w b g cap f es pf pb (some (g2, c2)) W' :=
  have j := h.later k
  ⟨j.cp, j.f, j.b, fun q e => by cases e; exact ⟨Nat.le_trans h.cp.below.size hg, hr⟩, j.fb, fun p q e e' => by cases e'; have := (h.f p e).2.lt; show p ≠ g2; omega, fun p q e e' => by cases e'; have := (h.b p e).2.lt; show p ≠ g2; omega⟩
theorem AS.drew (h : AS w b g cap f es pf pb cl W) : AS w b g cap f es pf pb cl W.drew := ⟨h.cp.drew, h.f, h.b, h.c, h.fb, h.fc, h.bc⟩
theorem AS.cc {n : Nat} (h : AS w b g cap f es pf pb cl W) (hn : es.length = n) : W.cell? ⟨b, 0, none⟩ = some (.int .i64 f) ∧ W.cell? ⟨b, 1, none⟩ = some (.slice (some ⟨g, 0, none⟩) n cap) ∧ CP w b g cap f es W := h.cp.c hn
theorem CP.set (h : CP w b g cap f es W) (hb : b < w.heap.size) (hg : g < w.heap.size) {p o : Nat} (hp : w.heap.size ≤ p) (v : Value) : CP w b g cap f es (W.setCell ⟨p, o, none⟩ v) :=
  ⟨h.bk.kept (bs := (· = p)) (Kept.set (Kept.refl _ _) _ _ rfl) (by omega) (by omega), below_set h.below hp v⟩
end
structure ItAt (lo hi : Nat) (W : World) (pf pb g cap : Nat) (f : Int) (es : List En) : Prop where
  f : CB W pf 3 #[.int .i64 f]
  b : CB W pb 130 #[.slice (some ⟨g, 0, none⟩) es.length cap]
  row : Row W g 115 (flE es)
  lf : lo ≤ pf ∧ pf < hi
  lb : lo ≤ pb ∧ pb < hi
  lg : lo ≤ g ∧ g < hi
theorem AS.done {w W : World} {b g cap pf pb g2 c2 n : Nat} {f : Int} {es : List En} (h : AS w b g cap f es (some pf) (some pb) (some (g2, c2)) W) (hn : es.length = n) :
    ItAt w.heap.size ((W.setCell ⟨pf, 0, none⟩ (.int .i64 f)).setCell ⟨pb, 0, none⟩ (.slice (some ⟨g2, 0, none⟩) n c2)).heap.size ((W.setCell ⟨pf, 0, none⟩ (.int .i64 f)).setCell ⟨pb, 0, none⟩ (.slice (some ⟨g2, 0, none⟩) n c2)) pf pb g2 c2 f es ∧
    Below w.heap.size w ((W.setCell ⟨pf, 0, none⟩ (.int .i64 f)).setCell ⟨pb, 0, none⟩ (.slice (some ⟨g2, 0, none⟩) n c2)) := by
  obtain ⟨f1, f2⟩ := h.f _ rfl
  obtain ⟨b1, b2⟩ := h.b _ rfl
  obtain ⟨c1, c3⟩ := h.c _ rfl
  have n1 := h.fb _ _ rfl rfl
  have n2 := h.fc _ _ rfl rfl
  have n3 := h.bc _ _ rfl rfl
  dsimp only at n2 n3 c1 c3
  have l1 := f2.lt
  have l2 := b2.lt
  have l3 := c3.lt
  refine ⟨⟨(f2.set 0 _).other _ _ _ n1, by subst hn; exact (b2.other _ _ _ (Ne.symm n1)).set 0 _, ?_, ⟨f1, by simpa using l1⟩, ⟨b1, by simpa using l2⟩, ⟨c1, by simpa using l3⟩⟩, below_set (below_set h.cp.below f1 _) b1 _⟩
  exact (c3.heap (Below.heap_setCell W ⟨pf, 0, none⟩ _ g2 (Ne.symm n2))).heap (Below.heap_setCell _ ⟨pb, 0, none⟩ _ g2 (Ne.symm n3))
set_option maxRecDepth 100000 in
set_option maxHeartbeats 4000000 in
theorem all_any {b g cap : Nat} {f : Int} {es : List En} {w : World} (h : BkAt w b g cap f es) (hf : Fit f es.length) :
    Calls Tryz.prog 114 #[.pointer (some ⟨b, 0, none⟩)] w fun e w' => ∃ pf pb g' cap', e = .returned (.func (.func 137) #[] #[.pointer (some ⟨pb, 0, none⟩), .pointer (some ⟨pf, 0, none⟩)]) ∧ ItAt w.heap.size w'.heap.size w' pf pb g' cap' f es ∧ Below w.heap.size w w' := by
  obtain ⟨n, hn⟩ : ∃ n, es.length = n := ⟨_, rfl⟩
  have HN := hi hn
  have CC := hi (fun W (h : CP w b g cap f es W) => clone_any g n cap es W h.bk.row hn (by rw [← hn]; exact hf.n1))
  have c0 := h.box.cell 0
  have c1 := h.box.cell 1
  rw [hn] at c1
  have hbl := h.box.lt
  have hgl := h.row.lt
  have HD := AS.drew (w := w) (W := w) (pf := none) (pb := none) (cl := none) ⟨⟨h, Below.refl _ _⟩, fun _ e => (by cases e), fun _ e => (by cases e), fun _ e => (by cases e), fun _ _ e => (by cases e), fun _ _ e => (by cases e), fun _ _ e => (by cases e)⟩
  clear h hn
  go_enter Tryz.func114, Tryz.ntmps114
  go_wp2
  refine wp_region_noPanic ?_
  refine wp_region_held_drew (S := (fun w' => w'.cell? ⟨b, 0, none⟩ = some (.int .i64 f) ∧ w'.cell? ⟨b, 1, none⟩ = some (.slice (some ⟨g, 0, none⟩) n cap) ∧ CP w b g cap f es w')) (by kernel_rfl) (HD.cc HN.out) (fun hHeld => ?_)
  (try simp only [Array.replicate_succ, Array.replicate_zero, List.push_toArray, List.nil_append, List.cons_append])
  obtain ⟨Wd, hWd⟩ : ∃ Wd, w.drew = Wd := ⟨_, rfl⟩
  rw [hWd] at HD hHeld ⊢
  clear hWd
  refine wpAnyH_take (i := 0) (v := ?_) rfl (by kernel_rfl) (by kernel_rfl) (by kernel_rfl) (fun _ _ _ h => h) (Or.inl ⟨by rfl, ?_⟩) (by assumption) ?_
  rotate_left
  · intro w' hSw; (try dsimp only at hSw); obtain ⟨hs0, hs1, hs2⟩ := hSw; go_simp; (try with_reducible rfl)
  (try simp only [Act.put, List.getElem_toArray, List.getElem_cons_zero, List.setIfInBounds_toArray, List.set_cons_zero, List.set_cons_succ])
  refine wpAnyH_take (i := 1) (v := ?_) rfl (by kernel_rfl) (by kernel_rfl) (by kernel_rfl) (fun _ _ _ h => h) (Or.inl ⟨by rfl, ?_⟩) (by assumption) ?_
  rotate_left
  · intro w' hSw; (try dsimp only at hSw); obtain ⟨hs0, hs1, hs2⟩ := hSw; go_simp; (try with_reducible rfl)
  (try simp only [Act.put, List.getElem_toArray, List.getElem_cons_zero, List.getElem_cons_succ, List.setIfInBounds_toArray, List.set_cons_zero, List.set_cons_succ])
  refine wpAnyH_take (i := 2) (v := ?_) rfl (by kernel_rfl) (by kernel_rfl) (by kernel_rfl) (fun _ _ _ h => h) (Or.inl ⟨by rfl, ?_⟩) (by assumption) ?_
  rotate_left
  · intro w' hSw; (try dsimp only at hSw); obtain ⟨hs0, hs1, hs2⟩ := hSw; go_simp; (try with_reducible rfl)
  (try simp only [Act.put, List.getElem_toArray, List.getElem_cons_zero, List.getElem_cons_succ, List.setIfInBounds_toArray, List.set_cons_zero, List.set_cons_succ])
  refine wpAnyH_take (i := 3) (v := ?_) rfl (by kernel_rfl) (by kernel_rfl) (by kernel_rfl) (fun _ _ _ h => h) (Or.inl ⟨by rfl, ?_⟩) (by assumption) ?_
  rotate_left
  · intro w' hSw; (try dsimp only at hSw); obtain ⟨hs0, hs1, hs2⟩ := hSw; go_simp; (try with_reducible rfl)
  (try simp only [Act.put, List.getElem_toArray, List.getElem_cons_zero, List.getElem_cons_succ, List.setIfInBounds_toArray, List.set_cons_zero, List.set_cons_succ])
  refine wpAnyH_take (i := 4) (v := ?_) rfl (by kernel_rfl) (by kernel_rfl) (by kernel_rfl) (fun _ _ _ h => h) (Or.inl ⟨by rfl, ?_⟩) (by assumption) ?_
  rotate_left
  · intro w' hSw; (try dsimp only at hSw); obtain ⟨hs0, hs1, hs2⟩ := hSw; go_simp; (try with_reducible rfl)
  (try simp only [Act.put, List.getElem_toArray, List.getElem_cons_zero, List.getElem_cons_succ, List.setIfInBounds_toArray, List.set_cons_zero, List.set_cons_succ])
  refine wpAnyH_take (i := 5) (v := ?_) rfl (by kernel_rfl) (by kernel_rfl) (by kernel_rfl) (fun _ _ _ h => h) (Or.inl ⟨by rfl, ?_⟩) (by assumption) ?_
  rotate_left
  · intro w' hSw; (try dsimp only at hSw); obtain ⟨hs0, hs1, hs2⟩ := hSw; go_simp; (try with_reducible rfl)
  (try simp only [Act.put, List.getElem_toArray, List.getElem_cons_zero, List.getElem_cons_succ, List.setIfInBounds_toArray, List.set_cons_zero, List.set_cons_succ])
  refine wpAnyH_take (i := 6) (v := ?_) rfl (by kernel_rfl) (by kernel_rfl) (by kernel_rfl) (fun _ _ _ h => h) (Or.inl ⟨by rfl, ?_⟩) (by assumption) ?_
  rotate_left
  · intro w' hSw; (try dsimp only at hSw); obtain ⟨hs0, hs1, hs2⟩ := hSw; go_simp; (try with_reducible rfl)
  (try simp only [Act.put, List.getElem_toArray, List.getElem_cons_zero, List.getElem_cons_succ, List.setIfInBounds_toArray, List.set_cons_zero, List.set_cons_succ])
  refine wpAnyH_take (i := 7) (v := ?_) rfl (by kernel_rfl) (by kernel_rfl) (by kernel_rfl) (fun _ _ _ h => h) (Or.inl ⟨by rfl, ?_⟩) (by assumption) ?_
  rotate_left
  · intro w' hSw; (try dsimp only at hSw); obtain ⟨hs0, hs1, hs2⟩ := hSw; go_simp; (try with_reducible rfl)
  (try simp only [Act.put, List.getElem_toArray, List.getElem_cons_zero, List.getElem_cons_succ, List.setIfInBounds_toArray, List.set_cons_zero, List.set_cons_succ])
  refine wpAnyH_ready (rs := [8, 9, 10]) (by kernel_rfl) (by simp) ?_
  refine AllReadyH.cons rfl (fun KK hKK => ?_) (AllReadyH.cons rfl (fun KK hKK => ?_) (AllReadyH.cons rfl (fun KK hKK => ?_) AllReadyH.nil))
  · go_simp
    ((with_reducible refine (CC.out _ HD.cp).mono ?_); rintro e' w2 ⟨g2, cap2, rfl, hg2, hr2, hb2⟩; have H1 := HD.newC (c2 := cap2) hg2 hr2 hb2; clear hg2 hr2 hb2)
    (try go_simp)
    refine hKK.out _ _ (H1.cc HN.out) (fun hHeld => ?_)
    clear hKK KK
    (try simp only [Act.put, List.getElem_toArray, List.getElem_cons_zero, List.getElem_cons_succ, List.setIfInBounds_toArray, List.set_cons_zero, List.set_cons_succ])
    refine wpAnyH_ready (rs := [9, 10]) (by kernel_rfl) (by simp) ?_
    refine AllReadyH.cons rfl (fun KK hKK => ?_) (AllReadyH.cons rfl (fun KK hKK => ?_) AllReadyH.nil)
    · go_simp
      have H2 := H1.newF
      refine hKK.out _ _ (H2.cc HN.out) (fun hHeld => ?_)
      clear hKK KK
      (try simp only [Act.put, List.getElem_toArray, List.getElem_cons_zero, List.getElem_cons_succ, List.setIfInBounds_toArray, List.set_cons_zero, List.set_cons_succ])
      refine wpAnyH_ready (rs := [10]) (by kernel_rfl) (by simp) ?_
      refine AllReadyH.cons rfl (fun KK hKK => ?_) AllReadyH.nil
      · go_simp
        have H3 := H2.newB
        refine hKK.out _ _ (H3.cc HN.out) (fun hHeld => ?_)
        clear hKK KK
        (try simp only [Act.put, List.getElem_toArray, List.getElem_cons_zero, List.getElem_cons_succ, List.setIfInBounds_toArray, List.set_cons_zero, List.set_cons_succ])
        (try simp only [World.size_alloc] at H3)
        obtain ⟨W9, hW9⟩ : ∃ W9, ((w2.alloc (.cells #[.int .i64 0] 3)).alloc (.cells #[.slice none 0 0] 130)) = W9 := ⟨_, rfl⟩
        rw [hW9] at H3 ⊢
        clear hW9
        obtain ⟨f1, f2⟩ := H3.f _ rfl
        obtain ⟨b1, b2⟩ := H3.b _ rfl
        have n1 := H3.fb _ _ rfl rfl
        have x1 := f2.cell 0
        have y1 := f2.frozen 0
        have x2 := b2.cell 0
        have y2 := b2.frozen 0
        have HQ := H3.cp.set hbl hgl (o := 0) f1 (.int .i64 f)
        refine wpAnyH_ready (rs := [11]) (by kernel_rfl) (by simp) ?_
        refine AllReadyH.cons rfl (fun KK hKK => ?_) AllReadyH.nil
        go_simp
        refine hKK.out _ _ (HQ.c HN.out) (fun hHeld => ?_)
        clear hKK KK
        (try simp only [Act.put, List.getElem_toArray, List.getElem_cons_zero, List.getElem_cons_succ, List.setIfInBounds_toArray, List.set_cons_zero, List.set_cons_succ])
        have HQ2 := HQ.set hbl hgl (o := 0) b1 (.slice (some ⟨g2, 0, none⟩) n cap2)
        have x3 := (b2.other _ 0 (.int .i64 f) (Ne.symm n1)).cell 0
        have y3 := (b2.other _ 0 (.int .i64 f) (Ne.symm n1)).frozen 0
        clear x1 y1 x2 y2
        refine wpAnyH_ready (rs := [12]) (by kernel_rfl) (by simp) ?_
        refine AllReadyH.cons rfl (fun KK hKK => ?_) AllReadyH.nil
        go_simp
        refine hKK.out _ _ (HQ2.c HN.out) (fun hHeld => ?_)
        clear hKK KK
        (try simp only [Act.put, List.getElem_toArray, List.getElem_cons_zero, List.getElem_cons_succ, List.setIfInBounds_toArray, List.set_cons_zero, List.set_cons_succ])
        refine wpAnyH_done (by kernel_rfl) ?_ _
        refine NoPanic.normal ?_
        obtain ⟨hA, hB⟩ := H3.done HN.out
        go_wp2
        go_ret
        exact ⟨_, _, _, _, rfl, hA, hB⟩
    · go_simp
      have H2 := H1.newB
      refine hKK.out _ _ (H2.cc HN.out) (fun hHeld => ?_)
      clear hKK KK
      (try simp only [Act.put, List.getElem_toArray, List.getElem_cons_zero, List.getElem_cons_succ, List.setIfInBounds_toArray, List.set_cons_zero, List.set_cons_succ])
      refine wpAnyH_ready (rs := [9]) (by kernel_rfl) (by simp) ?_
      refine AllReadyH.cons rfl (fun KK hKK => ?_) AllReadyH.nil
      · go_simp
        have H3 := H2.newF
        refine hKK.out _ _ (H3.cc HN.out) (fun hHeld => ?_)
        clear hKK KK
        (try simp only [Act.put, List.getElem_toArray, List.getElem_cons_zero, List.getElem_cons_succ, List.setIfInBounds_toArray, List.set_cons_zero, List.set_cons_succ])
        (try simp only [World.size_alloc] at H3)
        obtain ⟨W9, hW9⟩ : ∃ W9, ((w2.alloc (.cells #[.slice none 0 0] 130)).alloc (.cells #[.int .i64 0] 3)) = W9 := ⟨_, rfl⟩
        rw [hW9] at H3 ⊢
        clear hW9
        obtain ⟨f1, f2⟩ := H3.f _ rfl
        obtain ⟨b1, b2⟩ := H3.b _ rfl
        have n1 := H3.fb _ _ rfl rfl
        have x1 := f2.cell 0
        have y1 := f2.frozen 0
        have x2 := b2.cell 0
        have y2 := b2.frozen 0
        have HQ := H3.cp.set hbl hgl (o := 0) f1 (.int .i64 f)
        refine wpAnyH_ready (rs := [11]) (by kernel_rfl) (by simp) ?_
        refine AllReadyH.cons rfl (fun KK hKK => ?_) AllReadyH.nil
        go_simp
        refine hKK.out _ _ (HQ.c HN.out) (fun hHeld => ?_)
        clear hKK KK
        (try simp only [Act.put, List.getElem_toArray, List.getElem_cons_zero, List.getElem_cons_succ, List.setIfInBounds_toArray, List.set_cons_zero, List.set_cons_succ])
        have HQ2 := HQ.set hbl hgl (o := 0) b1 (.slice (some ⟨g2, 0, none⟩) n cap2)
        have x3 := (b2.other _ 0 (.int .i64 f) (Ne.symm n1)).cell 0
        have y3 := (b2.other _ 0 (.int .i64 f) (Ne.symm n1)).frozen 0
        clear x1 y1 x2 y2
        refine wpAnyH_ready (rs := [12]) (by kernel_rfl) (by simp) ?_
        refine AllReadyH.cons rfl (fun KK hKK => ?_) AllReadyH.nil
        go_simp
        refine hKK.out _ _ (HQ2.c HN.out) (fun hHeld => ?_)
        clear hKK KK
        (try simp only [Act.put, List.getElem_toArray, List.getElem_cons_zero, List.getElem_cons_succ, List.setIfInBounds_toArray, List.set_cons_zero, List.set_cons_succ])
        refine wpAnyH_done (by kernel_rfl) ?_ _
        refine NoPanic.normal ?_
        obtain ⟨hA, hB⟩ := H3.done HN.out
        go_wp2
        go_ret
        exact ⟨_, _, _, _, rfl, hA, hB⟩
  · go_simp
    have H1 := HD.newF
    refine hKK.out _ _ (H1.cc HN.out) (fun hHeld => ?_)
    clear hKK KK
    (try simp only [Act.put, List.getElem_toArray, List.getElem_cons_zero, List.getElem_cons_succ, List.setIfInBounds_toArray, List.set_cons_zero, List.set_cons_succ])
    refine wpAnyH_ready (rs := [8, 10]) (by kernel_rfl) (by simp) ?_
    refine AllReadyH.cons rfl (fun KK hKK => ?_) (AllReadyH.cons rfl (fun KK hKK => ?_) AllReadyH.nil)
    · go_simp
      ((with_reducible refine (CC.out _ H1.cp).mono ?_); rintro e' w2 ⟨g2, cap2, rfl, hg2, hr2, hb2⟩; have H2 := H1.newC (c2 := cap2) hg2 hr2 hb2; clear hg2 hr2 hb2)
      (try go_simp)
      refine hKK.out _ _ (H2.cc HN.out) (fun hHeld => ?_)
      clear hKK KK
      (try simp only [Act.put, List.getElem_toArray, List.getElem_cons_zero, List.getElem_cons_succ, List.setIfInBounds_toArray, List.set_cons_zero, List.set_cons_succ])
      refine wpAnyH_ready (rs := [10]) (by kernel_rfl) (by simp) ?_
      refine AllReadyH.cons rfl (fun KK hKK => ?_) AllReadyH.nil
      · go_simp
        have H3 := H2.newB
        refine hKK.out _ _ (H3.cc HN.out) (fun hHeld => ?_)
        clear hKK KK
        (try simp only [Act.put, List.getElem_toArray, List.getElem_cons_zero, List.getElem_cons_succ, List.setIfInBounds_toArray, List.set_cons_zero, List.set_cons_succ])
        (try simp only [World.size_alloc] at H3)
        obtain ⟨W9, hW9⟩ : ∃ W9, (w2.alloc (.cells #[.slice none 0 0] 130)) = W9 := ⟨_, rfl⟩
        rw [hW9] at H3 ⊢
        clear hW9
        obtain ⟨f1, f2⟩ := H3.f _ rfl
        obtain ⟨b1, b2⟩ := H3.b _ rfl
        have n1 := H3.fb _ _ rfl rfl
        have x1 := f2.cell 0
        have y1 := f2.frozen 0
        have x2 := b2.cell 0
        have y2 := b2.frozen 0
        have HQ := H3.cp.set hbl hgl (o := 0) f1 (.int .i64 f)
        refine wpAnyH_ready (rs := [11]) (by kernel_rfl) (by simp) ?_
        refine AllReadyH.cons rfl (fun KK hKK => ?_) AllReadyH.nil
        go_simp
        refine hKK.out _ _ (HQ.c HN.out) (fun hHeld => ?_)
        clear hKK KK
        (try simp only [Act.put, List.getElem_toArray, List.getElem_cons_zero, List.getElem_cons_succ, List.setIfInBounds_toArray, List.set_cons_zero, List.set_cons_succ])
        have HQ2 := HQ.set hbl hgl (o := 0) b1 (.slice (some ⟨g2, 0, none⟩) n cap2)
        have x3 := (b2.other _ 0 (.int .i64 f) (Ne.symm n1)).cell 0
        have y3 := (b2.other _ 0 (.int .i64 f) (Ne.symm n1)).frozen 0
        clear x1 y1 x2 y2
        refine wpAnyH_ready (rs := [12]) (by kernel_rfl) (by simp) ?_
        refine AllReadyH.cons rfl (fun KK hKK => ?_) AllReadyH.nil
        go_simp
        refine hKK.out _ _ (HQ2.c HN.out) (fun hHeld => ?_)
        clear hKK KK
        (try simp only [Act.put, List.getElem_toArray, List.getElem_cons_zero, List.getElem_cons_succ, List.setIfInBounds_toArray, List.set_cons_zero, List.set_cons_succ])
        refine wpAnyH_done (by kernel_rfl) ?_ _
        refine NoPanic.normal ?_
        obtain ⟨hA, hB⟩ := H3.done HN.out
        go_wp2
        go_ret
        exact ⟨_, _, _, _, rfl, hA, hB⟩
    · go_simp
      have H2 := H1.newB
      refine hKK.out _ _ (H2.cc HN.out) (fun hHeld => ?_)
      clear hKK KK
      (try simp only [Act.put, List.getElem_toArray, List.getElem_cons_zero, List.getElem_cons_succ, List.setIfInBounds_toArray, List.set_cons_zero, List.set_cons_succ])
      refine wpAnyH_ready (rs := [8]) (by kernel_rfl) (by simp) ?_
      refine AllReadyH.cons rfl (fun KK hKK => ?_) AllReadyH.nil
      · go_simp
        ((with_reducible refine (CC.out _ H2.cp).mono ?_); rintro e' w2 ⟨g2, cap2, rfl, hg2, hr2, hb2⟩; have H3 := H2.newC (c2 := cap2) hg2 hr2 hb2; clear hg2 hr2 hb2)
        (try go_simp)
        refine hKK.out _ _ (H3.cc HN.out) (fun hHeld => ?_)
        clear hKK KK
        (try simp only [Act.put, List.getElem_toArray, List.getElem_cons_zero, List.getElem_cons_succ, List.setIfInBounds_toArray, List.set_cons_zero, List.set_cons_succ])
        (try simp only [World.size_alloc] at H3)
        obtain ⟨f1, f2⟩ := H3.f _ rfl
        obtain ⟨b1, b2⟩ := H3.b _ rfl
        have n1 := H3.fb _ _ rfl rfl
        have x1 := f2.cell 0
        have y1 := f2.frozen 0
        have x2 := b2.cell 0
        have y2 := b2.frozen 0
        have HQ := H3.cp.set hbl hgl (o := 0) f1 (.int .i64 f)
        refine wpAnyH_ready (rs := [11]) (by kernel_rfl) (by simp) ?_
        refine AllReadyH.cons rfl (fun KK hKK => ?_) AllReadyH.nil
        go_simp
        refine hKK.out _ _ (HQ.c HN.out) (fun hHeld => ?_)
        clear hKK KK
        (try simp only [Act.put, List.getElem_toArray, List.getElem_cons_zero, List.getElem_cons_succ, List.setIfInBounds_toArray, List.set_cons_zero, List.set_cons_succ])
        have HQ2 := HQ.set hbl hgl (o := 0) b1 (.slice (some ⟨g2, 0, none⟩) n cap2)
        have x3 := (b2.other _ 0 (.int .i64 f) (Ne.symm n1)).cell 0
        have y3 := (b2.other _ 0 (.int .i64 f) (Ne.symm n1)).frozen 0
        clear x1 y1 x2 y2
        refine wpAnyH_ready (rs := [12]) (by kernel_rfl) (by simp) ?_
        refine AllReadyH.cons rfl (fun KK hKK => ?_) AllReadyH.nil
        go_simp
        refine hKK.out _ _ (HQ2.c HN.out) (fun hHeld => ?_)
        clear hKK KK
        (try simp only [Act.put, List.getElem_toArray, List.getElem_cons_zero, List.getElem_cons_succ, List.setIfInBounds_toArray, List.set_cons_zero, List.set_cons_succ])
        refine wpAnyH_done (by kernel_rfl) ?_ _
        refine NoPanic.normal ?_
        obtain ⟨hA, hB⟩ := H3.done HN.out
        go_wp2
        go_ret
        exact ⟨_, _, _, _, rfl, hA, hB⟩
  · go_simp
    have H1 := HD.newB
    refine hKK.out _ _ (H1.cc HN.out) (fun hHeld => ?_)
    clear hKK KK
    (try simp only [Act.put, List.getElem_toArray, List.getElem_cons_zero, List.getElem_cons_succ, List.setIfInBounds_toArray, List.set_cons_zero, List.set_cons_succ])
    refine wpAnyH_ready (rs := [8, 9]) (by kernel_rfl) (by simp) ?_
    refine AllReadyH.cons rfl (fun KK hKK => ?_) (AllReadyH.cons rfl (fun KK hKK => ?_) AllReadyH.nil)
    · go_simp
      ((with_reducible refine (CC.out _ H1.cp).mono ?_); rintro e' w2 ⟨g2, cap2, rfl, hg2, hr2, hb2⟩; have H2 := H1.newC (c2 := cap2) hg2 hr2 hb2; clear hg2 hr2 hb2)
      (try go_simp)
      refine hKK.out _ _ (H2.cc HN.out) (fun hHeld => ?_)
      clear hKK KK
      (try simp only [Act.put, List.getElem_toArray, List.getElem_cons_zero, List.getElem_cons_succ, List.setIfInBounds_toArray, List.set_cons_zero, List.set_cons_succ])
      refine wpAnyH_ready (rs := [9]) (by kernel_rfl) (by simp) ?_
      refine AllReadyH.cons rfl (fun KK hKK => ?_) AllReadyH.nil
      · go_simp
        have H3 := H2.newF
        refine hKK.out _ _ (H3.cc HN.out) (fun hHeld => ?_)
        clear hKK KK
        (try simp only [Act.put, List.getElem_toArray, List.getElem_cons_zero, List.getElem_cons_succ, List.setIfInBounds_toArray, List.set_cons_zero, List.set_cons_succ])
        (try simp only [World.size_alloc] at H3)
        obtain ⟨W9, hW9⟩ : ∃ W9, (w2.alloc (.cells #[.int .i64 0] 3)) = W9 := ⟨_, rfl⟩
        rw [hW9] at H3 ⊢
        clear hW9
        obtain ⟨f1, f2⟩ := H3.f _ rfl
        obtain ⟨b1, b2⟩ := H3.b _ rfl
        have n1 := H3.fb _ _ rfl rfl
        have x1 := f2.cell 0
        have y1 := f2.frozen 0
        have x2 := b2.cell 0
        have y2 := b2.frozen 0
        have HQ := H3.cp.set hbl hgl (o := 0) f1 (.int .i64 f)
        refine wpAnyH_ready (rs := [11]) (by kernel_rfl) (by simp) ?_
        refine AllReadyH.cons rfl (fun KK hKK => ?_) AllReadyH.nil
        go_simp
        refine hKK.out _ _ (HQ.c HN.out) (fun hHeld => ?_)
        clear hKK KK
        (try simp only [Act.put, List.getElem_toArray, List.getElem_cons_zero, List.getElem_cons_succ, List.setIfInBounds_toArray, List.set_cons_zero, List.set_cons_succ])
        have HQ2 := HQ.set hbl hgl (o := 0) b1 (.slice (some ⟨g2, 0, none⟩) n cap2)
        have x3 := (b2.other _ 0 (.int .i64 f) (Ne.symm n1)).cell 0
        have y3 := (b2.other _ 0 (.int .i64 f) (Ne.symm n1)).frozen 0
        clear x1 y1 x2 y2
        refine wpAnyH_ready (rs := [12]) (by kernel_rfl) (by simp) ?_
        refine AllReadyH.cons rfl (fun KK hKK => ?_) AllReadyH.nil
        go_simp
        refine hKK.out _ _ (HQ2.c HN.out) (fun hHeld => ?_)
        clear hKK KK
        (try simp only [Act.put, List.getElem_toArray, List.getElem_cons_zero, List.getElem_cons_succ, List.setIfInBounds_toArray, List.set_cons_zero, List.set_cons_succ])
        refine wpAnyH_done (by kernel_rfl) ?_ _
        refine NoPanic.normal ?_
        obtain ⟨hA, hB⟩ := H3.done HN.out
        go_wp2
        go_ret
        exact ⟨_, _, _, _, rfl, hA, hB⟩
    · go_simp
      have H2 := H1.newF
      refine hKK.out _ _ (H2.cc HN.out) (fun hHeld => ?_)
      clear hKK KK
      (try simp only [Act.put, List.getElem_toArray, List.getElem_cons_zero, List.getElem_cons_succ, List.setIfInBounds_toArray, List.set_cons_zero, List.set_cons_succ])
      refine wpAnyH_ready (rs := [8]) (by kernel_rfl) (by simp) ?_
      refine AllReadyH.cons rfl (fun KK hKK => ?_) AllReadyH.nil
      · go_simp
        ((with_reducible refine (CC.out _ H2.cp).mono ?_); rintro e' w2 ⟨g2, cap2, rfl, hg2, hr2, hb2⟩; have H3 := H2.newC (c2 := cap2) hg2 hr2 hb2; clear hg2 hr2 hb2)
        (try go_simp)
        refine hKK.out _ _ (H3.cc HN.out) (fun hHeld => ?_)
        clear hKK KK
        (try simp only [Act.put, List.getElem_toArray, List.getElem_cons_zero, List.getElem_cons_succ, List.setIfInBounds_toArray, List.set_cons_zero, List.set_cons_succ])
        (try simp only [World.size_alloc] at H3)
        obtain ⟨f1, f2⟩ := H3.f _ rfl
        obtain ⟨b1, b2⟩ := H3.b _ rfl
        have n1 := H3.fb _ _ rfl rfl
        have x1 := f2.cell 0
        have y1 := f2.frozen 0
        have x2 := b2.cell 0
        have y2 := b2.frozen 0
        have HQ := H3.cp.set hbl hgl (o := 0) f1 (.int .i64 f)
        refine wpAnyH_ready (rs := [11]) (by kernel_rfl) (by simp) ?_
        refine AllReadyH.cons rfl (fun KK hKK => ?_) AllReadyH.nil
        go_simp
        refine hKK.out _ _ (HQ.c HN.out) (fun hHeld => ?_)
        clear hKK KK
        (try simp only [Act.put, List.getElem_toArray, List.getElem_cons_zero, List.getElem_cons_succ, List.setIfInBounds_toArray, List.set_cons_zero, List.set_cons_succ])
        have HQ2 := HQ.set hbl hgl (o := 0) b1 (.slice (some ⟨g2, 0, none⟩) n cap2)
        have x3 := (b2.other _ 0 (.int .i64 f) (Ne.symm n1)).cell 0
        have y3 := (b2.other _ 0 (.int .i64 f) (Ne.symm n1)).frozen 0
        clear x1 y1 x2 y2
        refine wpAnyH_ready (rs := [12]) (by kernel_rfl) (by simp) ?_
        refine AllReadyH.cons rfl (fun KK hKK => ?_) AllReadyH.nil
        go_simp
        refine hKK.out _ _ (HQ2.c HN.out) (fun hHeld => ?_)
        clear hKK KK
        (try simp only [Act.put, List.getElem_toArray, List.getElem_cons_zero, List.getElem_cons_succ, List.setIfInBounds_toArray, List.set_cons_zero, List.set_cons_succ])
        refine wpAnyH_done (by kernel_rfl) ?_ _
        refine NoPanic.normal ?_
        obtain ⟨hA, hB⟩ := H3.done HN.out
        go_wp2
        go_ret
        exact ⟨_, _, _, _, rfl, hA, hB⟩
end Go.Proofs.YtdmlpdghhogkaaaGreat
