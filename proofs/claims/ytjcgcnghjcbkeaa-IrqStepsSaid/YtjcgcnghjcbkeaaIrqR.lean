/-
  After: the last of Play's states.
-/
import Derived.Test.YtjcgcnghjcbkeaaIrqQ
namespace Go.Proofs.Ytjcgcnghjcbkeaa
open Go.ChangeShapes Go.WideShapes Go.ChangeAt Go.RowKit Go.Shelf
set_option linter.unusedVariables false
attribute [local go_sem] Oper.semAt_some

theorem AbL.cb {β : Type} {B k : Nat} (b : Nat) (t : TypeId) (f : β → Array Value) (hb : b < B) : AbL B k (fun s W => CB W b t (f s)) := AbL.of (m := 2 + k) (fun s A A' row hs hg hr => hs.kept hg (fun e => by have := hr b e.symm; omega)) rfl
/-- A box just laid in a round, through what the loop does with its own two blocks. -/
theorem CB.own {B : Nat} {t : TypeId} {cs : Array Value} : Own (fun (_ : Unit) W => CB W B t cs) := fun s A A' row hs hg hrow =>
  hs.kept hg (fun e' => by obtain ⟨o, ho, hc⟩ := hrow B e'.symm; rw [show A.heap[B]? = _ from hs] at ho; cases ho; cases hc)
theorem kpp_put {c c2 B : Nat} {W : World} {l : Nat} {o' : Obj} (h1 : c2 ≤ l) (h2 : l < B) : KpP c c2 B W (W.putObj l o') := fun i hi => World.putObj_heap_other (by omega)
theorem kw_set4 (B b : Nat) (W : World) (x : St) : KW B W ((((W.setCell ⟨b, 0, none⟩ (.bool x.e)).setCell ⟨b, 1, none⟩ (.bool x.l)).setCell ⟨b, 2, none⟩ (.bool x.h)).setCell ⟨b, 3, none⟩ (.bool x.a)) :=
  (((KW.set _ _ _).trans (KW.set _ _ _)).trans (KW.set _ _ _)).trans (KW.set _ _ _)
theorem kpp_set4 {c c2 B b : Nat} (W : World) (x : St) (h1 : b < c) (h2 : b < B) : KpP c c2 B W ((((W.setCell ⟨b, 0, none⟩ (.bool x.e)).setCell ⟨b, 1, none⟩ (.bool x.l)).setCell ⟨b, 2, none⟩ (.bool x.h)).setCell ⟨b, 3, none⟩ (.bool x.a)) :=
  fun i hi => heap_set4 _ _ _ i (by omega)

set_option maxRecDepth 100000 in
set_option maxHeartbeats 4000000 in
theorem after_any (x : St) (ks : List Int) (v : Value) (w : World) (h : IntsAt w v ks) (hl : ks.length ≤ 17592186044416) :
    Calls Try.prog 21 #[x.v, v] w fun e w' => e = .returned (x.run ks).v ∧ Below w.heap.size w w' := by
  obtain ⟨w2, hw2⟩ : ∃ w2, (w.alloc (.cells x.cs 23)).alloc (.cells St.zero.cs 23) = w2 := ⟨_, rfl⟩
  have hB2 : Below w.heap.size w w2 := by rw [← hw2]; exact bal_two _ _ _
  have hz2 : w2.heap.size = w.heap.size + 2 := by rw [← hw2]; simp
  have q0 : CB w2 w.heap.size 23 x.cs := by rw [← hw2]; exact (CB.new w _ _).alloc _
  have q1 : CB w2 (w.heap.size + 1) 23 St.zero.cs := by rw [← hw2]; exact cb_second
  have HM := hi (mkplay_any x ks v w2 (h.below hB2) hl)
  obtain ⟨a0, cap, rfl⟩ := h.slice
  have HW2 := hi hw2
  have HB2 := hi hB2
  have HQ0 := hi q0
  have HQ1 := hi q1
  clear h q0 q1 hB2
  obtain ⟨u, hu⟩ : ∃ u, x.run ks = u := ⟨_, rfl⟩
  rw [hu]
  have HU := hi hu
  clear hu
  dsimp only [St.v] at HM
  rw [hz2] at HM
  refine (callsIn_wide (n := 6)).1 ?_
  refine callsIn_of_wp_marks Try.func21 rfl trivial ?_ rfl
  simp only [Try.ntmps21, List.size_toArray, List.length_cons, List.length_nil, Nat.reduceAdd, Nat.reduceSub, Array.replicate_succ, Array.replicate_zero, List.push_toArray, List.append_toArray, List.nil_append, List.cons_append]
  have hw2' : (w.alloc (.cells #[.bool x.e, .bool x.l, .bool x.h, .bool x.a] 23)).alloc (.cells #[.bool false, .bool false, .bool false, .bool false] 23) = w2 := hw2
  clear hw2
  obtain ⟨s0, s1, s2, s3⟩ := HQ0.out.cells (x := x)
  dsimp only [St.v]
  gi_wp2_with (first
    | (refine ⟨trivial, ?_⟩; gi_at_call 10; ((with_reducible refine (callsIn_wide.2 HM.out).mono ?_); rintro e' w3 ⟨v', rfl, hp, hb⟩))
    | gi_in)
  have hz3 := hb.size
  rw [hz2] at hz3
  have hB3 : Below w.heap.size w w3 := HB2.out.trans (hb.mono (by omega))
  have hst := play_stops (w.heap.size + 2) w3.heap.size v' x ks w3 (Nat.le_refl _) hl hp
  have p0 : CB w3 w.heap.size 23 x.cs := (hb.block _ (by omega)).trans HQ0.out
  have p1 : CB w3 (w.heap.size + 1) 23 St.zero.cs := (hb.block _ (by omega)).trans HQ1.out
  clear s0 s1 s2 s3 hw2'
  refine range_win (n := 6) (by omega) (gf := 27) (lb := #[.pointer (some ⟨w.heap.size + 2, 0, none⟩), .pointer (some ⟨w.heap.size + 2 + 1, 0, none⟩)]) rfl (enters_of Try.func27 (by kernel_rfl) rfl)
    hst (fun a b => KpP.trans a b) (fun W l o o' h1 h2 h3 h4 => kpp_put (by omega) (by omega)) (Below.refl _ _) (fun _ => rfl)
    (fun pre V => (CB V w.heap.size 23 (x.upto ks pre.length).cs ∧ CB V (w.heap.size + 1) 23 St.zero.cs) ∧ Below w.heap.size w V)
    (fun _ _ _ => False)
    (AbL.and (AbL.and (AbL.cb (β := List St) _ _ (fun pre => (x.upto ks pre.length).cs) (by omega)) (AbL.cb (β := List St) _ _ (fun _ => St.zero.cs) (by omega))) (AbL.below (Nat.le_refl _) (by omega)))
    (fun _ _ _ _ _ hs _ _ => hs)
    ⟨⟨by rw [List.length_nil, upto_zero]; exact p0, p1⟩, hB3⟩
    (fun y a' V => ∃ Bx, w3.heap.size + 3 ≤ Bx ∧ CB V Bx 23 y.cs ∧ a' = { tmps := #[.agg #[.bool x.e, .bool x.l, .bool x.h, .bool x.a], .slice a0 ks.length cap, .pointer (some ⟨w.heap.size, 0, none⟩), undef, .pointer (some ⟨w.heap.size + 1, 0, none⟩), .pointer (some ⟨Bx, 0, none⟩), .agg #[.bool x.e, .bool x.l, .bool x.h, .bool x.a], .slice a0 ks.length cap, .func (.func 27) #[] #[.pointer (some ⟨w.heap.size + 2, 0, none⟩), .pointer (some ⟨w.heap.size + 2 + 1, 0, none⟩)], .agg #[.bool y.e, .bool y.l, .bool y.h, .bool y.a], undef, undef], defers := [] })
    (fun y a' => AbL.of (m := 3) (fun s A A' row hs hg hr => by obtain ⟨Bx, e0, e1, e2⟩ := hs; exact ⟨Bx, e0, e1.kept hg (fun q => by have := hr Bx q.symm; omega), e2⟩) rfl)
    ?assign ?body ?done ?stop
  case assign =>
    rintro l' pre y V K ⟨⟨h0, h1⟩, hB⟩ hsz hK
    gi_wp2
    exact hK _ _ (KW.of_below (bal V _)) (KpP.of_below (bal V _) (by omega) (by omega)) ⟨⟨h0.alloc _, h1.alloc _⟩, hB.alloc hB.size _⟩ ⟨V.heap.size, by omega, CB.new V _ _, rfl⟩
  case body =>
    rintro l' pre y a' V hsz ⟨⟨h0, h1⟩, hB⟩ ⟨Bx, hBx, hx, rfl⟩ hpx
    obtain ⟨hlen, hy⟩ := path_next hpx
    obtain ⟨z0, z1, z2, z3⟩ := hx.cells (x := y)
    obtain ⟨d0, d1, d2, d3⟩ := h0.cells
    have f := h0.frozen
    have HY := hi (show x.upto ks (pre ++ [y]).length = y by rw [List.length_append]; exact hy.symm)
    clear hy hpx
    gi_wp2
    exact ⟨kw_set4 _ _ V y, kpp_set4 V y (by omega) (by omega), ⟨by rw [HY.out]; exact CB.set4 h0 y, (((h1.other _ _ _ (by omega)).other _ _ _ (by omega)).other _ _ _ (by omega)).other _ _ _ (by omega)⟩, below_set4 hB (Nat.le_refl _) y⟩
  case done =>
    rintro ys V rfl ⟨⟨h0, h1⟩, hB⟩ hK hs2
    rw [path_len, upto_all, HU.out] at h0
    obtain ⟨d0, d1, d2, d3⟩ := h0.cells
    obtain ⟨r0, r1, r2, r3⟩ := h1.cells
    have f := h1.frozen
    have HK := hi hK
    have H1 := hi h1
    have HB := hi hB
    clear h0 h1 hK hB
    gi_wp2
    have hK' := (heap_set4 V (w.heap.size + 1) u w3.heap.size (by omega)).trans HK.out
    refine ⟨by simp, .inl ⟨_, _, rfl, run_takeDeferred hK', ?_⟩⟩
    have hz := CB.set4 (z := St.zero) H1.out u
    have hb4 := below_set4 HB.out (b := w.heap.size + 1) (by omega) u
    exact ⟨_, results_irq rfl _ _ (w.heap.size + 1) u rfl ((World.putObj_heap_other (by omega)).trans hz), rfl, hb4.grown (grownBy_putObj' _ _ _) (by have := hb4.size; omega) (fun k e => by cases e; omega)⟩
  case stop =>
    rintro cd pre V _ h _
    exact h.elim

end Go.Proofs.Ytjcgcnghjcbkeaa
