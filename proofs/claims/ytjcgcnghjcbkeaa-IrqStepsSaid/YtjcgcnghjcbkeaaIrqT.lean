/-
  The law IrqSteps at every input.
-/
import Derived.Test.YtjcgcnghjcbkeaaIrqS
import Derived.RegionIn
namespace Go.Proofs.Ytjcgcnghjcbkeaa
open Go.ChangeShapes Go.WideShapes Go.ChangeAt Go.RowKit Go.Shelf
set_option linter.unusedVariables false
attribute [local go_sem] Oper.semAt_some
attribute [local go_sem high] eql4_self neq4_self guard4

/-- Behind the two copies of s: they stand in either order. -/
structure S4 (w w1 : World) (b6 b7 : Nat) (x : St) (a : Option Addr) (n cap : Nat) (W : World) : Prop where
  s : CB W w.heap.size 23 x.cs
  acts : CB W (w.heap.size + 1) 24 #[.slice a n cap]
  res : CB W (w.heap.size + 2) 4 #[.bool false]
  r : CB W b6 23 x.cs
  f : CB W b7 23 x.cs
  below : Below w.heap.size w W
  size : W.heap.size = w1.heap.size + 2
  lo6 : w1.heap.size ≤ b6
  lo7 : w1.heap.size ≤ b7
  hi6 : b6 < w1.heap.size + 2
  hi7 : b7 < w1.heap.size + 2
  ne : b6 ≠ b7

theorem s4_a {w w1 : World} {x : St} {a : Option Addr} {n cap : Nat} (p0 : CB w1 w.heap.size 23 x.cs) (p1 : CB w1 (w.heap.size + 1) 24 #[.slice a n cap]) (p2 : CB w1 (w.heap.size + 2) 4 #[.bool false]) (hb : Below w.heap.size w w1) :
    S4 w w1 w1.heap.size (w1.heap.size + 1) x a n cap (((w1.alloc (.cells x.cs 23)).alloc (.cells x.cs 23)).drew) :=
  ⟨CB.drew ((p0.alloc _).alloc _), CB.drew ((p1.alloc _).alloc _), CB.drew ((p2.alloc _).alloc _), CB.drew ((CB.new w1 _ _).alloc _), CB.drew cb_second, Below.drew1 (hb.trans ((bal_two w1 _ _).mono hb.size)), by simp, by omega, by omega, by omega, by omega, by omega⟩
theorem s4_b {w w1 : World} {x : St} {a : Option Addr} {n cap : Nat} (p0 : CB w1 w.heap.size 23 x.cs) (p1 : CB w1 (w.heap.size + 1) 24 #[.slice a n cap]) (p2 : CB w1 (w.heap.size + 2) 4 #[.bool false]) (hb : Below w.heap.size w w1) :
    S4 w w1 (w1.heap.size + 1) w1.heap.size x a n cap (((w1.alloc (.cells x.cs 23)).alloc (.cells x.cs 23)).drew) :=
  ⟨CB.drew ((p0.alloc _).alloc _), CB.drew ((p1.alloc _).alloc _), CB.drew ((p2.alloc _).alloc _), CB.drew cb_second, CB.drew ((CB.new w1 _ _).alloc _), Below.drew1 (hb.trans ((bal_two w1 _ _).mono hb.size)), by simp, by omega, by omega, by omega, by omega, by omega⟩

/-- What the last region reads. -/
structure SF (w : World) (b6 b7 b8 : Nat) (x u : St) (a : Option Addr) (n cap : Nat) (W : World) : Prop where
  acts : CB W (w.heap.size + 1) 24 #[.slice a n cap]
  cnt : CB W b8 3 #[.int .i64 n]
  r : CB W b6 23 u.cs
  f : CB W b7 23 x.cs
theorem SF.cells {w : World} {b6 b7 b8 : Nat} {x u : St} {a : Option Addr} {n cap : Nat} {W : World} (h : SF w b6 b7 b8 x u a n cap W) :
    W.cell? ⟨w.heap.size + 1, 0, none⟩ = some (.slice a n cap) ∧ W.cell? ⟨b8, 0, none⟩ = some (.int .i64 n) ∧ W.cell? ⟨b6, 0, none⟩ = some (.bool u.e) ∧ W.cell? ⟨b6, 1, none⟩ = some (.bool u.l) ∧ W.cell? ⟨b6, 2, none⟩ = some (.bool u.h) ∧ W.cell? ⟨b6, 3, none⟩ = some (.bool u.a) ∧
    W.cell? ⟨b7, 0, none⟩ = some (.bool x.e) ∧ W.cell? ⟨b7, 1, none⟩ = some (.bool x.l) ∧ W.cell? ⟨b7, 2, none⟩ = some (.bool x.h) ∧ W.cell? ⟨b7, 3, none⟩ = some (.bool x.a) :=
  ⟨h.acts.cell 0, h.cnt.cell 0, h.r.cell 0, h.r.cell 1, h.r.cell 2, h.r.cell 3, h.f.cell 0, h.f.cell 1, h.f.cell 2, h.f.cell 3⟩
theorem SI.sf {w : World} {b6 b7 b8 : Nat} {x u : St} {a : Option Addr} {n cap : Nat} {W : World} (h : SI w b6 b7 b8 x a n cap u u n W) : SF w b6 b7 b8 x u a n cap W := ⟨h.acts, h.cnt, h.r, h.f⟩
theorem SI.sf_set' {w : World} {b6 b7 b8 : Nat} {x u : St} {a : Option Addr} {n cap : Nat} {W : World} (h : SI w b6 b7 b8 x a n cap u u n W) (e6 : w.heap.size + 3 ≤ b6) (e7 : w.heap.size + 3 ≤ b7) (e8 : w.heap.size + 3 ≤ b8) (v : Bool) : SF w b6 b7 b8 x u a n cap (W.setCell ⟨w.heap.size + 2, 0, none⟩ (.bool v)) :=
  ⟨h.acts.other _ _ _ (by omega), h.cnt.other _ _ _ (by omega), h.r.other _ _ _ (by omega), h.f.other _ _ _ (by omega)⟩

set_option maxRecDepth 100000 in
set_option maxHeartbeats 8000000 in
theorem lawSteps_any (x : St) (ks : List Int) (v : Value) (w : World) (h : IntsAt w v ks) (hl : ks.length ≤ 17592186044416) :
    Calls Try.prog 3 #[x.v, v] w fun e w' => e = .returned (.bool true) ∧ Below w.heap.size w w' := by
  obtain ⟨a0, cap, rfl⟩ := h.slice
  obtain ⟨n, hn⟩ : ∃ n, ks.length = n := ⟨_, rfl⟩
  have HN := hi hn
  have H := hi h
  rw [hn] at H
  have hl' : n ≤ 17592186044416 := by omega
  obtain ⟨w0, hw0⟩ : ∃ w0, (((w.alloc (.cells x.cs 23)).alloc (.cells #[.slice a0 n cap] 24)).alloc (.cells #[.bool false] 4)) = w0 := ⟨_, rfl⟩
  have hz0 : w0.heap.size = w.heap.size + 3 := by rw [← hw0]; simp
  have hB0 : Below w.heap.size w w0 := by rw [← hw0]; exact bal_three _ _ _ _
  have q0 : CB w0 w.heap.size 23 x.cs := by rw [← hw0]; exact ((CB.new w _ _).alloc _).alloc _
  have q1 : CB w0 (w.heap.size + 1) 24 #[.slice a0 n cap] := by rw [← hw0]; exact cb_mid
  have q2 : CB w0 (w.heap.size + 2) 4 #[.bool false] := by
    rw [← hw0]
    have := CB.new ((w.alloc (.cells x.cs 23)).alloc (.cells #[.slice a0 n cap] 24)) 4 #[.bool false]
    rwa [show ((w.alloc (.cells x.cs 23)).alloc (.cells #[.slice a0 n cap] 24)).heap.size = w.heap.size + 2 by simp] at this
  have Q0 := hi q0
  have Q1 := hi q1
  have Q2 := hi q2
  have HB0 := hi hB0
  clear q0 q1 q2 hB0 h
  rw [hn]
  refine (callsIn_wide (n := 6)).1 ?_
  refine callsIn_of_wp_marks Try.func3 rfl trivial ?_ rfl
  simp only [Try.ntmps3, List.size_toArray, List.length_cons, List.length_nil, Nat.reduceAdd, Nat.reduceSub, Array.replicate_succ, Array.replicate_zero, List.push_toArray, List.append_toArray, List.nil_append, List.cons_append]
  dsimp only [St.v, St.cs] at hw0 ⊢
  clear hn hl
  gi_wp2_with (first
    | (refine ⟨trivial, ?_⟩; gi_at_call 9; ((with_reducible refine (callsIn_wide.2 (awake_any _)).mono ?_); rintro e' w1 ⟨rfl, hb⟩; have hz1 := hb.size; have P0 := hi (Q0.out.below hb); have P1 := hi (Q1.out.below hb); have P2 := hi (Q2.out.below hb); have HB1 := hi (HB0.out.trans (hb.mono (by omega))); obtain ⟨s0, s1, s2, s3⟩ := P0.out.cells (x := x); clear hb))
    | gi_in)
  refine wpIn_mono (Q := fun e a' W => e = .normal ∧ ∃ b6 b7 : Nat, S4 w w1 b6 b7 x a0 n cap W ∧ a' = { tmps := #[.agg #[.bool x.e, .bool x.l, .bool x.h, .bool x.a], .slice a0 n cap, .pointer (some ⟨w.heap.size, 0, none⟩), .pointer (some ⟨w.heap.size + 1, 0, none⟩), .pointer (some ⟨w.heap.size + 1 + 1, 0, none⟩), .bool true, .pointer (some ⟨b6, 0, none⟩), .pointer (some ⟨b7, 0, none⟩), undef, undef, .bool true, .bool true, .bool false, .agg #[.bool x.e, .bool x.l, .bool x.h, .bool x.a], .agg #[.bool x.e, .bool x.l, .bool x.h, .bool x.a], undef, undef, undef, undef, undef, undef, undef, undef, undef, undef, undef, undef, undef, undef, undef, undef, undef, undef, undef, undef, undef, undef, undef, undef, undef, undef, undef, undef, undef, undef, undef, undef, undef, undef, undef, undef, undef, undef, undef, undef, undef, undef, undef, undef, undef, undef, undef, undef, undef, undef, undef, undef, undef, undef, undef, undef, undef, undef, undef, undef, undef, undef, undef, undef, undef, undef, undef, undef, undef, undef, undef, undef], defers := [] }) ?reg ?rest
  case reg =>
    refine wpIn_wide.2 ?_
    refine wp_region_noPanic ?_
    refine wp_region_held_drew (S := (fun w' => w'.cell? ⟨w.heap.size, 0, none⟩ = some (.bool x.e) ∧ w'.cell? ⟨w.heap.size, 1, none⟩ = some (.bool x.l) ∧ w'.cell? ⟨w.heap.size, 2, none⟩ = some (.bool x.h) ∧ w'.cell? ⟨w.heap.size, 3, none⟩ = some (.bool x.a))) (by kernel_rfl) ⟨s0, s1, s2, s3⟩ (fun hHeld => ?_)
    skip
    refine wpAnyH_take (i := 0) (v := ?_) rfl (by kernel_rfl) (by kernel_rfl) (by kernel_rfl) (fun _ _ _ h => h) (Or.inl ⟨by rfl, ?_⟩) (by assumption) ?_
    rotate_left
    · intro w' hSw; (try dsimp only at hSw); obtain ⟨hs0, hs1, hs2, hs3⟩ := hSw; go_simp; (try with_reducible rfl)
    (try simp only [Act.put, List.getElem_toArray, List.getElem_cons_zero, List.setIfInBounds_toArray, List.set_cons_zero, List.set_cons_succ])
    refine wpAnyH_take (i := 1) (v := ?_) rfl (by kernel_rfl) (by kernel_rfl) (by kernel_rfl) (fun _ _ _ h => h) (Or.inl ⟨by rfl, ?_⟩) (by assumption) ?_
    rotate_left
    · intro w' hSw; (try dsimp only at hSw); obtain ⟨hs0, hs1, hs2, hs3⟩ := hSw; go_simp; (try with_reducible rfl)
    (try simp only [Act.put, List.getElem_toArray, List.getElem_cons_zero, List.getElem_cons_succ, List.setIfInBounds_toArray, List.set_cons_zero, List.set_cons_succ])
    refine wpAnyH_ready (rs := [2, 3]) (by kernel_rfl) (by simp) ?_
    refine AllReadyH.cons rfl (fun KK hKK => ?_) (AllReadyH.cons rfl (fun KK hKK => ?_) AllReadyH.nil)
    · go_simp
      refine hKK.out _ _ (CB.cells (x := x) (CB.drew (P0.out.alloc _))) (fun hHeld => ?_)
      clear hKK KK
      (try simp only [Act.put, List.getElem_toArray, List.getElem_cons_zero, List.getElem_cons_succ, List.setIfInBounds_toArray, List.set_cons_zero, List.set_cons_succ])
      refine wpAnyH_ready (rs := [3]) (by kernel_rfl) (by simp) ?_
      refine AllReadyH.cons rfl (fun KK hKK => ?_) AllReadyH.nil
      go_simp
      refine hKK.out _ _ (CB.cells (x := x) (CB.drew ((P0.out.alloc _).alloc _))) (fun hHeld => ?_)
      clear hKK KK
      (try simp only [Act.put, List.getElem_toArray, List.getElem_cons_zero, List.getElem_cons_succ, List.setIfInBounds_toArray, List.set_cons_zero, List.set_cons_succ])
      refine wpAnyH_ready (rs := [4]) (by kernel_rfl) (by simp) ?_
      refine AllReadyH.cons rfl (fun KK hKK => ?_) AllReadyH.nil
      go_simp
      refine hKK.out _ _ (CB.cells (x := x) (CB.drew ((P0.out.alloc _).alloc _))) (fun hHeld => ?_)
      clear hKK KK
      (try simp only [Act.put, List.getElem_toArray, List.getElem_cons_zero, List.getElem_cons_succ, List.setIfInBounds_toArray, List.set_cons_zero, List.set_cons_succ])
      refine wpAnyH_ready (rs := [5]) (by kernel_rfl) (by simp) ?_
      refine AllReadyH.cons rfl (fun KK hKK => ?_) AllReadyH.nil
      go_simp
      refine hKK.out _ _ (CB.cells (x := x) (CB.drew ((P0.out.alloc _).alloc _))) (fun hHeld => ?_)
      clear hKK KK
      (try simp only [Act.put, List.getElem_toArray, List.getElem_cons_zero, List.getElem_cons_succ, List.setIfInBounds_toArray, List.set_cons_zero, List.set_cons_succ])
      refine wpAnyH_done (by kernel_rfl) ?_ _
      refine NoPanic.normal ?_
      exact ⟨rfl, w1.heap.size, w1.heap.size + 1, s4_a P0.out P1.out P2.out HB1.out, rfl⟩
    · go_simp
      refine hKK.out _ _ (CB.cells (x := x) (CB.drew (P0.out.alloc _))) (fun hHeld => ?_)
      clear hKK KK
      (try simp only [Act.put, List.getElem_toArray, List.getElem_cons_zero, List.getElem_cons_succ, List.setIfInBounds_toArray, List.set_cons_zero, List.set_cons_succ])
      refine wpAnyH_ready (rs := [2]) (by kernel_rfl) (by simp) ?_
      refine AllReadyH.cons rfl (fun KK hKK => ?_) AllReadyH.nil
      go_simp
      refine hKK.out _ _ (CB.cells (x := x) (CB.drew ((P0.out.alloc _).alloc _))) (fun hHeld => ?_)
      clear hKK KK
      (try simp only [Act.put, List.getElem_toArray, List.getElem_cons_zero, List.getElem_cons_succ, List.setIfInBounds_toArray, List.set_cons_zero, List.set_cons_succ])
      refine wpAnyH_ready (rs := [4]) (by kernel_rfl) (by simp) ?_
      refine AllReadyH.cons rfl (fun KK hKK => ?_) AllReadyH.nil
      go_simp
      refine hKK.out _ _ (CB.cells (x := x) (CB.drew ((P0.out.alloc _).alloc _))) (fun hHeld => ?_)
      clear hKK KK
      (try simp only [Act.put, List.getElem_toArray, List.getElem_cons_zero, List.getElem_cons_succ, List.setIfInBounds_toArray, List.set_cons_zero, List.set_cons_succ])
      refine wpAnyH_ready (rs := [5]) (by kernel_rfl) (by simp) ?_
      refine AllReadyH.cons rfl (fun KK hKK => ?_) AllReadyH.nil
      go_simp
      refine hKK.out _ _ (CB.cells (x := x) (CB.drew ((P0.out.alloc _).alloc _))) (fun hHeld => ?_)
      clear hKK KK
      (try simp only [Act.put, List.getElem_toArray, List.getElem_cons_zero, List.getElem_cons_succ, List.setIfInBounds_toArray, List.set_cons_zero, List.set_cons_succ])
      refine wpAnyH_done (by kernel_rfl) ?_ _
      refine NoPanic.normal ?_
      exact ⟨rfl, w1.heap.size + 1, w1.heap.size, s4_b P0.out P1.out P2.out HB1.out, rfl⟩
  case rest =>
    rintro e' a' W4 ⟨rfl, b6, b7, h4, rfl⟩
    clear s0 s1 s2 s3 P0 P1 P2 Q0 Q1 Q2 hw0 HB0 HB1
    obtain ⟨s0, s1, s2, s3⟩ := (h4.s.alloc (.cells #[.int .i64 0] 3)).cells (x := x)
    have c1 := (h4.acts.alloc (.cells #[.int .i64 0] 3)).cell 0
    simp only [List.getElem?_toArray, List.getElem?_cons_zero] at c1
    have hI : SI w b6 b7 W4.heap.size x a0 n cap x x 0 (W4.alloc (.cells #[.int .i64 0] 3)) :=
      ⟨h4.s.alloc _, h4.acts.alloc _, h4.res.alloc _, h4.r.alloc _, h4.f.alloc _, CB.new W4 _ _, h4.below.alloc h4.below.size _⟩
    have hlo6 := h4.lo6
    have hlo7 := h4.lo7
    have hhi6 := h4.hi6
    have hhi7 := h4.hi7
    have hne := h4.ne
    have hsz := h4.size
    obtain ⟨b8, hb8⟩ : ∃ b8, W4.heap.size = b8 := ⟨_, rfl⟩
    have HIN := hi (H.out.below (hI.below.mono (Nat.le_refl _)))
    have HM := hi (mkplay_any x ks (.slice a0 n cap) (W4.alloc (.cells #[.int .i64 0] 3)) HIN.out (by rw [HN.out]; exact hl'))
    rw [World.size_alloc] at HM
    dsimp only [St.v] at HM
    rw [hb8] at hI hsz HM
    have HI0 := hi hI
    have e6 : w.heap.size + 3 ≤ b6 := by omega
    have e7 : w.heap.size + 3 ≤ b7 := by omega
    have e8 : w.heap.size + 3 ≤ b8 := by omega
    have e68 : b6 < b8 := by omega
    have e78 : b7 < b8 := by omega
    clear hI h4 hlo6 hlo7 hhi6 hhi7 hsz hz0 hz1
    gi_wp2_with (first
      | (refine ⟨trivial, ?_⟩; gi_at_call 10; ((with_reducible refine (callsIn_wide.2 HM.out).mono ?_); rintro e' w3 ⟨v', rfl, hp, hb⟩))
      | gi_in)
    have hz3 := hb.size
    rw [World.size_alloc, hb8] at hz3
    have h3 := HI0.out.later (V' := w3) (by rw [World.size_alloc, hb8]; exact hb)
    have hst := play_stops (b8 + 1) w3.heap.size v' x ks w3 (Nat.le_refl _) (by rw [HN.out]; exact hl') hp
    clear s0 s1 s2 s3 c1 HM hp hb HIN HI0
    refine range_win (n := 6) (by omega) (gf := 27) (lb := #[.pointer (some ⟨b8 + 1, 0, none⟩), .pointer (some ⟨b8 + 1 + 1, 0, none⟩)]) rfl (enters_of Try.func27 (by kernel_rfl) rfl)
      hst (fun a b => KpP.trans a b) (fun W l o o' h1 h2 h3 h4 => kpp_put (by omega) (by omega)) (Below.refl _ _) (fun _ => rfl)
      (fun pre V => SI w b6 b7 b8 x a0 n cap (x.upto ks pre.length) (x.upto ks pre.length) pre.length V)
      (fun _ _ _ => False)
      (SI.abL (β := List St) (fs := fun pre => x.upto ks pre.length) (fr := fun pre => x.upto ks pre.length) (fk := List.length) (by omega) (by omega) (by omega) (by omega))
      (fun _ _ _ _ _ hs _ _ => hs)
      (by rw [List.length_nil, upto_zero]; exact h3)
      (fun y a' V => ∃ Bx, w3.heap.size + 3 ≤ Bx ∧ CB V Bx 23 y.cs ∧ a' = { tmps := #[.agg #[.bool x.e, .bool x.l, .bool x.h, .bool x.a], .slice a0 n cap, .pointer (some ⟨w.heap.size, 0, none⟩), .pointer (some ⟨w.heap.size + 1, 0, none⟩), .pointer (some ⟨w.heap.size + 1 + 1, 0, none⟩), .bool true, .pointer (some ⟨b6, 0, none⟩), .pointer (some ⟨b7, 0, none⟩), .pointer (some ⟨b8, 0, none⟩), .pointer (some ⟨Bx, 0, none⟩), .bool true, .bool true, .bool false, .agg #[.bool x.e, .bool x.l, .bool x.h, .bool x.a], .agg #[.bool x.e, .bool x.l, .bool x.h, .bool x.a], .agg #[.bool x.e, .bool x.l, .bool x.h, .bool x.a], .slice a0 n cap, .func (.func 27) #[] #[.pointer (some ⟨b8 + 1, 0, none⟩), .pointer (some ⟨b8 + 1 + 1, 0, none⟩)], .agg #[.bool y.e, .bool y.l, .bool y.h, .bool y.a], undef, undef, undef, undef, undef, undef, undef, undef, undef, undef, undef, undef, undef, undef, undef, undef, undef, undef, undef, undef, undef, undef, undef, undef, undef, undef, undef, undef, undef, undef, undef, undef, undef, undef, undef, undef, undef, undef, undef, undef, undef, undef, undef, undef, undef, undef, undef, undef, undef, undef, undef, undef, undef, undef, undef, undef, undef, undef, undef, undef, undef, undef, undef, undef, undef, undef, undef, undef], defers := [] })
      (fun y a' => AbL.of (m := 3) (fun s A A' row hs hg hr => by obtain ⟨Bx, e0, e1, e2⟩ := hs; exact ⟨Bx, e0, e1.kept hg (fun q => by have := hr Bx q.symm; omega), e2⟩) rfl)
      ?assign ?body ?done ?stop
    case assign =>
      rintro l' pre y V K hI hsz hK
      gi_wp2
      exact hK _ _ (KW.of_below (bal V _)) (KpP.of_below (bal V _) (by omega) (by omega)) (hI.later (bal V _)) ⟨V.heap.size, by omega, CB.new V _ _, rfl⟩
    case body =>
      rintro l' pre y a' V hsz hI ⟨Bx, hBx, hx, rfl⟩ hpx
      obtain ⟨hlen, hy⟩ := path_next hpx
      obtain ⟨k, hk⟩ : ∃ k, pre.length = k := ⟨_, rfl⟩
      have HPK := hi (show (pre ++ [y]).length = k + 1 by rw [List.length_append, hk]; rfl)
      rw [hk] at hlen hy hI
      have hup := upto_succ (x := x) hlen
      rw [← hy] at hup
      have HY := hi hy
      have hlen' : k < n := by rw [← HN.out]; exact hlen
      obtain ⟨g, o, rfl, hg, c0⟩ := H.out.read hlen'
      obtain ⟨A, hA⟩ : ∃ A, nth ks k = A := ⟨_, rfl⟩
      obtain ⟨u, hu⟩ : ∃ u, x.upto ks k = u := ⟨_, rfl⟩
      rw [hA, hu] at hup
      rw [hA] at c0
      rw [hu] at hI
      have HC1 := hi (fun W => rstep_any u A W)
      have HC2 := hi (fun W => step_any u A W)
      rw [← hup] at HC1 HC2
      have CP1 := hi (fun W => pend_any y W)
      have CP2 := hi (fun W => rpend_any y W)
      have CR1 := hi (fun W => ready_any y W)
      have CR2 := hi (fun W => rready_any y W)
      have CH1 := hi (fun W => phase_any y W)
      have CH2 := hi (fun W => rphase_any y W)
      have CT1 := hi (fun W => text_any y W)
      have CT2 := hi (fun W => rtext_any y W)
      obtain ⟨pv, hpv⟩ : ∃ pv, y.pend = pv := ⟨_, rfl⟩
      obtain ⟨rv, hrv⟩ : ∃ rv, y.ready = rv := ⟨_, rfl⟩
      obtain ⟨hv, hhv⟩ : ∃ hv, y.phase = hv := ⟨_, rfl⟩
      obtain ⟨tv, htv⟩ : ∃ tv : ByteArray, ⟨y.txt.toArray⟩ = tv := ⟨_, rfl⟩
      rw [hpv] at CP1 CP2
      rw [hrv] at CR1 CR2
      rw [hhv] at CH1 CH2
      rw [htv] at CT1 CT2
      clear hpv hrv hhv htv hup hA hu hpx hk hy hg hlen
      dsimp only [St.v] at HC1 HC2 CP1 CP2 CR1 CR2 CH1 CH2 CT1 CT2
      have hbl : BL w b6 b7 b8 w3.heap.size Bx := ⟨e6, e7, e8, e68, e78, hne, hz3, hBx⟩
      have HD := (BD.mk hbl hI hx (KW.refl _ V) (KpP.refl _ _ _ V) : BD w b6 b7 b8 w3.heap.size Bx x (some ⟨g, o, none⟩) n cap y V u u k V)
      clear hbl hI hx
      have c1 := HD.si.acts.cell 0
      have c2 := HD.si.cnt.cell 0
      simp only [List.getElem?_toArray, List.getElem?_cons_zero] at c1 c2
      have HD0 := HD.drew
      gi_wp2
      refine region_held_r (S := SR w b8 g o n cap k A) mixed (by kernel_rfl) (HD0.si.sr c0) (fun hHeld => ?_)
      (try simp only [Array.replicate_succ, Array.replicate_zero, List.push_toArray, List.nil_append, List.cons_append])
      refine wpAnyH_take (i := 1) (v := ?_) rfl (by kernel_rfl) (by kernel_rfl) (by kernel_rfl) (fun _ _ _ h => h) (Or.inl ⟨by rfl, ?_⟩) (by assumption) ?_
      rotate_left
      · intro w' hSw; obtain ⟨hs0, hs1, hs2⟩ := hSw.cells; (try clear hSw); go_simp; (try with_reducible rfl)
      (try simp only [Act.put, List.getElem_toArray, List.getElem_cons_zero, List.getElem_cons_succ, List.setIfInBounds_toArray, List.set_cons_zero, List.set_cons_succ])
      refine wpAnyH_take (i := 2) (v := ?_) rfl (by kernel_rfl) (by kernel_rfl) (by kernel_rfl) (fun _ _ _ h => h) (Or.inl ⟨by rfl, ?_⟩) (by assumption) ?_
      rotate_left
      · intro w' hSw; obtain ⟨hs0, hs1, hs2⟩ := hSw.cells; (try clear hSw); go_simp; (try with_reducible rfl)
      (try simp only [Act.put, List.getElem_toArray, List.getElem_cons_zero, List.getElem_cons_succ, List.setIfInBounds_toArray, List.set_cons_zero, List.set_cons_succ])
      refine wpAnyH_take (i := 3) (v := ?_) rfl (by kernel_rfl) (by kernel_rfl) (by kernel_rfl) (fun _ _ _ h => h) (Or.inl ⟨by rfl, ?_⟩) (by assumption) ?_
      rotate_left
      · intro w' hSw; obtain ⟨hs0, hs1, hs2⟩ := hSw.cells; (try clear hSw); go_simp; (try with_reducible rfl)
      (try simp only [Act.put, List.getElem_toArray, List.getElem_cons_zero, List.getElem_cons_succ, List.setIfInBounds_toArray, List.set_cons_zero, List.set_cons_succ])
      refine wpAnyH_take (i := 4) (v := ?_) rfl (by kernel_rfl) (by kernel_rfl) (by kernel_rfl) (fun _ _ _ h => h) (Or.inl ⟨by rfl, ?_⟩) (by assumption) ?_
      rotate_left
      · intro w' hSw; obtain ⟨hs0, hs1, hs2⟩ := hSw.cells; (try clear hSw); go_simp; (try with_reducible rfl)
      (try simp only [Act.put, List.getElem_toArray, List.getElem_cons_zero, List.getElem_cons_succ, List.setIfInBounds_toArray, List.set_cons_zero, List.set_cons_succ])
      refine wpAnyH_ready (rs := [0]) (by kernel_rfl) (by simp) ?_
      refine AllReadyH.cons rfl (fun KK hKK => ?_) AllReadyH.nil
      obtain ⟨z0, z1, z2, z3⟩ := HD0.si.r.cells
      go_simp
      clear z0 z1 z2 z3
      refine hKK.out _ _ (HD0.si.sr c0) (fun hHeld => ?_)
      clear hKK KK
      (try simp only [Act.put, List.getElem_toArray, List.getElem_cons_zero, List.getElem_cons_succ, List.setIfInBounds_toArray, List.set_cons_zero, List.set_cons_succ])
      refine wpAnyH_ready (rs := [5]) (by kernel_rfl) (by simp) ?_
      refine AllReadyH.cons rfl (fun KK hKK => ?_) AllReadyH.nil
      go_simp
      ((with_reducible refine (HC1.out _).mono ?_); rintro e' w4 ⟨rfl, hb4⟩; have HD1 := HD0.later hb4; clear hb4)
      (try go_simp)
      refine hKK.out _ _ (HD1.si.sr c0) (fun hHeld => ?_)
      clear hKK KK
      (try simp only [Act.put, List.getElem_toArray, List.getElem_cons_zero, List.getElem_cons_succ, List.setIfInBounds_toArray, List.set_cons_zero, List.set_cons_succ])
      refine wpAnyH_ready (rs := [6]) (by kernel_rfl) (by simp) ?_
      refine AllReadyH.cons rfl (fun KK hKK => ?_) AllReadyH.nil
      obtain ⟨z0, z1, z2, z3⟩ := HD1.si.r.cells
      have zf := HD1.si.r.frozen
      go_simp
      clear z0 z1 z2 z3 zf
      refine hKK.out _ _ ((HD1.setR y).si.sr c0) (fun hHeld => ?_)
      clear hKK KK
      (try simp only [Act.put, List.getElem_toArray, List.getElem_cons_zero, List.getElem_cons_succ, List.setIfInBounds_toArray, List.set_cons_zero, List.set_cons_succ])
      refine wpAnyH_done (by kernel_rfl) ?_ _
      refine normQ_in ?_
      clear hHeld
      have HD2 := HD1.setR y
      obtain ⟨W5, hW5⟩ : ∃ W5, ((((w4.setCell ⟨b6, 0, none⟩ (.bool y.e)).setCell ⟨b6, 1, none⟩ (.bool y.l)).setCell ⟨b6, 2, none⟩ (.bool y.h)).setCell ⟨b6, 3, none⟩ (.bool y.a)) = W5 := ⟨_, rfl⟩
      rw [hW5] at HD2 ⊢
      clear hW5 c1 c2 HD0 HD1
      have HD3 := HD2.drew
      gi_wp2
      refine region_held_r (S := SR w b8 g o n cap k A) mixed (by kernel_rfl) (HD3.si.sr c0) (fun hHeld => ?_)
      (try simp only [Array.replicate_succ, Array.replicate_zero, List.push_toArray, List.nil_append, List.cons_append])
      refine wpAnyH_take (i := 1) (v := ?_) rfl (by kernel_rfl) (by kernel_rfl) (by kernel_rfl) (fun _ _ _ h => h) (Or.inl ⟨by rfl, ?_⟩) (by assumption) ?_
      rotate_left
      · intro w' hSw; obtain ⟨hs0, hs1, hs2⟩ := hSw.cells; (try clear hSw); go_simp; (try with_reducible rfl)
      (try simp only [Act.put, List.getElem_toArray, List.getElem_cons_zero, List.getElem_cons_succ, List.setIfInBounds_toArray, List.set_cons_zero, List.set_cons_succ])
      refine wpAnyH_take (i := 2) (v := ?_) rfl (by kernel_rfl) (by kernel_rfl) (by kernel_rfl) (fun _ _ _ h => h) (Or.inl ⟨by rfl, ?_⟩) (by assumption) ?_
      rotate_left
      · intro w' hSw; obtain ⟨hs0, hs1, hs2⟩ := hSw.cells; (try clear hSw); go_simp; (try with_reducible rfl)
      (try simp only [Act.put, List.getElem_toArray, List.getElem_cons_zero, List.getElem_cons_succ, List.setIfInBounds_toArray, List.set_cons_zero, List.set_cons_succ])
      refine wpAnyH_take (i := 3) (v := ?_) rfl (by kernel_rfl) (by kernel_rfl) (by kernel_rfl) (fun _ _ _ h => h) (Or.inl ⟨by rfl, ?_⟩) (by assumption) ?_
      rotate_left
      · intro w' hSw; obtain ⟨hs0, hs1, hs2⟩ := hSw.cells; (try clear hSw); go_simp; (try with_reducible rfl)
      (try simp only [Act.put, List.getElem_toArray, List.getElem_cons_zero, List.getElem_cons_succ, List.setIfInBounds_toArray, List.set_cons_zero, List.set_cons_succ])
      refine wpAnyH_take (i := 4) (v := ?_) rfl (by kernel_rfl) (by kernel_rfl) (by kernel_rfl) (fun _ _ _ h => h) (Or.inl ⟨by rfl, ?_⟩) (by assumption) ?_
      rotate_left
      · intro w' hSw; obtain ⟨hs0, hs1, hs2⟩ := hSw.cells; (try clear hSw); go_simp; (try with_reducible rfl)
      (try simp only [Act.put, List.getElem_toArray, List.getElem_cons_zero, List.getElem_cons_succ, List.setIfInBounds_toArray, List.set_cons_zero, List.set_cons_succ])
      refine wpAnyH_ready (rs := [0]) (by kernel_rfl) (by simp) ?_
      refine AllReadyH.cons rfl (fun KK hKK => ?_) AllReadyH.nil
      obtain ⟨z0, z1, z2, z3⟩ := HD3.si.s.cells
      go_simp
      clear z0 z1 z2 z3
      refine hKK.out _ _ (HD3.si.sr c0) (fun hHeld => ?_)
      clear hKK KK
      (try simp only [Act.put, List.getElem_toArray, List.getElem_cons_zero, List.getElem_cons_succ, List.setIfInBounds_toArray, List.set_cons_zero, List.set_cons_succ])
      refine wpAnyH_ready (rs := [5]) (by kernel_rfl) (by simp) ?_
      refine AllReadyH.cons rfl (fun KK hKK => ?_) AllReadyH.nil
      go_simp
      ((with_reducible refine (HC2.out _).mono ?_); rintro e' w6 ⟨rfl, hb6⟩; have HD4 := HD3.later hb6; clear hb6)
      (try go_simp)
      refine hKK.out _ _ (HD4.si.sr c0) (fun hHeld => ?_)
      clear hKK KK
      (try simp only [Act.put, List.getElem_toArray, List.getElem_cons_zero, List.getElem_cons_succ, List.setIfInBounds_toArray, List.set_cons_zero, List.set_cons_succ])
      refine wpAnyH_ready (rs := [6]) (by kernel_rfl) (by simp) ?_
      refine AllReadyH.cons rfl (fun KK hKK => ?_) AllReadyH.nil
      obtain ⟨z0, z1, z2, z3⟩ := HD4.si.s.cells
      have zf := HD4.si.s.frozen
      go_simp
      clear z0 z1 z2 z3 zf
      refine hKK.out _ _ ((HD4.setS y).si.sr c0) (fun hHeld => ?_)
      clear hKK KK
      (try simp only [Act.put, List.getElem_toArray, List.getElem_cons_zero, List.getElem_cons_succ, List.setIfInBounds_toArray, List.set_cons_zero, List.set_cons_succ])
      refine wpAnyH_done (by kernel_rfl) ?_ _
      refine normQ_in ?_
      clear hHeld
      have HD5 := HD4.setS y
      obtain ⟨W7, hW7⟩ : ∃ W7, ((((w6.setCell ⟨w.heap.size, 0, none⟩ (.bool y.e)).setCell ⟨w.heap.size, 1, none⟩ (.bool y.l)).setCell ⟨w.heap.size, 2, none⟩ (.bool y.h)).setCell ⟨w.heap.size, 3, none⟩ (.bool y.a)) = W7 := ⟨_, rfl⟩
      rw [hW7] at HD5 ⊢
      clear hW7 HD2 HD3 HD4
      have c2 := HD5.si.cnt.cell 0
      simp only [List.getElem?_toArray, List.getElem?_cons_zero] at c2
      have f2 := HD5.si.cnt.frozen
      have HDK := HD5.setK (k + 1) ((k : Int) + 1) (by omega)
      have HE0 := HDK.drew
      gi_wp2
      refine region_held_r (S := (fun w' => w'.cell? ⟨Bx, 0, none⟩ = some (.bool y.e) ∧ w'.cell? ⟨Bx, 1, none⟩ = some (.bool y.l) ∧ w'.cell? ⟨Bx, 2, none⟩ = some (.bool y.h) ∧ w'.cell? ⟨Bx, 3, none⟩ = some (.bool y.a) ∧ w'.cell? ⟨b6, 0, none⟩ = some (.bool y.e) ∧ w'.cell? ⟨b6, 1, none⟩ = some (.bool y.l) ∧ w'.cell? ⟨b6, 2, none⟩ = some (.bool y.h) ∧ w'.cell? ⟨b6, 3, none⟩ = some (.bool y.a) ∧ w'.cell? ⟨w.heap.size, 0, none⟩ = some (.bool y.e) ∧ w'.cell? ⟨w.heap.size, 1, none⟩ = some (.bool y.l) ∧ w'.cell? ⟨w.heap.size, 2, none⟩ = some (.bool y.h) ∧ w'.cell? ⟨w.heap.size, 3, none⟩ = some (.bool y.a) ∧ AtL w [(Bx, y), (b6, y), (w.heap.size, y)] w')) mixed (by kernel_rfl) HE0.atL.cells3 (fun hHeld => ?_)
      (try simp only [Array.replicate_succ, Array.replicate_zero, List.push_toArray, List.nil_append, List.cons_append])
      refine wpAnyH_take (i := 0) (v := ?_) rfl (by kernel_rfl) (by kernel_rfl) (by kernel_rfl) (fun _ _ _ h => h) (Or.inl ⟨by rfl, ?_⟩) (by assumption) ?_
      rotate_left
      · intro w' hSw; (try dsimp only at hSw); obtain ⟨hs0, hs1, hs2, hs3, hs4, hs5, hs6, hs7, hs8, hs9, hs10, hs11, hs12⟩ := hSw; (try clear hSw); go_simp; (try with_reducible rfl)
      (try simp only [Act.put, List.getElem_toArray, List.getElem_cons_zero, List.setIfInBounds_toArray, List.set_cons_zero, List.set_cons_succ])
      refine wpAnyH_take (i := 1) (v := ?_) rfl (by kernel_rfl) (by kernel_rfl) (by kernel_rfl) (fun _ _ _ h => h) (Or.inl ⟨by rfl, ?_⟩) (by assumption) ?_
      rotate_left
      · intro w' hSw; (try dsimp only at hSw); obtain ⟨hs0, hs1, hs2, hs3, hs4, hs5, hs6, hs7, hs8, hs9, hs10, hs11, hs12⟩ := hSw; (try clear hSw); go_simp; (try with_reducible rfl)
      (try simp only [Act.put, List.getElem_toArray, List.getElem_cons_zero, List.getElem_cons_succ, List.setIfInBounds_toArray, List.set_cons_zero, List.set_cons_succ])
      refine wpAnyH_take (i := 2) (v := ?_) rfl (by kernel_rfl) (by kernel_rfl) (by kernel_rfl) (fun _ _ _ h => h) (Or.inl ⟨by rfl, ?_⟩) (by assumption) ?_
      rotate_left
      · intro w' hSw; (try dsimp only at hSw); obtain ⟨hs0, hs1, hs2, hs3, hs4, hs5, hs6, hs7, hs8, hs9, hs10, hs11, hs12⟩ := hSw; (try clear hSw); go_simp; (try with_reducible rfl)
      (try simp only [Act.put, List.getElem_toArray, List.getElem_cons_zero, List.getElem_cons_succ, List.setIfInBounds_toArray, List.set_cons_zero, List.set_cons_succ])
      refine wpAnyH_take (i := 3) (v := ?_) rfl (by kernel_rfl) (by kernel_rfl) (by kernel_rfl) (fun _ _ _ h => h) (Or.inl ⟨by rfl, ?_⟩) (by assumption) ?_
      rotate_left
      · intro w' hSw; (try dsimp only at hSw); obtain ⟨hs0, hs1, hs2, hs3, hs4, hs5, hs6, hs7, hs8, hs9, hs10, hs11, hs12⟩ := hSw; (try clear hSw); go_simp; (try with_reducible rfl)
      (try simp only [Act.put, List.getElem_toArray, List.getElem_cons_zero, List.getElem_cons_succ, List.setIfInBounds_toArray, List.set_cons_zero, List.set_cons_succ])
      refine wpAnyH_take (i := 4) (v := ?_) rfl (by kernel_rfl) (by kernel_rfl) (by kernel_rfl) (fun _ _ _ h => h) (Or.inl ⟨by rfl, ?_⟩) (by assumption) ?_
      rotate_left
      · intro w' hSw; (try dsimp only at hSw); obtain ⟨hs0, hs1, hs2, hs3, hs4, hs5, hs6, hs7, hs8, hs9, hs10, hs11, hs12⟩ := hSw; (try clear hSw); go_simp; (try with_reducible rfl)
      (try simp only [Act.put, List.getElem_toArray, List.getElem_cons_zero, List.getElem_cons_succ, List.setIfInBounds_toArray, List.set_cons_zero, List.set_cons_succ])
      refine wpAnyH_take (i := 5) (v := ?_) rfl (by kernel_rfl) (by kernel_rfl) (by kernel_rfl) (fun _ _ _ h => h) (Or.inl ⟨by rfl, ?_⟩) (by assumption) ?_
      rotate_left
      · intro w' hSw; (try dsimp only at hSw); obtain ⟨hs0, hs1, hs2, hs3, hs4, hs5, hs6, hs7, hs8, hs9, hs10, hs11, hs12⟩ := hSw; (try clear hSw); go_simp; (try with_reducible rfl)
      (try simp only [Act.put, List.getElem_toArray, List.getElem_cons_zero, List.getElem_cons_succ, List.setIfInBounds_toArray, List.set_cons_zero, List.set_cons_succ])
      refine wpAnyH_take (i := 6) (v := ?_) rfl (by kernel_rfl) (by kernel_rfl) (by kernel_rfl) (fun _ _ _ h => h) (Or.inl ⟨by rfl, ?_⟩) (by assumption) ?_
      rotate_left
      · intro w' hSw; (try dsimp only at hSw); obtain ⟨hs0, hs1, hs2, hs3, hs4, hs5, hs6, hs7, hs8, hs9, hs10, hs11, hs12⟩ := hSw; (try clear hSw); go_simp; (try with_reducible rfl)
      (try simp only [Act.put, List.getElem_toArray, List.getElem_cons_zero, List.getElem_cons_succ, List.setIfInBounds_toArray, List.set_cons_zero, List.set_cons_succ])
      refine wpAnyH_take (i := 7) (v := ?_) rfl (by kernel_rfl) (by kernel_rfl) (by kernel_rfl) (fun _ _ _ h => h) (Or.inl ⟨by rfl, ?_⟩) (by assumption) ?_
      rotate_left
      · intro w' hSw; (try dsimp only at hSw); obtain ⟨hs0, hs1, hs2, hs3, hs4, hs5, hs6, hs7, hs8, hs9, hs10, hs11, hs12⟩ := hSw; (try clear hSw); go_simp; (try with_reducible rfl)
      (try simp only [Act.put, List.getElem_toArray, List.getElem_cons_zero, List.getElem_cons_succ, List.setIfInBounds_toArray, List.set_cons_zero, List.set_cons_succ])
      refine wpAnyH_take (i := 8) (v := ?_) rfl (by kernel_rfl) (by kernel_rfl) (by kernel_rfl) (fun _ _ _ h => h) (Or.inl ⟨by rfl, ?_⟩) (by assumption) ?_
      rotate_left
      · intro w' hSw; (try dsimp only at hSw); obtain ⟨hs0, hs1, hs2, hs3, hs4, hs5, hs6, hs7, hs8, hs9, hs10, hs11, hs12⟩ := hSw; (try clear hSw); go_simp; (try with_reducible rfl)
      (try simp only [Act.put, List.getElem_toArray, List.getElem_cons_zero, List.getElem_cons_succ, List.setIfInBounds_toArray, List.set_cons_zero, List.set_cons_succ])
      refine wpAnyH_take (i := 9) (v := ?_) rfl (by kernel_rfl) (by kernel_rfl) (by kernel_rfl) (fun _ _ _ h => h) (Or.inl ⟨by rfl, ?_⟩) (by assumption) ?_
      rotate_left
      · intro w' hSw; (try dsimp only at hSw); obtain ⟨hs0, hs1, hs2, hs3, hs4, hs5, hs6, hs7, hs8, hs9, hs10, hs11, hs12⟩ := hSw; (try clear hSw); go_simp; (try with_reducible rfl)
      (try simp only [Act.put, List.getElem_toArray, List.getElem_cons_zero, List.getElem_cons_succ, List.setIfInBounds_toArray, List.set_cons_zero, List.set_cons_succ])
      refine wpAnyH_take (i := 11) (v := ?_) rfl (by kernel_rfl) (by kernel_rfl) (by kernel_rfl) (fun _ _ _ h => h) (Or.inl ⟨by rfl, ?_⟩) (by assumption) ?_
      rotate_left
      · intro w' hSw; (try dsimp only at hSw); obtain ⟨hs0, hs1, hs2, hs3, hs4, hs5, hs6, hs7, hs8, hs9, hs10, hs11, hs12⟩ := hSw; (try clear hSw); go_simp; (try with_reducible rfl)
      (try simp only [Act.put, List.getElem_toArray, List.getElem_cons_zero, List.getElem_cons_succ, List.setIfInBounds_toArray, List.set_cons_zero, List.set_cons_succ])
      refine wpAnyH_ready (rs := [10]) (by kernel_rfl) (by simp) ?_
      refine AllReadyH.cons rfl (fun KK hKK => ?_) AllReadyH.nil
      go_simp
      ((with_reducible refine (CP1.out _).mono ?_); rintro e' v1 ⟨rfl, hb⟩; have HE1 := HE0.later hb; clear hb)
      (try go_simp)
      refine hKK.out _ _ HE1.atL.cells3 (fun hHeld => ?_)
      clear hKK KK
      (try simp only [Act.put, List.getElem_toArray, List.getElem_cons_zero, List.getElem_cons_succ, List.setIfInBounds_toArray, List.set_cons_zero, List.set_cons_succ])
      refine wpAnyH_ready (rs := [12]) (by kernel_rfl) (by simp) ?_
      refine AllReadyH.cons rfl (fun KK hKK => ?_) AllReadyH.nil
      go_simp
      ((with_reducible refine (CP2.out _).mono ?_); rintro e' v2 ⟨rfl, hb⟩; have HE2 := HE1.later hb; clear hb)
      (try go_simp)
      refine hKK.out _ _ HE2.atL.cells3 (fun hHeld => ?_)
      clear hKK KK
      (try simp only [Act.put, List.getElem_toArray, List.getElem_cons_zero, List.getElem_cons_succ, List.setIfInBounds_toArray, List.set_cons_zero, List.set_cons_succ])
      refine wpAnyH_take (i := 13) (v := ?_) rfl (by kernel_rfl) (by kernel_rfl) (by kernel_rfl) (fun _ _ _ h => h) (Or.inl ⟨by rfl, ?_⟩) (by assumption) ?_
      rotate_left
      · intro w' hSw; (try dsimp only at hSw); obtain ⟨hs0, hs1, hs2, hs3, hs4, hs5, hs6, hs7, hs8, hs9, hs10, hs11, hs12⟩ := hSw; (try clear hSw); go_simp; (try with_reducible rfl)
      (try simp only [Act.put, List.getElem_toArray, List.getElem_cons_zero, List.getElem_cons_succ, List.setIfInBounds_toArray, List.set_cons_zero, List.set_cons_succ])
      refine wpAnyH_take (i := 14) (v := ?_) rfl (by kernel_rfl) (by kernel_rfl) (by kernel_rfl) (fun _ _ _ h => h) (Or.inl ⟨by rfl, ?_⟩) (by assumption) ?_
      rotate_left
      · intro w' hSw; (try dsimp only at hSw); obtain ⟨hs0, hs1, hs2, hs3, hs4, hs5, hs6, hs7, hs8, hs9, hs10, hs11, hs12⟩ := hSw; (try clear hSw); go_simp; (try with_reducible rfl)
      (try simp only [Act.put, List.getElem_toArray, List.getElem_cons_zero, List.getElem_cons_succ, List.setIfInBounds_toArray, List.set_cons_zero, List.set_cons_succ])
      refine wpAnyH_take (i := 15) (v := ?_) rfl (by kernel_rfl) (by kernel_rfl) (by kernel_rfl) (fun _ _ _ h => h) (Or.inl ⟨by rfl, ?_⟩) (by assumption) ?_
      rotate_left
      · intro w' hSw; (try dsimp only at hSw); obtain ⟨hs0, hs1, hs2, hs3, hs4, hs5, hs6, hs7, hs8, hs9, hs10, hs11, hs12⟩ := hSw; (try clear hSw); go_simp; (try with_reducible rfl)
      (try simp only [Act.put, List.getElem_toArray, List.getElem_cons_zero, List.getElem_cons_succ, List.setIfInBounds_toArray, List.set_cons_zero, List.set_cons_succ])
      refine wpAnyH_take (i := 16) (v := ?_) rfl (by kernel_rfl) (by kernel_rfl) (by kernel_rfl) (fun _ _ _ h => h) (Or.inl ⟨by rfl, ?_⟩) (by assumption) ?_
      rotate_left
      · intro w' hSw; (try dsimp only at hSw); obtain ⟨hs0, hs1, hs2, hs3, hs4, hs5, hs6, hs7, hs8, hs9, hs10, hs11, hs12⟩ := hSw; (try clear hSw); go_simp; (try with_reducible rfl)
      (try simp only [Act.put, List.getElem_toArray, List.getElem_cons_zero, List.getElem_cons_succ, List.setIfInBounds_toArray, List.set_cons_zero, List.set_cons_succ])
      refine wpAnyH_take (i := 18) (v := ?_) rfl (by kernel_rfl) (by kernel_rfl) (by kernel_rfl) (fun _ _ _ h => h) (Or.inl ⟨by rfl, ?_⟩) (by assumption) ?_
      rotate_left
      · intro w' hSw; (try dsimp only at hSw); obtain ⟨hs0, hs1, hs2, hs3, hs4, hs5, hs6, hs7, hs8, hs9, hs10, hs11, hs12⟩ := hSw; (try clear hSw); go_simp; (try with_reducible rfl)
      (try simp only [Act.put, List.getElem_toArray, List.getElem_cons_zero, List.getElem_cons_succ, List.setIfInBounds_toArray, List.set_cons_zero, List.set_cons_succ])
      refine wpAnyH_ready (rs := [17]) (by kernel_rfl) (by simp) ?_
      refine AllReadyH.cons rfl (fun KK hKK => ?_) AllReadyH.nil
      go_simp
      ((with_reducible refine (CR1.out _).mono ?_); rintro e' v3 ⟨rfl, hb⟩; have HE3 := HE2.later hb; clear hb)
      (try go_simp)
      refine hKK.out _ _ HE3.atL.cells3 (fun hHeld => ?_)
      clear hKK KK
      (try simp only [Act.put, List.getElem_toArray, List.getElem_cons_zero, List.getElem_cons_succ, List.setIfInBounds_toArray, List.set_cons_zero, List.set_cons_succ])
      refine wpAnyH_ready (rs := [19]) (by kernel_rfl) (by simp) ?_
      refine AllReadyH.cons rfl (fun KK hKK => ?_) AllReadyH.nil
      go_simp
      ((with_reducible refine (CR2.out _).mono ?_); rintro e' v4 ⟨rfl, hb⟩; have HE4 := HE3.later hb; clear hb)
      (try go_simp)
      refine hKK.out _ _ HE4.atL.cells3 (fun hHeld => ?_)
      clear hKK KK
      (try simp only [Act.put, List.getElem_toArray, List.getElem_cons_zero, List.getElem_cons_succ, List.setIfInBounds_toArray, List.set_cons_zero, List.set_cons_succ])
      refine wpAnyH_take (i := 20) (v := ?_) rfl (by kernel_rfl) (by kernel_rfl) (by kernel_rfl) (fun _ _ _ h => h) (Or.inl ⟨by rfl, ?_⟩) (by assumption) ?_
      rotate_left
      · intro w' hSw; (try dsimp only at hSw); obtain ⟨hs0, hs1, hs2, hs3, hs4, hs5, hs6, hs7, hs8, hs9, hs10, hs11, hs12⟩ := hSw; (try clear hSw); go_simp; (try with_reducible rfl)
      (try simp only [Act.put, List.getElem_toArray, List.getElem_cons_zero, List.getElem_cons_succ, List.setIfInBounds_toArray, List.set_cons_zero, List.set_cons_succ])
      refine wpAnyH_take (i := 21) (v := ?_) rfl (by kernel_rfl) (by kernel_rfl) (by kernel_rfl) (fun _ _ _ h => h) (Or.inl ⟨by rfl, ?_⟩) (by assumption) ?_
      rotate_left
      · intro w' hSw; (try dsimp only at hSw); obtain ⟨hs0, hs1, hs2, hs3, hs4, hs5, hs6, hs7, hs8, hs9, hs10, hs11, hs12⟩ := hSw; (try clear hSw); go_simp; (try with_reducible rfl)
      (try simp only [Act.put, List.getElem_toArray, List.getElem_cons_zero, List.getElem_cons_succ, List.setIfInBounds_toArray, List.set_cons_zero, List.set_cons_succ])
      refine wpAnyH_take (i := 22) (v := ?_) rfl (by kernel_rfl) (by kernel_rfl) (by kernel_rfl) (fun _ _ _ h => h) (Or.inl ⟨by rfl, ?_⟩) (by assumption) ?_
      rotate_left
      · intro w' hSw; (try dsimp only at hSw); obtain ⟨hs0, hs1, hs2, hs3, hs4, hs5, hs6, hs7, hs8, hs9, hs10, hs11, hs12⟩ := hSw; (try clear hSw); go_simp; (try with_reducible rfl)
      (try simp only [Act.put, List.getElem_toArray, List.getElem_cons_zero, List.getElem_cons_succ, List.setIfInBounds_toArray, List.set_cons_zero, List.set_cons_succ])
      refine wpAnyH_take (i := 23) (v := ?_) rfl (by kernel_rfl) (by kernel_rfl) (by kernel_rfl) (fun _ _ _ h => h) (Or.inl ⟨by rfl, ?_⟩) (by assumption) ?_
      rotate_left
      · intro w' hSw; (try dsimp only at hSw); obtain ⟨hs0, hs1, hs2, hs3, hs4, hs5, hs6, hs7, hs8, hs9, hs10, hs11, hs12⟩ := hSw; (try clear hSw); go_simp; (try with_reducible rfl)
      (try simp only [Act.put, List.getElem_toArray, List.getElem_cons_zero, List.getElem_cons_succ, List.setIfInBounds_toArray, List.set_cons_zero, List.set_cons_succ])
      refine wpAnyH_take (i := 25) (v := ?_) rfl (by kernel_rfl) (by kernel_rfl) (by kernel_rfl) (fun _ _ _ h => h) (Or.inl ⟨by rfl, ?_⟩) (by assumption) ?_
      rotate_left
      · intro w' hSw; (try dsimp only at hSw); obtain ⟨hs0, hs1, hs2, hs3, hs4, hs5, hs6, hs7, hs8, hs9, hs10, hs11, hs12⟩ := hSw; (try clear hSw); go_simp; (try with_reducible rfl)
      (try simp only [Act.put, List.getElem_toArray, List.getElem_cons_zero, List.getElem_cons_succ, List.setIfInBounds_toArray, List.set_cons_zero, List.set_cons_succ])
      refine wpAnyH_ready (rs := [24]) (by kernel_rfl) (by simp) ?_
      refine AllReadyH.cons rfl (fun KK hKK => ?_) AllReadyH.nil
      go_simp
      ((with_reducible refine (CH1.out _).mono ?_); rintro e' v5 ⟨rfl, hb⟩; have HE5 := HE4.later hb; clear hb)
      (try go_simp)
      refine hKK.out _ _ HE5.atL.cells3 (fun hHeld => ?_)
      clear hKK KK
      (try simp only [Act.put, List.getElem_toArray, List.getElem_cons_zero, List.getElem_cons_succ, List.setIfInBounds_toArray, List.set_cons_zero, List.set_cons_succ])
      refine wpAnyH_ready (rs := [26]) (by kernel_rfl) (by simp) ?_
      refine AllReadyH.cons rfl (fun KK hKK => ?_) AllReadyH.nil
      go_simp
      ((with_reducible refine (CH2.out _).mono ?_); rintro e' v6 ⟨rfl, hb⟩; have HE6 := HE5.later hb; clear hb)
      (try go_simp)
      refine hKK.out _ _ HE6.atL.cells3 (fun hHeld => ?_)
      clear hKK KK
      (try simp only [Act.put, List.getElem_toArray, List.getElem_cons_zero, List.getElem_cons_succ, List.setIfInBounds_toArray, List.set_cons_zero, List.set_cons_succ])
      refine wpAnyH_take (i := 27) (v := ?_) rfl (by kernel_rfl) (by kernel_rfl) (by kernel_rfl) (fun _ _ _ h => h) (Or.inl ⟨by rfl, ?_⟩) (by assumption) ?_
      rotate_left
      · intro w' hSw; (try dsimp only at hSw); obtain ⟨hs0, hs1, hs2, hs3, hs4, hs5, hs6, hs7, hs8, hs9, hs10, hs11, hs12⟩ := hSw; (try clear hSw); go_simp; (try with_reducible rfl)
      (try simp only [Act.put, List.getElem_toArray, List.getElem_cons_zero, List.getElem_cons_succ, List.setIfInBounds_toArray, List.set_cons_zero, List.set_cons_succ])
      refine wpAnyH_take (i := 28) (v := ?_) rfl (by kernel_rfl) (by kernel_rfl) (by kernel_rfl) (fun _ _ _ h => h) (Or.inl ⟨by rfl, ?_⟩) (by assumption) ?_
      rotate_left
      · intro w' hSw; (try dsimp only at hSw); obtain ⟨hs0, hs1, hs2, hs3, hs4, hs5, hs6, hs7, hs8, hs9, hs10, hs11, hs12⟩ := hSw; (try clear hSw); go_simp; (try with_reducible rfl)
      (try simp only [Act.put, List.getElem_toArray, List.getElem_cons_zero, List.getElem_cons_succ, List.setIfInBounds_toArray, List.set_cons_zero, List.set_cons_succ])
      refine wpAnyH_take (i := 29) (v := ?_) rfl (by kernel_rfl) (by kernel_rfl) (by kernel_rfl) (fun _ _ _ h => h) (Or.inl ⟨by rfl, ?_⟩) (by assumption) ?_
      rotate_left
      · intro w' hSw; (try dsimp only at hSw); obtain ⟨hs0, hs1, hs2, hs3, hs4, hs5, hs6, hs7, hs8, hs9, hs10, hs11, hs12⟩ := hSw; (try clear hSw); go_simp; (try with_reducible rfl)
      (try simp only [Act.put, List.getElem_toArray, List.getElem_cons_zero, List.getElem_cons_succ, List.setIfInBounds_toArray, List.set_cons_zero, List.set_cons_succ])
      refine wpAnyH_take (i := 30) (v := ?_) rfl (by kernel_rfl) (by kernel_rfl) (by kernel_rfl) (fun _ _ _ h => h) (Or.inl ⟨by rfl, ?_⟩) (by assumption) ?_
      rotate_left
      · intro w' hSw; (try dsimp only at hSw); obtain ⟨hs0, hs1, hs2, hs3, hs4, hs5, hs6, hs7, hs8, hs9, hs10, hs11, hs12⟩ := hSw; (try clear hSw); go_simp; (try with_reducible rfl)
      (try simp only [Act.put, List.getElem_toArray, List.getElem_cons_zero, List.getElem_cons_succ, List.setIfInBounds_toArray, List.set_cons_zero, List.set_cons_succ])
      refine wpAnyH_take (i := 32) (v := ?_) rfl (by kernel_rfl) (by kernel_rfl) (by kernel_rfl) (fun _ _ _ h => h) (Or.inl ⟨by rfl, ?_⟩) (by assumption) ?_
      rotate_left
      · intro w' hSw; (try dsimp only at hSw); obtain ⟨hs0, hs1, hs2, hs3, hs4, hs5, hs6, hs7, hs8, hs9, hs10, hs11, hs12⟩ := hSw; (try clear hSw); go_simp; (try with_reducible rfl)
      (try simp only [Act.put, List.getElem_toArray, List.getElem_cons_zero, List.getElem_cons_succ, List.setIfInBounds_toArray, List.set_cons_zero, List.set_cons_succ])
      refine wpAnyH_ready (rs := [31]) (by kernel_rfl) (by simp) ?_
      refine AllReadyH.cons rfl (fun KK hKK => ?_) AllReadyH.nil
      go_simp
      ((with_reducible refine (CT1.out _).mono ?_); rintro e' v7 ⟨rfl, hb⟩; have HE7 := HE6.later hb; clear hb)
      (try go_simp)
      refine hKK.out _ _ HE7.atL.cells3 (fun hHeld => ?_)
      clear hKK KK
      (try simp only [Act.put, List.getElem_toArray, List.getElem_cons_zero, List.getElem_cons_succ, List.setIfInBounds_toArray, List.set_cons_zero, List.set_cons_succ])
      refine wpAnyH_ready (rs := [33]) (by kernel_rfl) (by simp) ?_
      refine AllReadyH.cons rfl (fun KK hKK => ?_) AllReadyH.nil
      go_simp
      ((with_reducible refine (CT2.out _).mono ?_); rintro e' v8 ⟨rfl, hb⟩; have HE8 := HE7.later hb; clear hb)
      (try go_simp)
      refine hKK.out _ _ HE8.atL.cells3 (fun hHeld => ?_)
      clear hKK KK
      (try simp only [Act.put, List.getElem_toArray, List.getElem_cons_zero, List.getElem_cons_succ, List.setIfInBounds_toArray, List.set_cons_zero, List.set_cons_succ])
      refine wpAnyH_take (i := 34) (v := ?_) rfl (by kernel_rfl) (by kernel_rfl) (by kernel_rfl) (fun _ _ _ h => h) (Or.inl ⟨by rfl, ?_⟩) (by assumption) ?_
      rotate_left
      · intro w' hSw; (try dsimp only at hSw); obtain ⟨hs0, hs1, hs2, hs3, hs4, hs5, hs6, hs7, hs8, hs9, hs10, hs11, hs12⟩ := hSw; (try clear hSw); go_simp; (try with_reducible rfl)
      (try simp only [Act.put, List.getElem_toArray, List.getElem_cons_zero, List.getElem_cons_succ, List.setIfInBounds_toArray, List.set_cons_zero, List.set_cons_succ])
      refine wpAnyH_take (i := 35) (v := ?_) rfl (by kernel_rfl) (by kernel_rfl) (by kernel_rfl) (fun _ _ _ h => h) (Or.inl ⟨by rfl, ?_⟩) (by assumption) ?_
      rotate_left
      · intro w' hSw; (try dsimp only at hSw); obtain ⟨hs0, hs1, hs2, hs3, hs4, hs5, hs6, hs7, hs8, hs9, hs10, hs11, hs12⟩ := hSw; (try clear hSw); go_simp; (try with_reducible rfl)
      (try simp only [Act.put, List.getElem_toArray, List.getElem_cons_zero, List.getElem_cons_succ, List.setIfInBounds_toArray, List.set_cons_zero, List.set_cons_succ])
      refine wpAnyH_done (by kernel_rfl) ?_ _
      refine normQ_in ?_
      clear hHeld
      gi_wp2
      exact ⟨HE8.kw, HE8.kp, by dsimp only; rw [HPK.out, ← HY.out]; exact HE8.si⟩
    case done =>
      rintro ys V rfl hI hK hs2
      rw [path_len, upto_all, HN.out] at hI
      have HA := hi (fun (W : World) (q : Below w.heap.size w W) => after_any x ks (.slice a0 n cap) W (H.out.below q) (by rw [HN.out]; exact hl'))
      obtain ⟨u, hu⟩ : ∃ u, x.run ks = u := ⟨_, rfl⟩
      rw [hu] at hI HA
      have HK := hi hK
      clear hu hK
      dsimp only [St.v] at HA
      have HD0 := hI.drew
      gi_wp2
      refine wpIn_wide.2 ?_
      refine wp_region_noPanic ?_
      refine wp_region_held_drew (S := SF w b6 b7 b8 x u a0 n cap) mixed HD0.sf (fun hHeld => ?_)
      (try simp only [Array.replicate_succ, Array.replicate_zero, List.push_toArray, List.nil_append, List.cons_append])
      refine wpAnyH_take (i := 0) (v := ?_) rfl (by kernel_rfl) (by kernel_rfl) (by kernel_rfl) (fun _ _ _ h => h) (Or.inl ⟨by rfl, ?_⟩) (by assumption) ?_
      rotate_left
      · intro w' hSw; obtain ⟨hs0, hs1, hs2, hs3, hs4, hs5, hs6, hs7, hs8, hs9⟩ := hSw.cells; (try clear hSw); go_simp; (try with_reducible rfl)
      (try simp only [Act.put, List.getElem_toArray, List.getElem_cons_zero, List.setIfInBounds_toArray, List.set_cons_zero, List.set_cons_succ])
      refine wpAnyH_take (i := 1) (v := ?_) rfl (by kernel_rfl) (by kernel_rfl) (by kernel_rfl) (fun _ _ _ h => h) (Or.inl ⟨by rfl, ?_⟩) (by assumption) ?_
      rotate_left
      · intro w' hSw; obtain ⟨hs0, hs1, hs2, hs3, hs4, hs5, hs6, hs7, hs8, hs9⟩ := hSw.cells; (try clear hSw); go_simp; (try with_reducible rfl)
      (try simp only [Act.put, List.getElem_toArray, List.getElem_cons_zero, List.getElem_cons_succ, List.setIfInBounds_toArray, List.set_cons_zero, List.set_cons_succ])
      refine wpAnyH_take (i := 2) (v := ?_) rfl (by kernel_rfl) (by kernel_rfl) (by kernel_rfl) (fun _ _ _ h => h) (Or.inl ⟨by rfl, ?_⟩) (by assumption) ?_
      rotate_left
      · intro w' hSw; obtain ⟨hs0, hs1, hs2, hs3, hs4, hs5, hs6, hs7, hs8, hs9⟩ := hSw.cells; (try clear hSw); go_simp; (try with_reducible rfl)
      (try simp only [Act.put, List.getElem_toArray, List.getElem_cons_zero, List.getElem_cons_succ, List.setIfInBounds_toArray, List.set_cons_zero, List.set_cons_succ])
      refine wpAnyH_take (i := 3) (v := ?_) rfl (by kernel_rfl) (by kernel_rfl) (by kernel_rfl) (fun _ _ _ h => h) (Or.inl ⟨by rfl, ?_⟩) (by assumption) ?_
      rotate_left
      · intro w' hSw; obtain ⟨hs0, hs1, hs2, hs3, hs4, hs5, hs6, hs7, hs8, hs9⟩ := hSw.cells; (try clear hSw); go_simp; (try with_reducible rfl)
      (try simp only [Act.put, List.getElem_toArray, List.getElem_cons_zero, List.getElem_cons_succ, List.setIfInBounds_toArray, List.set_cons_zero, List.set_cons_succ])
      refine wpAnyH_take (i := 4) (v := ?_) rfl (by kernel_rfl) (by kernel_rfl) (by kernel_rfl) (fun _ _ _ h => h) (Or.inl ⟨by rfl, ?_⟩) (by assumption) ?_
      rotate_left
      · intro w' hSw; obtain ⟨hs0, hs1, hs2, hs3, hs4, hs5, hs6, hs7, hs8, hs9⟩ := hSw.cells; (try clear hSw); go_simp; (try with_reducible rfl)
      (try simp only [Act.put, List.getElem_toArray, List.getElem_cons_zero, List.getElem_cons_succ, List.setIfInBounds_toArray, List.set_cons_zero, List.set_cons_succ])
      refine wpAnyH_take (i := 5) (v := ?_) rfl (by kernel_rfl) (by kernel_rfl) (by kernel_rfl) (fun _ _ _ h => h) (Or.inl ⟨by rfl, ?_⟩) (by assumption) ?_
      rotate_left
      · intro w' hSw; obtain ⟨hs0, hs1, hs2, hs3, hs4, hs5, hs6, hs7, hs8, hs9⟩ := hSw.cells; (try clear hSw); go_simp; (try with_reducible rfl)
      (try simp only [Act.put, List.getElem_toArray, List.getElem_cons_zero, List.getElem_cons_succ, List.setIfInBounds_toArray, List.set_cons_zero, List.set_cons_succ])
      refine wpAnyH_take (i := 6) (v := ?_) rfl (by kernel_rfl) (by kernel_rfl) (by kernel_rfl) (fun _ _ _ h => h) (Or.inl ⟨by rfl, ?_⟩) (by assumption) ?_
      rotate_left
      · intro w' hSw; obtain ⟨hs0, hs1, hs2, hs3, hs4, hs5, hs6, hs7, hs8, hs9⟩ := hSw.cells; (try clear hSw); go_simp; (try with_reducible rfl)
      (try simp only [Act.put, List.getElem_toArray, List.getElem_cons_zero, List.getElem_cons_succ, List.setIfInBounds_toArray, List.set_cons_zero, List.set_cons_succ])
      refine wpAnyH_take (i := 7) (v := ?_) rfl (by kernel_rfl) (by kernel_rfl) (by kernel_rfl) (fun _ _ _ h => h) (Or.inl ⟨by rfl, ?_⟩) (by assumption) ?_
      rotate_left
      · intro w' hSw; obtain ⟨hs0, hs1, hs2, hs3, hs4, hs5, hs6, hs7, hs8, hs9⟩ := hSw.cells; (try clear hSw); go_simp; (try with_reducible rfl)
      (try simp only [Act.put, List.getElem_toArray, List.getElem_cons_zero, List.getElem_cons_succ, List.setIfInBounds_toArray, List.set_cons_zero, List.set_cons_succ])
      refine wpAnyH_take (i := 8) (v := ?_) rfl (by kernel_rfl) (by kernel_rfl) (by kernel_rfl) (fun _ _ _ h => h) (Or.inl ⟨by rfl, ?_⟩) (by assumption) ?_
      rotate_left
      · intro w' hSw; obtain ⟨hs0, hs1, hs2, hs3, hs4, hs5, hs6, hs7, hs8, hs9⟩ := hSw.cells; (try clear hSw); go_simp; (try with_reducible rfl)
      (try simp only [Act.put, List.getElem_toArray, List.getElem_cons_zero, List.getElem_cons_succ, List.setIfInBounds_toArray, List.set_cons_zero, List.set_cons_succ])
      refine wpAnyH_take (i := 9) (v := ?_) rfl (by kernel_rfl) (by kernel_rfl) (by kernel_rfl) (fun _ _ _ h => h) (Or.inl ⟨by rfl, ?_⟩) (by assumption) ?_
      rotate_left
      · intro w' hSw; obtain ⟨hs0, hs1, hs2, hs3, hs4, hs5, hs6, hs7, hs8, hs9⟩ := hSw.cells; (try clear hSw); go_simp; (try with_reducible rfl)
      (try simp only [Act.put, List.getElem_toArray, List.getElem_cons_zero, List.getElem_cons_succ, List.setIfInBounds_toArray, List.set_cons_zero, List.set_cons_succ])
      refine wpAnyH_take (i := 11) (v := ?_) rfl (by kernel_rfl) (by kernel_rfl) (by kernel_rfl) (fun _ _ _ h => h) (Or.inl ⟨by rfl, ?_⟩) (by assumption) ?_
      rotate_left
      · intro w' hSw; obtain ⟨hs0, hs1, hs2, hs3, hs4, hs5, hs6, hs7, hs8, hs9⟩ := hSw.cells; (try clear hSw); go_simp; (try with_reducible rfl)
      (try simp only [Act.put, List.getElem_toArray, List.getElem_cons_zero, List.getElem_cons_succ, List.setIfInBounds_toArray, List.set_cons_zero, List.set_cons_succ])
      refine wpAnyH_ready (rs := [10]) (by kernel_rfl) (by simp) ?_
      refine AllReadyH.cons rfl (fun KK hKK => ?_) AllReadyH.nil
      go_simp
      ((with_reducible refine (HA.out _ HD0.below).mono ?_); rintro e' v1 ⟨rfl, hb⟩; have HD1 := HD0.later hb; have hk1 := (hb.block w3.heap.size (by have := (Array.getElem?_eq_some_iff.1 HK.out).1; exact this)).trans HK.out; clear hb)
      (try go_simp)
      refine hKK.out _ _ HD1.sf (fun hHeld => ?_)
      clear hKK KK
      (try simp only [Act.put, List.getElem_toArray, List.getElem_cons_zero, List.getElem_cons_succ, List.setIfInBounds_toArray, List.set_cons_zero, List.set_cons_succ])
      refine wpAnyH_take (i := 12) (v := ?_) rfl (by kernel_rfl) (by kernel_rfl) (by kernel_rfl) (fun _ _ _ h => h) (Or.inl ⟨by rfl, ?_⟩) (by assumption) ?_
      rotate_left
      · intro w' hSw; obtain ⟨hs0, hs1, hs2, hs3, hs4, hs5, hs6, hs7, hs8, hs9⟩ := hSw.cells; (try clear hSw); go_simp; (try with_reducible rfl)
      (try simp only [Act.put, List.getElem_toArray, List.getElem_cons_zero, List.getElem_cons_succ, List.setIfInBounds_toArray, List.set_cons_zero, List.set_cons_succ])
      refine wpAnyH_take (i := 13) (v := ?_) rfl (by kernel_rfl) (by kernel_rfl) (by kernel_rfl) (fun _ _ _ h => h) (Or.inl ⟨by rfl, ?_⟩) (by assumption) ?_
      rotate_left
      · intro w' hSw; obtain ⟨hs0, hs1, hs2, hs3, hs4, hs5, hs6, hs7, hs8, hs9⟩ := hSw.cells; (try clear hSw); go_simp; (try with_reducible rfl)
      (try simp only [Act.put, List.getElem_toArray, List.getElem_cons_zero, List.getElem_cons_succ, List.setIfInBounds_toArray, List.set_cons_zero, List.set_cons_succ])
      refine wpAnyH_ready (rs := [14]) (by kernel_rfl) (by simp) ?_
      refine AllReadyH.cons rfl (fun KK hKK => ?_) AllReadyH.nil
      have zr := HD1.res.cell 0
      simp only [List.getElem?_toArray, List.getElem?_cons_zero] at zr
      have zf := HD1.res.frozen
      go_simp
      clear zr zf
      refine hKK.out _ _ (HD1.sf_set' e6 e7 e8 true) (fun hHeld => ?_)
      clear hKK KK
      (try simp only [Act.put, List.getElem_toArray, List.getElem_cons_zero, List.getElem_cons_succ, List.setIfInBounds_toArray, List.set_cons_zero, List.set_cons_succ])
      refine wpAnyH_done (by kernel_rfl) ?_ _
      refine NoPanic.normal ?_
      clear hHeld
      gi_wp2
      have hK' : (v1.setCell ⟨w.heap.size + 2, 0, none⟩ (.bool true)).heap[w3.heap.size]? = some (.deferred (some [])) := (Below.heap_setCell _ ⟨w.heap.size + 2, 0, none⟩ _ _ (show w3.heap.size ≠ w.heap.size + 2 by omega)).trans hk1
      refine ⟨by simp, .inl ⟨_, _, rfl, run_takeDeferred hK', ?_⟩⟩
      have hz : CB (v1.setCell ⟨w.heap.size + 2, 0, none⟩ (.bool true)) (w.heap.size + 2) 4 #[.bool true] := HD1.res.set 0 _
      have hb4 : Below w.heap.size w (v1.setCell ⟨w.heap.size + 2, 0, none⟩ (.bool true)) := below_set HD1.below (by omega) _
      exact ⟨_, results_boolcell rfl _ _ (w.heap.size + 2) true rfl ((World.putObj_heap_other (by omega)).trans hz), rfl, hb4.grown (grownBy_putObj' _ _ _) (by have := hb4.size; omega) (fun k e => by cases e; omega)⟩
    case stop =>
      rintro cd pre V _ h _
      exact h.elim

end Go.Proofs.Ytjcgcnghjcbkeaa
