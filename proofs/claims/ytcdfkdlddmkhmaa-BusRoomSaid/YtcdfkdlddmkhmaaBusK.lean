/-
  Free, and its iterator: the free ranges, one after the other.
-/
import Derived.Test.YtcdfkdlddmkhmaaBusJ
namespace Go.Proofs.Ytcdfkdlddmkhmaa
open Go.ChangeShapes Go.WideShapes Go.ChangeAt Go.RowKit Go.Shelf
set_option linter.unusedVariables false
attribute [local go_sem] Oper.semAt_some

theorem free_any (p : Nat) (fin : Int) (w : World) :
    Calls Try.prog 32 #[.pointer (some ⟨p, 0, none⟩), .int .i64 fin] w fun e w' => e = .returned (.func (.func 40) #[] #[.pointer (some ⟨w.heap.size, 0, none⟩), .pointer (some ⟨w.heap.size + 1, 0, none⟩)]) ∧
      w' = (w.alloc (.cells #[.pointer (some ⟨p, 0, none⟩)] 24)).alloc (.cells #[.int .i64 fin] 3) := by
  go_enter Try.func32, Try.ntmps32
  go_wp2
  go_ret
  exact ⟨rfl, rfl⟩

/-- What a round over free ranges keeps. -/
structure KpF (n₀ c B : Nat) (W W' : World) : Prop where
  below : Below n₀ W W'
  win : ∀ i, (c ≤ i ∧ i < c + 2) ∨ (B ≤ i ∧ i < B + 5) → W'.heap[i]? = W.heap[i]?
  sp : ∀ i x, SpBox W i x → SpBox W' i x
theorem KpF.trans {n₀ c B : Nat} {X Y Z : World} (h : KpF n₀ c B X Y) (k : KpF n₀ c B Y Z) : KpF n₀ c B X Z :=
  ⟨h.below.trans k.below, fun i hi => (k.win i hi).trans (h.win i hi), fun i x hx => k.sp i x (h.sp i x hx)⟩
theorem KpF.of_below {n₀ c B : Nat} {W W' : World} (h : Below W.heap.size W W') (hn : n₀ ≤ W.heap.size) (hc : c + 2 ≤ W.heap.size) (hB : B + 5 ≤ W.heap.size) : KpF n₀ c B W W' :=
  ⟨h.mono hn, fun i hi => h.block i (by omega), fun i x hx => (h.block i hx.lt).trans hx⟩

theorem gapsTo_prefix {fin : Int} {pre xs : List Sp} (h : pre <+: xs) : (gapsTo fin pre).1 <+: gapsFrom fin 0 xs := by
  obtain ⟨r, rfl⟩ := h
  have key : ∀ (r : List Sp) (q : List (Int × Int) × Int), q.1 <+: (r.foldl (fun p x => (p.1 ++ gap1 p.2 (min x.b fin), x.b + x.s)) q).1 := by
    intro r
    induction r with
    | nil => intro q; exact List.prefix_refl _
    | cons x r ih => intro q; simp only [List.foldl_cons]; exact (List.prefix_append q.1 (gap1 q.2 (min x.b fin))).trans (ih (q.1 ++ gap1 q.2 (min x.b fin), x.b + x.s))
  rw [gaps_all]
  refine List.IsPrefix.trans ?_ (List.prefix_append _ _)
  have := key r (gapsTo fin pre)
  simpa [gapsTo, List.foldl_append] using this

/-- The iterator's own boxes, and those that it has captured. -/
structure FB (l c p B : Nat) (fin at' : Int) (V : World) : Prop where
  y : Boxed V B 70 (.func (.yield l) #[] #[])
  a : Boxed V (B + 1) 3 (.int .i64 at')
  p : Boxed V c 24 (.pointer (some ⟨p, 0, none⟩))
  f : Boxed V (c + 1) 3 (.int .i64 fin)
theorem FB.kept {l c p B : Nat} {fin at' : Int} {V V' : World} (h : FB l c p B fin at' V) (k : ∀ i, (c ≤ i ∧ i < c + 2) ∨ (B ≤ i ∧ i < B + 5) → V'.heap[i]? = V.heap[i]?) : FB l c p B fin at' V' :=
  ⟨(k _ (by omega)).trans h.y, (k _ (by omega)).trans h.a, (k _ (by omega)).trans h.p, (k _ (by omega)).trans h.f⟩
theorem FB.below {l c p B : Nat} {fin at' : Int} {V V' : World} (h : FB l c p B fin at' V) (k : Below V.heap.size V V') : FB l c p B fin at' V' :=
  ⟨(k.block _ h.y.lt).trans h.y, (k.block _ h.a.lt).trans h.a, (k.block _ h.p.lt).trans h.p, (k.block _ h.f.lt).trans h.f⟩
theorem FB.set {l c p B : Nat} {fin at' : Int} {V : World} (h : FB l c p B fin at' V) (hc : c + 2 ≤ B) (v : Int) : FB l c p B fin v (V.setCell ⟨B + 1, 0, none⟩ (.int .i64 v)) :=
  ⟨box_other h.y _ _ _ (by omega), Boxed.set _ h.a, box_other h.p _ _ _ (by omega), box_other h.f _ _ _ (by omega)⟩
theorem FB.abL {β : Type} {l c p B : Nat} {fin : Int} {f : β → Int} (hc : c + 2 ≤ B) : AbL (B + 3) 0 (fun s V => FB l c p B fin (f s) V) := fun s A A' row hs hg hr => by
  have K : ∀ i, i < B + 3 → i < A.heap.size → A'.heap[i]? = A.heap[i]? := fun i h1 h2 => hg.block i h2 (fun e => by rcases hr i e.symm with ⟨h3, _⟩ | ⟨h3, _⟩ <;> omega)
  exact ⟨(K _ (by omega) hs.y.lt).trans hs.y, (K _ (by omega) hs.a.lt).trans hs.a, (K _ (by omega) hs.p.lt).trans hs.p, (K _ (by omega) hs.f.lt).trans hs.f⟩

set_option maxRecDepth 100000 in
set_option maxHeartbeats 8000000 in
theorem free1_any (l c lo n₀ p : Nat) (sv : Value) (xs : List Sp) (fin : Int) (J Jx : List (Int × Int) → World → Prop) (W : World) (hc : c + 2 ≤ W.heap.size) (hn₀ : n₀ ≤ c) (hJ : AbW W.heap.size 5 J) (hJx : AbW W.heap.size 5 Jx)
    (hY : ∀ (pre : List (Int × Int)) (g : Int × Int) (W1 : World), J pre W1 → pre ++ [g] <+: gapsFrom fin 0 xs → W.heap.size + 5 ≤ W1.heap.size → ∀ m, YieldAt Fence.wide m Try.prog l #[.int .i64 g.1, .int .i64 g.2] W1 fun e W' =>
      (e = .returned (.bool true) ∧ J (pre ++ [g]) W' ∧ KpF n₀ c W.heap.size W1 W') ∨ (e = .returned (.bool false) ∧ Jx (pre ++ [g]) W' ∧ KpF n₀ c W.heap.size W1 W'))
    (b0 : Boxed W c 24 (.pointer (some ⟨p, 0, none⟩))) (b1 : Boxed W (c + 1) 3 (.int .i64 fin)) (hb : BusAt lo n₀ W p sv xs) (hR : Row xs) (hf0 : -9223372036854775808 ≤ fin) (hf1 : fin ≤ 9223372036854775807) (h0 : J [] W) :
    Calls Try.prog 40 #[.func (.yield l) #[] #[], .pointer (some ⟨c, 0, none⟩), .pointer (some ⟨c + 1, 0, none⟩)] W fun e W' => (∃ v, e = .returned v) ∧
      ((∃ ys, ys = gapsFrom fin 0 xs ∧ J ys W') ∨ (∃ pre, pre <+: gapsFrom fin 0 xs ∧ Jx pre W')) := by
  obtain ⟨w2, hw2⟩ : ∃ w2, (W.alloc (.cells #[.func (.yield l) #[] #[]] 70)).alloc (.cells #[.int .i64 0] 3) = w2 := ⟨_, rfl⟩
  have hB2 : Below W.heap.size W w2 := by rw [← hw2]; exact (bal W _).alloc (by simp) _
  have hz2 : w2.heap.size = W.heap.size + 2 := by rw [← hw2]; simp
  have hFB2 : FB l c p W.heap.size fin 0 w2 := by
    have e := Boxed.new (W.alloc (.cells #[.func (.yield l) #[] #[]] 70)) 3 (.int .i64 0)
    rw [World.size_alloc] at e
    refine ⟨?_, by rw [← hw2]; exact e, (hB2.block _ b0.lt).trans b0, (hB2.block _ b1.lt).trans b1⟩
    rw [← hw2]
    exact (Boxed.new W _ _).alloc _
  have hb2 := hb.below hB2 (by omega)
  have HS := hi (spans_any lo n₀ p sv xs w2 hb2)
  obtain ⟨w3, hw3⟩ : ∃ w3, w2.alloc (.cells #[sv] 22) = w3 := ⟨_, rfl⟩
  have hB3 : Below w2.heap.size w2 w3 := by rw [← hw3]; exact bal w2 _
  have hz3 : w3.heap.size = W.heap.size + 3 := by rw [← hw3]; simp; omega
  have hstop := values_stops (W.heap.size + 2) lo n₀ sv xs w3 (by omega) (by omega) (by rw [← hw3, ← hz2]; exact (Boxed.new w2 _ _).cell) ((hb2.below hB3 (by omega)).sp)
  have hB03 : Below n₀ W w3 := (hB2.mono (by omega)).trans (hB3.mono (by omega))
  have hFB3 := hFB2.below hB3
  have hJ3 : J [] w3 := by rw [← hw3, ← hw2]; exact hJ.alloc _ (hJ.alloc _ (hJ.alloc _ h0))
  have zp := b0.cell
  have hcl : c < W.heap.size := by omega
  have hexp : Calls Try.prog 30 #[.pointer (some ⟨p, 0, none⟩)] ((W.alloc (.cells #[.func (.yield l) #[] #[]] 70)).alloc (.cells #[.int .i64 0] 3)) fun e w' => e = .returned (.func (.func 38) #[] #[.pointer (some ⟨W.heap.size + 2, 0, none⟩)]) ∧ w' = w3 := by
    rw [hw2]
    exact HS.out.mono fun e w' ⟨h1, h2⟩ => ⟨by rw [h1, hz2], by rw [h2, hw3]⟩
  have HEXP := hi hexp
  have HW2 := hi hw2
  have HW3 := hi hw3
  have HOK := hi hR.ok
  have HYY := hi hY
  have HJ := hi hJ
  have HJX := hi hJx
  clear hFB2 hb2 hb hR b0 b1 h0 hY hJx hexp hw2 hw3 HS
  refine (callsIn_wide (n := 6)).1 ?_
  refine callsIn_of_wp_marks Try.func40 rfl trivial ?_ rfl
  simp only [Try.ntmps40, List.size_toArray, List.length_cons, List.length_nil, Nat.reduceAdd, Nat.reduceSub, Array.replicate_succ, Array.replicate_zero, List.push_toArray, List.append_toArray, List.nil_append, List.cons_append]
  gi_wp2_with (first
    | (refine ⟨trivial, ?_⟩; gi_at_call 30; ((with_reducible refine (callsIn_wide.2 HEXP.out).mono ?_); rintro e w1 ⟨rfl, rfl⟩))
    | gi_in)
  refine range_win (n := 6) (by omega) (gf := 38) (lb := #[.pointer (some ⟨W.heap.size + 2, 0, none⟩)]) rfl (enters_of Try.func38 (by kernel_rfl) rfl)
    hstop (fun a b => belowK_t a b) (belowK2 (by omega)) (Below.refl _ _) (fun _ => rfl)
    (fun pre V => (J (gapsTo fin pre).1 V ∧ FB l c p W.heap.size fin (gapsTo fin pre).2 V) ∧ Below n₀ W V)
    (fun cd pre V => (cd = .ret ∧ ∃ gs, gs <+: gapsFrom fin 0 xs ∧ Jx gs V) ∧ Below n₀ W V)
    (AbL.and (AbL.and (AbL.of (m := 2) (fun s A A' row hs hg hr => HJ.out _ A A' row hs hg (fun r e => by have := hr r e; omega)) rfl) (by rw [hz3]; exact FB.abL hc)) (AbL.below (by omega) (by omega)))
    (fun cd => AbL.and (AbL.of (m := 2) (fun s A A' row hs hg hr => ⟨hs.1, by obtain ⟨gs, e1, e2⟩ := hs.2; exact ⟨gs, e1, HJX.out _ A A' row e2 hg (fun r e => by have := hr r e; omega)⟩⟩) rfl) (AbL.below (by omega) (by omega)))
    ⟨⟨hJ3, hFB3⟩, hB03⟩
    (fun x a' V => ∃ Bx, W.heap.size + 5 ≤ Bx ∧ SpBox V Bx x ∧ a' = { tmps := #[.func (.yield l) #[] #[], .pointer (some ⟨c, 0, none⟩), .pointer (some ⟨c + 1, 0, none⟩), .pointer (some ⟨W.heap.size, 0, none⟩), .pointer (some ⟨W.heap.size + 1, 0, none⟩), .pointer (some ⟨Bx, 0, none⟩), undef, .pointer (some ⟨p, 0, none⟩), .func (.func 38) #[] #[.pointer (some ⟨W.heap.size + 2, 0, none⟩)], x.v, undef, undef, undef, undef, undef, undef, undef, undef, undef, undef, undef, undef, undef, undef, undef, undef, undef, undef, undef, undef, undef, undef, undef, undef, undef, undef, undef], defers := [] })
    (fun x a' => AbL.own (fun s A B row hs hg hr => by obtain ⟨Bx, e0, e1, e2⟩ := hs; exact ⟨Bx, e0, SpBox.own () A B row e1 hg hr, e2⟩))
    ?assign ?body ?done ?stop
  case assign =>
    rintro l' pre x V K ⟨⟨hj, hF⟩, hB⟩ hsz hK
    gi_wp2
    exact hK _ _ (KW.of_below (bal V _)) ((bal V _).mono (by have := hB.size; omega)) ⟨⟨HJ.out.alloc _ hj, hF.below (bal V _)⟩, hB.trans ((bal V _).mono (by have := hB.size; omega))⟩ ⟨V.heap.size, by omega, SpBox.new V x, rfl⟩
  case body =>
    rintro l' pre x a' V hsz ⟨⟨hj, hF⟩, hB⟩ ⟨Bx, hBx, hx, rfl⟩ hpx
    have hmem : x ∈ xs := by obtain ⟨r, hr⟩ := hpx; rw [← hr]; simp
    have okx := HOK.out x hmem
    have hAp := gapsTo_end (fin := fin) (l := pre) (fun z hz => HOK.out z (by obtain ⟨r, hr⟩ := hpx; rw [← hr]; simp [hz]))
    have hsn := gapsTo_snoc fin pre x
    have hpg := gapsTo_prefix (fin := fin) hpx
    obtain ⟨T, hT⟩ : ∃ T, (gapsTo fin pre).1 = T := ⟨_, rfl⟩
    obtain ⟨A, hA⟩ : ∃ A, (gapsTo fin pre).2 = A := ⟨_, rfl⟩
    rw [hT, hA] at hsn
    rw [hT] at hj
    rw [hA] at hF hAp
    rw [hsn] at hpg
    obtain ⟨hA0, hA1⟩ := hAp
    have hxb := okx.b0
    have hxs := okx.s1
    have hxe := okx.e1
    have HAF := hi (fun W => after_any x W okx)
    obtain ⟨z0, z1, z2, z3⟩ := hx.cells
    have zf := hF.f.cell
    have za := hF.a.cell
    have zy := hF.y.cell
    have HSN := hi hsn
    have HPG := hi hpg
    have HJV := hi hj
    have HF := hi hF
    have HB := hi hB
    have HX := hi hx
    clear hmem okx hT hA hsn hpg hj hF hB hx hpx zp
    have hMb : min x.b fin ≤ x.b := by omega
    obtain ⟨M, hmin⟩ : ∃ M, min x.b fin = M := ⟨_, rfl⟩
    rw [hmin] at hMb
    have HMIN := hi hmin
    by_cases h2 : A < M
    · have t2 : decide (A < M) = true := by simpa using h2
      have hw : IntKind.i64.wrap (M - A) = M - A := by rw [IntKind.wrap_i64]; omega
      have hg1 := gap1_yes h2
      have hpg2 : T ++ [(A, M - A)] <+: gapsFrom fin 0 xs := by rw [← hg1, ← HMIN.out]; exact HPG.out
      have HPG2 := hi hpg2
      obtain ⟨fn, tmps, assign, body, hy, hRd⟩ := HYY.out T (A, M - A) V HJV.out hpg2 (by omega) (6 - 1 - 1 - 1)
      dsimp only at hy
      have HSN2 := hi (show gapsTo fin (pre ++ [x]) = (T ++ [(A, M - A)], x.b + x.s) by rw [HSN.out, HMIN.out, hg1])
      clear hg1 hpg2 h2
      gi_wp2
      refine hRd.mono ?_
      rintro e W3 (⟨rfl, hJ3, hk3⟩ | ⟨rfl, hJx3, hk3⟩)
      · have hx3 := hk3.sp _ _ HX.out
        have hF3 := HF.out.kept hk3.win
        have y0 := hx3.cells
        have y1 := hF3.a.cell
        have y2 := hF3.a.frozen
        obtain ⟨x0, x1, x2, x3⟩ := y0
        have HK3 := hi hk3
        have HF3 := hi hF3
        have HJ3 := hi hJ3
        have hlt3 : W.heap.size + 1 < W3.heap.size := hF3.a.lt
        clear hx3 hF3 hk3 hJ3 z0 z1 z2 z3 zf za zy
        gi_wp2_with (first
          | (refine ⟨trivial, ?_⟩; gi_at_call 27; ((with_reducible refine (CallsIn.inRound l' (callsIn_wide.2 (HAF.out W3))).mono ?_); rintro e w4 ⟨rfl, rfl⟩))
          | gi_in)
        have hB3' := HK3.out.below.size
        have hS : Below n₀ W3 (W3.setCell ⟨W.heap.size + 1, 0, none⟩ (.int .i64 (x.b + x.s))) := (Below.refl n₀ W3).setCell (p := ⟨W.heap.size + 1, 0, none⟩) (show n₀ ≤ W.heap.size + 1 by omega) _
        have hBW := hS.trans ((bal (W3.setCell ⟨W.heap.size + 1, 0, none⟩ (.int .i64 (x.b + x.s))) (.cells #[.int .i64 x.b, .int .i64 x.s, .int .i64 x.k, .int .i64 x.i] 33)).mono (by have := hS.size; omega))
        have hF4 := (HF3.out.set hc (x.b + x.s)).below (bal _ (.cells #[.int .i64 x.b, .int .i64 x.s, .int .i64 x.k, .int .i64 x.i] 33))
        have hKW : KW w1.heap.size V W3 := ⟨hB3', fun i o a b h h' => (HK3.out.win i (by omega)).trans h⟩
        exact ⟨hKW.trans ((KW.set _ _ _).trans (KW.of_below (bal _ _))), HK3.out.below.trans hBW, ⟨by rw [HSN2.out]; exact HJ.out.alloc _ (HJ.out.set _ HJ3.out (by omega) (by omega)), by rw [HSN2.out]; exact hF4⟩, HB.out.trans (HK3.out.below.trans hBW)⟩
      · clear z0 z1 z2 z3 zf za zy
        gi_wp2
        have hKW : KW w1.heap.size V W3 := ⟨hk3.below.size, fun i o a b h h' => (hk3.win i (by omega)).trans h⟩
        exact ⟨hKW, hk3.below, ⟨rfl, _, HPG2.out, hJx3⟩, HB.out.trans hk3.below⟩
    · have t2 : decide (A < M) = false := by simpa using h2
      have hg1 := gap1_no h2
      have HSN2 := hi (show gapsTo fin (pre ++ [x]) = (T, x.b + x.s) by rw [HSN.out, HMIN.out, hg1, List.append_nil])
      have y2 := HF.out.a.frozen
      have hltV : W.heap.size + 1 < V.heap.size := HF.out.a.lt
      clear hg1 h2
      gi_wp2
      refine ⟨fun _ h => (by cases h), ?_⟩
      gi_wp2_with (first
        | (refine ⟨trivial, ?_⟩; gi_at_call 27; ((with_reducible refine (CallsIn.inRound l' (callsIn_wide.2 (HAF.out V))).mono ?_); rintro e w4 ⟨rfl, rfl⟩))
        | gi_in)
      have hS : Below n₀ V (V.setCell ⟨W.heap.size + 1, 0, none⟩ (.int .i64 (x.b + x.s))) := (Below.refl n₀ V).setCell (p := ⟨W.heap.size + 1, 0, none⟩) (show n₀ ≤ W.heap.size + 1 by omega) _
      have hBW := hS.trans ((bal (V.setCell ⟨W.heap.size + 1, 0, none⟩ (.int .i64 (x.b + x.s))) (.cells #[.int .i64 x.b, .int .i64 x.s, .int .i64 x.k, .int .i64 x.i] 33)).mono (by have := hS.size; omega))
      have hF4 := (HF.out.set hc (x.b + x.s)).below (bal _ (.cells #[.int .i64 x.b, .int .i64 x.s, .int .i64 x.k, .int .i64 x.i] 33))
      exact ⟨(KW.set _ _ _).trans (KW.of_below (bal _ _)), hBW, ⟨by rw [HSN2.out]; exact HJ.out.alloc _ (HJ.out.set _ HJV.out (by omega) (by omega)), by rw [HSN2.out]; exact hF4⟩, HB.out.trans hBW⟩
  case done =>
    rintro ys V rfl ⟨⟨hj, hF⟩, hB⟩ hK hs2
    have hAp := gapsTo_end (fin := fin) (l := ys) HOK.out
    have hga := gaps_all fin ys
    obtain ⟨T, hT⟩ : ∃ T, (gapsTo fin ys).1 = T := ⟨_, rfl⟩
    obtain ⟨A, hA⟩ : ∃ A, (gapsTo fin ys).2 = A := ⟨_, rfl⟩
    rw [hT, hA] at hga
    rw [hT] at hj
    rw [hA] at hF hAp
    obtain ⟨hA0, hA1⟩ := hAp
    have zf := hF.f.cell
    have za := hF.a.cell
    have zy := hF.y.cell
    have HGA := hi hga
    have HJV := hi hj
    have HF := hi hF
    have HK := hi hK
    clear hT hA hga hj hF hK zp
    by_cases h2 : A < fin
    · have t2 : decide (A < fin) = true := by simpa using h2
      have hw : IntKind.i64.wrap (fin - A) = fin - A := by rw [IntKind.wrap_i64]; omega
      have hall : T ++ [(A, fin - A)] = gapsFrom fin 0 ys := by rw [HGA.out, gap1_yes h2]
      have HALL := hi hall
      obtain ⟨fn, tmps, assign, body, hy, hRd⟩ := HYY.out T (A, fin - A) V HJV.out (by rw [hall]; exact List.prefix_refl _) (by omega) (6 - 1)
      dsimp only at hy
      clear h2 hall
      gi_wp2
      refine hRd.mono ?_
      rintro e W3 (⟨rfl, hJ3, hk3⟩ | ⟨rfl, hJx3, hk3⟩)
      · gi_wp2
        have hK' : W3.heap[W.heap.size + 3]? = some (.deferred (some [])) := (hk3.win _ (by omega)).trans (by rw [← hz3]; exact HK.out)
        refine ⟨by simp, .inl ⟨_, _, rfl, run_takeDeferred hK', ?_⟩⟩
        exact ⟨_, results_none rfl _ _ _, ⟨_, rfl⟩, .inl ⟨_, HALL.out, HJ.out.put _ hJ3 (by omega) (by omega)⟩⟩
      · gi_wp2
        have hK' : W3.heap[W.heap.size + 3]? = some (.deferred (some [])) := (hk3.win _ (by omega)).trans (by rw [← hz3]; exact HK.out)
        refine ⟨by simp, .inl ⟨_, _, rfl, run_takeDeferred hK', ?_⟩⟩
        exact ⟨_, results_none rfl _ _ _, ⟨_, rfl⟩, .inr ⟨_, by rw [HALL.out]; exact List.prefix_refl _, HJX.out.put _ hJx3 (by omega) (by omega)⟩⟩
    · have t2 : decide (A < fin) = false := by simpa using h2
      have hall : T = gapsFrom fin 0 ys := by rw [HGA.out, gap1_no h2, List.append_nil]
      have HALL := hi hall
      clear h2 hall
      gi_wp2
      refine ⟨by simp, .inl ⟨_, _, rfl, run_takeDeferred HK.out, ?_⟩⟩
      exact ⟨_, results_none rfl _ _ _, ⟨_, rfl⟩, .inl ⟨_, HALL.out, HJ.out.put _ HJV.out (by omega) (by omega)⟩⟩
  case stop =>
    rintro cd pre V hpre ⟨⟨rfl, gs, hg, hx⟩, hB⟩ hK _
    gi_wp2
    refine ⟨by simp, .inl ⟨_, _, rfl, run_takeDeferred hK, ?_⟩⟩
    exact ⟨_, results_none rfl _ _ _, ⟨_, rfl⟩, .inr ⟨gs, hg, HJX.out.put _ hx (by omega) (by omega)⟩⟩

theorem free_stops (c lo n₀ p : Nat) (sv : Value) (xs : List Sp) (fin : Int) (w : World) (hc : c + 2 ≤ w.heap.size) (hn₀ : n₀ ≤ c) (b0 : Boxed w c 24 (.pointer (some ⟨p, 0, none⟩))) (b1 : Boxed w (c + 1) 3 (.int .i64 fin)) (hb : BusAt lo n₀ w p sv xs) (hR : Row xs) (hf0 : -9223372036854775808 ≤ fin) (hf1 : fin ≤ 9223372036854775807) :
    SeqW 5 Try.prog 40 #[.pointer (some ⟨c, 0, none⟩), .pointer (some ⟨c + 1, 0, none⟩)] (fun g : Int × Int => #[.int .i64 g.1, .int .i64 g.2]) (KpF n₀ c) (fun ys => ys = gapsFrom fin 0 xs) (fun pre => pre <+: gapsFrom fin 0 xs) (fun pre g => pre ++ [g] <+: gapsFrom fin 0 xs) w := fun l J Jx W hW hJ hJx hY h0 =>
  free1_any l c lo n₀ p sv xs fin J Jx W (by have := hW.size; omega) hn₀ hJ hJx hY ((hW.block _ (by omega)).trans b0) ((hW.block _ (by omega)).trans b1) (hb.below hW (by omega)) hR hf0 hf1 h0

end Go.Proofs.Ytcdfkdlddmkhmaa
