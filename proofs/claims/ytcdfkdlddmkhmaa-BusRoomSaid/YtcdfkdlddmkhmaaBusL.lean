/-
  Place.
-/
import Derived.Test.YtcdfkdlddmkhmaaBusJ
import Derived.Test.YtcdfkdlddmkhmaaBusK
namespace Go.Proofs.Ytcdfkdlddmkhmaa
open Go.ChangeShapes Go.WideShapes Go.ChangeAt Go.RowKit Go.Shelf
set_option linter.unusedVariables false
attribute [local go_sem] Oper.semAt_some

theorem results_two {fn : Func} {c1 c2 : Tmp} (h : fn.results = #[.cell c1 3, .cell c2 25]) (tmps : Array Value) (w : World) (b1 b2 : Nat) (x e : Int)
    (h1 : tmps.getD c1 undef = .pointer (some ⟨b1, 0, none⟩)) (h2 : tmps.getD c2 undef = .pointer (some ⟨b2, 0, none⟩))
    (hx : Boxed w b1 3 (.int .i64 x)) (he : Boxed w b2 25 (.int .i64 e)) :
    (results fn tmps).run Try.prog w = .ok (two x e) w := by
  have h1' : tmps[c1]?.getD undef = .pointer (some ⟨b1, 0, none⟩) := by simpa using h1
  have h2' : tmps[c2]?.getD undef = .pointer (some ⟨b2, 0, none⟩) := by simpa using h2
  have hxc := hx.cell
  have hec := he.cell
  simp [results, h, go_sem, h1', h2', hxc, hec, two]

/-- Place's boxes. -/
structure FP (b : Nat) (size step x e : Int) (W : World) : Prop where
  sz : Boxed W b 3 (.int .i64 size)
  st : Boxed W (b + 1) 3 (.int .i64 step)
  r2 : Boxed W (b + 1 + 1) 3 (.int .i64 x)
  r3 : Boxed W (b + 1 + 1 + 1) 25 (.int .i64 e)
theorem FP.new (w : World) (size step : Int) : FP w.heap.size size step 0 0 ((((w.alloc (.cells #[.int .i64 size] 3)).alloc (.cells #[.int .i64 step] 3)).alloc (.cells #[.int .i64 0] 3)).alloc (.cells #[.int .i64 0] 25)) := by
  have b0 := (((Boxed.new w 3 (.int .i64 size)).alloc (.cells #[.int .i64 step] 3)).alloc (.cells #[.int .i64 0] 3)).alloc (.cells #[.int .i64 0] 25)
  have b1 := ((Boxed.new (w.alloc (.cells #[.int .i64 size] 3)) 3 (.int .i64 step)).alloc (.cells #[.int .i64 0] 3)).alloc (.cells #[.int .i64 0] 25)
  have b2 := (Boxed.new ((w.alloc (.cells #[.int .i64 size] 3)).alloc (.cells #[.int .i64 step] 3)) 3 (.int .i64 0)).alloc (.cells #[.int .i64 0] 25)
  have b3 := Boxed.new (((w.alloc (.cells #[.int .i64 size] 3)).alloc (.cells #[.int .i64 step] 3)).alloc (.cells #[.int .i64 0] 3)) 25 (.int .i64 0)
  simp only [World.size_alloc] at b1 b2 b3
  exact ⟨b0, b1, b2, b3⟩
theorem FP.set {b : Nat} {size step x e : Int} {W : World} (h : FP b size step x e W) (x' e' : Int) : FP b size step x' e' ((W.setCell ⟨b + 1 + 1, 0, none⟩ (.int .i64 x')).setCell ⟨b + 1 + 1 + 1, 0, none⟩ (.int .i64 e')) :=
  ⟨box_other (box_other h.sz _ _ _ (by omega)) _ _ _ (by omega), box_other (box_other h.st _ _ _ (by omega)) _ _ _ (by omega),
   box_other (h.r2.set _) _ _ _ (by omega), (box_other h.r3 _ _ _ (by omega)).set _⟩
theorem FP.below {b : Nat} {size step x e : Int} {V V' : World} (h : FP b size step x e V) (k : Below V.heap.size V V') : FP b size step x e V' :=
  ⟨(k.block _ h.sz.lt).trans h.sz, (k.block _ h.st.lt).trans h.st, (k.block _ h.r2.lt).trans h.r2, (k.block _ h.r3.lt).trans h.r3⟩
theorem FP.abL {β : Type} {b B k : Nat} {size step : Int} {f g : β → Int} (hB : b + 4 ≤ B) : AbL B k (fun s V => FP b size step (f s) (g s) V) := fun s A A' row hs hg hr => by
  have K : ∀ i, i < B → i < A.heap.size → A'.heap[i]? = A.heap[i]? := fun i h1 h2 => hg.block i h2 (fun e => by rcases hr i e.symm with ⟨h3, _⟩ | ⟨h3, _⟩ <;> omega)
  exact ⟨(K _ (by omega) hs.sz.lt).trans hs.sz, (K _ (by omega) hs.st.lt).trans hs.st, (K _ (by omega) hs.r2.lt).trans hs.r2, (K _ (by omega) hs.r3.lt).trans hs.r3⟩
theorem below_set2 {b : Nat} (W : World) (x e : Int) : Below b W ((W.setCell ⟨b + 1 + 1, 0, none⟩ (.int .i64 x)).setCell ⟨b + 1 + 1 + 1, 0, none⟩ (.int .i64 e)) :=
  ((Below.refl b W).setCell (p := ⟨b + 1 + 1, 0, none⟩) (show b ≤ b + 1 + 1 by omega) _).setCell (p := ⟨b + 1 + 1 + 1, 0, none⟩) (show b ≤ b + 1 + 1 + 1 by omega) _

theorem KpF.put {n₀ c B : Nat} {W : World} {l : Nat} {o o' : Obj} (hn : n₀ ≤ l) (hc : c + 2 ≤ l) (hB : l < B) (hl : W.heap[l]? = some o) (ho : o.isCells = false) : KpF n₀ c B W (W.putObj l o') := by
  have hlt : l < W.heap.size := (Array.getElem?_eq_some_iff.1 hl).1
  refine ⟨(Below.refl n₀ W).grown (grownBy_putObj' W l o') (by omega) (fun k e => by cases e; omega), fun i hi => World.putObj_heap_other (by omega), fun i x hx => (World.putObj_heap_other (fun e => ?_)).trans hx⟩
  subst e
  rw [show W.heap[i]? = _ from hx] at hl
  cases hl
  cases ho
theorem KpF.refl (n₀ c B : Nat) (W : World) : KpF n₀ c B W W := ⟨Below.refl _ _, fun _ _ => rfl, fun _ _ h => h⟩
theorem KpF.set2 {b B : Nat} {size step x e : Int} {W : World} (h : FP b size step x e W) (hB : b + 4 ≤ B) (x' e' : Int) : KpF b (b + 4) B W ((W.setCell ⟨b + 1 + 1, 0, none⟩ (.int .i64 x')).setCell ⟨b + 1 + 1 + 1, 0, none⟩ (.int .i64 e')) := by
  refine ⟨below_set2 W _ _, fun i hi => (Below.heap_setCell _ _ _ i (show i ≠ b + 1 + 1 + 1 by omega)).trans (Below.heap_setCell _ _ _ i (show i ≠ b + 1 + 1 by omega)), fun i y hy => ?_⟩
  have h2 : i ≠ b + 1 + 1 := fun q => by
    subst q
    have q1 := h.r2
    have q2 := hy
    unfold Boxed at q1
    unfold SpBox at q2
    rw [q1] at q2
    cases q2
  have h3 : i ≠ b + 1 + 1 + 1 := fun q => by
    subst q
    have q1 := h.r3
    have q2 := hy
    unfold Boxed at q1
    unfold SpBox at q2
    rw [q1] at q2
    cases q2
  exact ((Below.heap_setCell _ _ _ i h3).trans (Below.heap_setCell _ _ _ i h2)).trans hy

set_option maxRecDepth 100000 in
set_option maxHeartbeats 4000000 in
theorem place_bad (p : Nat) (size step fin : Int) (w : World) (hb : badP size step fin) :
    Calls Try.prog 16 #[.pointer (some ⟨p, 0, none⟩), .int .i64 size, .int .i64 step, .int .i64 fin] w fun e w' => e = .returned (two 0 1) ∧ Below w.heap.size w w' := by
  unfold badP at hb
  have HB := hi hb
  clear hb
  refine (callsIn_wide (n := 6)).1 ?_
  refine callsIn_of_wp_marks Try.func16 rfl trivial ?_ rfl
  simp only [Try.ntmps16, List.size_toArray, List.length_cons, List.length_nil, Nat.reduceAdd, Nat.reduceSub, Array.replicate_succ, Array.replicate_zero, List.push_toArray, List.append_toArray, List.nil_append, List.cons_append]
  gi_wp2
  all_goals (first
    | (exact ⟨_, results_two rfl _ _ (w.heap.size + 1 + 1) (w.heap.size + 1 + 1 + 1) 0 1 rfl rfl
        (by
          have := (Boxed.new ((w.alloc (.cells #[.int .i64 size] 3)).alloc (.cells #[.int .i64 step] 3)) 3 (.int .i64 0)).alloc (.cells #[.int .i64 1] 25)
          simpa [Boxed] using this)
        (by
          have := Boxed.new (((w.alloc (.cells #[.int .i64 size] 3)).alloc (.cells #[.int .i64 step] 3)).alloc (.cells #[.int .i64 0] 3)) 25 (.int .i64 1)
          simpa [Boxed] using this), rfl, (((bal w _).alloc (by simp) _).alloc (by simp; omega) _).alloc (by simp; omega) _⟩)
    | (exfalso; have := HB.out; omega))

def lastUp (step : Int) (pre : List (Int × Int)) : Int := pre.getLast?.elim 0 (fun g => mulUp g.1 step)
theorem lastUp_snoc (step : Int) (ini : List (Int × Int)) (g : Int × Int) : lastUp step (ini ++ [g]) = mulUp g.1 step := by simp [lastUp]

set_option maxRecDepth 100000 in
set_option maxHeartbeats 8000000 in
theorem place_ok (lo hi' p : Nat) (sv : Value) (xs : List Sp) (size step fin : Int) (w : World) (hb : BusAt lo hi' w p sv xs) (hh : hi' ≤ w.heap.size) (hR : Row xs) (hn : ¬ badP size step fin) :
    Calls Try.prog 16 #[.pointer (some ⟨p, 0, none⟩), .int .i64 size, .int .i64 step, .int .i64 fin] w fun e w' => e = .returned (placeT step ((gapsFrom fin 0 xs).find? (fitB size step))) ∧ Below w.heap.size w w' := by
  unfold badP at hn
  have hs0 : 1 ≤ size := by omega
  have hs1 : size ≤ 1099511627776 := by omega
  have ht0 : 1 ≤ step := by omega
  have ht1 : step ≤ 1099511627776 := by omega
  have hf0 : 0 ≤ fin := by omega
  have hf1 : fin ≤ 1099511627776 := by omega
  clear hn
  have d1 : decide (size < 1) = false := by simp; omega
  have d2 : decide (1099511627776 < size) = false := by simp; omega
  have d3 : decide (step < 1) = false := by simp; omega
  have d4 : decide (1099511627776 < step) = false := by simp; omega
  have d5 : decide (fin < 0) = false := by simp; omega
  have d6 : decide (1099511627776 < fin) = false := by simp; omega
  obtain ⟨w4, hw4⟩ : ∃ w4, (((w.alloc (.cells #[.int .i64 size] 3)).alloc (.cells #[.int .i64 step] 3)).alloc (.cells #[.int .i64 0] 3)).alloc (.cells #[.int .i64 0] 25) = w4 := ⟨_, rfl⟩
  have hB4 : Below w.heap.size w w4 := by rw [← hw4]; exact (((bal w _).alloc (by simp) _).alloc (by simp; omega) _).alloc (by simp; omega) _
  have hz4 : w4.heap.size = w.heap.size + 4 := by rw [← hw4]; simp
  have hP4 : FP w.heap.size size step 0 0 w4 := by rw [← hw4]; exact FP.new w size step
  obtain ⟨w5, hw5⟩ : ∃ w5, w4.alloc (.cells #[.pointer (some ⟨p, 0, none⟩)] 24) = w5 := ⟨_, rfl⟩
  have hz5 : w5.heap.size = w.heap.size + 5 := by rw [← hw5]; simp; omega
  obtain ⟨w6, hw6⟩ : ∃ w6, w5.alloc (.cells #[.int .i64 fin] 3) = w6 := ⟨_, rfl⟩
  have hz6 : w6.heap.size = w.heap.size + 6 := by rw [← hw6]; simp; omega
  have hB46 : Below w4.heap.size w4 w6 := by rw [← hw6, ← hw5]; exact (bal w4 _).alloc (by simp) _
  have hB06 : Below w.heap.size w w6 := hB4.trans (hB46.mono (by omega))
  have hP6 : FP w.heap.size size step 0 0 w6 := hP4.below hB46
  have q0 : Boxed w6 (w.heap.size + 4) 24 (.pointer (some ⟨p, 0, none⟩)) := by rw [← hw6, ← hw5, ← hz4]; exact (Boxed.new w4 _ _).alloc _
  have q1 : Boxed w6 (w.heap.size + 4 + 1) 3 (.int .i64 fin) := by rw [← hw6, show w.heap.size + 4 + 1 = w5.heap.size by omega]; exact Boxed.new w5 _ _
  have hb6 : BusAt lo w.heap.size w6 p sv xs := (hb.mono (Nat.le_refl _) hh).below hB06 (Nat.le_refl _)
  have hstop := free_stops (w.heap.size + 4) lo w.heap.size p sv xs fin w6 (by omega) (by omega) q0 q1 hb6 hR (by omega) (by omega)
  have hexp : Calls Try.prog 32 #[.pointer (some ⟨p, 0, none⟩), .int .i64 fin] w4 fun e w' => e = .returned (.func (.func 40) #[] #[.pointer (some ⟨w.heap.size + 4, 0, none⟩), .pointer (some ⟨w.heap.size + 5, 0, none⟩)]) ∧ w' = w6 := (free_any p fin w4).mono fun e w' ⟨h1, h2⟩ => ⟨by rw [h1, hz4], by rw [h2, ← hw6, ← hw5]⟩
  have HG := hi (gaps_ok (fin := fin) (a := 0) hR.ok (Int.le_refl _))
  obtain ⟨gs, hgs⟩ : ∃ gs, gapsFrom fin 0 xs = gs := ⟨_, rfl⟩
  rw [hgs] at hstop HG ⊢
  have HEXP := hi hexp
  have HST := hi hstop
  have HW4 := hi hw4
  have HB4 := hi hB4
  have z4 := hP4.sz.cell
  have z5 := hP4.st.cell
  clear hexp hstop hb6 hb hgs q0 q1 hw5 hw6 hB4
  refine (callsIn_wide (n := 6)).1 ?_
  refine callsIn_of_wp_marks Try.func16 rfl trivial ?_ rfl
  simp only [Try.ntmps16, List.size_toArray, List.length_cons, List.length_nil, Nat.reduceAdd, Nat.reduceSub, Array.replicate_succ, Array.replicate_zero, List.push_toArray, List.append_toArray, List.nil_append, List.cons_append]
  gi_wp2_with (first
    | (refine ⟨trivial, ?_⟩; gi_at_call 32; ((with_reducible refine (callsIn_wide.2 HEXP.out).mono ?_); rintro e w1 ⟨rfl, rfl⟩))
    | gi_in)
  refine range_win (n := 6) (by omega) (gf := 40) (lb := #[.pointer (some ⟨w.heap.size + 4, 0, none⟩), .pointer (some ⟨w.heap.size + 5, 0, none⟩)]) rfl (enters_of Try.func40 (by kernel_rfl) rfl)
    HST.out (fun a b => KpF.trans a b) (fun W l o o' h1 h2 h3 h4 => KpF.put (by omega) (by omega) (by omega) h3 h4) (Below.refl _ _) (fun _ => rfl)
    (fun pre V => ((∀ z ∈ pre, fitB size step z = false) ∧ FP w.heap.size size step 0 0 V) ∧ Below w.heap.size w V)
    (fun cd pre V => ((cd = .ret ∧ ∃ ini g, pre = ini ++ [g] ∧ (∀ z ∈ ini, fitB size step z = false) ∧ fitB size step g = true) ∧ FP w.heap.size size step (lastUp step pre) 0 V) ∧ Below w.heap.size w V)
    (AbL.and (AbL.and (AbL.pure _ _ (fun pre => ∀ z ∈ pre, fitB size step z = false)) (FP.abL (β := List (Int × Int)) (f := fun _ => 0) (g := fun _ => 0) (by omega))) (AbL.below (Nat.le_refl _) (by omega)))
    (fun cd => AbL.and (AbL.and (AbL.pure _ _ (fun pre => cd = .ret ∧ ∃ ini g, pre = ini ++ [g] ∧ (∀ z ∈ ini, fitB size step z = false) ∧ fitB size step g = true)) (FP.abL (β := List (Int × Int)) (f := lastUp step) (g := fun _ => 0) (by omega))) (AbL.below (Nat.le_refl _) (by omega)))
    ⟨⟨by simp, hP6⟩, hB06⟩
    (fun g a' V => a' = { tmps := #[.pointer (some ⟨p, 0, none⟩), .int .i64 size, .int .i64 step, .int .i64 fin, undef, .pointer (some ⟨w.heap.size, 0, none⟩), .pointer (some ⟨w.heap.size + 1, 0, none⟩), undef, .pointer (some ⟨w.heap.size + 1 + 1, 0, none⟩), .pointer (some ⟨w.heap.size + 1 + 1 + 1, 0, none⟩), .int .i64 g.1, .int .i64 g.2, undef, .int .i64 size, .bool false, .bool false, .int .i64 size, .bool false, .bool false, .bool false, .int .i64 step, .bool false, .bool false, .bool false, .int .i64 step, .bool false, .bool false, .bool false, .int .i64 fin, .bool false, .bool false, .bool false, .int .i64 fin, .bool false, .bool false, .pointer (some ⟨p, 0, none⟩), .int .i64 fin, .func (.func 40) #[] #[.pointer (some ⟨w.heap.size + 4, 0, none⟩), .pointer (some ⟨w.heap.size + 5, 0, none⟩)], .int .i64 g.1, .int .i64 g.2, undef, undef, undef, undef, undef, undef, undef, undef, undef, undef, undef], defers := [] })
    (fun x a' => AbL.pure _ _ _)
    ?assign ?body ?done ?stop
  case assign =>
    rintro l' pre g V K ⟨⟨hp, hF⟩, hB⟩ hsz hK
    gi_wp2
    exact hK _ _ (KW.refl _ _) (KpF.refl _ _ _ _) ⟨⟨hp, hF⟩, hB⟩ rfl
  case body =>
    rintro l' pre g a' V hsz ⟨⟨hp, hF⟩, hB⟩ rfl hpx
    obtain ⟨k0, k1, k2⟩ := HG.out g (by obtain ⟨r, hr⟩ := hpx; rw [← hr]; simp)
    obtain ⟨mq, e1, e2, e3⟩ := mulUp_spec k0 ht0
    have HM := hi (multiple_any g.1 step V k0 (by omega) ht0 ht1)
    obtain ⟨u, hu⟩ : ∃ u, mulUp g.1 step = u := ⟨_, rfl⟩
    have hft : fitB size step g = decide (u - g.1 ≤ g.2 - size) := by
      unfold fitB
      rw [hu, Bool.eq_iff_iff, decide_eq_true_iff, decide_eq_true_iff]
      omega
    rw [hu] at HM e2 e3
    have HU := hi hu
    obtain ⟨qa, qn⟩ := g
    dsimp only at HM HU hft e2 e3 k0 k1 k2 ⊢
    obtain ⟨D1, hD1⟩ : ∃ D1, u - qa = D1 := ⟨_, rfl⟩
    obtain ⟨D2, hD2⟩ : ∃ D2, qn - size = D2 := ⟨_, rfl⟩
    have hw1 : IntKind.i64.wrap (u - qa) = D1 := by rw [IntKind.wrap_i64]; omega
    have hw2 : IntKind.i64.wrap (qn - size) = D2 := by rw [IntKind.wrap_i64]; omega
    rw [hD1, hD2] at hft
    have HFT := hi hft
    have c0 := hF.sz.cell
    have c1 := hF.st.cell
    have c2 := hF.r2.cell
    have c3 := hF.r3.cell
    have f2 := hF.r2.frozen
    have f3 := hF.r3.frozen
    have HP := hi hp
    have HF := hi hF
    have HB := hi hB
    have HPX := hi hpx
    clear hD1 hD2 hft hu e1 hp hF hB hpx
    by_cases h2 : D1 ≤ D2
    · have t1 : decide (D1 ≤ D2) = true := by simpa using h2
      clear h2
      gi_wp2_with (first
        | (refine ⟨trivial, ?_⟩; gi_at_call 33; ((with_reducible refine (CallsIn.inRound l' (callsIn_wide.2 HM.out)).mono ?_); rintro e w4 ⟨rfl, rfl⟩))
        | gi_in)
      have hS := below_set2 (b := w.heap.size) V u 0
      exact ⟨(KW.set _ _ _).trans (KW.set _ _ _), KpF.set2 HF.out (by omega) u 0, ⟨⟨rfl, pre, (qa, qn), rfl, HP.out, by rw [HFT.out, t1]⟩, by
        have := HF.out.set u 0
        rw [lastUp_snoc, HU.out]; exact this⟩, HB.out.trans hS⟩
    · have t1 : decide (D1 ≤ D2) = false := by simpa using h2
      clear h2
      gi_wp2_with (first
        | (refine ⟨trivial, ?_⟩; gi_at_call 33; ((with_reducible refine (CallsIn.inRound l' (callsIn_wide.2 HM.out)).mono ?_); rintro e w4 ⟨rfl, rfl⟩))
        | gi_in)
      exact ⟨KW.refl _ _, KpF.refl _ _ _ _, ⟨fun z hz => by
        rcases List.mem_append.1 hz with h | h
        · exact HP.out z h
        · simp at h; subst h; rw [HFT.out, t1], HF.out⟩, HB.out⟩
  case done =>
    rintro ys V rfl ⟨⟨hp, hF⟩, hB⟩ hK hs2
    have hf := findG_none hp
    have c2 := hF.r2.cell
    have c3 := hF.r3.cell
    have f2 := hF.r2.frozen
    have f3 := hF.r3.frozen
    have HF := hi hF
    have HB := hi hB
    have HK := hi hK
    clear hF hB hK hp
    gi_wp2
    have hK' : ((V.setCell ⟨w.heap.size + 1 + 1, 0, none⟩ (.int .i64 0)).setCell ⟨w.heap.size + 1 + 1 + 1, 0, none⟩ (.int .i64 2)).heap[w1.heap.size]? = some (.deferred (some [])) := ((KeepsOthers.setCell _ _ _).trans (KeepsOthers.setCell _ _ _)).same _ _ HK.out rfl
    refine ⟨by simp, .inl ⟨_, _, rfl, run_takeDeferred hK', ?_⟩⟩
    have k := own_keeps (grownBy_putObj' _ w1.heap.size (.deferred none)) (fun r e => by cases e; exact ⟨_, hK', rfl⟩)
    have hS := HF.out.set 0 2
    exact ⟨_, results_two rfl _ _ (w.heap.size + 1 + 1) (w.heap.size + 1 + 1 + 1) 0 2 rfl rfl (k _ _ hS.r2 rfl) (k _ _ hS.r3 rfl), by rw [hf]; rfl, (HB.out.trans (below_set2 V 0 2)).trans (belowK2 (w := w1) hB06.size _ w1.heap.size _ _ (Nat.le_refl _) (by omega) hK' rfl)⟩
  case stop =>
    rintro cd pre V hpre ⟨⟨⟨rfl, ini, g, rfl, hini, hg⟩, hF⟩, hB⟩ hK _
    have hf := findG_some hpre hini hg
    rw [lastUp_snoc] at hF
    gi_wp2
    refine ⟨by simp, .inl ⟨_, _, rfl, run_takeDeferred hK, ?_⟩⟩
    have k := own_keeps (grownBy_putObj' V w1.heap.size (.deferred none)) (fun r e => by cases e; exact ⟨_, hK, rfl⟩)
    exact ⟨_, results_two rfl _ _ (w.heap.size + 1 + 1) (w.heap.size + 1 + 1 + 1) (mulUp g.1 step) 0 rfl rfl (k _ _ hF.r2 rfl) (k _ _ hF.r3 rfl), by rw [hf]; rfl, hB.trans (belowK2 (w := w1) hB06.size V w1.heap.size _ _ (Nat.le_refl _) (by omega) hK rfl)⟩

theorem place_any (lo hi' p : Nat) (sv : Value) (xs : List Sp) (size step fin : Int) (w : World) (hb : BusAt lo hi' w p sv xs) (hh : hi' ≤ w.heap.size) (hR : Row xs) :
    Calls Try.prog 16 #[.pointer (some ⟨p, 0, none⟩), .int .i64 size, .int .i64 step, .int .i64 fin] w fun e w' => e = .returned (placeV xs size step fin) ∧ Below w.heap.size w w' := by
  unfold placeV
  by_cases h : badP size step fin
  · rw [if_pos h]; exact place_bad p size step fin w h
  · rw [if_neg h]; exact place_ok lo hi' p sv xs size step fin w hb hh hR h
theorem rplace_any (lo hi' : Nat) (v : Value) (xs : List Sp) (size step fin : Int) (w : World) (h : SpIn lo hi' w v xs) (hh : hi' ≤ w.heap.size) (hR : Row xs) :
    Calls Try.prog 17 #[v, .int .i64 size, .int .i64 step, .int .i64 fin] w fun e w' => e = .returned (placeV xs size step fin) ∧ Below w.heap.size w w' := by
  unfold placeV
  by_cases hb : badP size step fin
  · rw [if_pos hb]
    obtain ⟨a, cap, rfl⟩ := h.slice
    exact rplace_bad _ _ _ _ size step fin w rfl hb
  · rw [if_neg hb]; exact rplace_ok lo hi' v xs size step fin w h hh hR hb

end Go.Proofs.Ytcdfkdlddmkhmaa
