/-
  The law BankKeeps at every input.
-/
import Derived.Test.YtfjihpcemmobjaaLawC
namespace Go.Proofs.Ytfjihpcemmobjaa
open Go.ChangeShapes Go.WideShapes Go.ChangeAt Go.RowKit Go.Shelf
set_option linter.unusedVariables false
attribute [local go_sem] Oper.semAt_some
attribute [local go_sem high] neqL neqE eqlE neqC eqlC guardL guardE guardC

/-! ### Get -/
def getR (f : Int) (es : List En) (id : Int) : En × Int := if hasB f es.length id then (nthE es (id - f).toNat, 0) else (En.zero, 90)
theorem get_any {b g cap : Nat} {f : Int} {es : List En} {id : Int} {w : World} (h : BkAt w b g cap f es) (hf : Fit f es.length) (hi' : Int64 id) :
    Calls Try.prog 29 #[.pointer (some ⟨b, 0, none⟩), .int .i64 id] w fun e w' => e = .returned (.tuple #[(getR f es id).1.v, .int .i64 (getR f es id).2]) ∧ Below w.heap.size w w' := by
  unfold getR
  cases hb : hasB f es.length id
  · exact get_no h hf hi' hb
  · obtain ⟨k, rfl, hk, e1⟩ := has_at hb
    refine (get_yes h hf (nthE_at hk)).mono fun e w' ⟨h1, h2⟩ => ⟨?_, h2⟩
    rw [e1]
    exact h1
theorem getR_len {f : Int} {es es' : List En} (h : es'.length = es.length) (id : Int) : (getR f es' id).2 = (getR f es id).2 := by
  unfold getR
  rw [h]
  split <;> rfl
/-- One act of BankKeeps. -/
def actK (f : Int) (es : List En) (x : Ac9) : List En × Int := if x.d = 2 then doR f es x.id x.a else putR f es x.id x.ent
theorem actK_len (f : Int) (es : List En) (x : Ac9) : (actK f es x).1.length = es.length := by
  unfold actK
  split
  · exact doR_len _ _ _ _
  · exact putR_len _ _ _ _
theorem nth_set_ne {es : List En} {i j : Nat} {y : En} (h : i ≠ j) : nthE (es.set i y) j = nthE es j := by
  unfold nthE
  rw [List.getElem?_set_ne h]
theorem getR_set {f : Int} {es : List En} {id jd : Int} {y : En} (hj : hasB f es.length jd = true) (hne : id ≠ jd) : getR f (es.set (jd - f).toNat y) id = getR f es id := by
  unfold getR
  rw [List.length_set]
  cases hb : hasB f es.length id
  · rfl
  · obtain ⟨k, rfl, hk, e1⟩ := has_at hb
    obtain ⟨k', rfl, hk', e2⟩ := has_at hj
    rw [e1, e2]
    simp only [if_true]
    rw [nth_set_ne (by omega)]
theorem actK_has {f : Int} {es : List En} {x : Ac9} (h : (actK f es x).2 = 0) : hasB f es.length x.id = true := by
  unfold actK doR putR at h
  cases hb : hasB f es.length x.id
  · rw [hb] at h
    simp at h
  · rfl
theorem actK_keeps {f : Int} {es : List En} {x : Ac9} {id : Int} (h : id ≠ x.id ∨ (actK f es x).2 ≠ 0) : getR f (actK f es x).1 id = getR f es id := by
  unfold actK doR putR at h ⊢
  cases hb : hasB f es.length x.id
  · simp
  · simp only [hb, if_true] at h ⊢
    split
    · rename_i h2
      simp only [h2, if_true] at h
      exact getR_set hb (h.resolve_right (fun k => k rfl))
    · rename_i h2
      simp only [h2, if_false] at h
      split
      · rename_i h3
        simp only [h3, if_true] at h
        exact getR_set hb (h.resolve_right (fun k => k rfl))
      · rfl

/-! ### The walks -/
def KWalk (f n : Int) (v : Value) (x : Ac9) (id : Int) (w : World) : Prop :=
  Calls Try.prog 7 #[.int .u8 f, .int .u8 n, v, x.v, .int .i64 id] w fun e w' => e = .returned (.bool true) ∧ Below w.heap.size w w'

set_option maxRecDepth 100000 in
set_option maxHeartbeats 16000000 in
theorem lawKeeps_any (f n : Int) (v : Value) (xs : List Ac9) (x : Ac9) (id : Int) (w : World) (hf0 : 0 ≤ f) (hf1 : f < 256) (hn0 : 0 ≤ n) (hn1 : n < 256) (h : ActsAt w v xs) (hl : xs.length ≤ 9223372036854775806) (hx : Int64 x.id) (hid : Int64 id) : KWalk f n v x id w := by
  have CPL := hi (fun w0 (hb : Below (w.heap.size + 1) (w.alloc (.cells x.ca 35)) w0) => played_any f n v xs w0 hf0 hf1 hn0 hn1 (h.below ((bal w _).trans (hb.mono (by omega)))) hl)
  have HJD := hi hx
  have HID := hi hid
  have HXE : ∃ x9 : Ac9, x = x9 := ⟨x, rfl⟩
  obtain ⟨x9, hx9⟩ := HXE
  have HX9 := hi hx9
  clear h hl hf0 hf1 hn0 hn1 hx hid hx9
  obtain ⟨d, jd, ⟨⟨e, l, q, a'⟩, en, gr, p⟩, s, a⟩ := x
  unfold KWalk
  go_enter Try.func7, Try.ntmps7
  go_wp2_with (go_at_call 9; ((with_reducible refine (awake_any _).mono ?_); rintro e' w0 ⟨rfl, hb⟩; have HB0 := hi hb; clear hb))
  go_at_call 30
  have HB0' := hi (show Below (w.heap.size + 1) (w.alloc (.cells (Ac9.ca ⟨d, jd, ⟨⟨e, l, q, a'⟩, en, gr, p⟩, s, a⟩) 35)) w0 by have h9 := HB0.out; rwa [World.size_alloc] at h9)
  (with_reducible refine (CPL.out w0 HB0'.out).mono ?_)
  rintro e' w1 ⟨b, g, cap, f', es, rfl, hP⟩
  have HP := hi hP
  have HX1 := hi ((((CB.new w 35 (Ac9.ca ⟨d, jd, ⟨⟨e, l, q, a'⟩, en, gr, p⟩, s, a⟩)).below HB0.out)).below hP.below)
  have HBB := hi (show Below w.heap.size w w1 from (bal w _).trans ((HB0'.out.mono (Nat.le_succ _)).trans (hP.below.mono (Nat.le_trans (Nat.le_succ _) (by have h9 := HB0'.out.size; rw [World.size_alloc] at h9; exact h9)))))
  have HLO := hi (show w.heap.size < b ∧ w.heap.size < g from (by have h1 := hP.lb; have h2 := hP.lg; have h9 := HB0'.out.size; rw [World.size_alloc] at h9; exact ⟨by omega, by omega⟩))
  clear hP CPL HB0 HB0'
  obtain ⟨r, hr⟩ : ∃ r, actK f' es x9 = r := ⟨_, rfl⟩
  obtain ⟨es2, rc⟩ := r
  have hK1 : rc = 0 → hasB f' es.length jd = true := fun e9 => by have h9 := HX9.out; subst h9; exact actK_has (by rw [hr]; exact e9)
  have hK2 : id ≠ jd ∨ rc ≠ 0 → getR f' es2 id = getR f' es id := fun e9 => by have h9 := HX9.out; have := actK_keeps (f := f') (es := es) (x := x9) (id := id) (by rw [hr, ← h9]; exact e9); rwa [hr] at this
  have hK3 : es2.length = es.length := by have := actK_len f' es x9; rwa [hr] at this
  have hK4 : (getR f' es2 id).2 = (getR f' es id).2 := getR_len hK3 id
  have CG1 := hi (fun W (hW : BkAt W b g cap f' es) => get_any (id := id) hW HP.out.fit HID.out)
  have CG2 := hi (fun W (hW : BkAt W b g cap f' es2) => get_any (id := id) hW (by rw [hK3]; exact HP.out.fit) HID.out)
  have CH := hi (fun W (hW : BkAt W b g cap f' es2) => has_any (id := jd) hW (by rw [hK3]; exact HP.out.fit) HJD.out)
  rw [hK3] at CH
  rw [hK4] at CG2
  obtain ⟨⟨⟨⟨⟨ye, yl, yq, ya⟩, yen, yg, yp⟩, ys⟩, yc⟩, hy⟩ : ∃ y, getR f' es id = y := ⟨_, rfl⟩
  obtain ⟨⟨⟨⟨⟨ze, zl, zq, za⟩, zen, zg, zp⟩, zs⟩, zc⟩, hz⟩ : ∃ z, getR f' es2 id = z := ⟨_, rfl⟩
  rw [hy] at CG1 CG2 hK2
  rw [hz] at CG2 hK2
  have HK1 := hi hK1
  have HK2 := hi hK2
  clear hK1 hK2 hK3 hK4 hy hz
  dsimp only [En.v] at CG1 CG2
  by_cases hd : d = 2
  · obtain rfl := hd
    have CA := hi (fun W (hW : BkAt W b g cap f' es) => do_any (id := jd) (a := a) hW HP.out.fit HJD.out)
    have hr2 : doR f' es jd a = (es2, rc) := by
      rw [← hr, ← HX9.out]
      simp [actK]
    rw [hr2] at CA
    clear hr hr2 
    
    by_cases h0 : rc = 0
    · have hh := HK1.out h0
      obtain rfl := h0
      rw [hh] at CH
      by_cases hi' : id = jd
      · subst hi'
        go_wp2_with (first
          | (go_at_call 29; ((with_reducible refine (CG1.out _ HP.out.bk).mono ?_); rintro e' w2 ⟨rfl, hB⟩; have H2 := hi ((HP.out.bk.below hB).below (bal w2 (.cells #[.bool ye, .bool yl, .bool yq, .bool ya, .bool yen, .int .i64 yg, .int .i64 yp, .string ys] 62))); have HB2 := hi ((HBB.out.trans (hB.mono HBB.out.size)).alloc (Nat.le_trans HBB.out.size hB.size) (.cells #[.bool ye, .bool yl, .bool yq, .bool ya, .bool yen, .int .i64 yg, .int .i64 yp, .string ys] 62)); have HX2 := hi ((HX1.out.below hB).alloc (.cells #[.bool ye, .bool yl, .bool yq, .bool ya, .bool yen, .int .i64 yg, .int .i64 yp, .string ys] 62)); have HY2 := hi (CB.new w2 62 #[.bool ye, .bool yl, .bool yq, .bool ya, .bool yen, .int .i64 yg, .int .i64 yp, .string ys]); have HS2 := hi (Nat.le_trans (Nat.succ_le_of_lt HX1.out.lt) hB.size); have hGs := hi (Nat.lt_of_lt_of_le HP.out.bk.row.lt hB.size); have c0 := HX2.out.cell 0; have c1 := HX2.out.cell 1; have c2 := HX2.out.cell 2; have c3 := HX2.out.cell 3; have c4 := HX2.out.cell 4; have c5 := HX2.out.cell 5; have c6 := HX2.out.cell 6; have c7 := HX2.out.cell 7; have c8 := HX2.out.cell 8; have c9 := HX2.out.cell 9; have c10 := HX2.out.cell 10; clear hB))
          | (go_at_call 12; ((with_reducible refine (CA.out _ H2.out).mono ?_); rintro e' w3 ⟨rfl, hA⟩; clear c0 c1 c2 c3 c4 c5 c6 c7 c8 c9 c10; have H3 := hi hA.bk; have HB3 := hi (HB2.out.trans (hA.kept.toBelow HB2.out.size (fun i e9 => by subst e9; exact Nat.le_of_lt HLO.out.2))); have HX3 := hi (HX2.out.keptB hA.kept (fun e9 => by have h9 := HLO.out.2; omega)); have HY3 := hi (HY2.out.keptB hA.kept (fun e9 => by have h9 := hGs.out; omega)); clear hA))
          | (go_at_call 29; ((with_reducible refine (CG2.out _ H3.out).mono ?_); rintro e' w4 ⟨rfl, hB⟩; have H4 := hi ((H3.out.below hB).below (bal w4 (.cells #[.bool ze, .bool zl, .bool zq, .bool za, .bool zen, .int .i64 zg, .int .i64 zp, .string zs] 62))); have HB4 := hi ((HB3.out.trans (hB.mono HB3.out.size)).alloc (Nat.le_trans HB3.out.size hB.size) (.cells #[.bool ze, .bool zl, .bool zq, .bool za, .bool zen, .int .i64 zg, .int .i64 zp, .string zs] 62)); have HX4 := hi ((HX3.out.below hB).alloc (.cells #[.bool ze, .bool zl, .bool zq, .bool za, .bool zen, .int .i64 zg, .int .i64 zp, .string zs] 62)); have HY4 := hi ((HY3.out.below hB).alloc (.cells #[.bool ze, .bool zl, .bool zq, .bool za, .bool zen, .int .i64 zg, .int .i64 zp, .string zs] 62)); have HZ4 := hi (CB.new w4 62 #[.bool ze, .bool zl, .bool zq, .bool za, .bool zen, .int .i64 zg, .int .i64 zp, .string zs]); have c1 := HX4.out.cell 1; have y0 := HY4.out.cell 0; have y1 := HY4.out.cell 1; have y2 := HY4.out.cell 2; have y3 := HY4.out.cell 3; have y4 := HY4.out.cell 4; have y5 := HY4.out.cell 5; have y6 := HY4.out.cell 6; have y7 := HY4.out.cell 7; have z0 := HZ4.out.cell 0; have z1 := HZ4.out.cell 1; have z2 := HZ4.out.cell 2; have z3 := HZ4.out.cell 3; have z4 := HZ4.out.cell 4; have z5 := HZ4.out.cell 5; have z6 := HZ4.out.cell 6; have z7 := HZ4.out.cell 7; clear hB))
          | (go_at_call 16; ((with_reducible refine (CH.out _ H4.out).mono ?_); rintro e' w5 ⟨rfl, m, rfl⟩)))
        go_ret
        exact ⟨rfl, Below.drewN HB4.out⟩
      · have e9 := HK2.out (.inl hi')
        simp only [Prod.mk.injEq, En.mk.injEq, Ln.mk.injEq, St.mk.injEq] at e9
        obtain ⟨⟨⟨⟨rfl, rfl, rfl, rfl⟩, rfl, rfl, rfl⟩, rfl⟩, rfl⟩ := e9
        have q1 : (id == jd) = false := by simpa using hi'
        go_wp2_with (first
          | (go_at_call 29; ((with_reducible refine (CG1.out _ HP.out.bk).mono ?_); rintro e' w2 ⟨rfl, hB⟩; have H2 := hi ((HP.out.bk.below hB).below (bal w2 (.cells #[.bool ze, .bool zl, .bool zq, .bool za, .bool zen, .int .i64 zg, .int .i64 zp, .string zs] 62))); have HB2 := hi ((HBB.out.trans (hB.mono HBB.out.size)).alloc (Nat.le_trans HBB.out.size hB.size) (.cells #[.bool ze, .bool zl, .bool zq, .bool za, .bool zen, .int .i64 zg, .int .i64 zp, .string zs] 62)); have HX2 := hi ((HX1.out.below hB).alloc (.cells #[.bool ze, .bool zl, .bool zq, .bool za, .bool zen, .int .i64 zg, .int .i64 zp, .string zs] 62)); have HY2 := hi (CB.new w2 62 #[.bool ze, .bool zl, .bool zq, .bool za, .bool zen, .int .i64 zg, .int .i64 zp, .string zs]); have HS2 := hi (Nat.le_trans (Nat.succ_le_of_lt HX1.out.lt) hB.size); have hGs := hi (Nat.lt_of_lt_of_le HP.out.bk.row.lt hB.size); have c0 := HX2.out.cell 0; have c1 := HX2.out.cell 1; have c2 := HX2.out.cell 2; have c3 := HX2.out.cell 3; have c4 := HX2.out.cell 4; have c5 := HX2.out.cell 5; have c6 := HX2.out.cell 6; have c7 := HX2.out.cell 7; have c8 := HX2.out.cell 8; have c9 := HX2.out.cell 9; have c10 := HX2.out.cell 10; clear hB))
          | (go_at_call 12; ((with_reducible refine (CA.out _ H2.out).mono ?_); rintro e' w3 ⟨rfl, hA⟩; clear c0 c1 c2 c3 c4 c5 c6 c7 c8 c9 c10; have H3 := hi hA.bk; have HB3 := hi (HB2.out.trans (hA.kept.toBelow HB2.out.size (fun i e9 => by subst e9; exact Nat.le_of_lt HLO.out.2))); have HX3 := hi (HX2.out.keptB hA.kept (fun e9 => by have h9 := HLO.out.2; omega)); have HY3 := hi (HY2.out.keptB hA.kept (fun e9 => by have h9 := hGs.out; omega)); clear hA))
          | (go_at_call 29; ((with_reducible refine (CG2.out _ H3.out).mono ?_); rintro e' w4 ⟨rfl, hB⟩; have H4 := hi ((H3.out.below hB).below (bal w4 (.cells #[.bool ze, .bool zl, .bool zq, .bool za, .bool zen, .int .i64 zg, .int .i64 zp, .string zs] 62))); have HB4 := hi ((HB3.out.trans (hB.mono HB3.out.size)).alloc (Nat.le_trans HB3.out.size hB.size) (.cells #[.bool ze, .bool zl, .bool zq, .bool za, .bool zen, .int .i64 zg, .int .i64 zp, .string zs] 62)); have HX4 := hi ((HX3.out.below hB).alloc (.cells #[.bool ze, .bool zl, .bool zq, .bool za, .bool zen, .int .i64 zg, .int .i64 zp, .string zs] 62)); have HY4 := hi ((HY3.out.below hB).alloc (.cells #[.bool ze, .bool zl, .bool zq, .bool za, .bool zen, .int .i64 zg, .int .i64 zp, .string zs] 62)); have HZ4 := hi (CB.new w4 62 #[.bool ze, .bool zl, .bool zq, .bool za, .bool zen, .int .i64 zg, .int .i64 zp, .string zs]); have c1 := HX4.out.cell 1; have y0 := HY4.out.cell 0; have y1 := HY4.out.cell 1; have y2 := HY4.out.cell 2; have y3 := HY4.out.cell 3; have y4 := HY4.out.cell 4; have y5 := HY4.out.cell 5; have y6 := HY4.out.cell 6; have y7 := HY4.out.cell 7; have z0 := HZ4.out.cell 0; have z1 := HZ4.out.cell 1; have z2 := HZ4.out.cell 2; have z3 := HZ4.out.cell 3; have z4 := HZ4.out.cell 4; have z5 := HZ4.out.cell 5; have z6 := HZ4.out.cell 6; have z7 := HZ4.out.cell 7; clear hB))
          | (go_at_call 16; ((with_reducible refine (CH.out _ H4.out).mono ?_); rintro e' w5 ⟨rfl, m, rfl⟩)))
        go_ret
        exact ⟨rfl, Below.drewN HB4.out⟩
    · have e9 := HK2.out (.inr h0)
      simp only [Prod.mk.injEq, En.mk.injEq, Ln.mk.injEq, St.mk.injEq] at e9
      obtain ⟨⟨⟨⟨rfl, rfl, rfl, rfl⟩, rfl, rfl, rfl⟩, rfl⟩, rfl⟩ := e9
      have q0 : (rc == 0) = false := by simpa using h0
      by_cases hi' : id = jd
      · subst hi'
        go_wp2_with (first
          | (go_at_call 29; ((with_reducible refine (CG1.out _ HP.out.bk).mono ?_); rintro e' w2 ⟨rfl, hB⟩; have H2 := hi ((HP.out.bk.below hB).below (bal w2 (.cells #[.bool ze, .bool zl, .bool zq, .bool za, .bool zen, .int .i64 zg, .int .i64 zp, .string zs] 62))); have HB2 := hi ((HBB.out.trans (hB.mono HBB.out.size)).alloc (Nat.le_trans HBB.out.size hB.size) (.cells #[.bool ze, .bool zl, .bool zq, .bool za, .bool zen, .int .i64 zg, .int .i64 zp, .string zs] 62)); have HX2 := hi ((HX1.out.below hB).alloc (.cells #[.bool ze, .bool zl, .bool zq, .bool za, .bool zen, .int .i64 zg, .int .i64 zp, .string zs] 62)); have HY2 := hi (CB.new w2 62 #[.bool ze, .bool zl, .bool zq, .bool za, .bool zen, .int .i64 zg, .int .i64 zp, .string zs]); have HS2 := hi (Nat.le_trans (Nat.succ_le_of_lt HX1.out.lt) hB.size); have hGs := hi (Nat.lt_of_lt_of_le HP.out.bk.row.lt hB.size); have c0 := HX2.out.cell 0; have c1 := HX2.out.cell 1; have c2 := HX2.out.cell 2; have c3 := HX2.out.cell 3; have c4 := HX2.out.cell 4; have c5 := HX2.out.cell 5; have c6 := HX2.out.cell 6; have c7 := HX2.out.cell 7; have c8 := HX2.out.cell 8; have c9 := HX2.out.cell 9; have c10 := HX2.out.cell 10; clear hB))
          | (go_at_call 12; ((with_reducible refine (CA.out _ H2.out).mono ?_); rintro e' w3 ⟨rfl, hA⟩; clear c0 c1 c2 c3 c4 c5 c6 c7 c8 c9 c10; have H3 := hi hA.bk; have HB3 := hi (HB2.out.trans (hA.kept.toBelow HB2.out.size (fun i e9 => by subst e9; exact Nat.le_of_lt HLO.out.2))); have HX3 := hi (HX2.out.keptB hA.kept (fun e9 => by have h9 := HLO.out.2; omega)); have HY3 := hi (HY2.out.keptB hA.kept (fun e9 => by have h9 := hGs.out; omega)); clear hA))
          | (go_at_call 29; ((with_reducible refine (CG2.out _ H3.out).mono ?_); rintro e' w4 ⟨rfl, hB⟩; have H4 := hi ((H3.out.below hB).below (bal w4 (.cells #[.bool ze, .bool zl, .bool zq, .bool za, .bool zen, .int .i64 zg, .int .i64 zp, .string zs] 62))); have HB4 := hi ((HB3.out.trans (hB.mono HB3.out.size)).alloc (Nat.le_trans HB3.out.size hB.size) (.cells #[.bool ze, .bool zl, .bool zq, .bool za, .bool zen, .int .i64 zg, .int .i64 zp, .string zs] 62)); have HX4 := hi ((HX3.out.below hB).alloc (.cells #[.bool ze, .bool zl, .bool zq, .bool za, .bool zen, .int .i64 zg, .int .i64 zp, .string zs] 62)); have HY4 := hi ((HY3.out.below hB).alloc (.cells #[.bool ze, .bool zl, .bool zq, .bool za, .bool zen, .int .i64 zg, .int .i64 zp, .string zs] 62)); have HZ4 := hi (CB.new w4 62 #[.bool ze, .bool zl, .bool zq, .bool za, .bool zen, .int .i64 zg, .int .i64 zp, .string zs]); have c1 := HX4.out.cell 1; have y0 := HY4.out.cell 0; have y1 := HY4.out.cell 1; have y2 := HY4.out.cell 2; have y3 := HY4.out.cell 3; have y4 := HY4.out.cell 4; have y5 := HY4.out.cell 5; have y6 := HY4.out.cell 6; have y7 := HY4.out.cell 7; have z0 := HZ4.out.cell 0; have z1 := HZ4.out.cell 1; have z2 := HZ4.out.cell 2; have z3 := HZ4.out.cell 3; have z4 := HZ4.out.cell 4; have z5 := HZ4.out.cell 5; have z6 := HZ4.out.cell 6; have z7 := HZ4.out.cell 7; clear hB)))
        go_ret
        exact ⟨rfl, HB4.out⟩
      · have q1 : (id == jd) = false := by simpa using hi'
        go_wp2_with (first
          | (go_at_call 29; ((with_reducible refine (CG1.out _ HP.out.bk).mono ?_); rintro e' w2 ⟨rfl, hB⟩; have H2 := hi ((HP.out.bk.below hB).below (bal w2 (.cells #[.bool ze, .bool zl, .bool zq, .bool za, .bool zen, .int .i64 zg, .int .i64 zp, .string zs] 62))); have HB2 := hi ((HBB.out.trans (hB.mono HBB.out.size)).alloc (Nat.le_trans HBB.out.size hB.size) (.cells #[.bool ze, .bool zl, .bool zq, .bool za, .bool zen, .int .i64 zg, .int .i64 zp, .string zs] 62)); have HX2 := hi ((HX1.out.below hB).alloc (.cells #[.bool ze, .bool zl, .bool zq, .bool za, .bool zen, .int .i64 zg, .int .i64 zp, .string zs] 62)); have HY2 := hi (CB.new w2 62 #[.bool ze, .bool zl, .bool zq, .bool za, .bool zen, .int .i64 zg, .int .i64 zp, .string zs]); have HS2 := hi (Nat.le_trans (Nat.succ_le_of_lt HX1.out.lt) hB.size); have hGs := hi (Nat.lt_of_lt_of_le HP.out.bk.row.lt hB.size); have c0 := HX2.out.cell 0; have c1 := HX2.out.cell 1; have c2 := HX2.out.cell 2; have c3 := HX2.out.cell 3; have c4 := HX2.out.cell 4; have c5 := HX2.out.cell 5; have c6 := HX2.out.cell 6; have c7 := HX2.out.cell 7; have c8 := HX2.out.cell 8; have c9 := HX2.out.cell 9; have c10 := HX2.out.cell 10; clear hB))
          | (go_at_call 12; ((with_reducible refine (CA.out _ H2.out).mono ?_); rintro e' w3 ⟨rfl, hA⟩; clear c0 c1 c2 c3 c4 c5 c6 c7 c8 c9 c10; have H3 := hi hA.bk; have HB3 := hi (HB2.out.trans (hA.kept.toBelow HB2.out.size (fun i e9 => by subst e9; exact Nat.le_of_lt HLO.out.2))); have HX3 := hi (HX2.out.keptB hA.kept (fun e9 => by have h9 := HLO.out.2; omega)); have HY3 := hi (HY2.out.keptB hA.kept (fun e9 => by have h9 := hGs.out; omega)); clear hA))
          | (go_at_call 29; ((with_reducible refine (CG2.out _ H3.out).mono ?_); rintro e' w4 ⟨rfl, hB⟩; have H4 := hi ((H3.out.below hB).below (bal w4 (.cells #[.bool ze, .bool zl, .bool zq, .bool za, .bool zen, .int .i64 zg, .int .i64 zp, .string zs] 62))); have HB4 := hi ((HB3.out.trans (hB.mono HB3.out.size)).alloc (Nat.le_trans HB3.out.size hB.size) (.cells #[.bool ze, .bool zl, .bool zq, .bool za, .bool zen, .int .i64 zg, .int .i64 zp, .string zs] 62)); have HX4 := hi ((HX3.out.below hB).alloc (.cells #[.bool ze, .bool zl, .bool zq, .bool za, .bool zen, .int .i64 zg, .int .i64 zp, .string zs] 62)); have HY4 := hi ((HY3.out.below hB).alloc (.cells #[.bool ze, .bool zl, .bool zq, .bool za, .bool zen, .int .i64 zg, .int .i64 zp, .string zs] 62)); have HZ4 := hi (CB.new w4 62 #[.bool ze, .bool zl, .bool zq, .bool za, .bool zen, .int .i64 zg, .int .i64 zp, .string zs]); have c1 := HX4.out.cell 1; have y0 := HY4.out.cell 0; have y1 := HY4.out.cell 1; have y2 := HY4.out.cell 2; have y3 := HY4.out.cell 3; have y4 := HY4.out.cell 4; have y5 := HY4.out.cell 5; have y6 := HY4.out.cell 6; have y7 := HY4.out.cell 7; have z0 := HZ4.out.cell 0; have z1 := HZ4.out.cell 1; have z2 := HZ4.out.cell 2; have z3 := HZ4.out.cell 3; have z4 := HZ4.out.cell 4; have z5 := HZ4.out.cell 5; have z6 := HZ4.out.cell 6; have z7 := HZ4.out.cell 7; clear hB)))
        go_ret
        exact ⟨rfl, HB4.out⟩
  · have q2 : (d == 2) = false := by simpa using hd
    have CA := hi (fun W (hW : BkAt W b g cap f' es) => put_any (id := jd) (x := ⟨⟨⟨e, l, q, a'⟩, en, gr, p⟩, s⟩) hW HP.out.fit HJD.out)
    have hr2 : putR f' es jd ⟨⟨⟨e, l, q, a'⟩, en, gr, p⟩, s⟩ = (es2, rc) := by
      rw [← hr, ← HX9.out]
      simp [actK, Ac9.ent, hd]
    rw [hr2] at CA
    clear hr hr2 hd
    dsimp only [En.v] at CA
    by_cases h0 : rc = 0
    · have hh := HK1.out h0
      obtain rfl := h0
      rw [hh] at CH
      by_cases hi' : id = jd
      · subst hi'
        go_wp2_with (first
          | (go_at_call 29; ((with_reducible refine (CG1.out _ HP.out.bk).mono ?_); rintro e' w2 ⟨rfl, hB⟩; have H2 := hi ((HP.out.bk.below hB).below (bal w2 (.cells #[.bool ye, .bool yl, .bool yq, .bool ya, .bool yen, .int .i64 yg, .int .i64 yp, .string ys] 62))); have HB2 := hi ((HBB.out.trans (hB.mono HBB.out.size)).alloc (Nat.le_trans HBB.out.size hB.size) (.cells #[.bool ye, .bool yl, .bool yq, .bool ya, .bool yen, .int .i64 yg, .int .i64 yp, .string ys] 62)); have HX2 := hi ((HX1.out.below hB).alloc (.cells #[.bool ye, .bool yl, .bool yq, .bool ya, .bool yen, .int .i64 yg, .int .i64 yp, .string ys] 62)); have HY2 := hi (CB.new w2 62 #[.bool ye, .bool yl, .bool yq, .bool ya, .bool yen, .int .i64 yg, .int .i64 yp, .string ys]); have HS2 := hi (Nat.le_trans (Nat.succ_le_of_lt HX1.out.lt) hB.size); have hGs := hi (Nat.lt_of_lt_of_le HP.out.bk.row.lt hB.size); have c0 := HX2.out.cell 0; have c1 := HX2.out.cell 1; have c2 := HX2.out.cell 2; have c3 := HX2.out.cell 3; have c4 := HX2.out.cell 4; have c5 := HX2.out.cell 5; have c6 := HX2.out.cell 6; have c7 := HX2.out.cell 7; have c8 := HX2.out.cell 8; have c9 := HX2.out.cell 9; have c10 := HX2.out.cell 10; clear hB))
          | (go_at_call 33; ((with_reducible refine (CA.out _ H2.out).mono ?_); rintro e' w3 ⟨rfl, hA⟩; clear c0 c1 c2 c3 c4 c5 c6 c7 c8 c9 c10; have H3 := hi hA.bk; have HB3 := hi (HB2.out.trans (hA.kept.toBelow HB2.out.size (fun i e9 => by subst e9; exact Nat.le_of_lt HLO.out.2))); have HX3 := hi (HX2.out.keptB hA.kept (fun e9 => by have h9 := HLO.out.2; omega)); have HY3 := hi (HY2.out.keptB hA.kept (fun e9 => by have h9 := hGs.out; omega)); clear hA))
          | (go_at_call 29; ((with_reducible refine (CG2.out _ H3.out).mono ?_); rintro e' w4 ⟨rfl, hB⟩; have H4 := hi ((H3.out.below hB).below (bal w4 (.cells #[.bool ze, .bool zl, .bool zq, .bool za, .bool zen, .int .i64 zg, .int .i64 zp, .string zs] 62))); have HB4 := hi ((HB3.out.trans (hB.mono HB3.out.size)).alloc (Nat.le_trans HB3.out.size hB.size) (.cells #[.bool ze, .bool zl, .bool zq, .bool za, .bool zen, .int .i64 zg, .int .i64 zp, .string zs] 62)); have HX4 := hi ((HX3.out.below hB).alloc (.cells #[.bool ze, .bool zl, .bool zq, .bool za, .bool zen, .int .i64 zg, .int .i64 zp, .string zs] 62)); have HY4 := hi ((HY3.out.below hB).alloc (.cells #[.bool ze, .bool zl, .bool zq, .bool za, .bool zen, .int .i64 zg, .int .i64 zp, .string zs] 62)); have HZ4 := hi (CB.new w4 62 #[.bool ze, .bool zl, .bool zq, .bool za, .bool zen, .int .i64 zg, .int .i64 zp, .string zs]); have c1 := HX4.out.cell 1; have y0 := HY4.out.cell 0; have y1 := HY4.out.cell 1; have y2 := HY4.out.cell 2; have y3 := HY4.out.cell 3; have y4 := HY4.out.cell 4; have y5 := HY4.out.cell 5; have y6 := HY4.out.cell 6; have y7 := HY4.out.cell 7; have z0 := HZ4.out.cell 0; have z1 := HZ4.out.cell 1; have z2 := HZ4.out.cell 2; have z3 := HZ4.out.cell 3; have z4 := HZ4.out.cell 4; have z5 := HZ4.out.cell 5; have z6 := HZ4.out.cell 6; have z7 := HZ4.out.cell 7; clear hB))
          | (go_at_call 16; ((with_reducible refine (CH.out _ H4.out).mono ?_); rintro e' w5 ⟨rfl, m, rfl⟩)))
        go_ret
        exact ⟨rfl, Below.drewN HB4.out⟩
      · have e9 := HK2.out (.inl hi')
        simp only [Prod.mk.injEq, En.mk.injEq, Ln.mk.injEq, St.mk.injEq] at e9
        obtain ⟨⟨⟨⟨rfl, rfl, rfl, rfl⟩, rfl, rfl, rfl⟩, rfl⟩, rfl⟩ := e9
        have q1 : (id == jd) = false := by simpa using hi'
        go_wp2_with (first
          | (go_at_call 29; ((with_reducible refine (CG1.out _ HP.out.bk).mono ?_); rintro e' w2 ⟨rfl, hB⟩; have H2 := hi ((HP.out.bk.below hB).below (bal w2 (.cells #[.bool ze, .bool zl, .bool zq, .bool za, .bool zen, .int .i64 zg, .int .i64 zp, .string zs] 62))); have HB2 := hi ((HBB.out.trans (hB.mono HBB.out.size)).alloc (Nat.le_trans HBB.out.size hB.size) (.cells #[.bool ze, .bool zl, .bool zq, .bool za, .bool zen, .int .i64 zg, .int .i64 zp, .string zs] 62)); have HX2 := hi ((HX1.out.below hB).alloc (.cells #[.bool ze, .bool zl, .bool zq, .bool za, .bool zen, .int .i64 zg, .int .i64 zp, .string zs] 62)); have HY2 := hi (CB.new w2 62 #[.bool ze, .bool zl, .bool zq, .bool za, .bool zen, .int .i64 zg, .int .i64 zp, .string zs]); have HS2 := hi (Nat.le_trans (Nat.succ_le_of_lt HX1.out.lt) hB.size); have hGs := hi (Nat.lt_of_lt_of_le HP.out.bk.row.lt hB.size); have c0 := HX2.out.cell 0; have c1 := HX2.out.cell 1; have c2 := HX2.out.cell 2; have c3 := HX2.out.cell 3; have c4 := HX2.out.cell 4; have c5 := HX2.out.cell 5; have c6 := HX2.out.cell 6; have c7 := HX2.out.cell 7; have c8 := HX2.out.cell 8; have c9 := HX2.out.cell 9; have c10 := HX2.out.cell 10; clear hB))
          | (go_at_call 33; ((with_reducible refine (CA.out _ H2.out).mono ?_); rintro e' w3 ⟨rfl, hA⟩; clear c0 c1 c2 c3 c4 c5 c6 c7 c8 c9 c10; have H3 := hi hA.bk; have HB3 := hi (HB2.out.trans (hA.kept.toBelow HB2.out.size (fun i e9 => by subst e9; exact Nat.le_of_lt HLO.out.2))); have HX3 := hi (HX2.out.keptB hA.kept (fun e9 => by have h9 := HLO.out.2; omega)); have HY3 := hi (HY2.out.keptB hA.kept (fun e9 => by have h9 := hGs.out; omega)); clear hA))
          | (go_at_call 29; ((with_reducible refine (CG2.out _ H3.out).mono ?_); rintro e' w4 ⟨rfl, hB⟩; have H4 := hi ((H3.out.below hB).below (bal w4 (.cells #[.bool ze, .bool zl, .bool zq, .bool za, .bool zen, .int .i64 zg, .int .i64 zp, .string zs] 62))); have HB4 := hi ((HB3.out.trans (hB.mono HB3.out.size)).alloc (Nat.le_trans HB3.out.size hB.size) (.cells #[.bool ze, .bool zl, .bool zq, .bool za, .bool zen, .int .i64 zg, .int .i64 zp, .string zs] 62)); have HX4 := hi ((HX3.out.below hB).alloc (.cells #[.bool ze, .bool zl, .bool zq, .bool za, .bool zen, .int .i64 zg, .int .i64 zp, .string zs] 62)); have HY4 := hi ((HY3.out.below hB).alloc (.cells #[.bool ze, .bool zl, .bool zq, .bool za, .bool zen, .int .i64 zg, .int .i64 zp, .string zs] 62)); have HZ4 := hi (CB.new w4 62 #[.bool ze, .bool zl, .bool zq, .bool za, .bool zen, .int .i64 zg, .int .i64 zp, .string zs]); have c1 := HX4.out.cell 1; have y0 := HY4.out.cell 0; have y1 := HY4.out.cell 1; have y2 := HY4.out.cell 2; have y3 := HY4.out.cell 3; have y4 := HY4.out.cell 4; have y5 := HY4.out.cell 5; have y6 := HY4.out.cell 6; have y7 := HY4.out.cell 7; have z0 := HZ4.out.cell 0; have z1 := HZ4.out.cell 1; have z2 := HZ4.out.cell 2; have z3 := HZ4.out.cell 3; have z4 := HZ4.out.cell 4; have z5 := HZ4.out.cell 5; have z6 := HZ4.out.cell 6; have z7 := HZ4.out.cell 7; clear hB))
          | (go_at_call 16; ((with_reducible refine (CH.out _ H4.out).mono ?_); rintro e' w5 ⟨rfl, m, rfl⟩)))
        go_ret
        exact ⟨rfl, Below.drewN HB4.out⟩
    · have e9 := HK2.out (.inr h0)
      simp only [Prod.mk.injEq, En.mk.injEq, Ln.mk.injEq, St.mk.injEq] at e9
      obtain ⟨⟨⟨⟨rfl, rfl, rfl, rfl⟩, rfl, rfl, rfl⟩, rfl⟩, rfl⟩ := e9
      have q0 : (rc == 0) = false := by simpa using h0
      by_cases hi' : id = jd
      · subst hi'
        go_wp2_with (first
          | (go_at_call 29; ((with_reducible refine (CG1.out _ HP.out.bk).mono ?_); rintro e' w2 ⟨rfl, hB⟩; have H2 := hi ((HP.out.bk.below hB).below (bal w2 (.cells #[.bool ze, .bool zl, .bool zq, .bool za, .bool zen, .int .i64 zg, .int .i64 zp, .string zs] 62))); have HB2 := hi ((HBB.out.trans (hB.mono HBB.out.size)).alloc (Nat.le_trans HBB.out.size hB.size) (.cells #[.bool ze, .bool zl, .bool zq, .bool za, .bool zen, .int .i64 zg, .int .i64 zp, .string zs] 62)); have HX2 := hi ((HX1.out.below hB).alloc (.cells #[.bool ze, .bool zl, .bool zq, .bool za, .bool zen, .int .i64 zg, .int .i64 zp, .string zs] 62)); have HY2 := hi (CB.new w2 62 #[.bool ze, .bool zl, .bool zq, .bool za, .bool zen, .int .i64 zg, .int .i64 zp, .string zs]); have HS2 := hi (Nat.le_trans (Nat.succ_le_of_lt HX1.out.lt) hB.size); have hGs := hi (Nat.lt_of_lt_of_le HP.out.bk.row.lt hB.size); have c0 := HX2.out.cell 0; have c1 := HX2.out.cell 1; have c2 := HX2.out.cell 2; have c3 := HX2.out.cell 3; have c4 := HX2.out.cell 4; have c5 := HX2.out.cell 5; have c6 := HX2.out.cell 6; have c7 := HX2.out.cell 7; have c8 := HX2.out.cell 8; have c9 := HX2.out.cell 9; have c10 := HX2.out.cell 10; clear hB))
          | (go_at_call 33; ((with_reducible refine (CA.out _ H2.out).mono ?_); rintro e' w3 ⟨rfl, hA⟩; clear c0 c1 c2 c3 c4 c5 c6 c7 c8 c9 c10; have H3 := hi hA.bk; have HB3 := hi (HB2.out.trans (hA.kept.toBelow HB2.out.size (fun i e9 => by subst e9; exact Nat.le_of_lt HLO.out.2))); have HX3 := hi (HX2.out.keptB hA.kept (fun e9 => by have h9 := HLO.out.2; omega)); have HY3 := hi (HY2.out.keptB hA.kept (fun e9 => by have h9 := hGs.out; omega)); clear hA))
          | (go_at_call 29; ((with_reducible refine (CG2.out _ H3.out).mono ?_); rintro e' w4 ⟨rfl, hB⟩; have H4 := hi ((H3.out.below hB).below (bal w4 (.cells #[.bool ze, .bool zl, .bool zq, .bool za, .bool zen, .int .i64 zg, .int .i64 zp, .string zs] 62))); have HB4 := hi ((HB3.out.trans (hB.mono HB3.out.size)).alloc (Nat.le_trans HB3.out.size hB.size) (.cells #[.bool ze, .bool zl, .bool zq, .bool za, .bool zen, .int .i64 zg, .int .i64 zp, .string zs] 62)); have HX4 := hi ((HX3.out.below hB).alloc (.cells #[.bool ze, .bool zl, .bool zq, .bool za, .bool zen, .int .i64 zg, .int .i64 zp, .string zs] 62)); have HY4 := hi ((HY3.out.below hB).alloc (.cells #[.bool ze, .bool zl, .bool zq, .bool za, .bool zen, .int .i64 zg, .int .i64 zp, .string zs] 62)); have HZ4 := hi (CB.new w4 62 #[.bool ze, .bool zl, .bool zq, .bool za, .bool zen, .int .i64 zg, .int .i64 zp, .string zs]); have c1 := HX4.out.cell 1; have y0 := HY4.out.cell 0; have y1 := HY4.out.cell 1; have y2 := HY4.out.cell 2; have y3 := HY4.out.cell 3; have y4 := HY4.out.cell 4; have y5 := HY4.out.cell 5; have y6 := HY4.out.cell 6; have y7 := HY4.out.cell 7; have z0 := HZ4.out.cell 0; have z1 := HZ4.out.cell 1; have z2 := HZ4.out.cell 2; have z3 := HZ4.out.cell 3; have z4 := HZ4.out.cell 4; have z5 := HZ4.out.cell 5; have z6 := HZ4.out.cell 6; have z7 := HZ4.out.cell 7; clear hB)))
        go_ret
        exact ⟨rfl, HB4.out⟩
      · have q1 : (id == jd) = false := by simpa using hi'
        go_wp2_with (first
          | (go_at_call 29; ((with_reducible refine (CG1.out _ HP.out.bk).mono ?_); rintro e' w2 ⟨rfl, hB⟩; have H2 := hi ((HP.out.bk.below hB).below (bal w2 (.cells #[.bool ze, .bool zl, .bool zq, .bool za, .bool zen, .int .i64 zg, .int .i64 zp, .string zs] 62))); have HB2 := hi ((HBB.out.trans (hB.mono HBB.out.size)).alloc (Nat.le_trans HBB.out.size hB.size) (.cells #[.bool ze, .bool zl, .bool zq, .bool za, .bool zen, .int .i64 zg, .int .i64 zp, .string zs] 62)); have HX2 := hi ((HX1.out.below hB).alloc (.cells #[.bool ze, .bool zl, .bool zq, .bool za, .bool zen, .int .i64 zg, .int .i64 zp, .string zs] 62)); have HY2 := hi (CB.new w2 62 #[.bool ze, .bool zl, .bool zq, .bool za, .bool zen, .int .i64 zg, .int .i64 zp, .string zs]); have HS2 := hi (Nat.le_trans (Nat.succ_le_of_lt HX1.out.lt) hB.size); have hGs := hi (Nat.lt_of_lt_of_le HP.out.bk.row.lt hB.size); have c0 := HX2.out.cell 0; have c1 := HX2.out.cell 1; have c2 := HX2.out.cell 2; have c3 := HX2.out.cell 3; have c4 := HX2.out.cell 4; have c5 := HX2.out.cell 5; have c6 := HX2.out.cell 6; have c7 := HX2.out.cell 7; have c8 := HX2.out.cell 8; have c9 := HX2.out.cell 9; have c10 := HX2.out.cell 10; clear hB))
          | (go_at_call 33; ((with_reducible refine (CA.out _ H2.out).mono ?_); rintro e' w3 ⟨rfl, hA⟩; clear c0 c1 c2 c3 c4 c5 c6 c7 c8 c9 c10; have H3 := hi hA.bk; have HB3 := hi (HB2.out.trans (hA.kept.toBelow HB2.out.size (fun i e9 => by subst e9; exact Nat.le_of_lt HLO.out.2))); have HX3 := hi (HX2.out.keptB hA.kept (fun e9 => by have h9 := HLO.out.2; omega)); have HY3 := hi (HY2.out.keptB hA.kept (fun e9 => by have h9 := hGs.out; omega)); clear hA))
          | (go_at_call 29; ((with_reducible refine (CG2.out _ H3.out).mono ?_); rintro e' w4 ⟨rfl, hB⟩; have H4 := hi ((H3.out.below hB).below (bal w4 (.cells #[.bool ze, .bool zl, .bool zq, .bool za, .bool zen, .int .i64 zg, .int .i64 zp, .string zs] 62))); have HB4 := hi ((HB3.out.trans (hB.mono HB3.out.size)).alloc (Nat.le_trans HB3.out.size hB.size) (.cells #[.bool ze, .bool zl, .bool zq, .bool za, .bool zen, .int .i64 zg, .int .i64 zp, .string zs] 62)); have HX4 := hi ((HX3.out.below hB).alloc (.cells #[.bool ze, .bool zl, .bool zq, .bool za, .bool zen, .int .i64 zg, .int .i64 zp, .string zs] 62)); have HY4 := hi ((HY3.out.below hB).alloc (.cells #[.bool ze, .bool zl, .bool zq, .bool za, .bool zen, .int .i64 zg, .int .i64 zp, .string zs] 62)); have HZ4 := hi (CB.new w4 62 #[.bool ze, .bool zl, .bool zq, .bool za, .bool zen, .int .i64 zg, .int .i64 zp, .string zs]); have c1 := HX4.out.cell 1; have y0 := HY4.out.cell 0; have y1 := HY4.out.cell 1; have y2 := HY4.out.cell 2; have y3 := HY4.out.cell 3; have y4 := HY4.out.cell 4; have y5 := HY4.out.cell 5; have y6 := HY4.out.cell 6; have y7 := HY4.out.cell 7; have z0 := HZ4.out.cell 0; have z1 := HZ4.out.cell 1; have z2 := HZ4.out.cell 2; have z3 := HZ4.out.cell 3; have z4 := HZ4.out.cell 4; have z5 := HZ4.out.cell 5; have z6 := HZ4.out.cell 6; have z7 := HZ4.out.cell 7; clear hB)))
        go_ret
        exact ⟨rfl, HB4.out⟩

end Go.Proofs.Ytfjihpcemmobjaa
