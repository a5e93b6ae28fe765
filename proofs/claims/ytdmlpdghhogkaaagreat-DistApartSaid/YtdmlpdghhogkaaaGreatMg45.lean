import Derived.Test.YtdmlpdghhogkaaaGreatMg44
namespace Go.Proofs.YtdmlpdghhogkaaaGreat
open Go.ChangeShapes Go.WideShapes Go.ChangeAt Go.RowKit Go.Shelf
set_option linter.unusedVariables false
attribute [local go_sem] Oper.semAt_some
theorem getR_snd (f : Int) (es : List En) (id : Int) : (getR f es id).2 = if hasB f es.length id then 0 else 90 := by unfold getR; split <;> rfl
theorem doR_snd (f : Int) (es : List En) (id a : Int) : (doR f es id a).2 = if hasB f es.length id then 0 else 90 := by unfold doR; split <;> rfl
theorem doV_cs (D : Ds) (k id a : Int) : (doV D k id a).1.cs.length = D.cs.length := by
  unfold doV
  split
  · split
    · exact Ds.own_len _ _ _
    · rfl
  · rfl
theorem getV_snd (D : Ds) {k : Nat} (hk : k < D.cs.length) (ok : D.Ok) (id : Int) : (getV D k id).2 = if id < 32 then (if hasB 0 32 id then 0 else 90) else (if hasB 32 D.sh.length id then 0 else 90) := by
  unfold getV
  rw [if_pos (by simp [hasN]; omega)]
  split
  · show (getR 0 (D.nth (k : Int).toNat).es id).2 = _
    rw [getR_snd, Int.toNat_natCast, ok.own k hk]
  · show (getR 32 D.sh id).2 = _
    rw [getR_snd]
theorem doV_sh (D : Ds) (k id a : Int) : (doV D k id a).1.sh.length = D.sh.length := by
  unfold doV
  split
  · split
    · rfl
    · show (doR 32 D.sh id a).1.length = _
      rw [doR_len]
  · rfl
theorem apart_same {D : Ds} (ok : D.Ok) {k : Nat} (hk : k < D.cs.length) (K id a : Int) : (getV (doV D K id a).1 k id).2 = (getV D k id).2 := by
  rw [getV_snd D hk ok, getV_snd _ (by rw [doV_cs]; exact hk) (doV_ok ok K id a), doV_sh]
theorem apart_own {D : Ds} (ok : D.Ok) (K id a : Int) : (getV (doV D K id a).1 K id).2 = (doV D K id a).2 := by
  cases hK : hasN D.cs.length K
  · unfold getV
    rw [doV_cs, hK]
    unfold doV
    rw [hK]
    rfl
  · obtain ⟨j, rfl, hj⟩ := hasN_at hK
    rw [apart_same ok hj, getV_snd D hj ok]
    unfold doV
    rw [hK]
    simp only [if_true]
    split
    · show _ = (doR 0 (D.nth (j : Int).toNat).es id a).2
      rw [doR_snd, Int.toNat_natCast, ok.own j hj]
    · show _ = (doR 32 D.sh id a).2
      rw [doR_snd]
theorem apart_shared {D : Ds} {k : Nat} (hk : k < D.cs.length) (K id a : Int) (hid : ¬ id < 32) (hf : (doV D K id a).2 = 0) : (getV (doV D K id a).1 K id).1 = (getV (doV D K id a).1 k id).1 := by
  have hK : hasN D.cs.length K = true := by
    cases hK : hasN D.cs.length K
    · unfold doV at hf
      rw [hK] at hf
      simp at hf
    · rfl
  unfold getV
  rw [doV_cs, hK, if_pos rfl, if_neg hid, if_pos (by simp [hasN]; omega), if_neg hid]
theorem apart_other {D : Ds} {k : Nat} (hk : k < D.cs.length) (K id a : Int) (hid : id < 32) (hne : (k : Int) ≠ K) : (getV (doV D K id a).1 k id).1 = (getV D k id).1 := by
  unfold getV
  rw [doV_cs, if_pos (by simp [hasN]; omega), if_pos hid, if_pos (by simp [hasN]; omega), if_pos hid]
  unfold doV
  cases hK : hasN D.cs.length K
  · rfl
  · obtain ⟨j, rfl, hj⟩ := hasN_at hK
    simp only [if_true]
    rw [if_pos hid]
    show (getR 0 ((D.setOwn (j : Int).toNat _).nth (k : Int).toNat).es id).1.ln = _
    rw [Int.toNat_natCast, Int.toNat_natCast, Ds.own_other hj (by omega)]
theorem eqLn_self (e l h a en : Bool) (g p : Int) : eqLn e l h a en g p e l h a en g p = true := by
  have := eqLn_iff ⟨⟨e, l, h, a⟩, en, g, p⟩ ⟨⟨e, l, h, a⟩, en, g, p⟩
  simpa using this
theorem ln_inj {e l h a n : Bool} {g p : Int} {e' l' h' a' n' : Bool} {g' p' : Int} (q : (⟨⟨e, l, h, a⟩, n, g, p⟩ : Ln) = ⟨⟨e', l', h', a'⟩, n', g', p'⟩) : (e = e' ∧ l = l' ∧ h = h' ∧ a = a') ∧ n = n' ∧ g = g' ∧ p = p' := by
  simp only [Ln.mk.injEq, St.mk.injEq] at q
  exact q
set_option maxRecDepth 100000 in
set_option maxHeartbeats 8000000 in
theorem apart_law (f n : Int) (v : Value) (xs : List Xa) (x : Xa) (o : Int) (w : World) (hf0 : 0 ≤ f) (hf1 : f < 256) (hn0 : 0 ≤ n) (hn1 : n < 256) (h : ActsAt w v xs) (hl : xs.length ≤ 9223372036854775806) (hx : x.Ok) (ho0 : 0 ≤ o) (ho1 : o < 256) :
    Calls Tryz.prog 7 #[.int .u8 f, .int .u8 n, v, x.v_, .int .u8 o] w fun e w' => e = .returned (.bool true) ∧ Below w.heap.size w w' := by
  have HP := hi (fun W (k : Below w.heap.size w W) => played_any f n v xs W hf0 hf1 hn0 hn1 (h.below k) hl)
  obtain ⟨xd, off, K, id, vv, a, ⟨se, sl, sh, sa⟩, hh⟩ := x
  have hid := hx.id
  dsimp only at hid
  have hg := fun op x y xs ys W => guardL op x y xs ys W
  clear h hl hx
  have HB0 := hi (bal w (.cells #[.int .i64 xd, .int .i64 off, .int .i64 K, .int .i64 id, .int .u64 vv, .int .i64 a, .bool se, .bool sl, .bool sh, .bool sa, .bool hh] 33))
  have HX0 := hi (CB.new w 33 #[.int .i64 xd, .int .i64 off, .int .i64 K, .int .i64 id, .int .u64 vv, .int .i64 a, .bool se, .bool sl, .bool sh, .bool sa, .bool hh])
  go_enter Tryz.func7, Tryz.ntmps7
  go_wp2_with (first
    | (go_at_call 10; ((with_reducible refine (awake_any _).mono ?_); rintro e w1 ⟨rfl, hb⟩; have HB1 := hi (HB0.out.trans (hb.mono HB0.out.size)); have HX1 := hi (HX0.out.below hb); clear hb))
    | (go_at_call 20; ((with_reducible refine (HP.out _ HB1.out).mono ?_); rintro e w2 ⟨p, q, b, c, D, rfl, hd⟩; have HD := hi hd; clear hd)))
  have hok := HD.out.ok
  have hn1' := hok.n1
  have hn8' := hok.n8
  obtain ⟨k, hk, hko⟩ := tmod_core ho0 ho1 hok.n1 hok.n8
  have HB2 := hi (HB1.out.trans (HD.out.below.mono HB1.out.size))
  have HX2 := hi (HX1.out.below HD.out.below)
  have HLO := hi (show w.heap.size < p from by have := HX1.out.lt; have := HD.out.lo; omega)
  have HCO := hi (cores_any HD.out.di)
  have x3 := HX2.out.cell 3
  have E1 := apart_same hok hk K id a
  have E2 := apart_own hok K id a
  have E3 := apart_shared hk K id a
  have E4 := apart_other hk K id a
  obtain ⟨kz, hkz⟩ : ∃ kz : Int, (k : Int) = kz := ⟨_, rfl⟩
  rw [hkz] at E1 E3 E4 hko
  have HG1 := hi (get_dist HD.out.di hok (k := kz) hid)
  have HDO := hi (fun W (z : DiAt W p q b c D) => do_dist z hok (k := K) a hid)
  have hok2 := doV_ok hok K id a
  obtain ⟨⟨D2, f1⟩, hdo⟩ : ∃ R, doV D K id a = R := ⟨_, rfl⟩
  rw [hdo] at E1 E2 E3 E4 HDO hok2
  dsimp only at E1 E2 E3 E4 HDO hok2
  have HG2 := hi (fun W (z : DiAt W p q b c D2) => get_dist z hok2 (k := kz) hid)
  have HG3 := hi (fun W (z : DiAt W p q b c D2) => get_dist z hok2 (k := K) hid)
  obtain ⟨⟨⟨⟨e1, l1, h1, a1⟩, n1, g1, p1⟩, r1⟩, hr1⟩ : ∃ R, getV D kz id = R := ⟨_, rfl⟩
  obtain ⟨⟨⟨⟨e2, l2, h2, a2⟩, n2, g2, p2⟩, r2⟩, hr2⟩ : ∃ R, getV D2 kz id = R := ⟨_, rfl⟩
  obtain ⟨⟨⟨⟨e3, l3, h3, a3⟩, n3, g3, p3⟩, r3⟩, hr3⟩ : ∃ R, getV D2 K id = R := ⟨_, rfl⟩
  rw [hr1] at HG1 E1 E4
  rw [hr2] at HG2 E1 E3 E4
  rw [hr3] at HG3 E2 E3
  dsimp only [Ln.v] at HG1 HG2 HG3 E1 E2 E3 E4
  obtain ⟨n9, hn9⟩ : ∃ n9, D.cs.length = n9 := ⟨_, rfl⟩
  rw [hn9] at HCO hko hk hn1' hn8'
  have hmx : max 1 (n9 : Int) = n9 := by omega
  have hn0' : (n9 : Int) ≠ 0 := by omega
  have hwk : IntKind.i64.wrap kz = kz := by rw [IntKind.wrap_i64]; omega
  subst E1 E2
  clear hr1 hr2 hr3 hdo hok hok2 hn9 HP HX0 HB0
  have HCO := HCO.out
  rcases (show n9 = 1 ∨ 1 < n9 by omega) with rfl | h19
  · obtain rfl : kz = 0 := by omega
    by_cases h32 : id < 32
    · by_cases hkk : (0 : Int) = K
      · subst hkk
        clear E3 E4
        (with_reducible refine HCO.mono ?_); rintro e w2' ⟨rfl, rfl⟩; have HCO := hi trivial
        go_wp2_with (first
            | (go_at_call 26; ((with_reducible refine HG1.out.mono ?_); rintro e w3 ⟨rfl, hb⟩; have hb1 := hb.alloc hb.size (.cells #[.bool e1, .bool l1, .bool h1, .bool a1, .bool n1, .int .i64 g1, .int .i64 p1] 58); have D3 := hi (HD.out.di.below hb1); have X3 := hi (HX2.out.below hb1); have L3 := hi (CB.new w3 58 #[.bool e1, .bool l1, .bool h1, .bool a1, .bool n1, .int .i64 g1, .int .i64 p1]); have B3 := hi (HB2.out.trans (hb1.mono HB2.out.size)); have Q3 := hi (Nat.le_trans HD.out.di.le hb.size); have x2 := X3.out.cell 2; have x3 := X3.out.cell 3; have x5 := X3.out.cell 5; clear hb hb1))
            | (go_at_call 13; ((with_reducible refine (HDO.out _ D3.out).mono ?_); rintro e w4 ⟨rfl, hA⟩; have D4 := hi hA.di; have X4 := hi (X3.out.keptB hA.kept (fun z => by have := z.1; have := HLO.out; omega)); have L4 := hi (L3.out.keptB hA.kept (fun z => by have := z.2; have := Q3.out; omega)); have B4 := hi (B3.out.trans (hA.kept.toBelow B3.out.size (fun i z => by have := z.1; have := HLO.out; omega))); have Q4 := hi (Nat.le_trans Q3.out (Nat.le_trans (bal w3 (.cells #[.bool e1, .bool l1, .bool h1, .bool a1, .bool n1, .int .i64 g1, .int .i64 p1] 58)).size hA.kept.size)); have x3 := X4.out.cell 3; clear hA))
            | (go_at_call 26; ((with_reducible refine (HG2.out _ D4.out).mono ?_); rintro e w5 ⟨rfl, hb⟩; have hb1 := hb.alloc hb.size (.cells #[.bool e2, .bool l2, .bool h2, .bool a2, .bool n2, .int .i64 g2, .int .i64 p2] 58); have D5 := hi (D4.out.below hb1); have X5 := hi (X4.out.below hb1); have L5 := hi (L4.out.below hb1); have M5 := hi (CB.new w5 58 #[.bool e2, .bool l2, .bool h2, .bool a2, .bool n2, .int .i64 g2, .int .i64 p2]); have B5 := hi (B4.out.trans (hb1.mono B4.out.size)); have x2 := X5.out.cell 2; have x3 := X5.out.cell 3; clear hb hb1))
            | (go_at_call 26; ((with_reducible refine (HG3.out _ D5.out).mono ?_); rintro e w6 ⟨rfl, hb⟩; have hb1 := hb.alloc hb.size (.cells #[.bool e3, .bool l3, .bool h3, .bool a3, .bool n3, .int .i64 g3, .int .i64 p3] 58); have X6 := hi (X5.out.below hb1); have L6 := hi (L5.out.below hb1); have M6 := hi (M5.out.below hb1); have N6 := hi (CB.new w6 58 #[.bool e3, .bool l3, .bool h3, .bool a3, .bool n3, .int .i64 g3, .int .i64 p3]); have B6 := hi (B5.out.trans (hb1.mono B5.out.size)); have x2 := X6.out.cell 2; have x3 := X6.out.cell 3; have u0 := L6.out.cell 0; have u1 := L6.out.cell 1; have u2 := L6.out.cell 2; have u3 := L6.out.cell 3; have u4 := L6.out.cell 4; have u5 := L6.out.cell 5; have u6 := L6.out.cell 6; have v0 := M6.out.cell 0; have v1 := M6.out.cell 1; have v2 := M6.out.cell 2; have v3 := M6.out.cell 3; have v4 := M6.out.cell 4; have v5 := M6.out.cell 5; have v6 := M6.out.cell 6; have z0 := N6.out.cell 0; have z1 := N6.out.cell 1; have z2 := N6.out.cell 2; have z3 := N6.out.cell 3; have z4 := N6.out.cell 4; have z5 := N6.out.cell 5; have z6 := N6.out.cell 6; clear hb hb1)))
        go_ret
        exact ⟨rfl, B6.out⟩
      · obtain ⟨⟨rfl, rfl, rfl, rfl⟩, rfl, rfl, rfl⟩ := ln_inj (E4 h32 hkk)
        have hbe : ((0 : Int) == K) = false := by simpa using hkk
        have hq := fun W => eqlLn e2 l2 h2 a2 n2 g2 p2 e2 l2 h2 a2 n2 g2 p2 W
        rw [eqLn_self] at hq
        clear E3 E4
        (with_reducible refine HCO.mono ?_); rintro e w2' ⟨rfl, rfl⟩; have HCO := hi trivial
        go_wp2_with (first
            | (go_at_call 26; ((with_reducible refine HG1.out.mono ?_); rintro e w3 ⟨rfl, hb⟩; have hb1 := hb.alloc hb.size (.cells #[.bool e2, .bool l2, .bool h2, .bool a2, .bool n2, .int .i64 g2, .int .i64 p2] 58); have D3 := hi (HD.out.di.below hb1); have X3 := hi (HX2.out.below hb1); have L3 := hi (CB.new w3 58 #[.bool e2, .bool l2, .bool h2, .bool a2, .bool n2, .int .i64 g2, .int .i64 p2]); have B3 := hi (HB2.out.trans (hb1.mono HB2.out.size)); have Q3 := hi (Nat.le_trans HD.out.di.le hb.size); have x2 := X3.out.cell 2; have x3 := X3.out.cell 3; have x5 := X3.out.cell 5; clear hb hb1))
            | (go_at_call 13; ((with_reducible refine (HDO.out _ D3.out).mono ?_); rintro e w4 ⟨rfl, hA⟩; have D4 := hi hA.di; have X4 := hi (X3.out.keptB hA.kept (fun z => by have := z.1; have := HLO.out; omega)); have L4 := hi (L3.out.keptB hA.kept (fun z => by have := z.2; have := Q3.out; omega)); have B4 := hi (B3.out.trans (hA.kept.toBelow B3.out.size (fun i z => by have := z.1; have := HLO.out; omega))); have Q4 := hi (Nat.le_trans Q3.out (Nat.le_trans (bal w3 (.cells #[.bool e2, .bool l2, .bool h2, .bool a2, .bool n2, .int .i64 g2, .int .i64 p2] 58)).size hA.kept.size)); have x3 := X4.out.cell 3; clear hA))
            | (go_at_call 26; ((with_reducible refine (HG2.out _ D4.out).mono ?_); rintro e w5 ⟨rfl, hb⟩; have hb1 := hb.alloc hb.size (.cells #[.bool e2, .bool l2, .bool h2, .bool a2, .bool n2, .int .i64 g2, .int .i64 p2] 58); have D5 := hi (D4.out.below hb1); have X5 := hi (X4.out.below hb1); have L5 := hi (L4.out.below hb1); have M5 := hi (CB.new w5 58 #[.bool e2, .bool l2, .bool h2, .bool a2, .bool n2, .int .i64 g2, .int .i64 p2]); have B5 := hi (B4.out.trans (hb1.mono B4.out.size)); have x2 := X5.out.cell 2; have x3 := X5.out.cell 3; clear hb hb1))
            | (go_at_call 26; ((with_reducible refine (HG3.out _ D5.out).mono ?_); rintro e w6 ⟨rfl, hb⟩; have hb1 := hb.alloc hb.size (.cells #[.bool e3, .bool l3, .bool h3, .bool a3, .bool n3, .int .i64 g3, .int .i64 p3] 58); have X6 := hi (X5.out.below hb1); have L6 := hi (L5.out.below hb1); have M6 := hi (M5.out.below hb1); have N6 := hi (CB.new w6 58 #[.bool e3, .bool l3, .bool h3, .bool a3, .bool n3, .int .i64 g3, .int .i64 p3]); have B6 := hi (B5.out.trans (hb1.mono B5.out.size)); have x2 := X6.out.cell 2; have x3 := X6.out.cell 3; have u0 := L6.out.cell 0; have u1 := L6.out.cell 1; have u2 := L6.out.cell 2; have u3 := L6.out.cell 3; have u4 := L6.out.cell 4; have u5 := L6.out.cell 5; have u6 := L6.out.cell 6; have v0 := M6.out.cell 0; have v1 := M6.out.cell 1; have v2 := M6.out.cell 2; have v3 := M6.out.cell 3; have v4 := M6.out.cell 4; have v5 := M6.out.cell 5; have v6 := M6.out.cell 6; have z0 := N6.out.cell 0; have z1 := N6.out.cell 1; have z2 := N6.out.cell 2; have z3 := N6.out.cell 3; have z4 := N6.out.cell 4; have z5 := N6.out.cell 5; have z6 := N6.out.cell 6; clear hb hb1)))
        go_ret
        exact ⟨rfl, B6.out⟩
    · by_cases hff : r3 = 0
      · obtain ⟨⟨rfl, rfl, rfl, rfl⟩, rfl, rfl, rfl⟩ := ln_inj (E3 h32 hff)
        subst hff
        have hq := fun W => eqlLn e3 l3 h3 a3 n3 g3 p3 e3 l3 h3 a3 n3 g3 p3 W
        rw [eqLn_self] at hq
        clear E3 E4
        (with_reducible refine HCO.mono ?_); rintro e w2' ⟨rfl, rfl⟩; have HCO := hi trivial
        go_wp2_with (first
            | (go_at_call 26; ((with_reducible refine HG1.out.mono ?_); rintro e w3 ⟨rfl, hb⟩; have hb1 := hb.alloc hb.size (.cells #[.bool e1, .bool l1, .bool h1, .bool a1, .bool n1, .int .i64 g1, .int .i64 p1] 58); have D3 := hi (HD.out.di.below hb1); have X3 := hi (HX2.out.below hb1); have L3 := hi (CB.new w3 58 #[.bool e1, .bool l1, .bool h1, .bool a1, .bool n1, .int .i64 g1, .int .i64 p1]); have B3 := hi (HB2.out.trans (hb1.mono HB2.out.size)); have Q3 := hi (Nat.le_trans HD.out.di.le hb.size); have x2 := X3.out.cell 2; have x3 := X3.out.cell 3; have x5 := X3.out.cell 5; clear hb hb1))
            | (go_at_call 13; ((with_reducible refine (HDO.out _ D3.out).mono ?_); rintro e w4 ⟨rfl, hA⟩; have D4 := hi hA.di; have X4 := hi (X3.out.keptB hA.kept (fun z => by have := z.1; have := HLO.out; omega)); have L4 := hi (L3.out.keptB hA.kept (fun z => by have := z.2; have := Q3.out; omega)); have B4 := hi (B3.out.trans (hA.kept.toBelow B3.out.size (fun i z => by have := z.1; have := HLO.out; omega))); have Q4 := hi (Nat.le_trans Q3.out (Nat.le_trans (bal w3 (.cells #[.bool e1, .bool l1, .bool h1, .bool a1, .bool n1, .int .i64 g1, .int .i64 p1] 58)).size hA.kept.size)); have x3 := X4.out.cell 3; clear hA))
            | (go_at_call 26; ((with_reducible refine (HG2.out _ D4.out).mono ?_); rintro e w5 ⟨rfl, hb⟩; have hb1 := hb.alloc hb.size (.cells #[.bool e3, .bool l3, .bool h3, .bool a3, .bool n3, .int .i64 g3, .int .i64 p3] 58); have D5 := hi (D4.out.below hb1); have X5 := hi (X4.out.below hb1); have L5 := hi (L4.out.below hb1); have M5 := hi (CB.new w5 58 #[.bool e3, .bool l3, .bool h3, .bool a3, .bool n3, .int .i64 g3, .int .i64 p3]); have B5 := hi (B4.out.trans (hb1.mono B4.out.size)); have x2 := X5.out.cell 2; have x3 := X5.out.cell 3; clear hb hb1))
            | (go_at_call 26; ((with_reducible refine (HG3.out _ D5.out).mono ?_); rintro e w6 ⟨rfl, hb⟩; have hb1 := hb.alloc hb.size (.cells #[.bool e3, .bool l3, .bool h3, .bool a3, .bool n3, .int .i64 g3, .int .i64 p3] 58); have X6 := hi (X5.out.below hb1); have L6 := hi (L5.out.below hb1); have M6 := hi (M5.out.below hb1); have N6 := hi (CB.new w6 58 #[.bool e3, .bool l3, .bool h3, .bool a3, .bool n3, .int .i64 g3, .int .i64 p3]); have B6 := hi (B5.out.trans (hb1.mono B5.out.size)); have x2 := X6.out.cell 2; have x3 := X6.out.cell 3; have u0 := L6.out.cell 0; have u1 := L6.out.cell 1; have u2 := L6.out.cell 2; have u3 := L6.out.cell 3; have u4 := L6.out.cell 4; have u5 := L6.out.cell 5; have u6 := L6.out.cell 6; have v0 := M6.out.cell 0; have v1 := M6.out.cell 1; have v2 := M6.out.cell 2; have v3 := M6.out.cell 3; have v4 := M6.out.cell 4; have v5 := M6.out.cell 5; have v6 := M6.out.cell 6; have z0 := N6.out.cell 0; have z1 := N6.out.cell 1; have z2 := N6.out.cell 2; have z3 := N6.out.cell 3; have z4 := N6.out.cell 4; have z5 := N6.out.cell 5; have z6 := N6.out.cell 6; clear hb hb1)))
        go_ret
        exact ⟨rfl, B6.out⟩
      · clear E3 E4
        (with_reducible refine HCO.mono ?_); rintro e w2' ⟨rfl, rfl⟩; have HCO := hi trivial
        go_wp2_with (first
            | (go_at_call 26; ((with_reducible refine HG1.out.mono ?_); rintro e w3 ⟨rfl, hb⟩; have hb1 := hb.alloc hb.size (.cells #[.bool e1, .bool l1, .bool h1, .bool a1, .bool n1, .int .i64 g1, .int .i64 p1] 58); have D3 := hi (HD.out.di.below hb1); have X3 := hi (HX2.out.below hb1); have L3 := hi (CB.new w3 58 #[.bool e1, .bool l1, .bool h1, .bool a1, .bool n1, .int .i64 g1, .int .i64 p1]); have B3 := hi (HB2.out.trans (hb1.mono HB2.out.size)); have Q3 := hi (Nat.le_trans HD.out.di.le hb.size); have x2 := X3.out.cell 2; have x3 := X3.out.cell 3; have x5 := X3.out.cell 5; clear hb hb1))
            | (go_at_call 13; ((with_reducible refine (HDO.out _ D3.out).mono ?_); rintro e w4 ⟨rfl, hA⟩; have D4 := hi hA.di; have X4 := hi (X3.out.keptB hA.kept (fun z => by have := z.1; have := HLO.out; omega)); have L4 := hi (L3.out.keptB hA.kept (fun z => by have := z.2; have := Q3.out; omega)); have B4 := hi (B3.out.trans (hA.kept.toBelow B3.out.size (fun i z => by have := z.1; have := HLO.out; omega))); have Q4 := hi (Nat.le_trans Q3.out (Nat.le_trans (bal w3 (.cells #[.bool e1, .bool l1, .bool h1, .bool a1, .bool n1, .int .i64 g1, .int .i64 p1] 58)).size hA.kept.size)); have x3 := X4.out.cell 3; clear hA))
            | (go_at_call 26; ((with_reducible refine (HG2.out _ D4.out).mono ?_); rintro e w5 ⟨rfl, hb⟩; have hb1 := hb.alloc hb.size (.cells #[.bool e2, .bool l2, .bool h2, .bool a2, .bool n2, .int .i64 g2, .int .i64 p2] 58); have D5 := hi (D4.out.below hb1); have X5 := hi (X4.out.below hb1); have L5 := hi (L4.out.below hb1); have M5 := hi (CB.new w5 58 #[.bool e2, .bool l2, .bool h2, .bool a2, .bool n2, .int .i64 g2, .int .i64 p2]); have B5 := hi (B4.out.trans (hb1.mono B4.out.size)); have x2 := X5.out.cell 2; have x3 := X5.out.cell 3; clear hb hb1))
            | (go_at_call 26; ((with_reducible refine (HG3.out _ D5.out).mono ?_); rintro e w6 ⟨rfl, hb⟩; have hb1 := hb.alloc hb.size (.cells #[.bool e3, .bool l3, .bool h3, .bool a3, .bool n3, .int .i64 g3, .int .i64 p3] 58); have X6 := hi (X5.out.below hb1); have L6 := hi (L5.out.below hb1); have M6 := hi (M5.out.below hb1); have N6 := hi (CB.new w6 58 #[.bool e3, .bool l3, .bool h3, .bool a3, .bool n3, .int .i64 g3, .int .i64 p3]); have B6 := hi (B5.out.trans (hb1.mono B5.out.size)); have x2 := X6.out.cell 2; have x3 := X6.out.cell 3; have u0 := L6.out.cell 0; have u1 := L6.out.cell 1; have u2 := L6.out.cell 2; have u3 := L6.out.cell 3; have u4 := L6.out.cell 4; have u5 := L6.out.cell 5; have u6 := L6.out.cell 6; have v0 := M6.out.cell 0; have v1 := M6.out.cell 1; have v2 := M6.out.cell 2; have v3 := M6.out.cell 3; have v4 := M6.out.cell 4; have v5 := M6.out.cell 5; have v6 := M6.out.cell 6; have z0 := N6.out.cell 0; have z1 := N6.out.cell 1; have z2 := N6.out.cell 2; have z3 := N6.out.cell 3; have z4 := N6.out.cell 4; have z5 := N6.out.cell 5; have z6 := N6.out.cell 6; clear hb hb1)))
        go_ret
        exact ⟨rfl, B6.out⟩
  · have hd19 : decide ((1 : Int) < n9) = true := by simp; omega
    have hi19 : (1 : Int) < n9 := by omega
    by_cases h32 : id < 32
    · by_cases hkk : kz = K
      · subst hkk
        clear E3 E4
        (with_reducible refine HCO.mono ?_); rintro e w2' ⟨rfl, rfl⟩; have HCO := hi trivial
        go_wp2_with (first
            | (go_at_call 26; ((with_reducible refine HG1.out.mono ?_); rintro e w3 ⟨rfl, hb⟩; have hb1 := hb.alloc hb.size (.cells #[.bool e1, .bool l1, .bool h1, .bool a1, .bool n1, .int .i64 g1, .int .i64 p1] 58); have D3 := hi (HD.out.di.below hb1); have X3 := hi (HX2.out.below hb1); have L3 := hi (CB.new w3 58 #[.bool e1, .bool l1, .bool h1, .bool a1, .bool n1, .int .i64 g1, .int .i64 p1]); have B3 := hi (HB2.out.trans (hb1.mono HB2.out.size)); have Q3 := hi (Nat.le_trans HD.out.di.le hb.size); have x2 := X3.out.cell 2; have x3 := X3.out.cell 3; have x5 := X3.out.cell 5; clear hb hb1))
            | (go_at_call 13; ((with_reducible refine (HDO.out _ D3.out).mono ?_); rintro e w4 ⟨rfl, hA⟩; have D4 := hi hA.di; have X4 := hi (X3.out.keptB hA.kept (fun z => by have := z.1; have := HLO.out; omega)); have L4 := hi (L3.out.keptB hA.kept (fun z => by have := z.2; have := Q3.out; omega)); have B4 := hi (B3.out.trans (hA.kept.toBelow B3.out.size (fun i z => by have := z.1; have := HLO.out; omega))); have Q4 := hi (Nat.le_trans Q3.out (Nat.le_trans (bal w3 (.cells #[.bool e1, .bool l1, .bool h1, .bool a1, .bool n1, .int .i64 g1, .int .i64 p1] 58)).size hA.kept.size)); have x3 := X4.out.cell 3; clear hA))
            | (go_at_call 26; ((with_reducible refine (HG2.out _ D4.out).mono ?_); rintro e w5 ⟨rfl, hb⟩; have hb1 := hb.alloc hb.size (.cells #[.bool e2, .bool l2, .bool h2, .bool a2, .bool n2, .int .i64 g2, .int .i64 p2] 58); have D5 := hi (D4.out.below hb1); have X5 := hi (X4.out.below hb1); have L5 := hi (L4.out.below hb1); have M5 := hi (CB.new w5 58 #[.bool e2, .bool l2, .bool h2, .bool a2, .bool n2, .int .i64 g2, .int .i64 p2]); have B5 := hi (B4.out.trans (hb1.mono B4.out.size)); have x2 := X5.out.cell 2; have x3 := X5.out.cell 3; clear hb hb1))
            | (go_at_call 26; ((with_reducible refine (HG3.out _ D5.out).mono ?_); rintro e w6 ⟨rfl, hb⟩; have hb1 := hb.alloc hb.size (.cells #[.bool e3, .bool l3, .bool h3, .bool a3, .bool n3, .int .i64 g3, .int .i64 p3] 58); have X6 := hi (X5.out.below hb1); have L6 := hi (L5.out.below hb1); have M6 := hi (M5.out.below hb1); have N6 := hi (CB.new w6 58 #[.bool e3, .bool l3, .bool h3, .bool a3, .bool n3, .int .i64 g3, .int .i64 p3]); have B6 := hi (B5.out.trans (hb1.mono B5.out.size)); have x2 := X6.out.cell 2; have x3 := X6.out.cell 3; have u0 := L6.out.cell 0; have u1 := L6.out.cell 1; have u2 := L6.out.cell 2; have u3 := L6.out.cell 3; have u4 := L6.out.cell 4; have u5 := L6.out.cell 5; have u6 := L6.out.cell 6; have v0 := M6.out.cell 0; have v1 := M6.out.cell 1; have v2 := M6.out.cell 2; have v3 := M6.out.cell 3; have v4 := M6.out.cell 4; have v5 := M6.out.cell 5; have v6 := M6.out.cell 6; have z0 := N6.out.cell 0; have z1 := N6.out.cell 1; have z2 := N6.out.cell 2; have z3 := N6.out.cell 3; have z4 := N6.out.cell 4; have z5 := N6.out.cell 5; have z6 := N6.out.cell 6; clear hb hb1)))
        go_ret
        exact ⟨rfl, B6.out⟩
      · obtain ⟨⟨rfl, rfl, rfl, rfl⟩, rfl, rfl, rfl⟩ := ln_inj (E4 h32 hkk)
        have hbe : (kz == K) = false := by simpa using hkk
        have hq := fun W => eqlLn e2 l2 h2 a2 n2 g2 p2 e2 l2 h2 a2 n2 g2 p2 W
        rw [eqLn_self] at hq
        clear E3 E4
        (with_reducible refine HCO.mono ?_); rintro e w2' ⟨rfl, rfl⟩; have HCO := hi trivial
        go_wp2_with (first
            | (go_at_call 26; ((with_reducible refine HG1.out.mono ?_); rintro e w3 ⟨rfl, hb⟩; have hb1 := hb.alloc hb.size (.cells #[.bool e2, .bool l2, .bool h2, .bool a2, .bool n2, .int .i64 g2, .int .i64 p2] 58); have D3 := hi (HD.out.di.below hb1); have X3 := hi (HX2.out.below hb1); have L3 := hi (CB.new w3 58 #[.bool e2, .bool l2, .bool h2, .bool a2, .bool n2, .int .i64 g2, .int .i64 p2]); have B3 := hi (HB2.out.trans (hb1.mono HB2.out.size)); have Q3 := hi (Nat.le_trans HD.out.di.le hb.size); have x2 := X3.out.cell 2; have x3 := X3.out.cell 3; have x5 := X3.out.cell 5; clear hb hb1))
            | (go_at_call 13; ((with_reducible refine (HDO.out _ D3.out).mono ?_); rintro e w4 ⟨rfl, hA⟩; have D4 := hi hA.di; have X4 := hi (X3.out.keptB hA.kept (fun z => by have := z.1; have := HLO.out; omega)); have L4 := hi (L3.out.keptB hA.kept (fun z => by have := z.2; have := Q3.out; omega)); have B4 := hi (B3.out.trans (hA.kept.toBelow B3.out.size (fun i z => by have := z.1; have := HLO.out; omega))); have Q4 := hi (Nat.le_trans Q3.out (Nat.le_trans (bal w3 (.cells #[.bool e2, .bool l2, .bool h2, .bool a2, .bool n2, .int .i64 g2, .int .i64 p2] 58)).size hA.kept.size)); have x3 := X4.out.cell 3; clear hA))
            | (go_at_call 26; ((with_reducible refine (HG2.out _ D4.out).mono ?_); rintro e w5 ⟨rfl, hb⟩; have hb1 := hb.alloc hb.size (.cells #[.bool e2, .bool l2, .bool h2, .bool a2, .bool n2, .int .i64 g2, .int .i64 p2] 58); have D5 := hi (D4.out.below hb1); have X5 := hi (X4.out.below hb1); have L5 := hi (L4.out.below hb1); have M5 := hi (CB.new w5 58 #[.bool e2, .bool l2, .bool h2, .bool a2, .bool n2, .int .i64 g2, .int .i64 p2]); have B5 := hi (B4.out.trans (hb1.mono B4.out.size)); have x2 := X5.out.cell 2; have x3 := X5.out.cell 3; clear hb hb1))
            | (go_at_call 26; ((with_reducible refine (HG3.out _ D5.out).mono ?_); rintro e w6 ⟨rfl, hb⟩; have hb1 := hb.alloc hb.size (.cells #[.bool e3, .bool l3, .bool h3, .bool a3, .bool n3, .int .i64 g3, .int .i64 p3] 58); have X6 := hi (X5.out.below hb1); have L6 := hi (L5.out.below hb1); have M6 := hi (M5.out.below hb1); have N6 := hi (CB.new w6 58 #[.bool e3, .bool l3, .bool h3, .bool a3, .bool n3, .int .i64 g3, .int .i64 p3]); have B6 := hi (B5.out.trans (hb1.mono B5.out.size)); have x2 := X6.out.cell 2; have x3 := X6.out.cell 3; have u0 := L6.out.cell 0; have u1 := L6.out.cell 1; have u2 := L6.out.cell 2; have u3 := L6.out.cell 3; have u4 := L6.out.cell 4; have u5 := L6.out.cell 5; have u6 := L6.out.cell 6; have v0 := M6.out.cell 0; have v1 := M6.out.cell 1; have v2 := M6.out.cell 2; have v3 := M6.out.cell 3; have v4 := M6.out.cell 4; have v5 := M6.out.cell 5; have v6 := M6.out.cell 6; have z0 := N6.out.cell 0; have z1 := N6.out.cell 1; have z2 := N6.out.cell 2; have z3 := N6.out.cell 3; have z4 := N6.out.cell 4; have z5 := N6.out.cell 5; have z6 := N6.out.cell 6; clear hb hb1)))
        go_ret
        exact ⟨rfl, B6.out⟩
    · by_cases hff : r3 = 0
      · obtain ⟨⟨rfl, rfl, rfl, rfl⟩, rfl, rfl, rfl⟩ := ln_inj (E3 h32 hff)
        subst hff
        have hq := fun W => eqlLn e3 l3 h3 a3 n3 g3 p3 e3 l3 h3 a3 n3 g3 p3 W
        rw [eqLn_self] at hq
        clear E3 E4
        (with_reducible refine HCO.mono ?_); rintro e w2' ⟨rfl, rfl⟩; have HCO := hi trivial
        go_wp2_with (first
            | (go_at_call 26; ((with_reducible refine HG1.out.mono ?_); rintro e w3 ⟨rfl, hb⟩; have hb1 := hb.alloc hb.size (.cells #[.bool e1, .bool l1, .bool h1, .bool a1, .bool n1, .int .i64 g1, .int .i64 p1] 58); have D3 := hi (HD.out.di.below hb1); have X3 := hi (HX2.out.below hb1); have L3 := hi (CB.new w3 58 #[.bool e1, .bool l1, .bool h1, .bool a1, .bool n1, .int .i64 g1, .int .i64 p1]); have B3 := hi (HB2.out.trans (hb1.mono HB2.out.size)); have Q3 := hi (Nat.le_trans HD.out.di.le hb.size); have x2 := X3.out.cell 2; have x3 := X3.out.cell 3; have x5 := X3.out.cell 5; clear hb hb1))
            | (go_at_call 13; ((with_reducible refine (HDO.out _ D3.out).mono ?_); rintro e w4 ⟨rfl, hA⟩; have D4 := hi hA.di; have X4 := hi (X3.out.keptB hA.kept (fun z => by have := z.1; have := HLO.out; omega)); have L4 := hi (L3.out.keptB hA.kept (fun z => by have := z.2; have := Q3.out; omega)); have B4 := hi (B3.out.trans (hA.kept.toBelow B3.out.size (fun i z => by have := z.1; have := HLO.out; omega))); have Q4 := hi (Nat.le_trans Q3.out (Nat.le_trans (bal w3 (.cells #[.bool e1, .bool l1, .bool h1, .bool a1, .bool n1, .int .i64 g1, .int .i64 p1] 58)).size hA.kept.size)); have x3 := X4.out.cell 3; clear hA))
            | (go_at_call 26; ((with_reducible refine (HG2.out _ D4.out).mono ?_); rintro e w5 ⟨rfl, hb⟩; have hb1 := hb.alloc hb.size (.cells #[.bool e3, .bool l3, .bool h3, .bool a3, .bool n3, .int .i64 g3, .int .i64 p3] 58); have D5 := hi (D4.out.below hb1); have X5 := hi (X4.out.below hb1); have L5 := hi (L4.out.below hb1); have M5 := hi (CB.new w5 58 #[.bool e3, .bool l3, .bool h3, .bool a3, .bool n3, .int .i64 g3, .int .i64 p3]); have B5 := hi (B4.out.trans (hb1.mono B4.out.size)); have x2 := X5.out.cell 2; have x3 := X5.out.cell 3; clear hb hb1))
            | (go_at_call 26; ((with_reducible refine (HG3.out _ D5.out).mono ?_); rintro e w6 ⟨rfl, hb⟩; have hb1 := hb.alloc hb.size (.cells #[.bool e3, .bool l3, .bool h3, .bool a3, .bool n3, .int .i64 g3, .int .i64 p3] 58); have X6 := hi (X5.out.below hb1); have L6 := hi (L5.out.below hb1); have M6 := hi (M5.out.below hb1); have N6 := hi (CB.new w6 58 #[.bool e3, .bool l3, .bool h3, .bool a3, .bool n3, .int .i64 g3, .int .i64 p3]); have B6 := hi (B5.out.trans (hb1.mono B5.out.size)); have x2 := X6.out.cell 2; have x3 := X6.out.cell 3; have u0 := L6.out.cell 0; have u1 := L6.out.cell 1; have u2 := L6.out.cell 2; have u3 := L6.out.cell 3; have u4 := L6.out.cell 4; have u5 := L6.out.cell 5; have u6 := L6.out.cell 6; have v0 := M6.out.cell 0; have v1 := M6.out.cell 1; have v2 := M6.out.cell 2; have v3 := M6.out.cell 3; have v4 := M6.out.cell 4; have v5 := M6.out.cell 5; have v6 := M6.out.cell 6; have z0 := N6.out.cell 0; have z1 := N6.out.cell 1; have z2 := N6.out.cell 2; have z3 := N6.out.cell 3; have z4 := N6.out.cell 4; have z5 := N6.out.cell 5; have z6 := N6.out.cell 6; clear hb hb1)))
        go_ret
        exact ⟨rfl, B6.out⟩
      · clear E3 E4
        (with_reducible refine HCO.mono ?_); rintro e w2' ⟨rfl, rfl⟩; have HCO := hi trivial
        go_wp2_with (first
            | (go_at_call 26; ((with_reducible refine HG1.out.mono ?_); rintro e w3 ⟨rfl, hb⟩; have hb1 := hb.alloc hb.size (.cells #[.bool e1, .bool l1, .bool h1, .bool a1, .bool n1, .int .i64 g1, .int .i64 p1] 58); have D3 := hi (HD.out.di.below hb1); have X3 := hi (HX2.out.below hb1); have L3 := hi (CB.new w3 58 #[.bool e1, .bool l1, .bool h1, .bool a1, .bool n1, .int .i64 g1, .int .i64 p1]); have B3 := hi (HB2.out.trans (hb1.mono HB2.out.size)); have Q3 := hi (Nat.le_trans HD.out.di.le hb.size); have x2 := X3.out.cell 2; have x3 := X3.out.cell 3; have x5 := X3.out.cell 5; clear hb hb1))
            | (go_at_call 13; ((with_reducible refine (HDO.out _ D3.out).mono ?_); rintro e w4 ⟨rfl, hA⟩; have D4 := hi hA.di; have X4 := hi (X3.out.keptB hA.kept (fun z => by have := z.1; have := HLO.out; omega)); have L4 := hi (L3.out.keptB hA.kept (fun z => by have := z.2; have := Q3.out; omega)); have B4 := hi (B3.out.trans (hA.kept.toBelow B3.out.size (fun i z => by have := z.1; have := HLO.out; omega))); have Q4 := hi (Nat.le_trans Q3.out (Nat.le_trans (bal w3 (.cells #[.bool e1, .bool l1, .bool h1, .bool a1, .bool n1, .int .i64 g1, .int .i64 p1] 58)).size hA.kept.size)); have x3 := X4.out.cell 3; clear hA))
            | (go_at_call 26; ((with_reducible refine (HG2.out _ D4.out).mono ?_); rintro e w5 ⟨rfl, hb⟩; have hb1 := hb.alloc hb.size (.cells #[.bool e2, .bool l2, .bool h2, .bool a2, .bool n2, .int .i64 g2, .int .i64 p2] 58); have D5 := hi (D4.out.below hb1); have X5 := hi (X4.out.below hb1); have L5 := hi (L4.out.below hb1); have M5 := hi (CB.new w5 58 #[.bool e2, .bool l2, .bool h2, .bool a2, .bool n2, .int .i64 g2, .int .i64 p2]); have B5 := hi (B4.out.trans (hb1.mono B4.out.size)); have x2 := X5.out.cell 2; have x3 := X5.out.cell 3; clear hb hb1))
            | (go_at_call 26; ((with_reducible refine (HG3.out _ D5.out).mono ?_); rintro e w6 ⟨rfl, hb⟩; have hb1 := hb.alloc hb.size (.cells #[.bool e3, .bool l3, .bool h3, .bool a3, .bool n3, .int .i64 g3, .int .i64 p3] 58); have X6 := hi (X5.out.below hb1); have L6 := hi (L5.out.below hb1); have M6 := hi (M5.out.below hb1); have N6 := hi (CB.new w6 58 #[.bool e3, .bool l3, .bool h3, .bool a3, .bool n3, .int .i64 g3, .int .i64 p3]); have B6 := hi (B5.out.trans (hb1.mono B5.out.size)); have x2 := X6.out.cell 2; have x3 := X6.out.cell 3; have u0 := L6.out.cell 0; have u1 := L6.out.cell 1; have u2 := L6.out.cell 2; have u3 := L6.out.cell 3; have u4 := L6.out.cell 4; have u5 := L6.out.cell 5; have u6 := L6.out.cell 6; have v0 := M6.out.cell 0; have v1 := M6.out.cell 1; have v2 := M6.out.cell 2; have v3 := M6.out.cell 3; have v4 := M6.out.cell 4; have v5 := M6.out.cell 5; have v6 := M6.out.cell 6; have z0 := N6.out.cell 0; have z1 := N6.out.cell 1; have z2 := N6.out.cell 2; have z3 := N6.out.cell 3; have z4 := N6.out.cell 4; have z5 := N6.out.cell 5; have z6 := N6.out.cell 6; clear hb hb1)))
        go_ret
        exact ⟨rfl, B6.out⟩
end Go.Proofs.YtdmlpdghhogkaaaGreat
