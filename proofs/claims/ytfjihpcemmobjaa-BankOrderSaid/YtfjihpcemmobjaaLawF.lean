/-
  The law BankOrder at every input.
-/
import Derived.Test.YtfjihpcemmobjaaLawE
namespace Go.Proofs.Ytfjihpcemmobjaa
open Go.ChangeShapes Go.WideShapes Go.ChangeAt Go.RowKit Go.Shelf
set_option linter.unusedVariables false
attribute [local go_sem] Oper.semAt_some

/-- Where the law's loop stands. -/
structure OW (w : World) (b g cap : Nat) (f : Int) (es : List En) (v : Value) (l : List Int) (B : Nat) (c : Cd) (W : World) : Prop where
  bk : BkAt W b g cap f es
  li : IntsAt W v l
  best : CB W B 51 c.cs
  below : Below w.heap.size w W
theorem OW.later {w W W' : World} {b g cap B : Nat} {f : Int} {es : List En} {v : Value} {l : List Int} {c : Cd} (h : OW w b g cap f es v l B c W) (k : Below W.heap.size W W') : OW w b g cap f es v l B c W' :=
  ⟨h.bk.below k, intsAt_grew h.li k, h.best.below k, h.below.trans (k.mono h.below.size)⟩
theorem OW.get {w W : World} {b g cap B : Nat} {f : Int} {es : List En} {a : Option Addr} {n lc : Nat} {ys : List Cd} {c : Cd} (h : OW w b g cap f es (.slice a n lc) (ys.map (·.id)) B c W) {k : Nat} (hk : k < ys.length) :
    ∃ gb o : Nat, a = some ⟨gb, o, none⟩ := by
  obtain ⟨a', cap', e, _, hc⟩ := h.li
  injection e with e1 e2 e3
  subst e1
  obtain ⟨gb, o, ha, hcs⟩ := hc (fun e => by rw [List.map_eq_nil_iff] at e; subst e; simp at hk)
  exact ⟨gb, o, ha⟩
theorem OW.cellk {w W : World} {b g cap B : Nat} {f : Int} {es : List En} {gb o n lc : Nat} {ys : List Cd} {c : Cd} (h : OW w b g cap f es (.slice (some ⟨gb, o, none⟩) n lc) (ys.map (·.id)) B c W) {k : Nat} (hk : k < ys.length) :
    W.cell? ⟨gb, o + k, none⟩ = some (.int .i64 (nthC ys k).id) := by
  obtain ⟨a', cap', e, _, hc⟩ := h.li
  injection e with e1 e2 e3
  subst e1
  obtain ⟨gb', o', ha, hcs⟩ := hc (fun e => by rw [List.map_eq_nil_iff] at e; subst e; simp at hk)
  simp only [Option.some.injEq, Addr.mk.injEq] at ha
  obtain ⟨rfl, rfl, _⟩ := ha
  rw [hcs k (by simpa using hk)]
  simp [nthC, List.getElem?_eq_getElem hk]
/-- What Get tells of a sorted row's k-th one. -/
def Told (b g cap : Nat) (f : Int) (es : List En) (y : Cd) (x : En) : Prop := x.ln.p = y.p ∧ x.ln.g = y.g ∧ ∀ W, BkAt W b g cap f es →
  Calls Try.prog 29 #[.pointer (some ⟨b, 0, none⟩), .int .i64 y.id] W fun e w' => e = .returned (.tuple #[x.v, .int .i64 0]) ∧ Below W.heap.size W w'
theorem told_any {b g cap : Nat} {f : Int} {es : List En} {y : Cd} (hf : Fit f es.length) (h : y ∈ cands (items f es)) : ∃ x, Told b g cap f es y x := by
  obtain ⟨k, hk, rfl⟩ := cand_at h
  exact ⟨nthE es k, rfl, rfl, fun W hW => get_yes hW hf (nthE_at hk)⟩

set_option maxRecDepth 100000 in
set_option maxHeartbeats 16000000 in
theorem lawOrder_any (f n : Int) (v : Value) (xs : List Ac9) (w : World) (hf0 : 0 ≤ f) (hf1 : f < 256) (hn0 : 0 ≤ n) (hn1 : n < 256) (h : ActsAt w v xs) (hl : xs.length ≤ 9223372036854775806) :
    Calls Try.prog 6 #[.int .u8 f, .int .u8 n, v] w fun e w' => e = .returned (.bool true) ∧ Below w.heap.size w w' := by
  have CPL := hi (fun w0 (hb : Below w.heap.size w w0) => played_any f n v xs w0 hf0 hf1 hn0 hn1 (h.below hb) hl)
  clear h hl hf0 hf1 hn0 hn1
  go_enter Try.func6, Try.ntmps6
  go_wp2_with (go_at_call 9; ((with_reducible refine (awake_any _).mono ?_); rintro e' w0 ⟨rfl, hb⟩; have HB0 := hi hb; clear hb))
  go_at_call 30
  (with_reducible refine (CPL.out w0 HB0.out).mono ?_)
  rintro e' w1 ⟨b, g, cap, f', es, rfl, hP⟩
  have HP := hi hP
  have HBB := hi (show Below w.heap.size w w1 from HB0.out.trans (hP.below.mono HB0.out.size))
  clear hP CPL HB0
  have CA := hi (fun W (hW : BkAt W b g cap f' es) => all_it hW HP.out.fit)
  obtain ⟨its, hits⟩ : ∃ its, items f' es = its := ⟨_, rfl⟩
  have HIL := hi (show its.length = es.length by rw [← hits]; exact items_len f' es)
  have HOW := hi (show OwnIds (cands its) by rw [← hits]; exact ownIds_of (items_lt f' es))
  have HTO := hi (fun y (hy : y ∈ cands its) => told_any (b := b) (g := g) (cap := cap) HP.out.fit (show y ∈ cands (items f' es) by rw [hits]; exact hy))
  have HFEW := hi (show its.length ≤ 20000 by rw [HIL.out]; have := HP.out.few; omega)
  rw [hits] at CA
  clear hits
  go_wp2_with (first
    | (go_at_call 32; ((with_reducible refine (CA.out _ HP.out.bk).mono ?_); rintro e' w2 ⟨fv, rfl, hit, hB⟩; have HIT2 := hi hit; have H2 := hi (HP.out.bk.below hB); have HB2 := hi (HBB.out.trans (hB.mono HBB.out.size)); clear hit hB))
    | (go_at_call 25; ((with_reducible refine (sorted_any HIT2.out HFEW.out).mono ?_); rintro e' w3 ⟨ys, hp, hs, sa, sc, rfl, hI, hB⟩; have HYS := hi (And.intro hp hs); have HI3 := hi hI; have H3 := hi (H2.out.below hB); have HB3 := hi (HB2.out.trans (hB.mono HB2.out.size)); clear hp hs hI hB))
    | (go_at_call 32; ((with_reducible refine (CA.out _ H3.out).mono ?_); rintro e' w4 ⟨fv2, rfl, hit, hB⟩; have HIT4 := hi hit; have HI4 := hi (intsAt_grew HI3.out hB); have H4 := hi (H3.out.below hB); have HB4 := hi (HB3.out.trans (hB.mono HB3.out.size)); clear hit hB))
    | (go_at_call 22; ((with_reducible refine (best_any HIT4.out).mono ?_); rintro e' w5 ⟨rfl, hB⟩; have H5 := hi (show OW w b g cap f' es _ _ w5.heap.size (bestC its) _ from ⟨(H4.out.below hB).below (bal w5 (.cells (bestC its).cs 51)), intsAt_grew (intsAt_grew HI4.out hB) (bal w5 (.cells (bestC its).cs 51)), CB.new w5 51 (bestC its).cs, (HB4.out.trans (hB.mono HB4.out.size)).alloc (Nat.le_trans HB4.out.size hB.size) (.cells (bestC its).cs 51)⟩); clear hB)))
  have HST := hi (strict_of HYS.out.2 (by have h9 := HOW.out; unfold OwnIds at h9 ⊢; exact ((HYS.out.1.map _).nodup_iff).2 h9))
  have HYL := hi (show ys.length = its.length by rw [HYS.out.1.length_eq, cands_len])
  have HTK := hi (fun k (hk : k < ys.length) => HTO.out (nthC ys k) (HYS.out.1.mem_iff.1 (nthC_mem hk)))
  have HBE := hi (fun (hk : 0 < ys.length) => show bestC its = nthC ys 0 by
    cases ys with
    | nil => simp at hk
    | cons y r => exact head_best HYS.out.1 HST.out)
  have HB0 := hi (fun (hk : its.length = 0) => show (bestC its).is = false by
    rw [List.length_eq_zero_iff.1 hk]; rfl)
  have HB1 := hi (fun (hk : 0 < ys.length) => show (bestC its).is = true by
    have hne : its ≠ [] := fun e => by rw [HYL.out, e] at hk; simp at hk
    obtain ⟨x, _, e⟩ := bestC_mem its hne
    rw [e]; rfl)
  obtain ⟨c, hc⟩ : ∃ c, bestC its = c := ⟨_, rfl⟩
  rw [hc] at HBE HB0 HB1 H5 ⊢
  obtain ⟨m, hm⟩ : ∃ m, its.length = m := ⟨_, rfl⟩
  have hm2 : (ys.map (·.id)).length = m := by rw [List.length_map, HYL.out, hm]
  have HM := hi hm
  have hmf : m < 64 := by have := HP.out.few; rw [← HIL.out, hm] at this; exact this
  rw [hm] at HYL HB0
  rw [hm2] at H5
  rw [HYL.out]
  rw [HYL.out] at HTK HBE HB1
  clear HOW HTO hc hm hm2 HIT2 HIT4 HI3 HI4 H2 H3 H4 HB2 HB3 HB4
  obtain ⟨ci, cp, cg, cis⟩ := c
  go_loopw [11] (fun i wr => ∃ k : Nat, k ≤ m ∧ i = .int .i64 k ∧ Hi (OW w b g cap f' es (.slice sa m sc) (ys.map (·.id)) w5.heap.size ⟨ci, cp, cg, cis⟩ wr)) (fun i _ => m - (intOf i).toNat)
  case atStart => exact ⟨0, Nat.zero_le _, rfl, H5⟩
  case round =>
    obtain ⟨k, hk, rfl, HX⟩ := hrel
    clear H5
    by_cases hlt : k < m
    · obtain ⟨gb, o, rfl⟩ := HX.out.get (k := k) (by rw [HYL.out]; exact hlt)
      have ck := HX.out.cellk (k := k) (by rw [HYL.out]; exact hlt)
      obtain ⟨x, hx1, hx2, hx3⟩ := HTK.out k hlt
      obtain ⟨⟨⟨xe, xl, xq, xa⟩, xen, xg, xp⟩, xs'⟩ := x
      obtain ⟨y, hy⟩ : ∃ y, nthC ys k = y := ⟨_, rfl⟩
      rw [hy] at ck hx1 hx2 hx3
      obtain ⟨yi, yp, yg, yis⟩ := y
      dsimp only at hx1 hx2 ck
      subst hx1 hx2
      have CG := hi hx3
      dsimp only [En.v] at CG
      clear hx3
      by_cases h0 : k = 0
      · subst h0
        have e9 := HBE.out hlt
        rw [hy] at e9
        injection e9 with e1 e2 e3 e4
        subst e1 e2 e3
        clear e4
        rw [Nat.add_zero] at ck
        go_wp2_with (go_at_call 29; ((with_reducible refine (CG.out _ HX.out.bk).mono ?_); rintro e' w6 ⟨rfl, hB⟩; have H6 := hi ((HX.out.later hB).later (bal w6 (.cells #[.bool xe, .bool xl, .bool xq, .bool xa, .bool xen, .int .i64 cg, .int .i64 cp, .string xs'] 62))); have hE := CB.new w6 62 #[.bool xe, .bool xl, .bool xq, .bool xa, .bool xen, .int .i64 cg, .int .i64 cp, .string xs']; have c5 := hE.cell 5; have c6 := hE.cell 6; have d0 := H6.out.best.cell 0; have d1 := H6.out.best.cell 1; have d2 := H6.out.best.cell 2; have ck2 := H6.out.cellk (k := 0) (by rw [HYL.out]; exact hlt); rw [hy, Nat.add_zero] at ck2; clear hB hE))
        go_quiet (fail)
        go_wp2
        go_roundw
        case rel => exact ⟨1, by omega, by go_num, hi (H6.out.later (Below.drewN (Below.refl _ _)))⟩
        case measure => simp only [intOf]; omega
      · obtain ⟨q, rfl⟩ : ∃ q, k = q + 1 := ⟨k - 1, by omega⟩
        have hwq : IntKind.i64.wrap ((q + 1 : Nat) - 1 : Int) = q := by rw [IntKind.wrap_i64]; omega
        have cq := HX.out.cellk (k := q) (by rw [HYL.out]; omega)
        obtain ⟨z, hz1, hz2, hz3⟩ := HTK.out q (by omega)
        obtain ⟨⟨⟨ze, zl, zq, za⟩, zen, zg, zp⟩, zs⟩ := z
        have hb := strict_next HST.out (k := q) (by rw [HYL.out]; exact hlt)
        obtain ⟨y2, hy2⟩ : ∃ y, nthC ys q = y := ⟨_, rfl⟩
        rw [hy2] at cq hz1 hz2 hz3 hb
        rw [hy] at hb
        obtain ⟨y2i, y2p, y2g, y2is⟩ := y2
        dsimp only at hz1 hz2 cq
        rw [befC_iff] at hb
        dsimp only at hb
        subst hz1 hz2
        have CG2 := hi hz3
        dsimp only [En.v] at CG2
        clear hz3
        have HK := hi (fun W (hW : OW w b g cap f' es (.slice (some ⟨gb, o, none⟩) m sc) (ys.map (·.id)) w5.heap.size ⟨ci, cp, cg, cis⟩ W) => hW.cellk (k := q) (by rw [HYL.out]; omega))
        rw [hy2] at HK
        have HK2 := hi (fun W (hW : OW w b g cap f' es (.slice (some ⟨gb, o, none⟩) m sc) (ys.map (·.id)) w5.heap.size ⟨ci, cp, cg, cis⟩ W) => hW.cellk (k := q + 1) (by rw [HYL.out]; exact hlt))
        rw [hy] at HK2
        dsimp only at HK HK2
        clear hy hy2
        have q0 : (((q + 1 : Nat) : Int) == 0) = false := by simp; omega
        go_wp2_with (first
          | (go_at_call 29; ((with_reducible refine (CG.out _ HX.out.bk).mono ?_); rintro e' w6 ⟨rfl, hB⟩; have H6 := hi ((HX.out.later hB).later (bal w6 (.cells #[.bool xe, .bool xl, .bool xq, .bool xa, .bool xen, .int .i64 xg, .int .i64 xp, .string xs'] 62))); have HE6 := hi (CB.new w6 62 #[.bool xe, .bool xl, .bool xq, .bool xa, .bool xen, .int .i64 xg, .int .i64 xp, .string xs']); have cq2 := HK.out _ H6.out; clear hB))
          | (go_at_call 29; ((with_reducible refine (CG2.out _ H6.out.bk).mono ?_); rintro e' w7 ⟨rfl, hB⟩; have H7 := hi ((H6.out.later hB).later (bal w7 (.cells #[.bool ze, .bool zl, .bool zq, .bool za, .bool zen, .int .i64 zg, .int .i64 zp, .string zs] 62))); have hE := (HE6.out.below hB).alloc (.cells #[.bool ze, .bool zl, .bool zq, .bool za, .bool zen, .int .i64 zg, .int .i64 zp, .string zs] 62); have c5 := hE.cell 5; have c6 := hE.cell 6; have hZ := CB.new w7 62 #[.bool ze, .bool zl, .bool zq, .bool za, .bool zen, .int .i64 zg, .int .i64 zp, .string zs]; have d5 := hZ.cell 5; have d6 := hZ.cell 6; have cq3 := HK.out _ H7.out; have ck3 := HK2.out _ H7.out; clear hB hE hZ)))
        rcases hb with hb | ⟨hbe, hb⟩
        · have f1 : decide (xp < zp) = false := by simp; omega
          have f2 : (zp == xp) = false := by simp; omega
          clear hb
          go_quiet (fail)
          go_wp2
          go_roundw
          case rel => exact ⟨q + 1 + 1, by omega, by go_num, hi (H7.out.later (Below.drewN (Below.refl _ _)))⟩
          case measure => simp only [intOf]; omega
        · subst hbe
          have f1 : decide (zp < zp) = false := by simp
          have f3 : decide (yi ≤ y2i) = false := by simp; omega
          clear hb
          go_quiet (fail)
          go_wp2
          go_roundw
          case rel => exact ⟨q + 1 + 1, by omega, by go_num, hi (H7.out.later (Below.drewN (Below.refl _ _)))⟩
          case measure => simp only [intOf]; omega
    · obtain rfl : k = m := by omega
      have d3 := HX.out.best.cell 3
      have hcis : cis = decide (0 < k) := by
        by_cases h0 : k = 0
        · rw [show cis = false from HB0.out h0]; simp [h0]
        · rw [show cis = true from HB1.out (by omega)]; simp; omega
      rw [hcis] at d3
      have CC := hi (fun lo hi' kk fv W (hW : Iter lo hi' kk fv its W) => count_any hW HFEW.out)
      rw [HM.out] at CC
      go_wp2_with (first
        | (go_at_call 32; ((with_reducible refine (CA.out _ HX.out.bk).mono ?_); rintro e' w8 ⟨fv3, rfl, hit, hB⟩; have HIT8 := hi hit; have HB8 := hi (HX.out.below.trans (hB.mono HX.out.below.size)); clear hit hB))
        | (go_at_call 24; ((with_reducible refine (CC.out _ _ _ _ _ HIT8.out).mono ?_); rintro e' w9 ⟨rfl, hB⟩; have HB9 := hi (HB8.out.trans (hB.mono HB8.out.size)); clear hB)))
      go_ret
      exact ⟨rfl, HB9.out⟩

end Go.Proofs.Ytfjihpcemmobjaa
