/-
  The law: what is taken runs, and ending it goes back (CpuifBack).
-/
import Derived.Test.YtnfbljadhhcclaaCpG
import Derived.Test.YtnfbljadhhcclaaLadJ
namespace Go.Proofs.Ytnfbljadhhcclaa
open Go.ChangeShapes Go.WideShapes Go.ChangeAt Go.RowKit Go.Shelf
set_option linter.unusedVariables false
attribute [local go_sem] Oper.semAt_some

/-! ### Plain -/
theorem plc_level (g : Int) (l : Nat) (h : l < 256) : plc g (l : Int) = 2 * (l / 8) + gO g := by
  unfold plc kO
  omega
theorem lev_le (q e f : Nat) (h : q + e < 256) (hf : f < 9) : q &&& maskN f ≤ (q + e) &&& maskN f := level_mono q (q + e) f (by omega) h hf
/-- What is taken, and then. -/
theorem back_ok {x : Fc} {ci g : Int} {cis : Bool} {k : Nat} (hk : k < 32) (h : mayV x ⟨ci, 8 * (k : Int), g, cis⟩ = true) :
    ∃ L : Nat, L < 32 ∧ (∃ l : Nat, l < 256 ∧ bits .and .i64 (8 * (k : Int)) (levV x g) = (l : Int) ∧ l / 8 = L) ∧
      takeV x ⟨ci, 8 * (k : Int), g, cis⟩ g = ({ x with r := put x.r (2 * L + gO g) true }, ci, true) ∧
      runV (put x.r (2 * L + gO g) true) = (8 * (L : Int), (gO g : Int)) ∧
      (∀ (di : Int) (dis : Bool) (e : Nat), e < 8 → mayV { x with r := put x.r (2 * L + gO g) true } ⟨di, ((8 * k + e : Nat) : Int), g, dis⟩ = false) ∧
      (((gO g : Int) = g) → dropV { x with r := put x.r (2 * L + gO g) true } g = (x, true)) := by
  obtain ⟨f, hf, hf1, hl⟩ := lev_nat x g
  have hq : (8 * (k : Int)) = ((8 * k : Nat) : Int) := by omega
  have hb : bits .and .i64 (8 * (k : Int)) (levV x g) = ((8 * k &&& maskN f : Nat) : Int) := by rw [hl, hq, level_nat _ f (by omega) hf hf1]
  have hl2 : (8 * k &&& maskN f) < 256 := Nat.lt_of_le_of_lt Nat.and_le_left (by omega)
  have hg2 : gO g < 2 := gO_lt g
  have h0 := h
  unfold mayV at h0
  simp only [Bool.and_eq_true, decide_eq_true_eq] at h0
  obtain ⟨h1, h2, h3, h4⟩ := h0
  rw [hb] at h4
  have hr : 8 * (((8 * k &&& maskN f) / 8 : Nat) : Int) < (runV x.r).1 := by omega
  have hL : (8 * k &&& maskN f) / 8 < 32 := by omega
  have ht := push_top hL hg2 hr
  have hd := push_drop hL hg2 hr
  have hrun : runV (put x.r (2 * ((8 * k &&& maskN f) / 8) + gO g) true) = (8 * (((8 * k &&& maskN f) / 8 : Nat) : Int), (gO g : Int)) := by
    rw [runV_some ht]
    have e1 : ((2 * ((8 * k &&& maskN f) / 8) + gO g : Nat) : Int) / 2 = (((8 * k &&& maskN f) / 8 : Nat) : Int) := by omega
    have e2 : ((2 * ((8 * k &&& maskN f) / 8) + gO g : Nat) : Int) % 2 = (gO g : Int) := by omega
    rw [e1, e2]
  refine ⟨(8 * k &&& maskN f) / 8, hL, ⟨_, hl2, hb, rfl⟩, ?_, hrun, fun di dis e he => ?_, fun hg => ?_⟩
  · unfold takeV
    rw [h]
    simp only [hb, plc_level g _ hl2, decide_true, Bool.true_and, if_true]
  · have hle := lev_le (8 * k) e f (by omega) hf
    unfold mayV
    have hlx : levV { x with r := put x.r (2 * ((8 * k &&& maskN f) / 8) + gO g) true } g = levV x g := rfl
    rw [hlx, hl, level_nat _ f (by omega) hf hf1, hrun]
    have hz : ¬ (((8 * k + e &&& maskN f : Nat) : Int) < 8 * (((8 * k &&& maskN f) / 8 : Nat) : Int)) := by omega
    rw [decide_eq_false hz]
    simp only [Bool.and_false]
  · unfold dropV
    rw [dropB_some ht, dropR_some ht, hrun]
    have hd2 : put (put x.r (2 * ((8 * k &&& maskN f) / 8) + gO g) true) (2 * ((8 * k &&& maskN f) / 8) + gO g) false = x.r := by
      have := hd
      rw [dropR_some ht] at this
      exact this
    simp [hd2, hg]
theorem i64_or {a b : Nat} (ha : a < 256) (hb : b < 256) : bits .or .i64 (a : Int) (b : Int) = ((a ||| b : Nat) : Int) := by
  show IntKind.i64.wrap ((BitVec.ofInt 64 (a : Int) ||| BitVec.ofInt 64 (b : Int)).toNat : Int) = _
  have e : (BitVec.ofInt 64 (a : Int) ||| BitVec.ofInt 64 (b : Int)).toNat = a ||| b := by
    rw [BitVec.toNat_or, BitVec.ofInt_natCast, BitVec.ofInt_natCast, BitVec.toNat_ofNat, BitVec.toNat_ofNat, Nat.mod_eq_of_lt (show a < 2 ^ 64 by omega), Nat.mod_eq_of_lt (show b < 2 ^ 64 by omega)]
  have : a ||| b < 2 ^ 8 := Nat.or_lt_two_pow (by omega) (by omega)
  rw [e, IntKind.wrap_i64]; omega
theorem or_low (k : Nat) (hk : k < 32) (dp : Int) : bits .or .i64 (8 * (k : Int)) (bits .and .i64 dp 7) = ((8 * k + (dp % 8).toNat : Nat) : Int) := by
  have h7 : bits .and .i64 dp 7 = (((dp % 8).toNat : Nat) : Int) := by
    rw [show (7 : Int) = ((7 : Nat) : Int) from rfl, and_low dp 7 (by decide), show (7 : Nat) = 2 ^ 3 - 1 from rfl, Nat.and_two_pow_sub_one_eq_mod]
    unfold low8
    omega
  rw [h7, show (8 * (k : Int)) = ((8 * k : Nat) : Int) by omega, i64_or (by omega) (by omega), show 8 * k = 2 ^ 3 * k from rfl, ← Nat.two_pow_add_eq_or_of_lt (by omega)]
set_option maxRecDepth 100000 in
set_option maxHeartbeats 16000000 in
theorem back_law (x : Fc) (c d : Cd) (w : World) :
    Calls Try.prog 5 #[x.v, c.v, d.v] w fun e w' => e = .returned (.bool true) ∧ Below w.heap.size w w' := by
  have hq1 := fun m p0 p1 o0 o1 sp a b W => eqlIf m p0 p1 o0 o1 sp a b W
  have hg1 := fun op x y xs ys W => guardIf op x y xs ys W
  obtain ⟨ci, cp, g, cis⟩ := c
  obtain ⟨di, dp, dg, dis⟩ := d
  obtain ⟨n, hn⟩ : ∃ n : Nat, (cp % 256).toNat = n := ⟨_, rfl⟩
  have hn2 : n < 256 := by omega
  have hw1 : IntKind.u8.wrap cp = (n : Int) := by rw [IntKind.wrap_u8]; omega
  have hw2 : IntKind.i64.wrap (n : Int) = n := by rw [IntKind.wrap_i64]; omega
  obtain ⟨k, hk⟩ : ∃ k : Nat, n / 8 = k := ⟨_, rfl⟩
  have hk2 : k < 32 := by omega
  have hw3 : IntKind.i64.wrap ((n : Int) / 8) = k := by rw [IntKind.wrap_i64]; omega
  have hw3t : IntKind.i64.wrap ((n : Int).tdiv 8) = k := by rw [Int.tdiv_eq_ediv_of_nonneg (by omega)]; exact hw3
  have hw4 : IntKind.i64.wrap ((k : Int) * 8) = 8 * (k : Int) := by rw [IntKind.wrap_i64]; omega
  clear hn hk
  have HB0 := hi (show Below w.heap.size w (((w.alloc (.cells (x.cs) 29)).alloc (.cells #[.int .i64 ci, .int .i64 cp, .int .i64 g, .bool cis] 39)).alloc (.cells #[.int .i64 di, .int .i64 dp, .int .i64 dg, .bool dis] 39)) from (bal_two w _ _).alloc (by simp; omega) _)
  have HF0 := hi (((CB.new w 29 x.cs).alloc (.cells #[.int .i64 ci, .int .i64 cp, .int .i64 g, .bool cis] 39)).alloc (.cells #[.int .i64 di, .int .i64 dp, .int .i64 dg, .bool dis] 39))
  have HC0 := hi ((cb_second (w := w) (o := .cells x.cs 29) (cs := #[.int .i64 ci, .int .i64 cp, .int .i64 g, .bool cis]) (t := 39)).alloc (.cells #[.int .i64 di, .int .i64 dp, .int .i64 dg, .bool dis] 39))
  have HD0 := hi (show CB (((w.alloc (.cells (x.cs) 29)).alloc (.cells #[.int .i64 ci, .int .i64 cp, .int .i64 g, .bool cis] 39)).alloc (.cells #[.int .i64 di, .int .i64 dp, .int .i64 dg, .bool dis] 39)) (w.heap.size + 1 + 1) 39 #[.int .i64 di, .int .i64 dp, .int .i64 dg, .bool dis] from by
    have h := CB.new ((w.alloc (.cells (x.cs) 29)).alloc (.cells #[.int .i64 ci, .int .i64 cp, .int .i64 g, .bool cis] 39)) 39 #[.int .i64 di, .int .i64 dp, .int .i64 dg, .bool dis]
    rw [show ((w.alloc (.cells (x.cs) 29)).alloc (.cells #[.int .i64 ci, .int .i64 cp, .int .i64 g, .bool cis] 39)).heap.size = w.heap.size + 1 + 1 by simp] at h
    exact h)
  cases hM : mayV x ⟨ci, 8 * (k : Int), g, cis⟩
  · have HT := hi (fun b W (z : CB W b 29 x.cs) => take_any b x ⟨ci, 8 * (k : Int), g, cis⟩ g W z)
    have ht : takeV x ⟨ci, 8 * (k : Int), g, cis⟩ g = (x, 1023, false) := by unfold takeV; rw [hM]; simp
    rw [ht] at HT
    clear ht hM
    obtain ⟨m, p0, p1, o0, o1, sp, r⟩ := x
    try dsimp only at HT
    go_enter Try.func5, Try.ntmps5
    go_wp2_with (first
      | (go_at_call 9; ((with_reducible refine (awake_if _).mono ?_); rintro e w1 ⟨rfl, hb⟩; have hf := HF0.out.below hb; have f0 := hf.cell 0; have f1 := hf.cell 1; have f2 := hf.cell 2; have f3 := hf.cell 3; have f4 := hf.cell 4; have f5 := hf.cell 5; have f6 := hf.cell 6; have f7 := hf.cell 7; have hc := HC0.out.below hb; have c0 := hc.cell 0; have c1 := hc.cell 1; have c2 := hc.cell 2; have c3 := hc.cell 3; have cf := hc.frozen; have hcs : CB (w1.setCell ⟨w.heap.size + 1, 1, none⟩ (.int .i64 (8 * (k : Int)))) (w.heap.size + 1) 39 #[.int .i64 ci, .int .i64 (8 * (k : Int)), .int .i64 g, .bool cis] := (by simpa using hc.set 1 (.int .i64 (8 * (k : Int)))); have hfs := hf.other (w.heap.size + 1) 1 (.int .i64 (8 * (k : Int))) (by omega); have u0 := hfs.cell 0; have u1 := hfs.cell 1; have u2 := hfs.cell 2; have u3 := hfs.cell 3; have u4 := hfs.cell 4; have u5 := hfs.cell 5; have u6 := hfs.cell 6; have u7 := hfs.cell 7; have y0 := hcs.cell 0; have y1 := hcs.cell 1; have y2 := hcs.cell 2; have y3 := hcs.cell 3; have yf := hcs.frozen; have ha := bal (w1.setCell ⟨w.heap.size + 1, 1, none⟩ (.int .i64 (8 * (k : Int)))) (.cells #[.int .i64 m, .int .i64 p0, .int .i64 p1, .bool o0, .bool o1, .bool sp, .int .u32 (wd r 0), .int .u32 (wd r 1)] 29); have hcd := hcs.below ha; have z0 := hcd.cell 0; have z1 := hcd.cell 1; have z2 := hcd.cell 2; have z3 := hcd.cell 3; have zf := hcd.frozen; have W1 := hi (show ∃ W, (w1.setCell ⟨w.heap.size + 1, 1, none⟩ (.int .i64 (8 * (k : Int)))).alloc (.cells #[.int .i64 m, .int .i64 p0, .int .i64 p1, .bool o0, .bool o1, .bool sp, .int .u32 (wd r 0), .int .u32 (wd r 1)] 29) = W ∧ CB W w.heap.size 29 #[.int .i64 m, .int .i64 p0, .int .i64 p1, .bool o0, .bool o1, .bool sp, .int .u32 (wd r 0), .int .u32 (wd r 1)] ∧ CB W (w.heap.size + 1) 39 #[.int .i64 ci, .int .i64 (8 * (k : Int)), .int .i64 g, .bool cis] ∧ CB W (w.heap.size + 1 + 1) 39 #[.int .i64 di, .int .i64 dp, .int .i64 dg, .bool dis] ∧ CB W w1.heap.size 29 #[.int .i64 m, .int .i64 p0, .int .i64 p1, .bool o0, .bool o1, .bool sp, .int .u32 (wd r 0), .int .u32 (wd r 1)] ∧ Below w.heap.size w W ∧ w.heap.size + 1 + 1 < w1.heap.size from ⟨_, rfl, hfs.below ha, hcd, ((HD0.out.below hb).other _ _ _ (by omega)).below ha, by simpa using CB.new (w1.setCell ⟨w.heap.size + 1, 1, none⟩ (.int .i64 (8 * (k : Int)))) 29 #[.int .i64 m, .int .i64 p0, .int .i64 p1, .bool o0, .bool o1, .bool sp, .int .u32 (wd r 0), .int .u32 (wd r 1)], (below_set (HB0.out.trans (hb.mono HB0.out.size)) (show w.heap.size ≤ w.heap.size + 1 by omega) _).trans (ha.mono (by simp; have := (HD0.out.below hb).lt; omega)), (HD0.out.below hb).lt⟩); clear hb hf hc hcs hfs ha hcd)))
    obtain ⟨W, hW, hF, hC, hD, hV, hB, hL⟩ := W1.out
    rw [hW]
    have F2 := hi hF
    have C2 := hi hC
    have D2 := hi hD
    have V2 := hi hV
    have B2 := hi hB
    have LT := hi hL
    clear hW hF hC hD hV hB hL W1 f0 f1 f2 f3 f4 f5 f6 f7 c0 c1 c2 c3 cf u0 u1 u2 u3 u4 u5 u6 u7 y0 y1 y2 y3 yf z0 z1 z2 z3 zf HF0 HC0 HD0 HB0
    go_wp2_with (first
      | (go_at_call 26; ((with_reducible refine (HT.out _ _ F2.out).mono ?_); rintro e w3 ⟨rfl, hA⟩; have F3 := hi hA.bx; have V3 := hi (V2.out.keptB hA.kept (by have := LT.out; omega)); have B3 := hi (B2.out.trans (hA.kept.toBelow B2.out.size (fun i z => by subst z; omega))); have k0 := F3.out.cell 0; have k1 := F3.out.cell 1; have k2 := F3.out.cell 2; have k3 := F3.out.cell 3; have k4 := F3.out.cell 4; have k5 := F3.out.cell 5; have k6 := F3.out.cell 6; have k7 := F3.out.cell 7; have n0 := V3.out.cell 0; have n1 := V3.out.cell 1; have n2 := V3.out.cell 2; have n3 := V3.out.cell 3; have n4 := V3.out.cell 4; have n5 := V3.out.cell 5; have n6 := V3.out.cell 6; have n7 := V3.out.cell 7; clear hA)))
    go_ret
    exact ⟨rfl, B3.out⟩
  · obtain ⟨L, hL, ⟨l, hl, hl2, hl1⟩, hTk, hRun, hMay, hDr⟩ := back_ok hk2 hM
    rcases gO_two g with hG | hG
    · by_cases hgg : (gO g : Int) = g
      · have hz : bits .and .i64 g 1 = 0 := by rw [i64_and1, ← gO_int, hG]; rfl
        have HMK := hi (fun W => show Calls Try.prog 27 #[.int .i64 0, .int .i64 x.p0] W fun e w' => e = .returned (.int .i64 (levV x g)) ∧ W = w' from (mask_any 0 x.p0 W).mono (fun e w' z => ⟨by rw [z.1]; unfold levV Fc.pt; rw [hG]; rfl, z.2⟩))
        obtain ⟨M, hM2⟩ : ∃ M, levV x g = M := ⟨_, rfl⟩
        rw [hM2] at HMK hl2
        have HM1 := hi (fun W => (may_any { x with r := put x.r (2 * L + gO g) true } ⟨ci, (8 * (k : Int)), g, cis⟩ W).mono (fun e' w' (z : e' = .returned (.bool _) ∧ Below W.heap.size W w') => show e' = .returned (.bool false) ∧ Below W.heap.size W w' from ⟨by rw [z.1, show (8 * (k : Int)) = ((8 * k + 0 : Nat) : Int) by omega, hMay ci cis 0 (by decide)], z.2⟩))
        have HM2 := hi (fun W => (may_any { x with r := put x.r (2 * L + gO g) true } ⟨di, ((8 * k + (dp % 8).toNat : Nat) : Int), g, dis⟩ W).mono (fun e' w' (z : e' = .returned (.bool _) ∧ Below W.heap.size W w') => show e' = .returned (.bool false) ∧ Below W.heap.size W w' from ⟨by rw [z.1, hMay di dis _ (by omega)], z.2⟩))
        have HRU := hi (fun W => ifrun_any { x with r := put x.r (2 * L + gO g) true } W)
        rw [hRun] at HRU
        have HT := hi (fun b W (z : CB W b 29 x.cs) => take_any b x ⟨ci, 8 * (k : Int), g, cis⟩ g W z)
        rw [hTk] at HT
        have hor := or_low k hk2 dp
        obtain ⟨q, hq⟩ : ∃ q, put x.r (2 * L + gO g) true = q := ⟨_, rfl⟩
        rw [hq] at HM1 HM2 HRU HT hDr
        have hgG : g = 0 := by rw [← hgg, hG]; rfl
        have hDr2 : dropV ({ x with r := q } : Fc) 0 = (x, true) := by
         have h9 := hDr hgg
         rw [hgG] at h9
         exact h9
        have HDR := hi (fun b W (z : CB W b 29 ({ x with r := q } : Fc).cs) => drop_if b { x with r := q } 0 W z)
        rw [hDr2] at HDR
        clear hDr2 hgG
        rw [hG] at HRU
        obtain ⟨m, p0, p1, o0, o1, sp, r⟩ := x
        dsimp only at HT HM1 HM2 HRU HMK HDR
        obtain ⟨s, hs⟩ : ∃ s : Int, ((8 * k + (dp % 8).toNat : Nat) : Int) = s := ⟨_, rfl⟩
        rw [hs] at hor HM2
        have hl8 : IntKind.i64.wrap ((l : Int) / 8) = L := by rw [IntKind.wrap_i64]; omega
        have hl8t : IntKind.i64.wrap ((l : Int).tdiv 8) = L := by rw [Int.tdiv_eq_ediv_of_nonneg (by omega)]; exact hl8
        have hL8 : IntKind.i64.wrap ((L : Int) * 8) = 8 * (L : Int) := by rw [IntKind.wrap_i64]; omega
        have wr1 : IntKind.i64.wrap 1 = 1 := by rw [IntKind.wrap_i64]; rfl
        have wr0 : IntKind.i64.wrap 0 = 0 := by rw [IntKind.wrap_i64]; rfl
        have dgg : (g != 0) = false := by rw [← hgg, hG]; rfl
        have dgg2 : (0 != g) = false := by rw [← hgg, hG]; rfl
        clear hMay hTk hRun hDr hq hs hM2 hL hl hl1 hG
        go_enter Try.func5, Try.ntmps5
        go_wp2_with (first
          | (go_at_call 9; ((with_reducible refine (awake_if _).mono ?_); rintro e w1 ⟨rfl, hb⟩; have hf := HF0.out.below hb; have f0 := hf.cell 0; have f1 := hf.cell 1; have f2 := hf.cell 2; have f3 := hf.cell 3; have f4 := hf.cell 4; have f5 := hf.cell 5; have f6 := hf.cell 6; have f7 := hf.cell 7; have hc := HC0.out.below hb; have c0 := hc.cell 0; have c1 := hc.cell 1; have c2 := hc.cell 2; have c3 := hc.cell 3; have cf := hc.frozen; have hcs : CB (w1.setCell ⟨w.heap.size + 1, 1, none⟩ (.int .i64 (8 * (k : Int)))) (w.heap.size + 1) 39 #[.int .i64 ci, .int .i64 (8 * (k : Int)), .int .i64 g, .bool cis] := (by simpa using hc.set 1 (.int .i64 (8 * (k : Int)))); have hfs := hf.other (w.heap.size + 1) 1 (.int .i64 (8 * (k : Int))) (by omega); have u0 := hfs.cell 0; have u1 := hfs.cell 1; have u2 := hfs.cell 2; have u3 := hfs.cell 3; have u4 := hfs.cell 4; have u5 := hfs.cell 5; have u6 := hfs.cell 6; have u7 := hfs.cell 7; have y0 := hcs.cell 0; have y1 := hcs.cell 1; have y2 := hcs.cell 2; have y3 := hcs.cell 3; have yf := hcs.frozen; have ha := bal (w1.setCell ⟨w.heap.size + 1, 1, none⟩ (.int .i64 (8 * (k : Int)))) (.cells #[.int .i64 m, .int .i64 p0, .int .i64 p1, .bool o0, .bool o1, .bool sp, .int .u32 (wd r 0), .int .u32 (wd r 1)] 29); have hcd := hcs.below ha; have z0 := hcd.cell 0; have z1 := hcd.cell 1; have z2 := hcd.cell 2; have z3 := hcd.cell 3; have zf := hcd.frozen; have W1 := hi (show ∃ W, (w1.setCell ⟨w.heap.size + 1, 1, none⟩ (.int .i64 (8 * (k : Int)))).alloc (.cells #[.int .i64 m, .int .i64 p0, .int .i64 p1, .bool o0, .bool o1, .bool sp, .int .u32 (wd r 0), .int .u32 (wd r 1)] 29) = W ∧ CB W w.heap.size 29 #[.int .i64 m, .int .i64 p0, .int .i64 p1, .bool o0, .bool o1, .bool sp, .int .u32 (wd r 0), .int .u32 (wd r 1)] ∧ CB W (w.heap.size + 1) 39 #[.int .i64 ci, .int .i64 (8 * (k : Int)), .int .i64 g, .bool cis] ∧ CB W (w.heap.size + 1 + 1) 39 #[.int .i64 di, .int .i64 dp, .int .i64 dg, .bool dis] ∧ CB W w1.heap.size 29 #[.int .i64 m, .int .i64 p0, .int .i64 p1, .bool o0, .bool o1, .bool sp, .int .u32 (wd r 0), .int .u32 (wd r 1)] ∧ Below w.heap.size w W ∧ w.heap.size + 1 + 1 < w1.heap.size from ⟨_, rfl, hfs.below ha, hcd, ((HD0.out.below hb).other _ _ _ (by omega)).below ha, by simpa using CB.new (w1.setCell ⟨w.heap.size + 1, 1, none⟩ (.int .i64 (8 * (k : Int)))) 29 #[.int .i64 m, .int .i64 p0, .int .i64 p1, .bool o0, .bool o1, .bool sp, .int .u32 (wd r 0), .int .u32 (wd r 1)], (below_set (HB0.out.trans (hb.mono HB0.out.size)) (show w.heap.size ≤ w.heap.size + 1 by omega) _).trans (ha.mono (by simp; have := (HD0.out.below hb).lt; omega)), (HD0.out.below hb).lt⟩); clear hb hf hc hcs hfs ha hcd)))
        obtain ⟨W, hW, hF, hC, hD, hV, hB, hL⟩ := W1.out
        rw [hW]
        have F2 := hi hF
        have C2 := hi hC
        have D2 := hi hD
        have V2 := hi hV
        have B2 := hi hB
        have LT := hi hL
        clear hW hF hC hD hV hB hL W1 f0 f1 f2 f3 f4 f5 f6 f7 c0 c1 c2 c3 cf u0 u1 u2 u3 u4 u5 u6 u7 y0 y1 y2 y3 yf z0 z1 z2 z3 zf HF0 HC0 HD0 HB0
        go_wp2_with (first
          | (go_at_call 26; ((with_reducible refine (HT.out _ _ F2.out).mono ?_); rintro e w3 ⟨rfl, hA⟩; have S3 := hi (show CB w3 w.heap.size 29 #[.int .i64 m, .int .i64 p0, .int .i64 p1, .bool o0, .bool o1, .bool sp, .int .u32 (wd q 0), .int .u32 (wd q 1)] ∧ CB w3 (w.heap.size + 1) 39 #[.int .i64 ci, .int .i64 (8 * (k : Int)), .int .i64 g, .bool cis] ∧ CB w3 (w.heap.size + 1 + 1) 39 #[.int .i64 di, .int .i64 dp, .int .i64 dg, .bool dis] ∧ CB w3 w1.heap.size 29 #[.int .i64 m, .int .i64 p0, .int .i64 p1, .bool o0, .bool o1, .bool sp, .int .u32 (wd r 0), .int .u32 (wd r 1)] from ⟨hA.bx, C2.out.keptB hA.kept (by omega), D2.out.keptB hA.kept (by omega), V2.out.keptB hA.kept (by have := LT.out; omega)⟩); have B3 := hi (B2.out.trans (hA.kept.toBelow B2.out.size (fun i z => by subst z; omega))); have f0 := S3.out.1.cell 0; have f1 := S3.out.1.cell 1; have f2 := S3.out.1.cell 2; have f3 := S3.out.1.cell 3; have f4 := S3.out.1.cell 4; have f5 := S3.out.1.cell 5; have f6 := S3.out.1.cell 6; have f7 := S3.out.1.cell 7; have c0 := S3.out.2.1.cell 0; have c1 := S3.out.2.1.cell 1; have c2 := S3.out.2.1.cell 2; have c3 := S3.out.2.1.cell 3; clear hA)))
        refine wp_region_noPanic ?_
        refine wp_region_last_drew (S := (fun W' => CB W' w.heap.size 29 #[.int .i64 m, .int .i64 p0, .int .i64 p1, .bool o0, .bool o1, .bool sp, .int .u32 (wd q 0), .int .u32 (wd q 1)] ∧ CB W' (w.heap.size + 1) 39 #[.int .i64 ci, .int .i64 (8 * (k : Int)), .int .i64 g, .bool cis] ∧ CB W' (w.heap.size + 1 + 1) 39 #[.int .i64 di, .int .i64 dp, .int .i64 dg, .bool dis] ∧ CB W' w1.heap.size 29 #[.int .i64 m, .int .i64 p0, .int .i64 p1, .bool o0, .bool o1, .bool sp, .int .u32 (wd r 0), .int .u32 (wd r 1)])) [10] (by kernel_rfl) ⟨S3.out.1.drew, S3.out.2.1.drew, S3.out.2.2.1.drew, S3.out.2.2.2.drew⟩ (fun hHeld => ?_)
        (try simp only [Array.replicate_succ, Array.replicate_zero, List.push_toArray, List.nil_append, List.cons_append])
        refine wpAnyF_take (i := 0) (v := ?_) (by kernel_rfl) (by kernel_rfl) rfl (by kernel_rfl) (by kernel_rfl) (by kernel_rfl) (fun _ _ _ h => h) (Or.inl ⟨by rfl, ?_⟩) (by assumption) ?_
        rotate_left
        · intro w' hSw; (try dsimp only at hSw); have f0 := hSw.1.cell 0; have f1 := hSw.1.cell 1; have f2 := hSw.1.cell 2; have f3 := hSw.1.cell 3; have f4 := hSw.1.cell 4; have f5 := hSw.1.cell 5; have f6 := hSw.1.cell 6; have f7 := hSw.1.cell 7; have c0 := hSw.2.1.cell 0; have c1 := hSw.2.1.cell 1; have c2 := hSw.2.1.cell 2; have c3 := hSw.2.1.cell 3; have d0 := hSw.2.2.1.cell 0; have d1 := hSw.2.2.1.cell 1; have d2 := hSw.2.2.1.cell 2; have d3 := hSw.2.2.1.cell 3; have v0 := hSw.2.2.2.cell 0; have v1 := hSw.2.2.2.cell 1; have v2 := hSw.2.2.2.cell 2; have v3 := hSw.2.2.2.cell 3; have v4 := hSw.2.2.2.cell 4; have v5 := hSw.2.2.2.cell 5; have v6 := hSw.2.2.2.cell 6; have v7 := hSw.2.2.2.cell 7; go_simp; (try with_reducible rfl)
        (try simp only [Act.put, List.getElem_toArray, List.getElem_cons_zero, List.setIfInBounds_toArray, List.set_cons_zero, List.set_cons_succ])
        refine wpAnyF_take (i := 1) (v := ?_) (by kernel_rfl) (by kernel_rfl) rfl (by kernel_rfl) (by kernel_rfl) (by kernel_rfl) (fun _ _ _ h => h) (Or.inl ⟨by rfl, ?_⟩) (by assumption) ?_
        rotate_left
        · intro w' hSw; (try dsimp only at hSw); have f0 := hSw.1.cell 0; have f1 := hSw.1.cell 1; have f2 := hSw.1.cell 2; have f3 := hSw.1.cell 3; have f4 := hSw.1.cell 4; have f5 := hSw.1.cell 5; have f6 := hSw.1.cell 6; have f7 := hSw.1.cell 7; have c0 := hSw.2.1.cell 0; have c1 := hSw.2.1.cell 1; have c2 := hSw.2.1.cell 2; have c3 := hSw.2.1.cell 3; have d0 := hSw.2.2.1.cell 0; have d1 := hSw.2.2.1.cell 1; have d2 := hSw.2.2.1.cell 2; have d3 := hSw.2.2.1.cell 3; have v0 := hSw.2.2.2.cell 0; have v1 := hSw.2.2.2.cell 1; have v2 := hSw.2.2.2.cell 2; have v3 := hSw.2.2.2.cell 3; have v4 := hSw.2.2.2.cell 4; have v5 := hSw.2.2.2.cell 5; have v6 := hSw.2.2.2.cell 6; have v7 := hSw.2.2.2.cell 7; go_simp; (try with_reducible rfl)
        (try simp only [Act.put, List.getElem_toArray, List.getElem_cons_zero, List.getElem_cons_succ, List.setIfInBounds_toArray, List.set_cons_zero, List.set_cons_succ])
        refine wpAnyF_take (i := 2) (v := ?_) (by kernel_rfl) (by kernel_rfl) rfl (by kernel_rfl) (by kernel_rfl) (by kernel_rfl) (fun _ _ _ h => h) (Or.inl ⟨by rfl, ?_⟩) (by assumption) ?_
        rotate_left
        · intro w' hSw; (try dsimp only at hSw); have f0 := hSw.1.cell 0; have f1 := hSw.1.cell 1; have f2 := hSw.1.cell 2; have f3 := hSw.1.cell 3; have f4 := hSw.1.cell 4; have f5 := hSw.1.cell 5; have f6 := hSw.1.cell 6; have f7 := hSw.1.cell 7; have c0 := hSw.2.1.cell 0; have c1 := hSw.2.1.cell 1; have c2 := hSw.2.1.cell 2; have c3 := hSw.2.1.cell 3; have d0 := hSw.2.2.1.cell 0; have d1 := hSw.2.2.1.cell 1; have d2 := hSw.2.2.1.cell 2; have d3 := hSw.2.2.1.cell 3; have v0 := hSw.2.2.2.cell 0; have v1 := hSw.2.2.2.cell 1; have v2 := hSw.2.2.2.cell 2; have v3 := hSw.2.2.2.cell 3; have v4 := hSw.2.2.2.cell 4; have v5 := hSw.2.2.2.cell 5; have v6 := hSw.2.2.2.cell 6; have v7 := hSw.2.2.2.cell 7; go_simp; (try with_reducible rfl)
        (try simp only [Act.put, List.getElem_toArray, List.getElem_cons_zero, List.getElem_cons_succ, List.setIfInBounds_toArray, List.set_cons_zero, List.set_cons_succ])
        refine wpAnyF_take (i := 3) (v := ?_) (by kernel_rfl) (by kernel_rfl) rfl (by kernel_rfl) (by kernel_rfl) (by kernel_rfl) (fun _ _ _ h => h) (Or.inl ⟨by rfl, ?_⟩) (by assumption) ?_
        rotate_left
        · intro w' hSw; (try dsimp only at hSw); have f0 := hSw.1.cell 0; have f1 := hSw.1.cell 1; have f2 := hSw.1.cell 2; have f3 := hSw.1.cell 3; have f4 := hSw.1.cell 4; have f5 := hSw.1.cell 5; have f6 := hSw.1.cell 6; have f7 := hSw.1.cell 7; have c0 := hSw.2.1.cell 0; have c1 := hSw.2.1.cell 1; have c2 := hSw.2.1.cell 2; have c3 := hSw.2.1.cell 3; have d0 := hSw.2.2.1.cell 0; have d1 := hSw.2.2.1.cell 1; have d2 := hSw.2.2.1.cell 2; have d3 := hSw.2.2.1.cell 3; have v0 := hSw.2.2.2.cell 0; have v1 := hSw.2.2.2.cell 1; have v2 := hSw.2.2.2.cell 2; have v3 := hSw.2.2.2.cell 3; have v4 := hSw.2.2.2.cell 4; have v5 := hSw.2.2.2.cell 5; have v6 := hSw.2.2.2.cell 6; have v7 := hSw.2.2.2.cell 7; go_simp; (try with_reducible rfl)
        (try simp only [Act.put, List.getElem_toArray, List.getElem_cons_zero, List.getElem_cons_succ, List.setIfInBounds_toArray, List.set_cons_zero, List.set_cons_succ])
        refine wpAnyF_take (i := 4) (v := ?_) (by kernel_rfl) (by kernel_rfl) rfl (by kernel_rfl) (by kernel_rfl) (by kernel_rfl) (fun _ _ _ h => h) (Or.inl ⟨by rfl, ?_⟩) (by assumption) ?_
        rotate_left
        · intro w' hSw; (try dsimp only at hSw); have f0 := hSw.1.cell 0; have f1 := hSw.1.cell 1; have f2 := hSw.1.cell 2; have f3 := hSw.1.cell 3; have f4 := hSw.1.cell 4; have f5 := hSw.1.cell 5; have f6 := hSw.1.cell 6; have f7 := hSw.1.cell 7; have c0 := hSw.2.1.cell 0; have c1 := hSw.2.1.cell 1; have c2 := hSw.2.1.cell 2; have c3 := hSw.2.1.cell 3; have d0 := hSw.2.2.1.cell 0; have d1 := hSw.2.2.1.cell 1; have d2 := hSw.2.2.1.cell 2; have d3 := hSw.2.2.1.cell 3; have v0 := hSw.2.2.2.cell 0; have v1 := hSw.2.2.2.cell 1; have v2 := hSw.2.2.2.cell 2; have v3 := hSw.2.2.2.cell 3; have v4 := hSw.2.2.2.cell 4; have v5 := hSw.2.2.2.cell 5; have v6 := hSw.2.2.2.cell 6; have v7 := hSw.2.2.2.cell 7; go_simp; (try with_reducible rfl)
        (try simp only [Act.put, List.getElem_toArray, List.getElem_cons_zero, List.getElem_cons_succ, List.setIfInBounds_toArray, List.set_cons_zero, List.set_cons_succ])
        refine wpAnyF_take (i := 5) (v := ?_) (by kernel_rfl) (by kernel_rfl) rfl (by kernel_rfl) (by kernel_rfl) (by kernel_rfl) (fun _ _ _ h => h) (Or.inl ⟨by rfl, ?_⟩) (by assumption) ?_
        rotate_left
        · intro w' hSw; (try dsimp only at hSw); have f0 := hSw.1.cell 0; have f1 := hSw.1.cell 1; have f2 := hSw.1.cell 2; have f3 := hSw.1.cell 3; have f4 := hSw.1.cell 4; have f5 := hSw.1.cell 5; have f6 := hSw.1.cell 6; have f7 := hSw.1.cell 7; have c0 := hSw.2.1.cell 0; have c1 := hSw.2.1.cell 1; have c2 := hSw.2.1.cell 2; have c3 := hSw.2.1.cell 3; have d0 := hSw.2.2.1.cell 0; have d1 := hSw.2.2.1.cell 1; have d2 := hSw.2.2.1.cell 2; have d3 := hSw.2.2.1.cell 3; have v0 := hSw.2.2.2.cell 0; have v1 := hSw.2.2.2.cell 1; have v2 := hSw.2.2.2.cell 2; have v3 := hSw.2.2.2.cell 3; have v4 := hSw.2.2.2.cell 4; have v5 := hSw.2.2.2.cell 5; have v6 := hSw.2.2.2.cell 6; have v7 := hSw.2.2.2.cell 7; go_simp; (try with_reducible rfl)
        (try simp only [Act.put, List.getElem_toArray, List.getElem_cons_zero, List.getElem_cons_succ, List.setIfInBounds_toArray, List.set_cons_zero, List.set_cons_succ])
        refine wpAnyF_take (i := 6) (v := ?_) (by kernel_rfl) (by kernel_rfl) rfl (by kernel_rfl) (by kernel_rfl) (by kernel_rfl) (fun _ _ _ h => h) (Or.inl ⟨by rfl, ?_⟩) (by assumption) ?_
        rotate_left
        · intro w' hSw; (try dsimp only at hSw); have f0 := hSw.1.cell 0; have f1 := hSw.1.cell 1; have f2 := hSw.1.cell 2; have f3 := hSw.1.cell 3; have f4 := hSw.1.cell 4; have f5 := hSw.1.cell 5; have f6 := hSw.1.cell 6; have f7 := hSw.1.cell 7; have c0 := hSw.2.1.cell 0; have c1 := hSw.2.1.cell 1; have c2 := hSw.2.1.cell 2; have c3 := hSw.2.1.cell 3; have d0 := hSw.2.2.1.cell 0; have d1 := hSw.2.2.1.cell 1; have d2 := hSw.2.2.1.cell 2; have d3 := hSw.2.2.1.cell 3; have v0 := hSw.2.2.2.cell 0; have v1 := hSw.2.2.2.cell 1; have v2 := hSw.2.2.2.cell 2; have v3 := hSw.2.2.2.cell 3; have v4 := hSw.2.2.2.cell 4; have v5 := hSw.2.2.2.cell 5; have v6 := hSw.2.2.2.cell 6; have v7 := hSw.2.2.2.cell 7; go_simp; (try with_reducible rfl)
        (try simp only [Act.put, List.getElem_toArray, List.getElem_cons_zero, List.getElem_cons_succ, List.setIfInBounds_toArray, List.set_cons_zero, List.set_cons_succ])
        refine wpAnyF_take (i := 7) (v := ?_) (by kernel_rfl) (by kernel_rfl) rfl (by kernel_rfl) (by kernel_rfl) (by kernel_rfl) (fun _ _ _ h => h) (Or.inl ⟨by rfl, ?_⟩) (by assumption) ?_
        rotate_left
        · intro w' hSw; (try dsimp only at hSw); have f0 := hSw.1.cell 0; have f1 := hSw.1.cell 1; have f2 := hSw.1.cell 2; have f3 := hSw.1.cell 3; have f4 := hSw.1.cell 4; have f5 := hSw.1.cell 5; have f6 := hSw.1.cell 6; have f7 := hSw.1.cell 7; have c0 := hSw.2.1.cell 0; have c1 := hSw.2.1.cell 1; have c2 := hSw.2.1.cell 2; have c3 := hSw.2.1.cell 3; have d0 := hSw.2.2.1.cell 0; have d1 := hSw.2.2.1.cell 1; have d2 := hSw.2.2.1.cell 2; have d3 := hSw.2.2.1.cell 3; have v0 := hSw.2.2.2.cell 0; have v1 := hSw.2.2.2.cell 1; have v2 := hSw.2.2.2.cell 2; have v3 := hSw.2.2.2.cell 3; have v4 := hSw.2.2.2.cell 4; have v5 := hSw.2.2.2.cell 5; have v6 := hSw.2.2.2.cell 6; have v7 := hSw.2.2.2.cell 7; go_simp; (try with_reducible rfl)
        (try simp only [Act.put, List.getElem_toArray, List.getElem_cons_zero, List.getElem_cons_succ, List.setIfInBounds_toArray, List.set_cons_zero, List.set_cons_succ])
        refine wpAnyF_take (i := 8) (v := ?_) (by kernel_rfl) (by kernel_rfl) rfl (by kernel_rfl) (by kernel_rfl) (by kernel_rfl) (fun _ _ _ h => h) (Or.inl ⟨by rfl, ?_⟩) (by assumption) ?_
        rotate_left
        · intro w' hSw; (try dsimp only at hSw); have f0 := hSw.1.cell 0; have f1 := hSw.1.cell 1; have f2 := hSw.1.cell 2; have f3 := hSw.1.cell 3; have f4 := hSw.1.cell 4; have f5 := hSw.1.cell 5; have f6 := hSw.1.cell 6; have f7 := hSw.1.cell 7; have c0 := hSw.2.1.cell 0; have c1 := hSw.2.1.cell 1; have c2 := hSw.2.1.cell 2; have c3 := hSw.2.1.cell 3; have d0 := hSw.2.2.1.cell 0; have d1 := hSw.2.2.1.cell 1; have d2 := hSw.2.2.1.cell 2; have d3 := hSw.2.2.1.cell 3; have v0 := hSw.2.2.2.cell 0; have v1 := hSw.2.2.2.cell 1; have v2 := hSw.2.2.2.cell 2; have v3 := hSw.2.2.2.cell 3; have v4 := hSw.2.2.2.cell 4; have v5 := hSw.2.2.2.cell 5; have v6 := hSw.2.2.2.cell 6; have v7 := hSw.2.2.2.cell 7; go_simp; (try with_reducible rfl)
        (try simp only [Act.put, List.getElem_toArray, List.getElem_cons_zero, List.getElem_cons_succ, List.setIfInBounds_toArray, List.set_cons_zero, List.set_cons_succ])
        refine wpAnyF_ready (rs := [9]) (by kernel_rfl) (by simp) ?_
        refine AllReadyF.cons rfl (fun KK hKK => ?_) AllReadyF.nil
        go_simp
        ((with_reducible refine (HMK.out _).mono ?_); rintro e' w4 ⟨rfl, rfl⟩; have hSS := hHeld)
        (try go_simp)
        refine hKK.out _ _ hSS (fun hHeld => ?_)
        clear hKK KK
        (try simp only [Act.put, List.getElem_toArray, List.getElem_cons_zero, List.getElem_cons_succ, List.setIfInBounds_toArray, List.set_cons_zero, List.set_cons_succ])
        refine wpAnyF_ready (rs := [10]) (by kernel_rfl) (by simp) ?_
        refine AllReadyF.last (by kernel_rfl) rfl (fun KK hKK => ?_) AllReadyF.nil
        have S4 := hi hHeld
        go_simp
        refine hKK.out _ _ ?_
        clear hKK KK
        (try simp only [Act.put, List.getElem_toArray, List.getElem_cons_zero, List.getElem_cons_succ, List.setIfInBounds_toArray, List.set_cons_zero, List.set_cons_succ])
        refine wpAnyF_done (by kernel_rfl) ?_ _
        refine NoPanic.normal ?_
        have B4 := hi (Below.drewN (m := 1) B3.out)
        have f0 := S4.out.1.cell 0; have f1 := S4.out.1.cell 1; have f2 := S4.out.1.cell 2; have f3 := S4.out.1.cell 3; have f4 := S4.out.1.cell 4; have f5 := S4.out.1.cell 5; have f6 := S4.out.1.cell 6; have f7 := S4.out.1.cell 7
        go_wp2_with (first
          | (go_at_call 28; ((with_reducible refine (HRU.out _).mono ?_); rintro e w5 ⟨rfl, hb⟩; have S5 := hi (show CB w5 w.heap.size 29 #[.int .i64 m, .int .i64 p0, .int .i64 p1, .bool o0, .bool o1, .bool sp, .int .u32 (wd q 0), .int .u32 (wd q 1)] ∧ CB w5 (w.heap.size + 1) 39 #[.int .i64 ci, .int .i64 (8 * (k : Int)), .int .i64 g, .bool cis] ∧ CB w5 (w.heap.size + 1 + 1) 39 #[.int .i64 di, .int .i64 dp, .int .i64 dg, .bool dis] ∧ CB w5 w1.heap.size 29 #[.int .i64 m, .int .i64 p0, .int .i64 p1, .bool o0, .bool o1, .bool sp, .int .u32 (wd r 0), .int .u32 (wd r 1)] from ⟨S4.out.1.below hb, S4.out.2.1.below hb, S4.out.2.2.1.below hb, S4.out.2.2.2.below hb⟩); have B5 := hi (B4.out.trans (hb.mono B4.out.size)); have f0 := S5.out.1.cell 0; have f1 := S5.out.1.cell 1; have f2 := S5.out.1.cell 2; have f3 := S5.out.1.cell 3; have f4 := S5.out.1.cell 4; have f5 := S5.out.1.cell 5; have f6 := S5.out.1.cell 6; have f7 := S5.out.1.cell 7; have c0 := S5.out.2.1.cell 0; have c1 := S5.out.2.1.cell 1; have c2 := S5.out.2.1.cell 2; have c3 := S5.out.2.1.cell 3; have d0 := S5.out.2.2.1.cell 0; have d1 := S5.out.2.2.1.cell 1; have d2 := S5.out.2.2.1.cell 2; have d3 := S5.out.2.2.1.cell 3; have df := S5.out.2.2.1.frozen; clear hb)))
        refine wp_region_noPanic ?_
        refine wp_region_last_drew (S := (fun W' => CB W' w.heap.size 29 #[.int .i64 m, .int .i64 p0, .int .i64 p1, .bool o0, .bool o1, .bool sp, .int .u32 (wd q 0), .int .u32 (wd q 1)] ∧ CB W' (w.heap.size + 1) 39 #[.int .i64 ci, .int .i64 (8 * (k : Int)), .int .i64 g, .bool cis] ∧ (∃ v9, CB W' (w.heap.size + 1 + 1) 39 #[.int .i64 di, .int .i64 dp, v9, .bool dis]) ∧ CB W' w1.heap.size 29 #[.int .i64 m, .int .i64 p0, .int .i64 p1, .bool o0, .bool o1, .bool sp, .int .u32 (wd r 0), .int .u32 (wd r 1)])) [10, 11] (by kernel_rfl) ⟨S5.out.1.drew, S5.out.2.1.drew, ⟨_, S5.out.2.2.1.drew⟩, S5.out.2.2.2.drew⟩ (fun hHeld => ?_)
        (try simp only [Array.replicate_succ, Array.replicate_zero, List.push_toArray, List.nil_append, List.cons_append])
        refine wpAnyF_take (i := 0) (v := ?_) (by kernel_rfl) (by kernel_rfl) rfl (by kernel_rfl) (by kernel_rfl) (by kernel_rfl) (fun _ _ _ h => h) (Or.inl ⟨by rfl, ?_⟩) (by assumption) ?_
        rotate_left
        · intro w' hSw; (try dsimp only at hSw); have f0 := hSw.1.cell 0; have f1 := hSw.1.cell 1; have f2 := hSw.1.cell 2; have f3 := hSw.1.cell 3; have f4 := hSw.1.cell 4; have f5 := hSw.1.cell 5; have f6 := hSw.1.cell 6; have f7 := hSw.1.cell 7; have c0 := hSw.2.1.cell 0; have c1 := hSw.2.1.cell 1; have c2 := hSw.2.1.cell 2; have c3 := hSw.2.1.cell 3; obtain ⟨v9, hD9⟩ := hSw.2.2.1; have d0 := hD9.cell 0; have d1 := hD9.cell 1; have d2 := hD9.cell 2; have d3 := hD9.cell 3; go_simp; (try with_reducible rfl)
        (try simp only [Act.put, List.getElem_toArray, List.getElem_cons_zero, List.setIfInBounds_toArray, List.set_cons_zero, List.set_cons_succ])
        refine wpAnyF_take (i := 1) (v := ?_) (by kernel_rfl) (by kernel_rfl) rfl (by kernel_rfl) (by kernel_rfl) (by kernel_rfl) (fun _ _ _ h => h) (Or.inl ⟨by rfl, ?_⟩) (by assumption) ?_
        rotate_left
        · intro w' hSw; (try dsimp only at hSw); have f0 := hSw.1.cell 0; have f1 := hSw.1.cell 1; have f2 := hSw.1.cell 2; have f3 := hSw.1.cell 3; have f4 := hSw.1.cell 4; have f5 := hSw.1.cell 5; have f6 := hSw.1.cell 6; have f7 := hSw.1.cell 7; have c0 := hSw.2.1.cell 0; have c1 := hSw.2.1.cell 1; have c2 := hSw.2.1.cell 2; have c3 := hSw.2.1.cell 3; obtain ⟨v9, hD9⟩ := hSw.2.2.1; have d0 := hD9.cell 0; have d1 := hD9.cell 1; have d2 := hD9.cell 2; have d3 := hD9.cell 3; go_simp; (try with_reducible rfl)
        (try simp only [Act.put, List.getElem_toArray, List.getElem_cons_zero, List.getElem_cons_succ, List.setIfInBounds_toArray, List.set_cons_zero, List.set_cons_succ])
        refine wpAnyF_take (i := 2) (v := ?_) (by kernel_rfl) (by kernel_rfl) rfl (by kernel_rfl) (by kernel_rfl) (by kernel_rfl) (fun _ _ _ h => h) (Or.inl ⟨by rfl, ?_⟩) (by assumption) ?_
        rotate_left
        · intro w' hSw; (try dsimp only at hSw); have f0 := hSw.1.cell 0; have f1 := hSw.1.cell 1; have f2 := hSw.1.cell 2; have f3 := hSw.1.cell 3; have f4 := hSw.1.cell 4; have f5 := hSw.1.cell 5; have f6 := hSw.1.cell 6; have f7 := hSw.1.cell 7; have c0 := hSw.2.1.cell 0; have c1 := hSw.2.1.cell 1; have c2 := hSw.2.1.cell 2; have c3 := hSw.2.1.cell 3; obtain ⟨v9, hD9⟩ := hSw.2.2.1; have d0 := hD9.cell 0; have d1 := hD9.cell 1; have d2 := hD9.cell 2; have d3 := hD9.cell 3; go_simp; (try with_reducible rfl)
        (try simp only [Act.put, List.getElem_toArray, List.getElem_cons_zero, List.getElem_cons_succ, List.setIfInBounds_toArray, List.set_cons_zero, List.set_cons_succ])
        refine wpAnyF_take (i := 3) (v := ?_) (by kernel_rfl) (by kernel_rfl) rfl (by kernel_rfl) (by kernel_rfl) (by kernel_rfl) (fun _ _ _ h => h) (Or.inl ⟨by rfl, ?_⟩) (by assumption) ?_
        rotate_left
        · intro w' hSw; (try dsimp only at hSw); have f0 := hSw.1.cell 0; have f1 := hSw.1.cell 1; have f2 := hSw.1.cell 2; have f3 := hSw.1.cell 3; have f4 := hSw.1.cell 4; have f5 := hSw.1.cell 5; have f6 := hSw.1.cell 6; have f7 := hSw.1.cell 7; have c0 := hSw.2.1.cell 0; have c1 := hSw.2.1.cell 1; have c2 := hSw.2.1.cell 2; have c3 := hSw.2.1.cell 3; obtain ⟨v9, hD9⟩ := hSw.2.2.1; have d0 := hD9.cell 0; have d1 := hD9.cell 1; have d2 := hD9.cell 2; have d3 := hD9.cell 3; go_simp; (try with_reducible rfl)
        (try simp only [Act.put, List.getElem_toArray, List.getElem_cons_zero, List.getElem_cons_succ, List.setIfInBounds_toArray, List.set_cons_zero, List.set_cons_succ])
        refine wpAnyF_take (i := 4) (v := ?_) (by kernel_rfl) (by kernel_rfl) rfl (by kernel_rfl) (by kernel_rfl) (by kernel_rfl) (fun _ _ _ h => h) (Or.inl ⟨by rfl, ?_⟩) (by assumption) ?_
        rotate_left
        · intro w' hSw; (try dsimp only at hSw); have f0 := hSw.1.cell 0; have f1 := hSw.1.cell 1; have f2 := hSw.1.cell 2; have f3 := hSw.1.cell 3; have f4 := hSw.1.cell 4; have f5 := hSw.1.cell 5; have f6 := hSw.1.cell 6; have f7 := hSw.1.cell 7; have c0 := hSw.2.1.cell 0; have c1 := hSw.2.1.cell 1; have c2 := hSw.2.1.cell 2; have c3 := hSw.2.1.cell 3; obtain ⟨v9, hD9⟩ := hSw.2.2.1; have d0 := hD9.cell 0; have d1 := hD9.cell 1; have d2 := hD9.cell 2; have d3 := hD9.cell 3; go_simp; (try with_reducible rfl)
        (try simp only [Act.put, List.getElem_toArray, List.getElem_cons_zero, List.getElem_cons_succ, List.setIfInBounds_toArray, List.set_cons_zero, List.set_cons_succ])
        refine wpAnyF_take (i := 5) (v := ?_) (by kernel_rfl) (by kernel_rfl) rfl (by kernel_rfl) (by kernel_rfl) (by kernel_rfl) (fun _ _ _ h => h) (Or.inl ⟨by rfl, ?_⟩) (by assumption) ?_
        rotate_left
        · intro w' hSw; (try dsimp only at hSw); have f0 := hSw.1.cell 0; have f1 := hSw.1.cell 1; have f2 := hSw.1.cell 2; have f3 := hSw.1.cell 3; have f4 := hSw.1.cell 4; have f5 := hSw.1.cell 5; have f6 := hSw.1.cell 6; have f7 := hSw.1.cell 7; have c0 := hSw.2.1.cell 0; have c1 := hSw.2.1.cell 1; have c2 := hSw.2.1.cell 2; have c3 := hSw.2.1.cell 3; obtain ⟨v9, hD9⟩ := hSw.2.2.1; have d0 := hD9.cell 0; have d1 := hD9.cell 1; have d2 := hD9.cell 2; have d3 := hD9.cell 3; go_simp; (try with_reducible rfl)
        (try simp only [Act.put, List.getElem_toArray, List.getElem_cons_zero, List.getElem_cons_succ, List.setIfInBounds_toArray, List.set_cons_zero, List.set_cons_succ])
        refine wpAnyF_take (i := 6) (v := ?_) (by kernel_rfl) (by kernel_rfl) rfl (by kernel_rfl) (by kernel_rfl) (by kernel_rfl) (fun _ _ _ h => h) (Or.inl ⟨by rfl, ?_⟩) (by assumption) ?_
        rotate_left
        · intro w' hSw; (try dsimp only at hSw); have f0 := hSw.1.cell 0; have f1 := hSw.1.cell 1; have f2 := hSw.1.cell 2; have f3 := hSw.1.cell 3; have f4 := hSw.1.cell 4; have f5 := hSw.1.cell 5; have f6 := hSw.1.cell 6; have f7 := hSw.1.cell 7; have c0 := hSw.2.1.cell 0; have c1 := hSw.2.1.cell 1; have c2 := hSw.2.1.cell 2; have c3 := hSw.2.1.cell 3; obtain ⟨v9, hD9⟩ := hSw.2.2.1; have d0 := hD9.cell 0; have d1 := hD9.cell 1; have d2 := hD9.cell 2; have d3 := hD9.cell 3; go_simp; (try with_reducible rfl)
        (try simp only [Act.put, List.getElem_toArray, List.getElem_cons_zero, List.getElem_cons_succ, List.setIfInBounds_toArray, List.set_cons_zero, List.set_cons_succ])
        refine wpAnyF_take (i := 7) (v := ?_) (by kernel_rfl) (by kernel_rfl) rfl (by kernel_rfl) (by kernel_rfl) (by kernel_rfl) (fun _ _ _ h => h) (Or.inl ⟨by rfl, ?_⟩) (by assumption) ?_
        rotate_left
        · intro w' hSw; (try dsimp only at hSw); have f0 := hSw.1.cell 0; have f1 := hSw.1.cell 1; have f2 := hSw.1.cell 2; have f3 := hSw.1.cell 3; have f4 := hSw.1.cell 4; have f5 := hSw.1.cell 5; have f6 := hSw.1.cell 6; have f7 := hSw.1.cell 7; have c0 := hSw.2.1.cell 0; have c1 := hSw.2.1.cell 1; have c2 := hSw.2.1.cell 2; have c3 := hSw.2.1.cell 3; obtain ⟨v9, hD9⟩ := hSw.2.2.1; have d0 := hD9.cell 0; have d1 := hD9.cell 1; have d2 := hD9.cell 2; have d3 := hD9.cell 3; go_simp; (try with_reducible rfl)
        (try simp only [Act.put, List.getElem_toArray, List.getElem_cons_zero, List.getElem_cons_succ, List.setIfInBounds_toArray, List.set_cons_zero, List.set_cons_succ])
        refine wpAnyF_take (i := 8) (v := ?_) (by kernel_rfl) (by kernel_rfl) rfl (by kernel_rfl) (by kernel_rfl) (by kernel_rfl) (fun _ _ _ h => h) (Or.inl ⟨by rfl, ?_⟩) (by assumption) ?_
        rotate_left
        · intro w' hSw; (try dsimp only at hSw); have f0 := hSw.1.cell 0; have f1 := hSw.1.cell 1; have f2 := hSw.1.cell 2; have f3 := hSw.1.cell 3; have f4 := hSw.1.cell 4; have f5 := hSw.1.cell 5; have f6 := hSw.1.cell 6; have f7 := hSw.1.cell 7; have c0 := hSw.2.1.cell 0; have c1 := hSw.2.1.cell 1; have c2 := hSw.2.1.cell 2; have c3 := hSw.2.1.cell 3; obtain ⟨v9, hD9⟩ := hSw.2.2.1; have d0 := hD9.cell 0; have d1 := hD9.cell 1; have d2 := hD9.cell 2; have d3 := hD9.cell 3; go_simp; (try with_reducible rfl)
        (try simp only [Act.put, List.getElem_toArray, List.getElem_cons_zero, List.getElem_cons_succ, List.setIfInBounds_toArray, List.set_cons_zero, List.set_cons_succ])
        refine wpAnyF_ready (rs := [9]) (by kernel_rfl) (by simp) ?_
        refine AllReadyF.cons rfl (fun KK hKK => ?_) AllReadyF.nil
        go_simp
        have S6 := hi S5.out
        obtain ⟨v9, hD9⟩ := hHeld.2.2.1
        have df := hD9.frozen
        go_simp
        have hS9 := And.intro (hHeld.1.other (w.heap.size + 1 + 1) 2 (.int .i64 g) (by omega)) (And.intro (hHeld.2.1.other (w.heap.size + 1 + 1) 2 (.int .i64 g) (by omega)) (And.intro (⟨_, hD9.set 2 (.int .i64 g)⟩ : ∃ v9, CB (w5.drew.setCell ⟨w.heap.size + 1 + 1, 2, none⟩ (.int .i64 g)) (w.heap.size + 1 + 1) 39 #[.int .i64 di, .int .i64 dp, v9, .bool dis]) (hHeld.2.2.2.other (w.heap.size + 1 + 1) 2 (.int .i64 g) (by have := LT.out; omega))))
        refine hKK.out _ _ hS9 (fun hHeld => ?_)
        clear hKK KK
        (try simp only [Act.put, List.getElem_toArray, List.getElem_cons_zero, List.getElem_cons_succ, List.setIfInBounds_toArray, List.set_cons_zero, List.set_cons_succ])
        refine wpAnyF_ready (rs := [10]) (by kernel_rfl) (by simp) ?_
        refine AllReadyF.last (by kernel_rfl) rfl (fun KK hKK => ?_) AllReadyF.nil
        go_simp
        refine hKK.out _ _ ?_
        clear hKK KK
        (try simp only [Act.put, List.getElem_toArray, List.getElem_cons_zero, List.getElem_cons_succ, List.setIfInBounds_toArray, List.set_cons_zero, List.set_cons_succ])
        refine wpAnyF_ready (rs := [11]) (by kernel_rfl) (by simp) ?_
        refine AllReadyF.last (by kernel_rfl) rfl (fun KK hKK => ?_) AllReadyF.nil
        have d1 := (S6.out.2.2.1.drew.set 2 (.int .i64 g)).cell 1
        have df := (S6.out.2.2.1.drew.set 2 (.int .i64 g)).frozen
        go_simp
        refine hKK.out _ _ ?_
        clear hKK KK
        (try simp only [Act.put, List.getElem_toArray, List.getElem_cons_zero, List.getElem_cons_succ, List.setIfInBounds_toArray, List.set_cons_zero, List.set_cons_succ])
        refine wpAnyF_done (by kernel_rfl) ?_ _
        refine NoPanic.normal ?_
        have h5 := S5.out
        have S7 := hi (show ∃ X, ((w5.setCell ⟨w.heap.size + 1 + 1, 2, none⟩ (.int .i64 g)).setCell ⟨w.heap.size + 1 + 1, 1, none⟩ (.int .i64 s)).drew = X ∧ (CB X w.heap.size 29 #[.int .i64 m, .int .i64 p0, .int .i64 p1, .bool o0, .bool o1, .bool sp, .int .u32 (wd q 0), .int .u32 (wd q 1)] ∧ CB X (w.heap.size + 1) 39 #[.int .i64 ci, .int .i64 (8 * (k : Int)), .int .i64 g, .bool cis] ∧ CB X (w.heap.size + 1 + 1) 39 #[.int .i64 di, .int .i64 s, .int .i64 g, .bool dis] ∧ CB X w1.heap.size 29 #[.int .i64 m, .int .i64 p0, .int .i64 p1, .bool o0, .bool o1, .bool sp, .int .u32 (wd r 0), .int .u32 (wd r 1)]) ∧ Below w.heap.size w X from ⟨_, rfl, ⟨((h5.1.other (w.heap.size + 1 + 1) 2 (.int .i64 g) (by omega)).other (w.heap.size + 1 + 1) 1 (.int .i64 s) (by omega)).drew, ((h5.2.1.other (w.heap.size + 1 + 1) 2 (.int .i64 g) (by omega)).other (w.heap.size + 1 + 1) 1 (.int .i64 s) (by omega)).drew, by have hdd := ((h5.2.2.1.set 2 (.int .i64 g)).set 1 (.int .i64 s)).drew; simpa using hdd, ((h5.2.2.2.other (w.heap.size + 1 + 1) 2 (.int .i64 g) (by have := LT.out; omega)).other (w.heap.size + 1 + 1) 1 (.int .i64 s) (by have := LT.out; omega)).drew⟩, Below.drewN (m := 1) (below_set (below_set B5.out (show w.heap.size ≤ w.heap.size + 1 + 1 by omega) _) (show w.heap.size ≤ w.heap.size + 1 + 1 by omega) _)⟩)
        obtain ⟨X, hX, hS7, hB7⟩ := S7.out
        rw [hX]
        have S8 := hi hS7
        have B8 := hi hB7
        have f0 := S8.out.1.cell 0
        have f1 := S8.out.1.cell 1
        have f2 := S8.out.1.cell 2
        have f3 := S8.out.1.cell 3
        have f4 := S8.out.1.cell 4
        have f5 := S8.out.1.cell 5
        have f6 := S8.out.1.cell 6
        have f7 := S8.out.1.cell 7
        have c0 := S8.out.2.1.cell 0
        have c1 := S8.out.2.1.cell 1
        have c2 := S8.out.2.1.cell 2
        have c3 := S8.out.2.1.cell 3
        have d0 := S8.out.2.2.1.cell 0
        have d1 := S8.out.2.2.1.cell 1
        have d2 := S8.out.2.2.1.cell 2
        have d3 := S8.out.2.2.1.cell 3
        clear h5 hX hS7 hB7 S7 S6 S5 S4 S3 hS9 F2 V2 C2 D2 B2 B3 B4 B5
        go_wp2_with (first
          | (go_at_call 15; ((with_reducible refine (HM1.out _).mono ?_); rintro e w8 ⟨rfl, hb⟩; have S9 := hi (show CB w8 w.heap.size 29 #[.int .i64 m, .int .i64 p0, .int .i64 p1, .bool o0, .bool o1, .bool sp, .int .u32 (wd q 0), .int .u32 (wd q 1)] ∧ CB w8 (w.heap.size + 1) 39 #[.int .i64 ci, .int .i64 (8 * (k : Int)), .int .i64 g, .bool cis] ∧ CB w8 (w.heap.size + 1 + 1) 39 #[.int .i64 di, .int .i64 s, .int .i64 g, .bool dis] ∧ CB w8 w1.heap.size 29 #[.int .i64 m, .int .i64 p0, .int .i64 p1, .bool o0, .bool o1, .bool sp, .int .u32 (wd r 0), .int .u32 (wd r 1)] from ⟨S8.out.1.below hb, S8.out.2.1.below hb, S8.out.2.2.1.below hb, S8.out.2.2.2.below hb⟩); have B9 := hi (B8.out.trans (hb.mono B8.out.size)); have f0 := S9.out.1.cell 0; have f1 := S9.out.1.cell 1; have f2 := S9.out.1.cell 2; have f3 := S9.out.1.cell 3; have f4 := S9.out.1.cell 4; have f5 := S9.out.1.cell 5; have f6 := S9.out.1.cell 6; have f7 := S9.out.1.cell 7; have c0 := S9.out.2.1.cell 0; have c1 := S9.out.2.1.cell 1; have c2 := S9.out.2.1.cell 2; have c3 := S9.out.2.1.cell 3; have d0 := S9.out.2.2.1.cell 0; have d1 := S9.out.2.2.1.cell 1; have d2 := S9.out.2.2.1.cell 2; have d3 := S9.out.2.2.1.cell 3; clear hb))
          | (go_at_call 15; ((with_reducible refine (HM2.out _).mono ?_); rintro e w9 ⟨rfl, hb⟩; have S10 := hi (show CB w9 w.heap.size 29 #[.int .i64 m, .int .i64 p0, .int .i64 p1, .bool o0, .bool o1, .bool sp, .int .u32 (wd q 0), .int .u32 (wd q 1)] ∧ CB w9 (w.heap.size + 1) 39 #[.int .i64 ci, .int .i64 (8 * (k : Int)), .int .i64 g, .bool cis] ∧ CB w9 (w.heap.size + 1 + 1) 39 #[.int .i64 di, .int .i64 s, .int .i64 g, .bool dis] ∧ CB w9 w1.heap.size 29 #[.int .i64 m, .int .i64 p0, .int .i64 p1, .bool o0, .bool o1, .bool sp, .int .u32 (wd r 0), .int .u32 (wd r 1)] from ⟨S9.out.1.below hb, S9.out.2.1.below hb, S9.out.2.2.1.below hb, S9.out.2.2.2.below hb⟩); have B10 := hi (B9.out.trans (hb.mono B9.out.size)); have f0 := S10.out.1.cell 0; have f1 := S10.out.1.cell 1; have f2 := S10.out.1.cell 2; have f3 := S10.out.1.cell 3; have f4 := S10.out.1.cell 4; have f5 := S10.out.1.cell 5; have f6 := S10.out.1.cell 6; have f7 := S10.out.1.cell 7; have c0 := S10.out.2.1.cell 0; have c1 := S10.out.2.1.cell 1; have c2 := S10.out.2.1.cell 2; have c3 := S10.out.2.1.cell 3; have d0 := S10.out.2.2.1.cell 0; have d1 := S10.out.2.2.1.cell 1; have d2 := S10.out.2.2.1.cell 2; have d3 := S10.out.2.2.1.cell 3; clear hb))
          | (go_at_call 29; ((with_reducible refine (HDR.out _ _ S10.out.1).mono ?_); rintro e w10 ⟨rfl, hA⟩; have F11 := hi (show CB w10 w.heap.size 29 #[.int .i64 m, .int .i64 p0, .int .i64 p1, .bool o0, .bool o1, .bool sp, .int .u32 (wd r 0), .int .u32 (wd r 1)] from hA.bx); have V11 := hi (S10.out.2.2.2.keptB hA.kept (by have := LT.out; omega)); have B11 := hi (B10.out.trans (hA.kept.toBelow B10.out.size (fun i z => by subst z; omega))); have f0 := F11.out.cell 0; have f1 := F11.out.cell 1; have f2 := F11.out.cell 2; have f3 := F11.out.cell 3; have f4 := F11.out.cell 4; have f5 := F11.out.cell 5; have f6 := F11.out.cell 6; have f7 := F11.out.cell 7; have v0 := V11.out.cell 0; have v1 := V11.out.cell 1; have v2 := V11.out.cell 2; have v3 := V11.out.cell 3; have v4 := V11.out.cell 4; have v5 := V11.out.cell 5; have v6 := V11.out.cell 6; have v7 := V11.out.cell 7; clear hA)))
        go_ret
        exact ⟨rfl, B11.out⟩
      · have hz : bits .and .i64 g 1 = 0 := by rw [i64_and1, ← gO_int, hG]; rfl
        have HMK := hi (fun W => show Calls Try.prog 27 #[.int .i64 0, .int .i64 x.p0] W fun e w' => e = .returned (.int .i64 (levV x g)) ∧ W = w' from (mask_any 0 x.p0 W).mono (fun e w' z => ⟨by rw [z.1]; unfold levV Fc.pt; rw [hG]; rfl, z.2⟩))
        obtain ⟨M, hM2⟩ : ∃ M, levV x g = M := ⟨_, rfl⟩
        rw [hM2] at HMK hl2
        have HM1 := hi (fun W => (may_any { x with r := put x.r (2 * L + gO g) true } ⟨ci, (8 * (k : Int)), g, cis⟩ W).mono (fun e' w' (z : e' = .returned (.bool _) ∧ Below W.heap.size W w') => show e' = .returned (.bool false) ∧ Below W.heap.size W w' from ⟨by rw [z.1, show (8 * (k : Int)) = ((8 * k + 0 : Nat) : Int) by omega, hMay ci cis 0 (by decide)], z.2⟩))
        have HM2 := hi (fun W => (may_any { x with r := put x.r (2 * L + gO g) true } ⟨di, ((8 * k + (dp % 8).toNat : Nat) : Int), g, dis⟩ W).mono (fun e' w' (z : e' = .returned (.bool _) ∧ Below W.heap.size W w') => show e' = .returned (.bool false) ∧ Below W.heap.size W w' from ⟨by rw [z.1, hMay di dis _ (by omega)], z.2⟩))
        have HRU := hi (fun W => ifrun_any { x with r := put x.r (2 * L + gO g) true } W)
        rw [hRun] at HRU
        have HT := hi (fun b W (z : CB W b 29 x.cs) => take_any b x ⟨ci, 8 * (k : Int), g, cis⟩ g W z)
        rw [hTk] at HT
        have hor := or_low k hk2 dp
        obtain ⟨q, hq⟩ : ∃ q, put x.r (2 * L + gO g) true = q := ⟨_, rfl⟩
        rw [hq] at HM1 HM2 HRU HT
        skip
        rw [hG] at HRU
        obtain ⟨m, p0, p1, o0, o1, sp, r⟩ := x
        dsimp only at HT HM1 HM2 HRU HMK
        obtain ⟨s, hs⟩ : ∃ s : Int, ((8 * k + (dp % 8).toNat : Nat) : Int) = s := ⟨_, rfl⟩
        rw [hs] at hor HM2
        have hl8 : IntKind.i64.wrap ((l : Int) / 8) = L := by rw [IntKind.wrap_i64]; omega
        have hl8t : IntKind.i64.wrap ((l : Int).tdiv 8) = L := by rw [Int.tdiv_eq_ediv_of_nonneg (by omega)]; exact hl8
        have hL8 : IntKind.i64.wrap ((L : Int) * 8) = 8 * (L : Int) := by rw [IntKind.wrap_i64]; omega
        have wr1 : IntKind.i64.wrap 1 = 1 := by rw [IntKind.wrap_i64]; rfl
        have wr0 : IntKind.i64.wrap 0 = 0 := by rw [IntKind.wrap_i64]; rfl
        have dgg : (g != 0) = true := by simpa using (show g ≠ 0 from by intro h; apply hgg; rw [hG, h]; rfl)
        have dgg2 : (0 != g) = true := by simpa using (show (0 : Int) ≠ g from by intro h; apply hgg; rw [hG, ← h]; rfl)
        clear hMay hTk hRun hDr hq hs hM2 hL hl hl1 hG
        go_enter Try.func5, Try.ntmps5
        go_wp2_with (first
          | (go_at_call 9; ((with_reducible refine (awake_if _).mono ?_); rintro e w1 ⟨rfl, hb⟩; have hf := HF0.out.below hb; have f0 := hf.cell 0; have f1 := hf.cell 1; have f2 := hf.cell 2; have f3 := hf.cell 3; have f4 := hf.cell 4; have f5 := hf.cell 5; have f6 := hf.cell 6; have f7 := hf.cell 7; have hc := HC0.out.below hb; have c0 := hc.cell 0; have c1 := hc.cell 1; have c2 := hc.cell 2; have c3 := hc.cell 3; have cf := hc.frozen; have hcs : CB (w1.setCell ⟨w.heap.size + 1, 1, none⟩ (.int .i64 (8 * (k : Int)))) (w.heap.size + 1) 39 #[.int .i64 ci, .int .i64 (8 * (k : Int)), .int .i64 g, .bool cis] := (by simpa using hc.set 1 (.int .i64 (8 * (k : Int)))); have hfs := hf.other (w.heap.size + 1) 1 (.int .i64 (8 * (k : Int))) (by omega); have u0 := hfs.cell 0; have u1 := hfs.cell 1; have u2 := hfs.cell 2; have u3 := hfs.cell 3; have u4 := hfs.cell 4; have u5 := hfs.cell 5; have u6 := hfs.cell 6; have u7 := hfs.cell 7; have y0 := hcs.cell 0; have y1 := hcs.cell 1; have y2 := hcs.cell 2; have y3 := hcs.cell 3; have yf := hcs.frozen; have ha := bal (w1.setCell ⟨w.heap.size + 1, 1, none⟩ (.int .i64 (8 * (k : Int)))) (.cells #[.int .i64 m, .int .i64 p0, .int .i64 p1, .bool o0, .bool o1, .bool sp, .int .u32 (wd r 0), .int .u32 (wd r 1)] 29); have hcd := hcs.below ha; have z0 := hcd.cell 0; have z1 := hcd.cell 1; have z2 := hcd.cell 2; have z3 := hcd.cell 3; have zf := hcd.frozen; have W1 := hi (show ∃ W, (w1.setCell ⟨w.heap.size + 1, 1, none⟩ (.int .i64 (8 * (k : Int)))).alloc (.cells #[.int .i64 m, .int .i64 p0, .int .i64 p1, .bool o0, .bool o1, .bool sp, .int .u32 (wd r 0), .int .u32 (wd r 1)] 29) = W ∧ CB W w.heap.size 29 #[.int .i64 m, .int .i64 p0, .int .i64 p1, .bool o0, .bool o1, .bool sp, .int .u32 (wd r 0), .int .u32 (wd r 1)] ∧ CB W (w.heap.size + 1) 39 #[.int .i64 ci, .int .i64 (8 * (k : Int)), .int .i64 g, .bool cis] ∧ CB W (w.heap.size + 1 + 1) 39 #[.int .i64 di, .int .i64 dp, .int .i64 dg, .bool dis] ∧ CB W w1.heap.size 29 #[.int .i64 m, .int .i64 p0, .int .i64 p1, .bool o0, .bool o1, .bool sp, .int .u32 (wd r 0), .int .u32 (wd r 1)] ∧ Below w.heap.size w W ∧ w.heap.size + 1 + 1 < w1.heap.size from ⟨_, rfl, hfs.below ha, hcd, ((HD0.out.below hb).other _ _ _ (by omega)).below ha, by simpa using CB.new (w1.setCell ⟨w.heap.size + 1, 1, none⟩ (.int .i64 (8 * (k : Int)))) 29 #[.int .i64 m, .int .i64 p0, .int .i64 p1, .bool o0, .bool o1, .bool sp, .int .u32 (wd r 0), .int .u32 (wd r 1)], (below_set (HB0.out.trans (hb.mono HB0.out.size)) (show w.heap.size ≤ w.heap.size + 1 by omega) _).trans (ha.mono (by simp; have := (HD0.out.below hb).lt; omega)), (HD0.out.below hb).lt⟩); clear hb hf hc hcs hfs ha hcd)))
        obtain ⟨W, hW, hF, hC, hD, hV, hB, hL⟩ := W1.out
        rw [hW]
        have F2 := hi hF
        have C2 := hi hC
        have D2 := hi hD
        have V2 := hi hV
        have B2 := hi hB
        have LT := hi hL
        clear hW hF hC hD hV hB hL W1 f0 f1 f2 f3 f4 f5 f6 f7 c0 c1 c2 c3 cf u0 u1 u2 u3 u4 u5 u6 u7 y0 y1 y2 y3 yf z0 z1 z2 z3 zf HF0 HC0 HD0 HB0
        go_wp2_with (first
          | (go_at_call 26; ((with_reducible refine (HT.out _ _ F2.out).mono ?_); rintro e w3 ⟨rfl, hA⟩; have S3 := hi (show CB w3 w.heap.size 29 #[.int .i64 m, .int .i64 p0, .int .i64 p1, .bool o0, .bool o1, .bool sp, .int .u32 (wd q 0), .int .u32 (wd q 1)] ∧ CB w3 (w.heap.size + 1) 39 #[.int .i64 ci, .int .i64 (8 * (k : Int)), .int .i64 g, .bool cis] ∧ CB w3 (w.heap.size + 1 + 1) 39 #[.int .i64 di, .int .i64 dp, .int .i64 dg, .bool dis] ∧ CB w3 w1.heap.size 29 #[.int .i64 m, .int .i64 p0, .int .i64 p1, .bool o0, .bool o1, .bool sp, .int .u32 (wd r 0), .int .u32 (wd r 1)] from ⟨hA.bx, C2.out.keptB hA.kept (by omega), D2.out.keptB hA.kept (by omega), V2.out.keptB hA.kept (by have := LT.out; omega)⟩); have B3 := hi (B2.out.trans (hA.kept.toBelow B2.out.size (fun i z => by subst z; omega))); have f0 := S3.out.1.cell 0; have f1 := S3.out.1.cell 1; have f2 := S3.out.1.cell 2; have f3 := S3.out.1.cell 3; have f4 := S3.out.1.cell 4; have f5 := S3.out.1.cell 5; have f6 := S3.out.1.cell 6; have f7 := S3.out.1.cell 7; have c0 := S3.out.2.1.cell 0; have c1 := S3.out.2.1.cell 1; have c2 := S3.out.2.1.cell 2; have c3 := S3.out.2.1.cell 3; clear hA)))
        refine wp_region_noPanic ?_
        refine wp_region_last_drew (S := (fun W' => CB W' w.heap.size 29 #[.int .i64 m, .int .i64 p0, .int .i64 p1, .bool o0, .bool o1, .bool sp, .int .u32 (wd q 0), .int .u32 (wd q 1)] ∧ CB W' (w.heap.size + 1) 39 #[.int .i64 ci, .int .i64 (8 * (k : Int)), .int .i64 g, .bool cis] ∧ CB W' (w.heap.size + 1 + 1) 39 #[.int .i64 di, .int .i64 dp, .int .i64 dg, .bool dis] ∧ CB W' w1.heap.size 29 #[.int .i64 m, .int .i64 p0, .int .i64 p1, .bool o0, .bool o1, .bool sp, .int .u32 (wd r 0), .int .u32 (wd r 1)])) [10] (by kernel_rfl) ⟨S3.out.1.drew, S3.out.2.1.drew, S3.out.2.2.1.drew, S3.out.2.2.2.drew⟩ (fun hHeld => ?_)
        (try simp only [Array.replicate_succ, Array.replicate_zero, List.push_toArray, List.nil_append, List.cons_append])
        refine wpAnyF_take (i := 0) (v := ?_) (by kernel_rfl) (by kernel_rfl) rfl (by kernel_rfl) (by kernel_rfl) (by kernel_rfl) (fun _ _ _ h => h) (Or.inl ⟨by rfl, ?_⟩) (by assumption) ?_
        rotate_left
        · intro w' hSw; (try dsimp only at hSw); have f0 := hSw.1.cell 0; have f1 := hSw.1.cell 1; have f2 := hSw.1.cell 2; have f3 := hSw.1.cell 3; have f4 := hSw.1.cell 4; have f5 := hSw.1.cell 5; have f6 := hSw.1.cell 6; have f7 := hSw.1.cell 7; have c0 := hSw.2.1.cell 0; have c1 := hSw.2.1.cell 1; have c2 := hSw.2.1.cell 2; have c3 := hSw.2.1.cell 3; have d0 := hSw.2.2.1.cell 0; have d1 := hSw.2.2.1.cell 1; have d2 := hSw.2.2.1.cell 2; have d3 := hSw.2.2.1.cell 3; have v0 := hSw.2.2.2.cell 0; have v1 := hSw.2.2.2.cell 1; have v2 := hSw.2.2.2.cell 2; have v3 := hSw.2.2.2.cell 3; have v4 := hSw.2.2.2.cell 4; have v5 := hSw.2.2.2.cell 5; have v6 := hSw.2.2.2.cell 6; have v7 := hSw.2.2.2.cell 7; go_simp; (try with_reducible rfl)
        (try simp only [Act.put, List.getElem_toArray, List.getElem_cons_zero, List.setIfInBounds_toArray, List.set_cons_zero, List.set_cons_succ])
        refine wpAnyF_take (i := 1) (v := ?_) (by kernel_rfl) (by kernel_rfl) rfl (by kernel_rfl) (by kernel_rfl) (by kernel_rfl) (fun _ _ _ h => h) (Or.inl ⟨by rfl, ?_⟩) (by assumption) ?_
        rotate_left
        · intro w' hSw; (try dsimp only at hSw); have f0 := hSw.1.cell 0; have f1 := hSw.1.cell 1; have f2 := hSw.1.cell 2; have f3 := hSw.1.cell 3; have f4 := hSw.1.cell 4; have f5 := hSw.1.cell 5; have f6 := hSw.1.cell 6; have f7 := hSw.1.cell 7; have c0 := hSw.2.1.cell 0; have c1 := hSw.2.1.cell 1; have c2 := hSw.2.1.cell 2; have c3 := hSw.2.1.cell 3; have d0 := hSw.2.2.1.cell 0; have d1 := hSw.2.2.1.cell 1; have d2 := hSw.2.2.1.cell 2; have d3 := hSw.2.2.1.cell 3; have v0 := hSw.2.2.2.cell 0; have v1 := hSw.2.2.2.cell 1; have v2 := hSw.2.2.2.cell 2; have v3 := hSw.2.2.2.cell 3; have v4 := hSw.2.2.2.cell 4; have v5 := hSw.2.2.2.cell 5; have v6 := hSw.2.2.2.cell 6; have v7 := hSw.2.2.2.cell 7; go_simp; (try with_reducible rfl)
        (try simp only [Act.put, List.getElem_toArray, List.getElem_cons_zero, List.getElem_cons_succ, List.setIfInBounds_toArray, List.set_cons_zero, List.set_cons_succ])
        refine wpAnyF_take (i := 2) (v := ?_) (by kernel_rfl) (by kernel_rfl) rfl (by kernel_rfl) (by kernel_rfl) (by kernel_rfl) (fun _ _ _ h => h) (Or.inl ⟨by rfl, ?_⟩) (by assumption) ?_
        rotate_left
        · intro w' hSw; (try dsimp only at hSw); have f0 := hSw.1.cell 0; have f1 := hSw.1.cell 1; have f2 := hSw.1.cell 2; have f3 := hSw.1.cell 3; have f4 := hSw.1.cell 4; have f5 := hSw.1.cell 5; have f6 := hSw.1.cell 6; have f7 := hSw.1.cell 7; have c0 := hSw.2.1.cell 0; have c1 := hSw.2.1.cell 1; have c2 := hSw.2.1.cell 2; have c3 := hSw.2.1.cell 3; have d0 := hSw.2.2.1.cell 0; have d1 := hSw.2.2.1.cell 1; have d2 := hSw.2.2.1.cell 2; have d3 := hSw.2.2.1.cell 3; have v0 := hSw.2.2.2.cell 0; have v1 := hSw.2.2.2.cell 1; have v2 := hSw.2.2.2.cell 2; have v3 := hSw.2.2.2.cell 3; have v4 := hSw.2.2.2.cell 4; have v5 := hSw.2.2.2.cell 5; have v6 := hSw.2.2.2.cell 6; have v7 := hSw.2.2.2.cell 7; go_simp; (try with_reducible rfl)
        (try simp only [Act.put, List.getElem_toArray, List.getElem_cons_zero, List.getElem_cons_succ, List.setIfInBounds_toArray, List.set_cons_zero, List.set_cons_succ])
        refine wpAnyF_take (i := 3) (v := ?_) (by kernel_rfl) (by kernel_rfl) rfl (by kernel_rfl) (by kernel_rfl) (by kernel_rfl) (fun _ _ _ h => h) (Or.inl ⟨by rfl, ?_⟩) (by assumption) ?_
        rotate_left
        · intro w' hSw; (try dsimp only at hSw); have f0 := hSw.1.cell 0; have f1 := hSw.1.cell 1; have f2 := hSw.1.cell 2; have f3 := hSw.1.cell 3; have f4 := hSw.1.cell 4; have f5 := hSw.1.cell 5; have f6 := hSw.1.cell 6; have f7 := hSw.1.cell 7; have c0 := hSw.2.1.cell 0; have c1 := hSw.2.1.cell 1; have c2 := hSw.2.1.cell 2; have c3 := hSw.2.1.cell 3; have d0 := hSw.2.2.1.cell 0; have d1 := hSw.2.2.1.cell 1; have d2 := hSw.2.2.1.cell 2; have d3 := hSw.2.2.1.cell 3; have v0 := hSw.2.2.2.cell 0; have v1 := hSw.2.2.2.cell 1; have v2 := hSw.2.2.2.cell 2; have v3 := hSw.2.2.2.cell 3; have v4 := hSw.2.2.2.cell 4; have v5 := hSw.2.2.2.cell 5; have v6 := hSw.2.2.2.cell 6; have v7 := hSw.2.2.2.cell 7; go_simp; (try with_reducible rfl)
        (try simp only [Act.put, List.getElem_toArray, List.getElem_cons_zero, List.getElem_cons_succ, List.setIfInBounds_toArray, List.set_cons_zero, List.set_cons_succ])
        refine wpAnyF_take (i := 4) (v := ?_) (by kernel_rfl) (by kernel_rfl) rfl (by kernel_rfl) (by kernel_rfl) (by kernel_rfl) (fun _ _ _ h => h) (Or.inl ⟨by rfl, ?_⟩) (by assumption) ?_
        rotate_left
        · intro w' hSw; (try dsimp only at hSw); have f0 := hSw.1.cell 0; have f1 := hSw.1.cell 1; have f2 := hSw.1.cell 2; have f3 := hSw.1.cell 3; have f4 := hSw.1.cell 4; have f5 := hSw.1.cell 5; have f6 := hSw.1.cell 6; have f7 := hSw.1.cell 7; have c0 := hSw.2.1.cell 0; have c1 := hSw.2.1.cell 1; have c2 := hSw.2.1.cell 2; have c3 := hSw.2.1.cell 3; have d0 := hSw.2.2.1.cell 0; have d1 := hSw.2.2.1.cell 1; have d2 := hSw.2.2.1.cell 2; have d3 := hSw.2.2.1.cell 3; have v0 := hSw.2.2.2.cell 0; have v1 := hSw.2.2.2.cell 1; have v2 := hSw.2.2.2.cell 2; have v3 := hSw.2.2.2.cell 3; have v4 := hSw.2.2.2.cell 4; have v5 := hSw.2.2.2.cell 5; have v6 := hSw.2.2.2.cell 6; have v7 := hSw.2.2.2.cell 7; go_simp; (try with_reducible rfl)
        (try simp only [Act.put, List.getElem_toArray, List.getElem_cons_zero, List.getElem_cons_succ, List.setIfInBounds_toArray, List.set_cons_zero, List.set_cons_succ])
        refine wpAnyF_take (i := 5) (v := ?_) (by kernel_rfl) (by kernel_rfl) rfl (by kernel_rfl) (by kernel_rfl) (by kernel_rfl) (fun _ _ _ h => h) (Or.inl ⟨by rfl, ?_⟩) (by assumption) ?_
        rotate_left
        · intro w' hSw; (try dsimp only at hSw); have f0 := hSw.1.cell 0; have f1 := hSw.1.cell 1; have f2 := hSw.1.cell 2; have f3 := hSw.1.cell 3; have f4 := hSw.1.cell 4; have f5 := hSw.1.cell 5; have f6 := hSw.1.cell 6; have f7 := hSw.1.cell 7; have c0 := hSw.2.1.cell 0; have c1 := hSw.2.1.cell 1; have c2 := hSw.2.1.cell 2; have c3 := hSw.2.1.cell 3; have d0 := hSw.2.2.1.cell 0; have d1 := hSw.2.2.1.cell 1; have d2 := hSw.2.2.1.cell 2; have d3 := hSw.2.2.1.cell 3; have v0 := hSw.2.2.2.cell 0; have v1 := hSw.2.2.2.cell 1; have v2 := hSw.2.2.2.cell 2; have v3 := hSw.2.2.2.cell 3; have v4 := hSw.2.2.2.cell 4; have v5 := hSw.2.2.2.cell 5; have v6 := hSw.2.2.2.cell 6; have v7 := hSw.2.2.2.cell 7; go_simp; (try with_reducible rfl)
        (try simp only [Act.put, List.getElem_toArray, List.getElem_cons_zero, List.getElem_cons_succ, List.setIfInBounds_toArray, List.set_cons_zero, List.set_cons_succ])
        refine wpAnyF_take (i := 6) (v := ?_) (by kernel_rfl) (by kernel_rfl) rfl (by kernel_rfl) (by kernel_rfl) (by kernel_rfl) (fun _ _ _ h => h) (Or.inl ⟨by rfl, ?_⟩) (by assumption) ?_
        rotate_left
        · intro w' hSw; (try dsimp only at hSw); have f0 := hSw.1.cell 0; have f1 := hSw.1.cell 1; have f2 := hSw.1.cell 2; have f3 := hSw.1.cell 3; have f4 := hSw.1.cell 4; have f5 := hSw.1.cell 5; have f6 := hSw.1.cell 6; have f7 := hSw.1.cell 7; have c0 := hSw.2.1.cell 0; have c1 := hSw.2.1.cell 1; have c2 := hSw.2.1.cell 2; have c3 := hSw.2.1.cell 3; have d0 := hSw.2.2.1.cell 0; have d1 := hSw.2.2.1.cell 1; have d2 := hSw.2.2.1.cell 2; have d3 := hSw.2.2.1.cell 3; have v0 := hSw.2.2.2.cell 0; have v1 := hSw.2.2.2.cell 1; have v2 := hSw.2.2.2.cell 2; have v3 := hSw.2.2.2.cell 3; have v4 := hSw.2.2.2.cell 4; have v5 := hSw.2.2.2.cell 5; have v6 := hSw.2.2.2.cell 6; have v7 := hSw.2.2.2.cell 7; go_simp; (try with_reducible rfl)
        (try simp only [Act.put, List.getElem_toArray, List.getElem_cons_zero, List.getElem_cons_succ, List.setIfInBounds_toArray, List.set_cons_zero, List.set_cons_succ])
        refine wpAnyF_take (i := 7) (v := ?_) (by kernel_rfl) (by kernel_rfl) rfl (by kernel_rfl) (by kernel_rfl) (by kernel_rfl) (fun _ _ _ h => h) (Or.inl ⟨by rfl, ?_⟩) (by assumption) ?_
        rotate_left
        · intro w' hSw; (try dsimp only at hSw); have f0 := hSw.1.cell 0; have f1 := hSw.1.cell 1; have f2 := hSw.1.cell 2; have f3 := hSw.1.cell 3; have f4 := hSw.1.cell 4; have f5 := hSw.1.cell 5; have f6 := hSw.1.cell 6; have f7 := hSw.1.cell 7; have c0 := hSw.2.1.cell 0; have c1 := hSw.2.1.cell 1; have c2 := hSw.2.1.cell 2; have c3 := hSw.2.1.cell 3; have d0 := hSw.2.2.1.cell 0; have d1 := hSw.2.2.1.cell 1; have d2 := hSw.2.2.1.cell 2; have d3 := hSw.2.2.1.cell 3; have v0 := hSw.2.2.2.cell 0; have v1 := hSw.2.2.2.cell 1; have v2 := hSw.2.2.2.cell 2; have v3 := hSw.2.2.2.cell 3; have v4 := hSw.2.2.2.cell 4; have v5 := hSw.2.2.2.cell 5; have v6 := hSw.2.2.2.cell 6; have v7 := hSw.2.2.2.cell 7; go_simp; (try with_reducible rfl)
        (try simp only [Act.put, List.getElem_toArray, List.getElem_cons_zero, List.getElem_cons_succ, List.setIfInBounds_toArray, List.set_cons_zero, List.set_cons_succ])
        refine wpAnyF_take (i := 8) (v := ?_) (by kernel_rfl) (by kernel_rfl) rfl (by kernel_rfl) (by kernel_rfl) (by kernel_rfl) (fun _ _ _ h => h) (Or.inl ⟨by rfl, ?_⟩) (by assumption) ?_
        rotate_left
        · intro w' hSw; (try dsimp only at hSw); have f0 := hSw.1.cell 0; have f1 := hSw.1.cell 1; have f2 := hSw.1.cell 2; have f3 := hSw.1.cell 3; have f4 := hSw.1.cell 4; have f5 := hSw.1.cell 5; have f6 := hSw.1.cell 6; have f7 := hSw.1.cell 7; have c0 := hSw.2.1.cell 0; have c1 := hSw.2.1.cell 1; have c2 := hSw.2.1.cell 2; have c3 := hSw.2.1.cell 3; have d0 := hSw.2.2.1.cell 0; have d1 := hSw.2.2.1.cell 1; have d2 := hSw.2.2.1.cell 2; have d3 := hSw.2.2.1.cell 3; have v0 := hSw.2.2.2.cell 0; have v1 := hSw.2.2.2.cell 1; have v2 := hSw.2.2.2.cell 2; have v3 := hSw.2.2.2.cell 3; have v4 := hSw.2.2.2.cell 4; have v5 := hSw.2.2.2.cell 5; have v6 := hSw.2.2.2.cell 6; have v7 := hSw.2.2.2.cell 7; go_simp; (try with_reducible rfl)
        (try simp only [Act.put, List.getElem_toArray, List.getElem_cons_zero, List.getElem_cons_succ, List.setIfInBounds_toArray, List.set_cons_zero, List.set_cons_succ])
        refine wpAnyF_ready (rs := [9]) (by kernel_rfl) (by simp) ?_
        refine AllReadyF.cons rfl (fun KK hKK => ?_) AllReadyF.nil
        go_simp
        ((with_reducible refine (HMK.out _).mono ?_); rintro e' w4 ⟨rfl, rfl⟩; have hSS := hHeld)
        (try go_simp)
        refine hKK.out _ _ hSS (fun hHeld => ?_)
        clear hKK KK
        (try simp only [Act.put, List.getElem_toArray, List.getElem_cons_zero, List.getElem_cons_succ, List.setIfInBounds_toArray, List.set_cons_zero, List.set_cons_succ])
        refine wpAnyF_ready (rs := [10]) (by kernel_rfl) (by simp) ?_
        refine AllReadyF.last (by kernel_rfl) rfl (fun KK hKK => ?_) AllReadyF.nil
        have S4 := hi hHeld
        go_simp
        refine hKK.out _ _ ?_
        clear hKK KK
        (try simp only [Act.put, List.getElem_toArray, List.getElem_cons_zero, List.getElem_cons_succ, List.setIfInBounds_toArray, List.set_cons_zero, List.set_cons_succ])
        refine wpAnyF_done (by kernel_rfl) ?_ _
        refine NoPanic.normal ?_
        have B4 := hi (Below.drewN (m := 1) B3.out)
        have f0 := S4.out.1.cell 0; have f1 := S4.out.1.cell 1; have f2 := S4.out.1.cell 2; have f3 := S4.out.1.cell 3; have f4 := S4.out.1.cell 4; have f5 := S4.out.1.cell 5; have f6 := S4.out.1.cell 6; have f7 := S4.out.1.cell 7
        go_wp2_with (first
          | (go_at_call 28; ((with_reducible refine (HRU.out _).mono ?_); rintro e w5 ⟨rfl, hb⟩; have S5 := hi (show CB w5 w.heap.size 29 #[.int .i64 m, .int .i64 p0, .int .i64 p1, .bool o0, .bool o1, .bool sp, .int .u32 (wd q 0), .int .u32 (wd q 1)] ∧ CB w5 (w.heap.size + 1) 39 #[.int .i64 ci, .int .i64 (8 * (k : Int)), .int .i64 g, .bool cis] ∧ CB w5 (w.heap.size + 1 + 1) 39 #[.int .i64 di, .int .i64 dp, .int .i64 dg, .bool dis] ∧ CB w5 w1.heap.size 29 #[.int .i64 m, .int .i64 p0, .int .i64 p1, .bool o0, .bool o1, .bool sp, .int .u32 (wd r 0), .int .u32 (wd r 1)] from ⟨S4.out.1.below hb, S4.out.2.1.below hb, S4.out.2.2.1.below hb, S4.out.2.2.2.below hb⟩); have B5 := hi (B4.out.trans (hb.mono B4.out.size)); have f0 := S5.out.1.cell 0; have f1 := S5.out.1.cell 1; have f2 := S5.out.1.cell 2; have f3 := S5.out.1.cell 3; have f4 := S5.out.1.cell 4; have f5 := S5.out.1.cell 5; have f6 := S5.out.1.cell 6; have f7 := S5.out.1.cell 7; have c0 := S5.out.2.1.cell 0; have c1 := S5.out.2.1.cell 1; have c2 := S5.out.2.1.cell 2; have c3 := S5.out.2.1.cell 3; have d0 := S5.out.2.2.1.cell 0; have d1 := S5.out.2.2.1.cell 1; have d2 := S5.out.2.2.1.cell 2; have d3 := S5.out.2.2.1.cell 3; have df := S5.out.2.2.1.frozen; clear hb)))
        refine wp_region_noPanic ?_
        refine wp_region_last_drew (S := (fun W' => CB W' w.heap.size 29 #[.int .i64 m, .int .i64 p0, .int .i64 p1, .bool o0, .bool o1, .bool sp, .int .u32 (wd q 0), .int .u32 (wd q 1)] ∧ CB W' (w.heap.size + 1) 39 #[.int .i64 ci, .int .i64 (8 * (k : Int)), .int .i64 g, .bool cis] ∧ (∃ v9, CB W' (w.heap.size + 1 + 1) 39 #[.int .i64 di, .int .i64 dp, v9, .bool dis]) ∧ CB W' w1.heap.size 29 #[.int .i64 m, .int .i64 p0, .int .i64 p1, .bool o0, .bool o1, .bool sp, .int .u32 (wd r 0), .int .u32 (wd r 1)])) [10, 11] (by kernel_rfl) ⟨S5.out.1.drew, S5.out.2.1.drew, ⟨_, S5.out.2.2.1.drew⟩, S5.out.2.2.2.drew⟩ (fun hHeld => ?_)
        (try simp only [Array.replicate_succ, Array.replicate_zero, List.push_toArray, List.nil_append, List.cons_append])
        refine wpAnyF_take (i := 0) (v := ?_) (by kernel_rfl) (by kernel_rfl) rfl (by kernel_rfl) (by kernel_rfl) (by kernel_rfl) (fun _ _ _ h => h) (Or.inl ⟨by rfl, ?_⟩) (by assumption) ?_
        rotate_left
        · intro w' hSw; (try dsimp only at hSw); have f0 := hSw.1.cell 0; have f1 := hSw.1.cell 1; have f2 := hSw.1.cell 2; have f3 := hSw.1.cell 3; have f4 := hSw.1.cell 4; have f5 := hSw.1.cell 5; have f6 := hSw.1.cell 6; have f7 := hSw.1.cell 7; have c0 := hSw.2.1.cell 0; have c1 := hSw.2.1.cell 1; have c2 := hSw.2.1.cell 2; have c3 := hSw.2.1.cell 3; obtain ⟨v9, hD9⟩ := hSw.2.2.1; have d0 := hD9.cell 0; have d1 := hD9.cell 1; have d2 := hD9.cell 2; have d3 := hD9.cell 3; go_simp; (try with_reducible rfl)
        (try simp only [Act.put, List.getElem_toArray, List.getElem_cons_zero, List.setIfInBounds_toArray, List.set_cons_zero, List.set_cons_succ])
        refine wpAnyF_take (i := 1) (v := ?_) (by kernel_rfl) (by kernel_rfl) rfl (by kernel_rfl) (by kernel_rfl) (by kernel_rfl) (fun _ _ _ h => h) (Or.inl ⟨by rfl, ?_⟩) (by assumption) ?_
        rotate_left
        · intro w' hSw; (try dsimp only at hSw); have f0 := hSw.1.cell 0; have f1 := hSw.1.cell 1; have f2 := hSw.1.cell 2; have f3 := hSw.1.cell 3; have f4 := hSw.1.cell 4; have f5 := hSw.1.cell 5; have f6 := hSw.1.cell 6; have f7 := hSw.1.cell 7; have c0 := hSw.2.1.cell 0; have c1 := hSw.2.1.cell 1; have c2 := hSw.2.1.cell 2; have c3 := hSw.2.1.cell 3; obtain ⟨v9, hD9⟩ := hSw.2.2.1; have d0 := hD9.cell 0; have d1 := hD9.cell 1; have d2 := hD9.cell 2; have d3 := hD9.cell 3; go_simp; (try with_reducible rfl)
        (try simp only [Act.put, List.getElem_toArray, List.getElem_cons_zero, List.getElem_cons_succ, List.setIfInBounds_toArray, List.set_cons_zero, List.set_cons_succ])
        refine wpAnyF_take (i := 2) (v := ?_) (by kernel_rfl) (by kernel_rfl) rfl (by kernel_rfl) (by kernel_rfl) (by kernel_rfl) (fun _ _ _ h => h) (Or.inl ⟨by rfl, ?_⟩) (by assumption) ?_
        rotate_left
        · intro w' hSw; (try dsimp only at hSw); have f0 := hSw.1.cell 0; have f1 := hSw.1.cell 1; have f2 := hSw.1.cell 2; have f3 := hSw.1.cell 3; have f4 := hSw.1.cell 4; have f5 := hSw.1.cell 5; have f6 := hSw.1.cell 6; have f7 := hSw.1.cell 7; have c0 := hSw.2.1.cell 0; have c1 := hSw.2.1.cell 1; have c2 := hSw.2.1.cell 2; have c3 := hSw.2.1.cell 3; obtain ⟨v9, hD9⟩ := hSw.2.2.1; have d0 := hD9.cell 0; have d1 := hD9.cell 1; have d2 := hD9.cell 2; have d3 := hD9.cell 3; go_simp; (try with_reducible rfl)
        (try simp only [Act.put, List.getElem_toArray, List.getElem_cons_zero, List.getElem_cons_succ, List.setIfInBounds_toArray, List.set_cons_zero, List.set_cons_succ])
        refine wpAnyF_take (i := 3) (v := ?_) (by kernel_rfl) (by kernel_rfl) rfl (by kernel_rfl) (by kernel_rfl) (by kernel_rfl) (fun _ _ _ h => h) (Or.inl ⟨by rfl, ?_⟩) (by assumption) ?_
        rotate_left
        · intro w' hSw; (try dsimp only at hSw); have f0 := hSw.1.cell 0; have f1 := hSw.1.cell 1; have f2 := hSw.1.cell 2; have f3 := hSw.1.cell 3; have f4 := hSw.1.cell 4; have f5 := hSw.1.cell 5; have f6 := hSw.1.cell 6; have f7 := hSw.1.cell 7; have c0 := hSw.2.1.cell 0; have c1 := hSw.2.1.cell 1; have c2 := hSw.2.1.cell 2; have c3 := hSw.2.1.cell 3; obtain ⟨v9, hD9⟩ := hSw.2.2.1; have d0 := hD9.cell 0; have d1 := hD9.cell 1; have d2 := hD9.cell 2; have d3 := hD9.cell 3; go_simp; (try with_reducible rfl)
        (try simp only [Act.put, List.getElem_toArray, List.getElem_cons_zero, List.getElem_cons_succ, List.setIfInBounds_toArray, List.set_cons_zero, List.set_cons_succ])
        refine wpAnyF_take (i := 4) (v := ?_) (by kernel_rfl) (by kernel_rfl) rfl (by kernel_rfl) (by kernel_rfl) (by kernel_rfl) (fun _ _ _ h => h) (Or.inl ⟨by rfl, ?_⟩) (by assumption) ?_
        rotate_left
        · intro w' hSw; (try dsimp only at hSw); have f0 := hSw.1.cell 0; have f1 := hSw.1.cell 1; have f2 := hSw.1.cell 2; have f3 := hSw.1.cell 3; have f4 := hSw.1.cell 4; have f5 := hSw.1.cell 5; have f6 := hSw.1.cell 6; have f7 := hSw.1.cell 7; have c0 := hSw.2.1.cell 0; have c1 := hSw.2.1.cell 1; have c2 := hSw.2.1.cell 2; have c3 := hSw.2.1.cell 3; obtain ⟨v9, hD9⟩ := hSw.2.2.1; have d0 := hD9.cell 0; have d1 := hD9.cell 1; have d2 := hD9.cell 2; have d3 := hD9.cell 3; go_simp; (try with_reducible rfl)
        (try simp only [Act.put, List.getElem_toArray, List.getElem_cons_zero, List.getElem_cons_succ, List.setIfInBounds_toArray, List.set_cons_zero, List.set_cons_succ])
        refine wpAnyF_take (i := 5) (v := ?_) (by kernel_rfl) (by kernel_rfl) rfl (by kernel_rfl) (by kernel_rfl) (by kernel_rfl) (fun _ _ _ h => h) (Or.inl ⟨by rfl, ?_⟩) (by assumption) ?_
        rotate_left
        · intro w' hSw; (try dsimp only at hSw); have f0 := hSw.1.cell 0; have f1 := hSw.1.cell 1; have f2 := hSw.1.cell 2; have f3 := hSw.1.cell 3; have f4 := hSw.1.cell 4; have f5 := hSw.1.cell 5; have f6 := hSw.1.cell 6; have f7 := hSw.1.cell 7; have c0 := hSw.2.1.cell 0; have c1 := hSw.2.1.cell 1; have c2 := hSw.2.1.cell 2; have c3 := hSw.2.1.cell 3; obtain ⟨v9, hD9⟩ := hSw.2.2.1; have d0 := hD9.cell 0; have d1 := hD9.cell 1; have d2 := hD9.cell 2; have d3 := hD9.cell 3; go_simp; (try with_reducible rfl)
        (try simp only [Act.put, List.getElem_toArray, List.getElem_cons_zero, List.getElem_cons_succ, List.setIfInBounds_toArray, List.set_cons_zero, List.set_cons_succ])
        refine wpAnyF_take (i := 6) (v := ?_) (by kernel_rfl) (by kernel_rfl) rfl (by kernel_rfl) (by kernel_rfl) (by kernel_rfl) (fun _ _ _ h => h) (Or.inl ⟨by rfl, ?_⟩) (by assumption) ?_
        rotate_left
        · intro w' hSw; (try dsimp only at hSw); have f0 := hSw.1.cell 0; have f1 := hSw.1.cell 1; have f2 := hSw.1.cell 2; have f3 := hSw.1.cell 3; have f4 := hSw.1.cell 4; have f5 := hSw.1.cell 5; have f6 := hSw.1.cell 6; have f7 := hSw.1.cell 7; have c0 := hSw.2.1.cell 0; have c1 := hSw.2.1.cell 1; have c2 := hSw.2.1.cell 2; have c3 := hSw.2.1.cell 3; obtain ⟨v9, hD9⟩ := hSw.2.2.1; have d0 := hD9.cell 0; have d1 := hD9.cell 1; have d2 := hD9.cell 2; have d3 := hD9.cell 3; go_simp; (try with_reducible rfl)
        (try simp only [Act.put, List.getElem_toArray, List.getElem_cons_zero, List.getElem_cons_succ, List.setIfInBounds_toArray, List.set_cons_zero, List.set_cons_succ])
        refine wpAnyF_take (i := 7) (v := ?_) (by kernel_rfl) (by kernel_rfl) rfl (by kernel_rfl) (by kernel_rfl) (by kernel_rfl) (fun _ _ _ h => h) (Or.inl ⟨by rfl, ?_⟩) (by assumption) ?_
        rotate_left
        · intro w' hSw; (try dsimp only at hSw); have f0 := hSw.1.cell 0; have f1 := hSw.1.cell 1; have f2 := hSw.1.cell 2; have f3 := hSw.1.cell 3; have f4 := hSw.1.cell 4; have f5 := hSw.1.cell 5; have f6 := hSw.1.cell 6; have f7 := hSw.1.cell 7; have c0 := hSw.2.1.cell 0; have c1 := hSw.2.1.cell 1; have c2 := hSw.2.1.cell 2; have c3 := hSw.2.1.cell 3; obtain ⟨v9, hD9⟩ := hSw.2.2.1; have d0 := hD9.cell 0; have d1 := hD9.cell 1; have d2 := hD9.cell 2; have d3 := hD9.cell 3; go_simp; (try with_reducible rfl)
        (try simp only [Act.put, List.getElem_toArray, List.getElem_cons_zero, List.getElem_cons_succ, List.setIfInBounds_toArray, List.set_cons_zero, List.set_cons_succ])
        refine wpAnyF_take (i := 8) (v := ?_) (by kernel_rfl) (by kernel_rfl) rfl (by kernel_rfl) (by kernel_rfl) (by kernel_rfl) (fun _ _ _ h => h) (Or.inl ⟨by rfl, ?_⟩) (by assumption) ?_
        rotate_left
        · intro w' hSw; (try dsimp only at hSw); have f0 := hSw.1.cell 0; have f1 := hSw.1.cell 1; have f2 := hSw.1.cell 2; have f3 := hSw.1.cell 3; have f4 := hSw.1.cell 4; have f5 := hSw.1.cell 5; have f6 := hSw.1.cell 6; have f7 := hSw.1.cell 7; have c0 := hSw.2.1.cell 0; have c1 := hSw.2.1.cell 1; have c2 := hSw.2.1.cell 2; have c3 := hSw.2.1.cell 3; obtain ⟨v9, hD9⟩ := hSw.2.2.1; have d0 := hD9.cell 0; have d1 := hD9.cell 1; have d2 := hD9.cell 2; have d3 := hD9.cell 3; go_simp; (try with_reducible rfl)
        (try simp only [Act.put, List.getElem_toArray, List.getElem_cons_zero, List.getElem_cons_succ, List.setIfInBounds_toArray, List.set_cons_zero, List.set_cons_succ])
        refine wpAnyF_ready (rs := [9]) (by kernel_rfl) (by simp) ?_
        refine AllReadyF.cons rfl (fun KK hKK => ?_) AllReadyF.nil
        go_simp
        have S6 := hi S5.out
        obtain ⟨v9, hD9⟩ := hHeld.2.2.1
        have df := hD9.frozen
        go_simp
        have hS9 := And.intro (hHeld.1.other (w.heap.size + 1 + 1) 2 (.int .i64 g) (by omega)) (And.intro (hHeld.2.1.other (w.heap.size + 1 + 1) 2 (.int .i64 g) (by omega)) (And.intro (⟨_, hD9.set 2 (.int .i64 g)⟩ : ∃ v9, CB (w5.drew.setCell ⟨w.heap.size + 1 + 1, 2, none⟩ (.int .i64 g)) (w.heap.size + 1 + 1) 39 #[.int .i64 di, .int .i64 dp, v9, .bool dis]) (hHeld.2.2.2.other (w.heap.size + 1 + 1) 2 (.int .i64 g) (by have := LT.out; omega))))
        refine hKK.out _ _ hS9 (fun hHeld => ?_)
        clear hKK KK
        (try simp only [Act.put, List.getElem_toArray, List.getElem_cons_zero, List.getElem_cons_succ, List.setIfInBounds_toArray, List.set_cons_zero, List.set_cons_succ])
        refine wpAnyF_ready (rs := [10]) (by kernel_rfl) (by simp) ?_
        refine AllReadyF.last (by kernel_rfl) rfl (fun KK hKK => ?_) AllReadyF.nil
        go_simp
        refine hKK.out _ _ ?_
        clear hKK KK
        (try simp only [Act.put, List.getElem_toArray, List.getElem_cons_zero, List.getElem_cons_succ, List.setIfInBounds_toArray, List.set_cons_zero, List.set_cons_succ])
        refine wpAnyF_ready (rs := [11]) (by kernel_rfl) (by simp) ?_
        refine AllReadyF.last (by kernel_rfl) rfl (fun KK hKK => ?_) AllReadyF.nil
        have d1 := (S6.out.2.2.1.drew.set 2 (.int .i64 g)).cell 1
        have df := (S6.out.2.2.1.drew.set 2 (.int .i64 g)).frozen
        go_simp
        refine hKK.out _ _ ?_
        clear hKK KK
        (try simp only [Act.put, List.getElem_toArray, List.getElem_cons_zero, List.getElem_cons_succ, List.setIfInBounds_toArray, List.set_cons_zero, List.set_cons_succ])
        refine wpAnyF_done (by kernel_rfl) ?_ _
        refine NoPanic.normal ?_
        have h5 := S5.out
        have S7 := hi (show ∃ X, ((w5.setCell ⟨w.heap.size + 1 + 1, 2, none⟩ (.int .i64 g)).setCell ⟨w.heap.size + 1 + 1, 1, none⟩ (.int .i64 s)).drew = X ∧ (CB X w.heap.size 29 #[.int .i64 m, .int .i64 p0, .int .i64 p1, .bool o0, .bool o1, .bool sp, .int .u32 (wd q 0), .int .u32 (wd q 1)] ∧ CB X (w.heap.size + 1) 39 #[.int .i64 ci, .int .i64 (8 * (k : Int)), .int .i64 g, .bool cis] ∧ CB X (w.heap.size + 1 + 1) 39 #[.int .i64 di, .int .i64 s, .int .i64 g, .bool dis] ∧ CB X w1.heap.size 29 #[.int .i64 m, .int .i64 p0, .int .i64 p1, .bool o0, .bool o1, .bool sp, .int .u32 (wd r 0), .int .u32 (wd r 1)]) ∧ Below w.heap.size w X from ⟨_, rfl, ⟨((h5.1.other (w.heap.size + 1 + 1) 2 (.int .i64 g) (by omega)).other (w.heap.size + 1 + 1) 1 (.int .i64 s) (by omega)).drew, ((h5.2.1.other (w.heap.size + 1 + 1) 2 (.int .i64 g) (by omega)).other (w.heap.size + 1 + 1) 1 (.int .i64 s) (by omega)).drew, by have hdd := ((h5.2.2.1.set 2 (.int .i64 g)).set 1 (.int .i64 s)).drew; simpa using hdd, ((h5.2.2.2.other (w.heap.size + 1 + 1) 2 (.int .i64 g) (by have := LT.out; omega)).other (w.heap.size + 1 + 1) 1 (.int .i64 s) (by have := LT.out; omega)).drew⟩, Below.drewN (m := 1) (below_set (below_set B5.out (show w.heap.size ≤ w.heap.size + 1 + 1 by omega) _) (show w.heap.size ≤ w.heap.size + 1 + 1 by omega) _)⟩)
        obtain ⟨X, hX, hS7, hB7⟩ := S7.out
        rw [hX]
        have S8 := hi hS7
        have B8 := hi hB7
        have f0 := S8.out.1.cell 0
        have f1 := S8.out.1.cell 1
        have f2 := S8.out.1.cell 2
        have f3 := S8.out.1.cell 3
        have f4 := S8.out.1.cell 4
        have f5 := S8.out.1.cell 5
        have f6 := S8.out.1.cell 6
        have f7 := S8.out.1.cell 7
        have c0 := S8.out.2.1.cell 0
        have c1 := S8.out.2.1.cell 1
        have c2 := S8.out.2.1.cell 2
        have c3 := S8.out.2.1.cell 3
        have d0 := S8.out.2.2.1.cell 0
        have d1 := S8.out.2.2.1.cell 1
        have d2 := S8.out.2.2.1.cell 2
        have d3 := S8.out.2.2.1.cell 3
        clear h5 hX hS7 hB7 S7 S6 S5 S4 S3 hS9 F2 V2 C2 D2 B2 B3 B4 B5
        go_wp2_with (first
          | (go_at_call 15; ((with_reducible refine (HM1.out _).mono ?_); rintro e w8 ⟨rfl, hb⟩; have S9 := hi (show CB w8 w.heap.size 29 #[.int .i64 m, .int .i64 p0, .int .i64 p1, .bool o0, .bool o1, .bool sp, .int .u32 (wd q 0), .int .u32 (wd q 1)] ∧ CB w8 (w.heap.size + 1) 39 #[.int .i64 ci, .int .i64 (8 * (k : Int)), .int .i64 g, .bool cis] ∧ CB w8 (w.heap.size + 1 + 1) 39 #[.int .i64 di, .int .i64 s, .int .i64 g, .bool dis] ∧ CB w8 w1.heap.size 29 #[.int .i64 m, .int .i64 p0, .int .i64 p1, .bool o0, .bool o1, .bool sp, .int .u32 (wd r 0), .int .u32 (wd r 1)] from ⟨S8.out.1.below hb, S8.out.2.1.below hb, S8.out.2.2.1.below hb, S8.out.2.2.2.below hb⟩); have B9 := hi (B8.out.trans (hb.mono B8.out.size)); have f0 := S9.out.1.cell 0; have f1 := S9.out.1.cell 1; have f2 := S9.out.1.cell 2; have f3 := S9.out.1.cell 3; have f4 := S9.out.1.cell 4; have f5 := S9.out.1.cell 5; have f6 := S9.out.1.cell 6; have f7 := S9.out.1.cell 7; have c0 := S9.out.2.1.cell 0; have c1 := S9.out.2.1.cell 1; have c2 := S9.out.2.1.cell 2; have c3 := S9.out.2.1.cell 3; have d0 := S9.out.2.2.1.cell 0; have d1 := S9.out.2.2.1.cell 1; have d2 := S9.out.2.2.1.cell 2; have d3 := S9.out.2.2.1.cell 3; clear hb))
          | (go_at_call 15; ((with_reducible refine (HM2.out _).mono ?_); rintro e w9 ⟨rfl, hb⟩; have S10 := hi (show CB w9 w.heap.size 29 #[.int .i64 m, .int .i64 p0, .int .i64 p1, .bool o0, .bool o1, .bool sp, .int .u32 (wd q 0), .int .u32 (wd q 1)] ∧ CB w9 (w.heap.size + 1) 39 #[.int .i64 ci, .int .i64 (8 * (k : Int)), .int .i64 g, .bool cis] ∧ CB w9 (w.heap.size + 1 + 1) 39 #[.int .i64 di, .int .i64 s, .int .i64 g, .bool dis] ∧ CB w9 w1.heap.size 29 #[.int .i64 m, .int .i64 p0, .int .i64 p1, .bool o0, .bool o1, .bool sp, .int .u32 (wd r 0), .int .u32 (wd r 1)] from ⟨S9.out.1.below hb, S9.out.2.1.below hb, S9.out.2.2.1.below hb, S9.out.2.2.2.below hb⟩); have B10 := hi (B9.out.trans (hb.mono B9.out.size)); have f0 := S10.out.1.cell 0; have f1 := S10.out.1.cell 1; have f2 := S10.out.1.cell 2; have f3 := S10.out.1.cell 3; have f4 := S10.out.1.cell 4; have f5 := S10.out.1.cell 5; have f6 := S10.out.1.cell 6; have f7 := S10.out.1.cell 7; have c0 := S10.out.2.1.cell 0; have c1 := S10.out.2.1.cell 1; have c2 := S10.out.2.1.cell 2; have c3 := S10.out.2.1.cell 3; have d0 := S10.out.2.2.1.cell 0; have d1 := S10.out.2.2.1.cell 1; have d2 := S10.out.2.2.1.cell 2; have d3 := S10.out.2.2.1.cell 3; clear hb)))
        go_ret
        exact ⟨rfl, B10.out⟩
    · by_cases hgg : (gO g : Int) = g
      · have hz : bits .and .i64 g 1 = 1 := by rw [i64_and1, ← gO_int, hG]; rfl
        have HMK := hi (fun W => show Calls Try.prog 27 #[.int .i64 1, .int .i64 x.p1] W fun e w' => e = .returned (.int .i64 (levV x g)) ∧ W = w' from (mask_any 1 x.p1 W).mono (fun e w' z => ⟨by rw [z.1]; unfold levV Fc.pt; rw [hG]; rfl, z.2⟩))
        obtain ⟨M, hM2⟩ : ∃ M, levV x g = M := ⟨_, rfl⟩
        rw [hM2] at HMK hl2
        have HM1 := hi (fun W => (may_any { x with r := put x.r (2 * L + gO g) true } ⟨ci, (8 * (k : Int)), g, cis⟩ W).mono (fun e' w' (z : e' = .returned (.bool _) ∧ Below W.heap.size W w') => show e' = .returned (.bool false) ∧ Below W.heap.size W w' from ⟨by rw [z.1, show (8 * (k : Int)) = ((8 * k + 0 : Nat) : Int) by omega, hMay ci cis 0 (by decide)], z.2⟩))
        have HM2 := hi (fun W => (may_any { x with r := put x.r (2 * L + gO g) true } ⟨di, ((8 * k + (dp % 8).toNat : Nat) : Int), g, dis⟩ W).mono (fun e' w' (z : e' = .returned (.bool _) ∧ Below W.heap.size W w') => show e' = .returned (.bool false) ∧ Below W.heap.size W w' from ⟨by rw [z.1, hMay di dis _ (by omega)], z.2⟩))
        have HRU := hi (fun W => ifrun_any { x with r := put x.r (2 * L + gO g) true } W)
        rw [hRun] at HRU
        have HT := hi (fun b W (z : CB W b 29 x.cs) => take_any b x ⟨ci, 8 * (k : Int), g, cis⟩ g W z)
        rw [hTk] at HT
        have hor := or_low k hk2 dp
        obtain ⟨q, hq⟩ : ∃ q, put x.r (2 * L + gO g) true = q := ⟨_, rfl⟩
        rw [hq] at HM1 HM2 HRU HT hDr
        have hgG : g = 1 := by rw [← hgg, hG]; rfl
        have hDr2 : dropV ({ x with r := q } : Fc) 1 = (x, true) := by
         have h9 := hDr hgg
         rw [hgG] at h9
         exact h9
        have HDR := hi (fun b W (z : CB W b 29 ({ x with r := q } : Fc).cs) => drop_if b { x with r := q } 1 W z)
        rw [hDr2] at HDR
        clear hDr2 hgG
        rw [hG] at HRU
        obtain ⟨m, p0, p1, o0, o1, sp, r⟩ := x
        dsimp only at HT HM1 HM2 HRU HMK HDR
        obtain ⟨s, hs⟩ : ∃ s : Int, ((8 * k + (dp % 8).toNat : Nat) : Int) = s := ⟨_, rfl⟩
        rw [hs] at hor HM2
        have hl8 : IntKind.i64.wrap ((l : Int) / 8) = L := by rw [IntKind.wrap_i64]; omega
        have hl8t : IntKind.i64.wrap ((l : Int).tdiv 8) = L := by rw [Int.tdiv_eq_ediv_of_nonneg (by omega)]; exact hl8
        have hL8 : IntKind.i64.wrap ((L : Int) * 8) = 8 * (L : Int) := by rw [IntKind.wrap_i64]; omega
        have wr1 : IntKind.i64.wrap 1 = 1 := by rw [IntKind.wrap_i64]; rfl
        have wr0 : IntKind.i64.wrap 0 = 0 := by rw [IntKind.wrap_i64]; rfl
        have dgg : (g != 1) = false := by rw [← hgg, hG]; rfl
        have dgg2 : (1 != g) = false := by rw [← hgg, hG]; rfl
        clear hMay hTk hRun hDr hq hs hM2 hL hl hl1 hG
        go_enter Try.func5, Try.ntmps5
        go_wp2_with (first
          | (go_at_call 9; ((with_reducible refine (awake_if _).mono ?_); rintro e w1 ⟨rfl, hb⟩; have hf := HF0.out.below hb; have f0 := hf.cell 0; have f1 := hf.cell 1; have f2 := hf.cell 2; have f3 := hf.cell 3; have f4 := hf.cell 4; have f5 := hf.cell 5; have f6 := hf.cell 6; have f7 := hf.cell 7; have hc := HC0.out.below hb; have c0 := hc.cell 0; have c1 := hc.cell 1; have c2 := hc.cell 2; have c3 := hc.cell 3; have cf := hc.frozen; have hcs : CB (w1.setCell ⟨w.heap.size + 1, 1, none⟩ (.int .i64 (8 * (k : Int)))) (w.heap.size + 1) 39 #[.int .i64 ci, .int .i64 (8 * (k : Int)), .int .i64 g, .bool cis] := (by simpa using hc.set 1 (.int .i64 (8 * (k : Int)))); have hfs := hf.other (w.heap.size + 1) 1 (.int .i64 (8 * (k : Int))) (by omega); have u0 := hfs.cell 0; have u1 := hfs.cell 1; have u2 := hfs.cell 2; have u3 := hfs.cell 3; have u4 := hfs.cell 4; have u5 := hfs.cell 5; have u6 := hfs.cell 6; have u7 := hfs.cell 7; have y0 := hcs.cell 0; have y1 := hcs.cell 1; have y2 := hcs.cell 2; have y3 := hcs.cell 3; have yf := hcs.frozen; have ha := bal (w1.setCell ⟨w.heap.size + 1, 1, none⟩ (.int .i64 (8 * (k : Int)))) (.cells #[.int .i64 m, .int .i64 p0, .int .i64 p1, .bool o0, .bool o1, .bool sp, .int .u32 (wd r 0), .int .u32 (wd r 1)] 29); have hcd := hcs.below ha; have z0 := hcd.cell 0; have z1 := hcd.cell 1; have z2 := hcd.cell 2; have z3 := hcd.cell 3; have zf := hcd.frozen; have W1 := hi (show ∃ W, (w1.setCell ⟨w.heap.size + 1, 1, none⟩ (.int .i64 (8 * (k : Int)))).alloc (.cells #[.int .i64 m, .int .i64 p0, .int .i64 p1, .bool o0, .bool o1, .bool sp, .int .u32 (wd r 0), .int .u32 (wd r 1)] 29) = W ∧ CB W w.heap.size 29 #[.int .i64 m, .int .i64 p0, .int .i64 p1, .bool o0, .bool o1, .bool sp, .int .u32 (wd r 0), .int .u32 (wd r 1)] ∧ CB W (w.heap.size + 1) 39 #[.int .i64 ci, .int .i64 (8 * (k : Int)), .int .i64 g, .bool cis] ∧ CB W (w.heap.size + 1 + 1) 39 #[.int .i64 di, .int .i64 dp, .int .i64 dg, .bool dis] ∧ CB W w1.heap.size 29 #[.int .i64 m, .int .i64 p0, .int .i64 p1, .bool o0, .bool o1, .bool sp, .int .u32 (wd r 0), .int .u32 (wd r 1)] ∧ Below w.heap.size w W ∧ w.heap.size + 1 + 1 < w1.heap.size from ⟨_, rfl, hfs.below ha, hcd, ((HD0.out.below hb).other _ _ _ (by omega)).below ha, by simpa using CB.new (w1.setCell ⟨w.heap.size + 1, 1, none⟩ (.int .i64 (8 * (k : Int)))) 29 #[.int .i64 m, .int .i64 p0, .int .i64 p1, .bool o0, .bool o1, .bool sp, .int .u32 (wd r 0), .int .u32 (wd r 1)], (below_set (HB0.out.trans (hb.mono HB0.out.size)) (show w.heap.size ≤ w.heap.size + 1 by omega) _).trans (ha.mono (by simp; have := (HD0.out.below hb).lt; omega)), (HD0.out.below hb).lt⟩); clear hb hf hc hcs hfs ha hcd)))
        obtain ⟨W, hW, hF, hC, hD, hV, hB, hL⟩ := W1.out
        rw [hW]
        have F2 := hi hF
        have C2 := hi hC
        have D2 := hi hD
        have V2 := hi hV
        have B2 := hi hB
        have LT := hi hL
        clear hW hF hC hD hV hB hL W1 f0 f1 f2 f3 f4 f5 f6 f7 c0 c1 c2 c3 cf u0 u1 u2 u3 u4 u5 u6 u7 y0 y1 y2 y3 yf z0 z1 z2 z3 zf HF0 HC0 HD0 HB0
        go_wp2_with (first
          | (go_at_call 26; ((with_reducible refine (HT.out _ _ F2.out).mono ?_); rintro e w3 ⟨rfl, hA⟩; have S3 := hi (show CB w3 w.heap.size 29 #[.int .i64 m, .int .i64 p0, .int .i64 p1, .bool o0, .bool o1, .bool sp, .int .u32 (wd q 0), .int .u32 (wd q 1)] ∧ CB w3 (w.heap.size + 1) 39 #[.int .i64 ci, .int .i64 (8 * (k : Int)), .int .i64 g, .bool cis] ∧ CB w3 (w.heap.size + 1 + 1) 39 #[.int .i64 di, .int .i64 dp, .int .i64 dg, .bool dis] ∧ CB w3 w1.heap.size 29 #[.int .i64 m, .int .i64 p0, .int .i64 p1, .bool o0, .bool o1, .bool sp, .int .u32 (wd r 0), .int .u32 (wd r 1)] from ⟨hA.bx, C2.out.keptB hA.kept (by omega), D2.out.keptB hA.kept (by omega), V2.out.keptB hA.kept (by have := LT.out; omega)⟩); have B3 := hi (B2.out.trans (hA.kept.toBelow B2.out.size (fun i z => by subst z; omega))); have f0 := S3.out.1.cell 0; have f1 := S3.out.1.cell 1; have f2 := S3.out.1.cell 2; have f3 := S3.out.1.cell 3; have f4 := S3.out.1.cell 4; have f5 := S3.out.1.cell 5; have f6 := S3.out.1.cell 6; have f7 := S3.out.1.cell 7; have c0 := S3.out.2.1.cell 0; have c1 := S3.out.2.1.cell 1; have c2 := S3.out.2.1.cell 2; have c3 := S3.out.2.1.cell 3; clear hA)))
        refine wp_region_noPanic ?_
        refine wp_region_last_drew (S := (fun W' => CB W' w.heap.size 29 #[.int .i64 m, .int .i64 p0, .int .i64 p1, .bool o0, .bool o1, .bool sp, .int .u32 (wd q 0), .int .u32 (wd q 1)] ∧ CB W' (w.heap.size + 1) 39 #[.int .i64 ci, .int .i64 (8 * (k : Int)), .int .i64 g, .bool cis] ∧ CB W' (w.heap.size + 1 + 1) 39 #[.int .i64 di, .int .i64 dp, .int .i64 dg, .bool dis] ∧ CB W' w1.heap.size 29 #[.int .i64 m, .int .i64 p0, .int .i64 p1, .bool o0, .bool o1, .bool sp, .int .u32 (wd r 0), .int .u32 (wd r 1)])) [10] (by kernel_rfl) ⟨S3.out.1.drew, S3.out.2.1.drew, S3.out.2.2.1.drew, S3.out.2.2.2.drew⟩ (fun hHeld => ?_)
        (try simp only [Array.replicate_succ, Array.replicate_zero, List.push_toArray, List.nil_append, List.cons_append])
        refine wpAnyF_take (i := 0) (v := ?_) (by kernel_rfl) (by kernel_rfl) rfl (by kernel_rfl) (by kernel_rfl) (by kernel_rfl) (fun _ _ _ h => h) (Or.inl ⟨by rfl, ?_⟩) (by assumption) ?_
        rotate_left
        · intro w' hSw; (try dsimp only at hSw); have f0 := hSw.1.cell 0; have f1 := hSw.1.cell 1; have f2 := hSw.1.cell 2; have f3 := hSw.1.cell 3; have f4 := hSw.1.cell 4; have f5 := hSw.1.cell 5; have f6 := hSw.1.cell 6; have f7 := hSw.1.cell 7; have c0 := hSw.2.1.cell 0; have c1 := hSw.2.1.cell 1; have c2 := hSw.2.1.cell 2; have c3 := hSw.2.1.cell 3; have d0 := hSw.2.2.1.cell 0; have d1 := hSw.2.2.1.cell 1; have d2 := hSw.2.2.1.cell 2; have d3 := hSw.2.2.1.cell 3; have v0 := hSw.2.2.2.cell 0; have v1 := hSw.2.2.2.cell 1; have v2 := hSw.2.2.2.cell 2; have v3 := hSw.2.2.2.cell 3; have v4 := hSw.2.2.2.cell 4; have v5 := hSw.2.2.2.cell 5; have v6 := hSw.2.2.2.cell 6; have v7 := hSw.2.2.2.cell 7; go_simp; (try with_reducible rfl)
        (try simp only [Act.put, List.getElem_toArray, List.getElem_cons_zero, List.setIfInBounds_toArray, List.set_cons_zero, List.set_cons_succ])
        refine wpAnyF_take (i := 1) (v := ?_) (by kernel_rfl) (by kernel_rfl) rfl (by kernel_rfl) (by kernel_rfl) (by kernel_rfl) (fun _ _ _ h => h) (Or.inl ⟨by rfl, ?_⟩) (by assumption) ?_
        rotate_left
        · intro w' hSw; (try dsimp only at hSw); have f0 := hSw.1.cell 0; have f1 := hSw.1.cell 1; have f2 := hSw.1.cell 2; have f3 := hSw.1.cell 3; have f4 := hSw.1.cell 4; have f5 := hSw.1.cell 5; have f6 := hSw.1.cell 6; have f7 := hSw.1.cell 7; have c0 := hSw.2.1.cell 0; have c1 := hSw.2.1.cell 1; have c2 := hSw.2.1.cell 2; have c3 := hSw.2.1.cell 3; have d0 := hSw.2.2.1.cell 0; have d1 := hSw.2.2.1.cell 1; have d2 := hSw.2.2.1.cell 2; have d3 := hSw.2.2.1.cell 3; have v0 := hSw.2.2.2.cell 0; have v1 := hSw.2.2.2.cell 1; have v2 := hSw.2.2.2.cell 2; have v3 := hSw.2.2.2.cell 3; have v4 := hSw.2.2.2.cell 4; have v5 := hSw.2.2.2.cell 5; have v6 := hSw.2.2.2.cell 6; have v7 := hSw.2.2.2.cell 7; go_simp; (try with_reducible rfl)
        (try simp only [Act.put, List.getElem_toArray, List.getElem_cons_zero, List.getElem_cons_succ, List.setIfInBounds_toArray, List.set_cons_zero, List.set_cons_succ])
        refine wpAnyF_take (i := 2) (v := ?_) (by kernel_rfl) (by kernel_rfl) rfl (by kernel_rfl) (by kernel_rfl) (by kernel_rfl) (fun _ _ _ h => h) (Or.inl ⟨by rfl, ?_⟩) (by assumption) ?_
        rotate_left
        · intro w' hSw; (try dsimp only at hSw); have f0 := hSw.1.cell 0; have f1 := hSw.1.cell 1; have f2 := hSw.1.cell 2; have f3 := hSw.1.cell 3; have f4 := hSw.1.cell 4; have f5 := hSw.1.cell 5; have f6 := hSw.1.cell 6; have f7 := hSw.1.cell 7; have c0 := hSw.2.1.cell 0; have c1 := hSw.2.1.cell 1; have c2 := hSw.2.1.cell 2; have c3 := hSw.2.1.cell 3; have d0 := hSw.2.2.1.cell 0; have d1 := hSw.2.2.1.cell 1; have d2 := hSw.2.2.1.cell 2; have d3 := hSw.2.2.1.cell 3; have v0 := hSw.2.2.2.cell 0; have v1 := hSw.2.2.2.cell 1; have v2 := hSw.2.2.2.cell 2; have v3 := hSw.2.2.2.cell 3; have v4 := hSw.2.2.2.cell 4; have v5 := hSw.2.2.2.cell 5; have v6 := hSw.2.2.2.cell 6; have v7 := hSw.2.2.2.cell 7; go_simp; (try with_reducible rfl)
        (try simp only [Act.put, List.getElem_toArray, List.getElem_cons_zero, List.getElem_cons_succ, List.setIfInBounds_toArray, List.set_cons_zero, List.set_cons_succ])
        refine wpAnyF_take (i := 3) (v := ?_) (by kernel_rfl) (by kernel_rfl) rfl (by kernel_rfl) (by kernel_rfl) (by kernel_rfl) (fun _ _ _ h => h) (Or.inl ⟨by rfl, ?_⟩) (by assumption) ?_
        rotate_left
        · intro w' hSw; (try dsimp only at hSw); have f0 := hSw.1.cell 0; have f1 := hSw.1.cell 1; have f2 := hSw.1.cell 2; have f3 := hSw.1.cell 3; have f4 := hSw.1.cell 4; have f5 := hSw.1.cell 5; have f6 := hSw.1.cell 6; have f7 := hSw.1.cell 7; have c0 := hSw.2.1.cell 0; have c1 := hSw.2.1.cell 1; have c2 := hSw.2.1.cell 2; have c3 := hSw.2.1.cell 3; have d0 := hSw.2.2.1.cell 0; have d1 := hSw.2.2.1.cell 1; have d2 := hSw.2.2.1.cell 2; have d3 := hSw.2.2.1.cell 3; have v0 := hSw.2.2.2.cell 0; have v1 := hSw.2.2.2.cell 1; have v2 := hSw.2.2.2.cell 2; have v3 := hSw.2.2.2.cell 3; have v4 := hSw.2.2.2.cell 4; have v5 := hSw.2.2.2.cell 5; have v6 := hSw.2.2.2.cell 6; have v7 := hSw.2.2.2.cell 7; go_simp; (try with_reducible rfl)
        (try simp only [Act.put, List.getElem_toArray, List.getElem_cons_zero, List.getElem_cons_succ, List.setIfInBounds_toArray, List.set_cons_zero, List.set_cons_succ])
        refine wpAnyF_take (i := 4) (v := ?_) (by kernel_rfl) (by kernel_rfl) rfl (by kernel_rfl) (by kernel_rfl) (by kernel_rfl) (fun _ _ _ h => h) (Or.inl ⟨by rfl, ?_⟩) (by assumption) ?_
        rotate_left
        · intro w' hSw; (try dsimp only at hSw); have f0 := hSw.1.cell 0; have f1 := hSw.1.cell 1; have f2 := hSw.1.cell 2; have f3 := hSw.1.cell 3; have f4 := hSw.1.cell 4; have f5 := hSw.1.cell 5; have f6 := hSw.1.cell 6; have f7 := hSw.1.cell 7; have c0 := hSw.2.1.cell 0; have c1 := hSw.2.1.cell 1; have c2 := hSw.2.1.cell 2; have c3 := hSw.2.1.cell 3; have d0 := hSw.2.2.1.cell 0; have d1 := hSw.2.2.1.cell 1; have d2 := hSw.2.2.1.cell 2; have d3 := hSw.2.2.1.cell 3; have v0 := hSw.2.2.2.cell 0; have v1 := hSw.2.2.2.cell 1; have v2 := hSw.2.2.2.cell 2; have v3 := hSw.2.2.2.cell 3; have v4 := hSw.2.2.2.cell 4; have v5 := hSw.2.2.2.cell 5; have v6 := hSw.2.2.2.cell 6; have v7 := hSw.2.2.2.cell 7; go_simp; (try with_reducible rfl)
        (try simp only [Act.put, List.getElem_toArray, List.getElem_cons_zero, List.getElem_cons_succ, List.setIfInBounds_toArray, List.set_cons_zero, List.set_cons_succ])
        refine wpAnyF_take (i := 5) (v := ?_) (by kernel_rfl) (by kernel_rfl) rfl (by kernel_rfl) (by kernel_rfl) (by kernel_rfl) (fun _ _ _ h => h) (Or.inl ⟨by rfl, ?_⟩) (by assumption) ?_
        rotate_left
        · intro w' hSw; (try dsimp only at hSw); have f0 := hSw.1.cell 0; have f1 := hSw.1.cell 1; have f2 := hSw.1.cell 2; have f3 := hSw.1.cell 3; have f4 := hSw.1.cell 4; have f5 := hSw.1.cell 5; have f6 := hSw.1.cell 6; have f7 := hSw.1.cell 7; have c0 := hSw.2.1.cell 0; have c1 := hSw.2.1.cell 1; have c2 := hSw.2.1.cell 2; have c3 := hSw.2.1.cell 3; have d0 := hSw.2.2.1.cell 0; have d1 := hSw.2.2.1.cell 1; have d2 := hSw.2.2.1.cell 2; have d3 := hSw.2.2.1.cell 3; have v0 := hSw.2.2.2.cell 0; have v1 := hSw.2.2.2.cell 1; have v2 := hSw.2.2.2.cell 2; have v3 := hSw.2.2.2.cell 3; have v4 := hSw.2.2.2.cell 4; have v5 := hSw.2.2.2.cell 5; have v6 := hSw.2.2.2.cell 6; have v7 := hSw.2.2.2.cell 7; go_simp; (try with_reducible rfl)
        (try simp only [Act.put, List.getElem_toArray, List.getElem_cons_zero, List.getElem_cons_succ, List.setIfInBounds_toArray, List.set_cons_zero, List.set_cons_succ])
        refine wpAnyF_take (i := 6) (v := ?_) (by kernel_rfl) (by kernel_rfl) rfl (by kernel_rfl) (by kernel_rfl) (by kernel_rfl) (fun _ _ _ h => h) (Or.inl ⟨by rfl, ?_⟩) (by assumption) ?_
        rotate_left
        · intro w' hSw; (try dsimp only at hSw); have f0 := hSw.1.cell 0; have f1 := hSw.1.cell 1; have f2 := hSw.1.cell 2; have f3 := hSw.1.cell 3; have f4 := hSw.1.cell 4; have f5 := hSw.1.cell 5; have f6 := hSw.1.cell 6; have f7 := hSw.1.cell 7; have c0 := hSw.2.1.cell 0; have c1 := hSw.2.1.cell 1; have c2 := hSw.2.1.cell 2; have c3 := hSw.2.1.cell 3; have d0 := hSw.2.2.1.cell 0; have d1 := hSw.2.2.1.cell 1; have d2 := hSw.2.2.1.cell 2; have d3 := hSw.2.2.1.cell 3; have v0 := hSw.2.2.2.cell 0; have v1 := hSw.2.2.2.cell 1; have v2 := hSw.2.2.2.cell 2; have v3 := hSw.2.2.2.cell 3; have v4 := hSw.2.2.2.cell 4; have v5 := hSw.2.2.2.cell 5; have v6 := hSw.2.2.2.cell 6; have v7 := hSw.2.2.2.cell 7; go_simp; (try with_reducible rfl)
        (try simp only [Act.put, List.getElem_toArray, List.getElem_cons_zero, List.getElem_cons_succ, List.setIfInBounds_toArray, List.set_cons_zero, List.set_cons_succ])
        refine wpAnyF_take (i := 7) (v := ?_) (by kernel_rfl) (by kernel_rfl) rfl (by kernel_rfl) (by kernel_rfl) (by kernel_rfl) (fun _ _ _ h => h) (Or.inl ⟨by rfl, ?_⟩) (by assumption) ?_
        rotate_left
        · intro w' hSw; (try dsimp only at hSw); have f0 := hSw.1.cell 0; have f1 := hSw.1.cell 1; have f2 := hSw.1.cell 2; have f3 := hSw.1.cell 3; have f4 := hSw.1.cell 4; have f5 := hSw.1.cell 5; have f6 := hSw.1.cell 6; have f7 := hSw.1.cell 7; have c0 := hSw.2.1.cell 0; have c1 := hSw.2.1.cell 1; have c2 := hSw.2.1.cell 2; have c3 := hSw.2.1.cell 3; have d0 := hSw.2.2.1.cell 0; have d1 := hSw.2.2.1.cell 1; have d2 := hSw.2.2.1.cell 2; have d3 := hSw.2.2.1.cell 3; have v0 := hSw.2.2.2.cell 0; have v1 := hSw.2.2.2.cell 1; have v2 := hSw.2.2.2.cell 2; have v3 := hSw.2.2.2.cell 3; have v4 := hSw.2.2.2.cell 4; have v5 := hSw.2.2.2.cell 5; have v6 := hSw.2.2.2.cell 6; have v7 := hSw.2.2.2.cell 7; go_simp; (try with_reducible rfl)
        (try simp only [Act.put, List.getElem_toArray, List.getElem_cons_zero, List.getElem_cons_succ, List.setIfInBounds_toArray, List.set_cons_zero, List.set_cons_succ])
        refine wpAnyF_take (i := 8) (v := ?_) (by kernel_rfl) (by kernel_rfl) rfl (by kernel_rfl) (by kernel_rfl) (by kernel_rfl) (fun _ _ _ h => h) (Or.inl ⟨by rfl, ?_⟩) (by assumption) ?_
        rotate_left
        · intro w' hSw; (try dsimp only at hSw); have f0 := hSw.1.cell 0; have f1 := hSw.1.cell 1; have f2 := hSw.1.cell 2; have f3 := hSw.1.cell 3; have f4 := hSw.1.cell 4; have f5 := hSw.1.cell 5; have f6 := hSw.1.cell 6; have f7 := hSw.1.cell 7; have c0 := hSw.2.1.cell 0; have c1 := hSw.2.1.cell 1; have c2 := hSw.2.1.cell 2; have c3 := hSw.2.1.cell 3; have d0 := hSw.2.2.1.cell 0; have d1 := hSw.2.2.1.cell 1; have d2 := hSw.2.2.1.cell 2; have d3 := hSw.2.2.1.cell 3; have v0 := hSw.2.2.2.cell 0; have v1 := hSw.2.2.2.cell 1; have v2 := hSw.2.2.2.cell 2; have v3 := hSw.2.2.2.cell 3; have v4 := hSw.2.2.2.cell 4; have v5 := hSw.2.2.2.cell 5; have v6 := hSw.2.2.2.cell 6; have v7 := hSw.2.2.2.cell 7; go_simp; (try with_reducible rfl)
        (try simp only [Act.put, List.getElem_toArray, List.getElem_cons_zero, List.getElem_cons_succ, List.setIfInBounds_toArray, List.set_cons_zero, List.set_cons_succ])
        refine wpAnyF_ready (rs := [9]) (by kernel_rfl) (by simp) ?_
        refine AllReadyF.cons rfl (fun KK hKK => ?_) AllReadyF.nil
        go_simp
        ((with_reducible refine (HMK.out _).mono ?_); rintro e' w4 ⟨rfl, rfl⟩; have hSS := hHeld)
        (try go_simp)
        refine hKK.out _ _ hSS (fun hHeld => ?_)
        clear hKK KK
        (try simp only [Act.put, List.getElem_toArray, List.getElem_cons_zero, List.getElem_cons_succ, List.setIfInBounds_toArray, List.set_cons_zero, List.set_cons_succ])
        refine wpAnyF_ready (rs := [10]) (by kernel_rfl) (by simp) ?_
        refine AllReadyF.last (by kernel_rfl) rfl (fun KK hKK => ?_) AllReadyF.nil
        have S4 := hi hHeld
        go_simp
        refine hKK.out _ _ ?_
        clear hKK KK
        (try simp only [Act.put, List.getElem_toArray, List.getElem_cons_zero, List.getElem_cons_succ, List.setIfInBounds_toArray, List.set_cons_zero, List.set_cons_succ])
        refine wpAnyF_done (by kernel_rfl) ?_ _
        refine NoPanic.normal ?_
        have B4 := hi (Below.drewN (m := 1) B3.out)
        have f0 := S4.out.1.cell 0; have f1 := S4.out.1.cell 1; have f2 := S4.out.1.cell 2; have f3 := S4.out.1.cell 3; have f4 := S4.out.1.cell 4; have f5 := S4.out.1.cell 5; have f6 := S4.out.1.cell 6; have f7 := S4.out.1.cell 7
        go_wp2_with (first
          | (go_at_call 28; ((with_reducible refine (HRU.out _).mono ?_); rintro e w5 ⟨rfl, hb⟩; have S5 := hi (show CB w5 w.heap.size 29 #[.int .i64 m, .int .i64 p0, .int .i64 p1, .bool o0, .bool o1, .bool sp, .int .u32 (wd q 0), .int .u32 (wd q 1)] ∧ CB w5 (w.heap.size + 1) 39 #[.int .i64 ci, .int .i64 (8 * (k : Int)), .int .i64 g, .bool cis] ∧ CB w5 (w.heap.size + 1 + 1) 39 #[.int .i64 di, .int .i64 dp, .int .i64 dg, .bool dis] ∧ CB w5 w1.heap.size 29 #[.int .i64 m, .int .i64 p0, .int .i64 p1, .bool o0, .bool o1, .bool sp, .int .u32 (wd r 0), .int .u32 (wd r 1)] from ⟨S4.out.1.below hb, S4.out.2.1.below hb, S4.out.2.2.1.below hb, S4.out.2.2.2.below hb⟩); have B5 := hi (B4.out.trans (hb.mono B4.out.size)); have f0 := S5.out.1.cell 0; have f1 := S5.out.1.cell 1; have f2 := S5.out.1.cell 2; have f3 := S5.out.1.cell 3; have f4 := S5.out.1.cell 4; have f5 := S5.out.1.cell 5; have f6 := S5.out.1.cell 6; have f7 := S5.out.1.cell 7; have c0 := S5.out.2.1.cell 0; have c1 := S5.out.2.1.cell 1; have c2 := S5.out.2.1.cell 2; have c3 := S5.out.2.1.cell 3; have d0 := S5.out.2.2.1.cell 0; have d1 := S5.out.2.2.1.cell 1; have d2 := S5.out.2.2.1.cell 2; have d3 := S5.out.2.2.1.cell 3; have df := S5.out.2.2.1.frozen; clear hb)))
        refine wp_region_noPanic ?_
        refine wp_region_last_drew (S := (fun W' => CB W' w.heap.size 29 #[.int .i64 m, .int .i64 p0, .int .i64 p1, .bool o0, .bool o1, .bool sp, .int .u32 (wd q 0), .int .u32 (wd q 1)] ∧ CB W' (w.heap.size + 1) 39 #[.int .i64 ci, .int .i64 (8 * (k : Int)), .int .i64 g, .bool cis] ∧ (∃ v9, CB W' (w.heap.size + 1 + 1) 39 #[.int .i64 di, .int .i64 dp, v9, .bool dis]) ∧ CB W' w1.heap.size 29 #[.int .i64 m, .int .i64 p0, .int .i64 p1, .bool o0, .bool o1, .bool sp, .int .u32 (wd r 0), .int .u32 (wd r 1)])) [10, 11] (by kernel_rfl) ⟨S5.out.1.drew, S5.out.2.1.drew, ⟨_, S5.out.2.2.1.drew⟩, S5.out.2.2.2.drew⟩ (fun hHeld => ?_)
        (try simp only [Array.replicate_succ, Array.replicate_zero, List.push_toArray, List.nil_append, List.cons_append])
        refine wpAnyF_take (i := 0) (v := ?_) (by kernel_rfl) (by kernel_rfl) rfl (by kernel_rfl) (by kernel_rfl) (by kernel_rfl) (fun _ _ _ h => h) (Or.inl ⟨by rfl, ?_⟩) (by assumption) ?_
        rotate_left
        · intro w' hSw; (try dsimp only at hSw); have f0 := hSw.1.cell 0; have f1 := hSw.1.cell 1; have f2 := hSw.1.cell 2; have f3 := hSw.1.cell 3; have f4 := hSw.1.cell 4; have f5 := hSw.1.cell 5; have f6 := hSw.1.cell 6; have f7 := hSw.1.cell 7; have c0 := hSw.2.1.cell 0; have c1 := hSw.2.1.cell 1; have c2 := hSw.2.1.cell 2; have c3 := hSw.2.1.cell 3; obtain ⟨v9, hD9⟩ := hSw.2.2.1; have d0 := hD9.cell 0; have d1 := hD9.cell 1; have d2 := hD9.cell 2; have d3 := hD9.cell 3; go_simp; (try with_reducible rfl)
        (try simp only [Act.put, List.getElem_toArray, List.getElem_cons_zero, List.setIfInBounds_toArray, List.set_cons_zero, List.set_cons_succ])
        refine wpAnyF_take (i := 1) (v := ?_) (by kernel_rfl) (by kernel_rfl) rfl (by kernel_rfl) (by kernel_rfl) (by kernel_rfl) (fun _ _ _ h => h) (Or.inl ⟨by rfl, ?_⟩) (by assumption) ?_
        rotate_left
        · intro w' hSw; (try dsimp only at hSw); have f0 := hSw.1.cell 0; have f1 := hSw.1.cell 1; have f2 := hSw.1.cell 2; have f3 := hSw.1.cell 3; have f4 := hSw.1.cell 4; have f5 := hSw.1.cell 5; have f6 := hSw.1.cell 6; have f7 := hSw.1.cell 7; have c0 := hSw.2.1.cell 0; have c1 := hSw.2.1.cell 1; have c2 := hSw.2.1.cell 2; have c3 := hSw.2.1.cell 3; obtain ⟨v9, hD9⟩ := hSw.2.2.1; have d0 := hD9.cell 0; have d1 := hD9.cell 1; have d2 := hD9.cell 2; have d3 := hD9.cell 3; go_simp; (try with_reducible rfl)
        (try simp only [Act.put, List.getElem_toArray, List.getElem_cons_zero, List.getElem_cons_succ, List.setIfInBounds_toArray, List.set_cons_zero, List.set_cons_succ])
        refine wpAnyF_take (i := 2) (v := ?_) (by kernel_rfl) (by kernel_rfl) rfl (by kernel_rfl) (by kernel_rfl) (by kernel_rfl) (fun _ _ _ h => h) (Or.inl ⟨by rfl, ?_⟩) (by assumption) ?_
        rotate_left
        · intro w' hSw; (try dsimp only at hSw); have f0 := hSw.1.cell 0; have f1 := hSw.1.cell 1; have f2 := hSw.1.cell 2; have f3 := hSw.1.cell 3; have f4 := hSw.1.cell 4; have f5 := hSw.1.cell 5; have f6 := hSw.1.cell 6; have f7 := hSw.1.cell 7; have c0 := hSw.2.1.cell 0; have c1 := hSw.2.1.cell 1; have c2 := hSw.2.1.cell 2; have c3 := hSw.2.1.cell 3; obtain ⟨v9, hD9⟩ := hSw.2.2.1; have d0 := hD9.cell 0; have d1 := hD9.cell 1; have d2 := hD9.cell 2; have d3 := hD9.cell 3; go_simp; (try with_reducible rfl)
        (try simp only [Act.put, List.getElem_toArray, List.getElem_cons_zero, List.getElem_cons_succ, List.setIfInBounds_toArray, List.set_cons_zero, List.set_cons_succ])
        refine wpAnyF_take (i := 3) (v := ?_) (by kernel_rfl) (by kernel_rfl) rfl (by kernel_rfl) (by kernel_rfl) (by kernel_rfl) (fun _ _ _ h => h) (Or.inl ⟨by rfl, ?_⟩) (by assumption) ?_
        rotate_left
        · intro w' hSw; (try dsimp only at hSw); have f0 := hSw.1.cell 0; have f1 := hSw.1.cell 1; have f2 := hSw.1.cell 2; have f3 := hSw.1.cell 3; have f4 := hSw.1.cell 4; have f5 := hSw.1.cell 5; have f6 := hSw.1.cell 6; have f7 := hSw.1.cell 7; have c0 := hSw.2.1.cell 0; have c1 := hSw.2.1.cell 1; have c2 := hSw.2.1.cell 2; have c3 := hSw.2.1.cell 3; obtain ⟨v9, hD9⟩ := hSw.2.2.1; have d0 := hD9.cell 0; have d1 := hD9.cell 1; have d2 := hD9.cell 2; have d3 := hD9.cell 3; go_simp; (try with_reducible rfl)
        (try simp only [Act.put, List.getElem_toArray, List.getElem_cons_zero, List.getElem_cons_succ, List.setIfInBounds_toArray, List.set_cons_zero, List.set_cons_succ])
        refine wpAnyF_take (i := 4) (v := ?_) (by kernel_rfl) (by kernel_rfl) rfl (by kernel_rfl) (by kernel_rfl) (by kernel_rfl) (fun _ _ _ h => h) (Or.inl ⟨by rfl, ?_⟩) (by assumption) ?_
        rotate_left
        · intro w' hSw; (try dsimp only at hSw); have f0 := hSw.1.cell 0; have f1 := hSw.1.cell 1; have f2 := hSw.1.cell 2; have f3 := hSw.1.cell 3; have f4 := hSw.1.cell 4; have f5 := hSw.1.cell 5; have f6 := hSw.1.cell 6; have f7 := hSw.1.cell 7; have c0 := hSw.2.1.cell 0; have c1 := hSw.2.1.cell 1; have c2 := hSw.2.1.cell 2; have c3 := hSw.2.1.cell 3; obtain ⟨v9, hD9⟩ := hSw.2.2.1; have d0 := hD9.cell 0; have d1 := hD9.cell 1; have d2 := hD9.cell 2; have d3 := hD9.cell 3; go_simp; (try with_reducible rfl)
        (try simp only [Act.put, List.getElem_toArray, List.getElem_cons_zero, List.getElem_cons_succ, List.setIfInBounds_toArray, List.set_cons_zero, List.set_cons_succ])
        refine wpAnyF_take (i := 5) (v := ?_) (by kernel_rfl) (by kernel_rfl) rfl (by kernel_rfl) (by kernel_rfl) (by kernel_rfl) (fun _ _ _ h => h) (Or.inl ⟨by rfl, ?_⟩) (by assumption) ?_
        rotate_left
        · intro w' hSw; (try dsimp only at hSw); have f0 := hSw.1.cell 0; have f1 := hSw.1.cell 1; have f2 := hSw.1.cell 2; have f3 := hSw.1.cell 3; have f4 := hSw.1.cell 4; have f5 := hSw.1.cell 5; have f6 := hSw.1.cell 6; have f7 := hSw.1.cell 7; have c0 := hSw.2.1.cell 0; have c1 := hSw.2.1.cell 1; have c2 := hSw.2.1.cell 2; have c3 := hSw.2.1.cell 3; obtain ⟨v9, hD9⟩ := hSw.2.2.1; have d0 := hD9.cell 0; have d1 := hD9.cell 1; have d2 := hD9.cell 2; have d3 := hD9.cell 3; go_simp; (try with_reducible rfl)
        (try simp only [Act.put, List.getElem_toArray, List.getElem_cons_zero, List.getElem_cons_succ, List.setIfInBounds_toArray, List.set_cons_zero, List.set_cons_succ])
        refine wpAnyF_take (i := 6) (v := ?_) (by kernel_rfl) (by kernel_rfl) rfl (by kernel_rfl) (by kernel_rfl) (by kernel_rfl) (fun _ _ _ h => h) (Or.inl ⟨by rfl, ?_⟩) (by assumption) ?_
        rotate_left
        · intro w' hSw; (try dsimp only at hSw); have f0 := hSw.1.cell 0; have f1 := hSw.1.cell 1; have f2 := hSw.1.cell 2; have f3 := hSw.1.cell 3; have f4 := hSw.1.cell 4; have f5 := hSw.1.cell 5; have f6 := hSw.1.cell 6; have f7 := hSw.1.cell 7; have c0 := hSw.2.1.cell 0; have c1 := hSw.2.1.cell 1; have c2 := hSw.2.1.cell 2; have c3 := hSw.2.1.cell 3; obtain ⟨v9, hD9⟩ := hSw.2.2.1; have d0 := hD9.cell 0; have d1 := hD9.cell 1; have d2 := hD9.cell 2; have d3 := hD9.cell 3; go_simp; (try with_reducible rfl)
        (try simp only [Act.put, List.getElem_toArray, List.getElem_cons_zero, List.getElem_cons_succ, List.setIfInBounds_toArray, List.set_cons_zero, List.set_cons_succ])
        refine wpAnyF_take (i := 7) (v := ?_) (by kernel_rfl) (by kernel_rfl) rfl (by kernel_rfl) (by kernel_rfl) (by kernel_rfl) (fun _ _ _ h => h) (Or.inl ⟨by rfl, ?_⟩) (by assumption) ?_
        rotate_left
        · intro w' hSw; (try dsimp only at hSw); have f0 := hSw.1.cell 0; have f1 := hSw.1.cell 1; have f2 := hSw.1.cell 2; have f3 := hSw.1.cell 3; have f4 := hSw.1.cell 4; have f5 := hSw.1.cell 5; have f6 := hSw.1.cell 6; have f7 := hSw.1.cell 7; have c0 := hSw.2.1.cell 0; have c1 := hSw.2.1.cell 1; have c2 := hSw.2.1.cell 2; have c3 := hSw.2.1.cell 3; obtain ⟨v9, hD9⟩ := hSw.2.2.1; have d0 := hD9.cell 0; have d1 := hD9.cell 1; have d2 := hD9.cell 2; have d3 := hD9.cell 3; go_simp; (try with_reducible rfl)
        (try simp only [Act.put, List.getElem_toArray, List.getElem_cons_zero, List.getElem_cons_succ, List.setIfInBounds_toArray, List.set_cons_zero, List.set_cons_succ])
        refine wpAnyF_take (i := 8) (v := ?_) (by kernel_rfl) (by kernel_rfl) rfl (by kernel_rfl) (by kernel_rfl) (by kernel_rfl) (fun _ _ _ h => h) (Or.inl ⟨by rfl, ?_⟩) (by assumption) ?_
        rotate_left
        · intro w' hSw; (try dsimp only at hSw); have f0 := hSw.1.cell 0; have f1 := hSw.1.cell 1; have f2 := hSw.1.cell 2; have f3 := hSw.1.cell 3; have f4 := hSw.1.cell 4; have f5 := hSw.1.cell 5; have f6 := hSw.1.cell 6; have f7 := hSw.1.cell 7; have c0 := hSw.2.1.cell 0; have c1 := hSw.2.1.cell 1; have c2 := hSw.2.1.cell 2; have c3 := hSw.2.1.cell 3; obtain ⟨v9, hD9⟩ := hSw.2.2.1; have d0 := hD9.cell 0; have d1 := hD9.cell 1; have d2 := hD9.cell 2; have d3 := hD9.cell 3; go_simp; (try with_reducible rfl)
        (try simp only [Act.put, List.getElem_toArray, List.getElem_cons_zero, List.getElem_cons_succ, List.setIfInBounds_toArray, List.set_cons_zero, List.set_cons_succ])
        refine wpAnyF_ready (rs := [9]) (by kernel_rfl) (by simp) ?_
        refine AllReadyF.cons rfl (fun KK hKK => ?_) AllReadyF.nil
        go_simp
        have S6 := hi S5.out
        obtain ⟨v9, hD9⟩ := hHeld.2.2.1
        have df := hD9.frozen
        go_simp
        have hS9 := And.intro (hHeld.1.other (w.heap.size + 1 + 1) 2 (.int .i64 g) (by omega)) (And.intro (hHeld.2.1.other (w.heap.size + 1 + 1) 2 (.int .i64 g) (by omega)) (And.intro (⟨_, hD9.set 2 (.int .i64 g)⟩ : ∃ v9, CB (w5.drew.setCell ⟨w.heap.size + 1 + 1, 2, none⟩ (.int .i64 g)) (w.heap.size + 1 + 1) 39 #[.int .i64 di, .int .i64 dp, v9, .bool dis]) (hHeld.2.2.2.other (w.heap.size + 1 + 1) 2 (.int .i64 g) (by have := LT.out; omega))))
        refine hKK.out _ _ hS9 (fun hHeld => ?_)
        clear hKK KK
        (try simp only [Act.put, List.getElem_toArray, List.getElem_cons_zero, List.getElem_cons_succ, List.setIfInBounds_toArray, List.set_cons_zero, List.set_cons_succ])
        refine wpAnyF_ready (rs := [10]) (by kernel_rfl) (by simp) ?_
        refine AllReadyF.last (by kernel_rfl) rfl (fun KK hKK => ?_) AllReadyF.nil
        go_simp
        refine hKK.out _ _ ?_
        clear hKK KK
        (try simp only [Act.put, List.getElem_toArray, List.getElem_cons_zero, List.getElem_cons_succ, List.setIfInBounds_toArray, List.set_cons_zero, List.set_cons_succ])
        refine wpAnyF_ready (rs := [11]) (by kernel_rfl) (by simp) ?_
        refine AllReadyF.last (by kernel_rfl) rfl (fun KK hKK => ?_) AllReadyF.nil
        have d1 := (S6.out.2.2.1.drew.set 2 (.int .i64 g)).cell 1
        have df := (S6.out.2.2.1.drew.set 2 (.int .i64 g)).frozen
        go_simp
        refine hKK.out _ _ ?_
        clear hKK KK
        (try simp only [Act.put, List.getElem_toArray, List.getElem_cons_zero, List.getElem_cons_succ, List.setIfInBounds_toArray, List.set_cons_zero, List.set_cons_succ])
        refine wpAnyF_done (by kernel_rfl) ?_ _
        refine NoPanic.normal ?_
        have h5 := S5.out
        have S7 := hi (show ∃ X, ((w5.setCell ⟨w.heap.size + 1 + 1, 2, none⟩ (.int .i64 g)).setCell ⟨w.heap.size + 1 + 1, 1, none⟩ (.int .i64 s)).drew = X ∧ (CB X w.heap.size 29 #[.int .i64 m, .int .i64 p0, .int .i64 p1, .bool o0, .bool o1, .bool sp, .int .u32 (wd q 0), .int .u32 (wd q 1)] ∧ CB X (w.heap.size + 1) 39 #[.int .i64 ci, .int .i64 (8 * (k : Int)), .int .i64 g, .bool cis] ∧ CB X (w.heap.size + 1 + 1) 39 #[.int .i64 di, .int .i64 s, .int .i64 g, .bool dis] ∧ CB X w1.heap.size 29 #[.int .i64 m, .int .i64 p0, .int .i64 p1, .bool o0, .bool o1, .bool sp, .int .u32 (wd r 0), .int .u32 (wd r 1)]) ∧ Below w.heap.size w X from ⟨_, rfl, ⟨((h5.1.other (w.heap.size + 1 + 1) 2 (.int .i64 g) (by omega)).other (w.heap.size + 1 + 1) 1 (.int .i64 s) (by omega)).drew, ((h5.2.1.other (w.heap.size + 1 + 1) 2 (.int .i64 g) (by omega)).other (w.heap.size + 1 + 1) 1 (.int .i64 s) (by omega)).drew, by have hdd := ((h5.2.2.1.set 2 (.int .i64 g)).set 1 (.int .i64 s)).drew; simpa using hdd, ((h5.2.2.2.other (w.heap.size + 1 + 1) 2 (.int .i64 g) (by have := LT.out; omega)).other (w.heap.size + 1 + 1) 1 (.int .i64 s) (by have := LT.out; omega)).drew⟩, Below.drewN (m := 1) (below_set (below_set B5.out (show w.heap.size ≤ w.heap.size + 1 + 1 by omega) _) (show w.heap.size ≤ w.heap.size + 1 + 1 by omega) _)⟩)
        obtain ⟨X, hX, hS7, hB7⟩ := S7.out
        rw [hX]
        have S8 := hi hS7
        have B8 := hi hB7
        have f0 := S8.out.1.cell 0
        have f1 := S8.out.1.cell 1
        have f2 := S8.out.1.cell 2
        have f3 := S8.out.1.cell 3
        have f4 := S8.out.1.cell 4
        have f5 := S8.out.1.cell 5
        have f6 := S8.out.1.cell 6
        have f7 := S8.out.1.cell 7
        have c0 := S8.out.2.1.cell 0
        have c1 := S8.out.2.1.cell 1
        have c2 := S8.out.2.1.cell 2
        have c3 := S8.out.2.1.cell 3
        have d0 := S8.out.2.2.1.cell 0
        have d1 := S8.out.2.2.1.cell 1
        have d2 := S8.out.2.2.1.cell 2
        have d3 := S8.out.2.2.1.cell 3
        clear h5 hX hS7 hB7 S7 S6 S5 S4 S3 hS9 F2 V2 C2 D2 B2 B3 B4 B5
        go_wp2_with (first
          | (go_at_call 15; ((with_reducible refine (HM1.out _).mono ?_); rintro e w8 ⟨rfl, hb⟩; have S9 := hi (show CB w8 w.heap.size 29 #[.int .i64 m, .int .i64 p0, .int .i64 p1, .bool o0, .bool o1, .bool sp, .int .u32 (wd q 0), .int .u32 (wd q 1)] ∧ CB w8 (w.heap.size + 1) 39 #[.int .i64 ci, .int .i64 (8 * (k : Int)), .int .i64 g, .bool cis] ∧ CB w8 (w.heap.size + 1 + 1) 39 #[.int .i64 di, .int .i64 s, .int .i64 g, .bool dis] ∧ CB w8 w1.heap.size 29 #[.int .i64 m, .int .i64 p0, .int .i64 p1, .bool o0, .bool o1, .bool sp, .int .u32 (wd r 0), .int .u32 (wd r 1)] from ⟨S8.out.1.below hb, S8.out.2.1.below hb, S8.out.2.2.1.below hb, S8.out.2.2.2.below hb⟩); have B9 := hi (B8.out.trans (hb.mono B8.out.size)); have f0 := S9.out.1.cell 0; have f1 := S9.out.1.cell 1; have f2 := S9.out.1.cell 2; have f3 := S9.out.1.cell 3; have f4 := S9.out.1.cell 4; have f5 := S9.out.1.cell 5; have f6 := S9.out.1.cell 6; have f7 := S9.out.1.cell 7; have c0 := S9.out.2.1.cell 0; have c1 := S9.out.2.1.cell 1; have c2 := S9.out.2.1.cell 2; have c3 := S9.out.2.1.cell 3; have d0 := S9.out.2.2.1.cell 0; have d1 := S9.out.2.2.1.cell 1; have d2 := S9.out.2.2.1.cell 2; have d3 := S9.out.2.2.1.cell 3; clear hb))
          | (go_at_call 15; ((with_reducible refine (HM2.out _).mono ?_); rintro e w9 ⟨rfl, hb⟩; have S10 := hi (show CB w9 w.heap.size 29 #[.int .i64 m, .int .i64 p0, .int .i64 p1, .bool o0, .bool o1, .bool sp, .int .u32 (wd q 0), .int .u32 (wd q 1)] ∧ CB w9 (w.heap.size + 1) 39 #[.int .i64 ci, .int .i64 (8 * (k : Int)), .int .i64 g, .bool cis] ∧ CB w9 (w.heap.size + 1 + 1) 39 #[.int .i64 di, .int .i64 s, .int .i64 g, .bool dis] ∧ CB w9 w1.heap.size 29 #[.int .i64 m, .int .i64 p0, .int .i64 p1, .bool o0, .bool o1, .bool sp, .int .u32 (wd r 0), .int .u32 (wd r 1)] from ⟨S9.out.1.below hb, S9.out.2.1.below hb, S9.out.2.2.1.below hb, S9.out.2.2.2.below hb⟩); have B10 := hi (B9.out.trans (hb.mono B9.out.size)); have f0 := S10.out.1.cell 0; have f1 := S10.out.1.cell 1; have f2 := S10.out.1.cell 2; have f3 := S10.out.1.cell 3; have f4 := S10.out.1.cell 4; have f5 := S10.out.1.cell 5; have f6 := S10.out.1.cell 6; have f7 := S10.out.1.cell 7; have c0 := S10.out.2.1.cell 0; have c1 := S10.out.2.1.cell 1; have c2 := S10.out.2.1.cell 2; have c3 := S10.out.2.1.cell 3; have d0 := S10.out.2.2.1.cell 0; have d1 := S10.out.2.2.1.cell 1; have d2 := S10.out.2.2.1.cell 2; have d3 := S10.out.2.2.1.cell 3; clear hb))
          | (go_at_call 29; ((with_reducible refine (HDR.out _ _ S10.out.1).mono ?_); rintro e w10 ⟨rfl, hA⟩; have F11 := hi (show CB w10 w.heap.size 29 #[.int .i64 m, .int .i64 p0, .int .i64 p1, .bool o0, .bool o1, .bool sp, .int .u32 (wd r 0), .int .u32 (wd r 1)] from hA.bx); have V11 := hi (S10.out.2.2.2.keptB hA.kept (by have := LT.out; omega)); have B11 := hi (B10.out.trans (hA.kept.toBelow B10.out.size (fun i z => by subst z; omega))); have f0 := F11.out.cell 0; have f1 := F11.out.cell 1; have f2 := F11.out.cell 2; have f3 := F11.out.cell 3; have f4 := F11.out.cell 4; have f5 := F11.out.cell 5; have f6 := F11.out.cell 6; have f7 := F11.out.cell 7; have v0 := V11.out.cell 0; have v1 := V11.out.cell 1; have v2 := V11.out.cell 2; have v3 := V11.out.cell 3; have v4 := V11.out.cell 4; have v5 := V11.out.cell 5; have v6 := V11.out.cell 6; have v7 := V11.out.cell 7; clear hA)))
        go_ret
        exact ⟨rfl, B11.out⟩
      · have hz : bits .and .i64 g 1 = 1 := by rw [i64_and1, ← gO_int, hG]; rfl
        have HMK := hi (fun W => show Calls Try.prog 27 #[.int .i64 1, .int .i64 x.p1] W fun e w' => e = .returned (.int .i64 (levV x g)) ∧ W = w' from (mask_any 1 x.p1 W).mono (fun e w' z => ⟨by rw [z.1]; unfold levV Fc.pt; rw [hG]; rfl, z.2⟩))
        obtain ⟨M, hM2⟩ : ∃ M, levV x g = M := ⟨_, rfl⟩
        rw [hM2] at HMK hl2
        have HM1 := hi (fun W => (may_any { x with r := put x.r (2 * L + gO g) true } ⟨ci, (8 * (k : Int)), g, cis⟩ W).mono (fun e' w' (z : e' = .returned (.bool _) ∧ Below W.heap.size W w') => show e' = .returned (.bool false) ∧ Below W.heap.size W w' from ⟨by rw [z.1, show (8 * (k : Int)) = ((8 * k + 0 : Nat) : Int) by omega, hMay ci cis 0 (by decide)], z.2⟩))
        have HM2 := hi (fun W => (may_any { x with r := put x.r (2 * L + gO g) true } ⟨di, ((8 * k + (dp % 8).toNat : Nat) : Int), g, dis⟩ W).mono (fun e' w' (z : e' = .returned (.bool _) ∧ Below W.heap.size W w') => show e' = .returned (.bool false) ∧ Below W.heap.size W w' from ⟨by rw [z.1, hMay di dis _ (by omega)], z.2⟩))
        have HRU := hi (fun W => ifrun_any { x with r := put x.r (2 * L + gO g) true } W)
        rw [hRun] at HRU
        have HT := hi (fun b W (z : CB W b 29 x.cs) => take_any b x ⟨ci, 8 * (k : Int), g, cis⟩ g W z)
        rw [hTk] at HT
        have hor := or_low k hk2 dp
        obtain ⟨q, hq⟩ : ∃ q, put x.r (2 * L + gO g) true = q := ⟨_, rfl⟩
        rw [hq] at HM1 HM2 HRU HT
        skip
        rw [hG] at HRU
        obtain ⟨m, p0, p1, o0, o1, sp, r⟩ := x
        dsimp only at HT HM1 HM2 HRU HMK
        obtain ⟨s, hs⟩ : ∃ s : Int, ((8 * k + (dp % 8).toNat : Nat) : Int) = s := ⟨_, rfl⟩
        rw [hs] at hor HM2
        have hl8 : IntKind.i64.wrap ((l : Int) / 8) = L := by rw [IntKind.wrap_i64]; omega
        have hl8t : IntKind.i64.wrap ((l : Int).tdiv 8) = L := by rw [Int.tdiv_eq_ediv_of_nonneg (by omega)]; exact hl8
        have hL8 : IntKind.i64.wrap ((L : Int) * 8) = 8 * (L : Int) := by rw [IntKind.wrap_i64]; omega
        have wr1 : IntKind.i64.wrap 1 = 1 := by rw [IntKind.wrap_i64]; rfl
        have wr0 : IntKind.i64.wrap 0 = 0 := by rw [IntKind.wrap_i64]; rfl
        have dgg : (g != 1) = true := by simpa using (show g ≠ 1 from by intro h; apply hgg; rw [hG, h]; rfl)
        have dgg2 : (1 != g) = true := by simpa using (show (1 : Int) ≠ g from by intro h; apply hgg; rw [hG, ← h]; rfl)
        clear hMay hTk hRun hDr hq hs hM2 hL hl hl1 hG
        go_enter Try.func5, Try.ntmps5
        go_wp2_with (first
          | (go_at_call 9; ((with_reducible refine (awake_if _).mono ?_); rintro e w1 ⟨rfl, hb⟩; have hf := HF0.out.below hb; have f0 := hf.cell 0; have f1 := hf.cell 1; have f2 := hf.cell 2; have f3 := hf.cell 3; have f4 := hf.cell 4; have f5 := hf.cell 5; have f6 := hf.cell 6; have f7 := hf.cell 7; have hc := HC0.out.below hb; have c0 := hc.cell 0; have c1 := hc.cell 1; have c2 := hc.cell 2; have c3 := hc.cell 3; have cf := hc.frozen; have hcs : CB (w1.setCell ⟨w.heap.size + 1, 1, none⟩ (.int .i64 (8 * (k : Int)))) (w.heap.size + 1) 39 #[.int .i64 ci, .int .i64 (8 * (k : Int)), .int .i64 g, .bool cis] := (by simpa using hc.set 1 (.int .i64 (8 * (k : Int)))); have hfs := hf.other (w.heap.size + 1) 1 (.int .i64 (8 * (k : Int))) (by omega); have u0 := hfs.cell 0; have u1 := hfs.cell 1; have u2 := hfs.cell 2; have u3 := hfs.cell 3; have u4 := hfs.cell 4; have u5 := hfs.cell 5; have u6 := hfs.cell 6; have u7 := hfs.cell 7; have y0 := hcs.cell 0; have y1 := hcs.cell 1; have y2 := hcs.cell 2; have y3 := hcs.cell 3; have yf := hcs.frozen; have ha := bal (w1.setCell ⟨w.heap.size + 1, 1, none⟩ (.int .i64 (8 * (k : Int)))) (.cells #[.int .i64 m, .int .i64 p0, .int .i64 p1, .bool o0, .bool o1, .bool sp, .int .u32 (wd r 0), .int .u32 (wd r 1)] 29); have hcd := hcs.below ha; have z0 := hcd.cell 0; have z1 := hcd.cell 1; have z2 := hcd.cell 2; have z3 := hcd.cell 3; have zf := hcd.frozen; have W1 := hi (show ∃ W, (w1.setCell ⟨w.heap.size + 1, 1, none⟩ (.int .i64 (8 * (k : Int)))).alloc (.cells #[.int .i64 m, .int .i64 p0, .int .i64 p1, .bool o0, .bool o1, .bool sp, .int .u32 (wd r 0), .int .u32 (wd r 1)] 29) = W ∧ CB W w.heap.size 29 #[.int .i64 m, .int .i64 p0, .int .i64 p1, .bool o0, .bool o1, .bool sp, .int .u32 (wd r 0), .int .u32 (wd r 1)] ∧ CB W (w.heap.size + 1) 39 #[.int .i64 ci, .int .i64 (8 * (k : Int)), .int .i64 g, .bool cis] ∧ CB W (w.heap.size + 1 + 1) 39 #[.int .i64 di, .int .i64 dp, .int .i64 dg, .bool dis] ∧ CB W w1.heap.size 29 #[.int .i64 m, .int .i64 p0, .int .i64 p1, .bool o0, .bool o1, .bool sp, .int .u32 (wd r 0), .int .u32 (wd r 1)] ∧ Below w.heap.size w W ∧ w.heap.size + 1 + 1 < w1.heap.size from ⟨_, rfl, hfs.below ha, hcd, ((HD0.out.below hb).other _ _ _ (by omega)).below ha, by simpa using CB.new (w1.setCell ⟨w.heap.size + 1, 1, none⟩ (.int .i64 (8 * (k : Int)))) 29 #[.int .i64 m, .int .i64 p0, .int .i64 p1, .bool o0, .bool o1, .bool sp, .int .u32 (wd r 0), .int .u32 (wd r 1)], (below_set (HB0.out.trans (hb.mono HB0.out.size)) (show w.heap.size ≤ w.heap.size + 1 by omega) _).trans (ha.mono (by simp; have := (HD0.out.below hb).lt; omega)), (HD0.out.below hb).lt⟩); clear hb hf hc hcs hfs ha hcd)))
        obtain ⟨W, hW, hF, hC, hD, hV, hB, hL⟩ := W1.out
        rw [hW]
        have F2 := hi hF
        have C2 := hi hC
        have D2 := hi hD
        have V2 := hi hV
        have B2 := hi hB
        have LT := hi hL
        clear hW hF hC hD hV hB hL W1 f0 f1 f2 f3 f4 f5 f6 f7 c0 c1 c2 c3 cf u0 u1 u2 u3 u4 u5 u6 u7 y0 y1 y2 y3 yf z0 z1 z2 z3 zf HF0 HC0 HD0 HB0
        go_wp2_with (first
          | (go_at_call 26; ((with_reducible refine (HT.out _ _ F2.out).mono ?_); rintro e w3 ⟨rfl, hA⟩; have S3 := hi (show CB w3 w.heap.size 29 #[.int .i64 m, .int .i64 p0, .int .i64 p1, .bool o0, .bool o1, .bool sp, .int .u32 (wd q 0), .int .u32 (wd q 1)] ∧ CB w3 (w.heap.size + 1) 39 #[.int .i64 ci, .int .i64 (8 * (k : Int)), .int .i64 g, .bool cis] ∧ CB w3 (w.heap.size + 1 + 1) 39 #[.int .i64 di, .int .i64 dp, .int .i64 dg, .bool dis] ∧ CB w3 w1.heap.size 29 #[.int .i64 m, .int .i64 p0, .int .i64 p1, .bool o0, .bool o1, .bool sp, .int .u32 (wd r 0), .int .u32 (wd r 1)] from ⟨hA.bx, C2.out.keptB hA.kept (by omega), D2.out.keptB hA.kept (by omega), V2.out.keptB hA.kept (by have := LT.out; omega)⟩); have B3 := hi (B2.out.trans (hA.kept.toBelow B2.out.size (fun i z => by subst z; omega))); have f0 := S3.out.1.cell 0; have f1 := S3.out.1.cell 1; have f2 := S3.out.1.cell 2; have f3 := S3.out.1.cell 3; have f4 := S3.out.1.cell 4; have f5 := S3.out.1.cell 5; have f6 := S3.out.1.cell 6; have f7 := S3.out.1.cell 7; have c0 := S3.out.2.1.cell 0; have c1 := S3.out.2.1.cell 1; have c2 := S3.out.2.1.cell 2; have c3 := S3.out.2.1.cell 3; clear hA)))
        refine wp_region_noPanic ?_
        refine wp_region_last_drew (S := (fun W' => CB W' w.heap.size 29 #[.int .i64 m, .int .i64 p0, .int .i64 p1, .bool o0, .bool o1, .bool sp, .int .u32 (wd q 0), .int .u32 (wd q 1)] ∧ CB W' (w.heap.size + 1) 39 #[.int .i64 ci, .int .i64 (8 * (k : Int)), .int .i64 g, .bool cis] ∧ CB W' (w.heap.size + 1 + 1) 39 #[.int .i64 di, .int .i64 dp, .int .i64 dg, .bool dis] ∧ CB W' w1.heap.size 29 #[.int .i64 m, .int .i64 p0, .int .i64 p1, .bool o0, .bool o1, .bool sp, .int .u32 (wd r 0), .int .u32 (wd r 1)])) [10] (by kernel_rfl) ⟨S3.out.1.drew, S3.out.2.1.drew, S3.out.2.2.1.drew, S3.out.2.2.2.drew⟩ (fun hHeld => ?_)
        (try simp only [Array.replicate_succ, Array.replicate_zero, List.push_toArray, List.nil_append, List.cons_append])
        refine wpAnyF_take (i := 0) (v := ?_) (by kernel_rfl) (by kernel_rfl) rfl (by kernel_rfl) (by kernel_rfl) (by kernel_rfl) (fun _ _ _ h => h) (Or.inl ⟨by rfl, ?_⟩) (by assumption) ?_
        rotate_left
        · intro w' hSw; (try dsimp only at hSw); have f0 := hSw.1.cell 0; have f1 := hSw.1.cell 1; have f2 := hSw.1.cell 2; have f3 := hSw.1.cell 3; have f4 := hSw.1.cell 4; have f5 := hSw.1.cell 5; have f6 := hSw.1.cell 6; have f7 := hSw.1.cell 7; have c0 := hSw.2.1.cell 0; have c1 := hSw.2.1.cell 1; have c2 := hSw.2.1.cell 2; have c3 := hSw.2.1.cell 3; have d0 := hSw.2.2.1.cell 0; have d1 := hSw.2.2.1.cell 1; have d2 := hSw.2.2.1.cell 2; have d3 := hSw.2.2.1.cell 3; have v0 := hSw.2.2.2.cell 0; have v1 := hSw.2.2.2.cell 1; have v2 := hSw.2.2.2.cell 2; have v3 := hSw.2.2.2.cell 3; have v4 := hSw.2.2.2.cell 4; have v5 := hSw.2.2.2.cell 5; have v6 := hSw.2.2.2.cell 6; have v7 := hSw.2.2.2.cell 7; go_simp; (try with_reducible rfl)
        (try simp only [Act.put, List.getElem_toArray, List.getElem_cons_zero, List.setIfInBounds_toArray, List.set_cons_zero, List.set_cons_succ])
        refine wpAnyF_take (i := 1) (v := ?_) (by kernel_rfl) (by kernel_rfl) rfl (by kernel_rfl) (by kernel_rfl) (by kernel_rfl) (fun _ _ _ h => h) (Or.inl ⟨by rfl, ?_⟩) (by assumption) ?_
        rotate_left
        · intro w' hSw; (try dsimp only at hSw); have f0 := hSw.1.cell 0; have f1 := hSw.1.cell 1; have f2 := hSw.1.cell 2; have f3 := hSw.1.cell 3; have f4 := hSw.1.cell 4; have f5 := hSw.1.cell 5; have f6 := hSw.1.cell 6; have f7 := hSw.1.cell 7; have c0 := hSw.2.1.cell 0; have c1 := hSw.2.1.cell 1; have c2 := hSw.2.1.cell 2; have c3 := hSw.2.1.cell 3; have d0 := hSw.2.2.1.cell 0; have d1 := hSw.2.2.1.cell 1; have d2 := hSw.2.2.1.cell 2; have d3 := hSw.2.2.1.cell 3; have v0 := hSw.2.2.2.cell 0; have v1 := hSw.2.2.2.cell 1; have v2 := hSw.2.2.2.cell 2; have v3 := hSw.2.2.2.cell 3; have v4 := hSw.2.2.2.cell 4; have v5 := hSw.2.2.2.cell 5; have v6 := hSw.2.2.2.cell 6; have v7 := hSw.2.2.2.cell 7; go_simp; (try with_reducible rfl)
        (try simp only [Act.put, List.getElem_toArray, List.getElem_cons_zero, List.getElem_cons_succ, List.setIfInBounds_toArray, List.set_cons_zero, List.set_cons_succ])
        refine wpAnyF_take (i := 2) (v := ?_) (by kernel_rfl) (by kernel_rfl) rfl (by kernel_rfl) (by kernel_rfl) (by kernel_rfl) (fun _ _ _ h => h) (Or.inl ⟨by rfl, ?_⟩) (by assumption) ?_
        rotate_left
        · intro w' hSw; (try dsimp only at hSw); have f0 := hSw.1.cell 0; have f1 := hSw.1.cell 1; have f2 := hSw.1.cell 2; have f3 := hSw.1.cell 3; have f4 := hSw.1.cell 4; have f5 := hSw.1.cell 5; have f6 := hSw.1.cell 6; have f7 := hSw.1.cell 7; have c0 := hSw.2.1.cell 0; have c1 := hSw.2.1.cell 1; have c2 := hSw.2.1.cell 2; have c3 := hSw.2.1.cell 3; have d0 := hSw.2.2.1.cell 0; have d1 := hSw.2.2.1.cell 1; have d2 := hSw.2.2.1.cell 2; have d3 := hSw.2.2.1.cell 3; have v0 := hSw.2.2.2.cell 0; have v1 := hSw.2.2.2.cell 1; have v2 := hSw.2.2.2.cell 2; have v3 := hSw.2.2.2.cell 3; have v4 := hSw.2.2.2.cell 4; have v5 := hSw.2.2.2.cell 5; have v6 := hSw.2.2.2.cell 6; have v7 := hSw.2.2.2.cell 7; go_simp; (try with_reducible rfl)
        (try simp only [Act.put, List.getElem_toArray, List.getElem_cons_zero, List.getElem_cons_succ, List.setIfInBounds_toArray, List.set_cons_zero, List.set_cons_succ])
        refine wpAnyF_take (i := 3) (v := ?_) (by kernel_rfl) (by kernel_rfl) rfl (by kernel_rfl) (by kernel_rfl) (by kernel_rfl) (fun _ _ _ h => h) (Or.inl ⟨by rfl, ?_⟩) (by assumption) ?_
        rotate_left
        · intro w' hSw; (try dsimp only at hSw); have f0 := hSw.1.cell 0; have f1 := hSw.1.cell 1; have f2 := hSw.1.cell 2; have f3 := hSw.1.cell 3; have f4 := hSw.1.cell 4; have f5 := hSw.1.cell 5; have f6 := hSw.1.cell 6; have f7 := hSw.1.cell 7; have c0 := hSw.2.1.cell 0; have c1 := hSw.2.1.cell 1; have c2 := hSw.2.1.cell 2; have c3 := hSw.2.1.cell 3; have d0 := hSw.2.2.1.cell 0; have d1 := hSw.2.2.1.cell 1; have d2 := hSw.2.2.1.cell 2; have d3 := hSw.2.2.1.cell 3; have v0 := hSw.2.2.2.cell 0; have v1 := hSw.2.2.2.cell 1; have v2 := hSw.2.2.2.cell 2; have v3 := hSw.2.2.2.cell 3; have v4 := hSw.2.2.2.cell 4; have v5 := hSw.2.2.2.cell 5; have v6 := hSw.2.2.2.cell 6; have v7 := hSw.2.2.2.cell 7; go_simp; (try with_reducible rfl)
        (try simp only [Act.put, List.getElem_toArray, List.getElem_cons_zero, List.getElem_cons_succ, List.setIfInBounds_toArray, List.set_cons_zero, List.set_cons_succ])
        refine wpAnyF_take (i := 4) (v := ?_) (by kernel_rfl) (by kernel_rfl) rfl (by kernel_rfl) (by kernel_rfl) (by kernel_rfl) (fun _ _ _ h => h) (Or.inl ⟨by rfl, ?_⟩) (by assumption) ?_
        rotate_left
        · intro w' hSw; (try dsimp only at hSw); have f0 := hSw.1.cell 0; have f1 := hSw.1.cell 1; have f2 := hSw.1.cell 2; have f3 := hSw.1.cell 3; have f4 := hSw.1.cell 4; have f5 := hSw.1.cell 5; have f6 := hSw.1.cell 6; have f7 := hSw.1.cell 7; have c0 := hSw.2.1.cell 0; have c1 := hSw.2.1.cell 1; have c2 := hSw.2.1.cell 2; have c3 := hSw.2.1.cell 3; have d0 := hSw.2.2.1.cell 0; have d1 := hSw.2.2.1.cell 1; have d2 := hSw.2.2.1.cell 2; have d3 := hSw.2.2.1.cell 3; have v0 := hSw.2.2.2.cell 0; have v1 := hSw.2.2.2.cell 1; have v2 := hSw.2.2.2.cell 2; have v3 := hSw.2.2.2.cell 3; have v4 := hSw.2.2.2.cell 4; have v5 := hSw.2.2.2.cell 5; have v6 := hSw.2.2.2.cell 6; have v7 := hSw.2.2.2.cell 7; go_simp; (try with_reducible rfl)
        (try simp only [Act.put, List.getElem_toArray, List.getElem_cons_zero, List.getElem_cons_succ, List.setIfInBounds_toArray, List.set_cons_zero, List.set_cons_succ])
        refine wpAnyF_take (i := 5) (v := ?_) (by kernel_rfl) (by kernel_rfl) rfl (by kernel_rfl) (by kernel_rfl) (by kernel_rfl) (fun _ _ _ h => h) (Or.inl ⟨by rfl, ?_⟩) (by assumption) ?_
        rotate_left
        · intro w' hSw; (try dsimp only at hSw); have f0 := hSw.1.cell 0; have f1 := hSw.1.cell 1; have f2 := hSw.1.cell 2; have f3 := hSw.1.cell 3; have f4 := hSw.1.cell 4; have f5 := hSw.1.cell 5; have f6 := hSw.1.cell 6; have f7 := hSw.1.cell 7; have c0 := hSw.2.1.cell 0; have c1 := hSw.2.1.cell 1; have c2 := hSw.2.1.cell 2; have c3 := hSw.2.1.cell 3; have d0 := hSw.2.2.1.cell 0; have d1 := hSw.2.2.1.cell 1; have d2 := hSw.2.2.1.cell 2; have d3 := hSw.2.2.1.cell 3; have v0 := hSw.2.2.2.cell 0; have v1 := hSw.2.2.2.cell 1; have v2 := hSw.2.2.2.cell 2; have v3 := hSw.2.2.2.cell 3; have v4 := hSw.2.2.2.cell 4; have v5 := hSw.2.2.2.cell 5; have v6 := hSw.2.2.2.cell 6; have v7 := hSw.2.2.2.cell 7; go_simp; (try with_reducible rfl)
        (try simp only [Act.put, List.getElem_toArray, List.getElem_cons_zero, List.getElem_cons_succ, List.setIfInBounds_toArray, List.set_cons_zero, List.set_cons_succ])
        refine wpAnyF_take (i := 6) (v := ?_) (by kernel_rfl) (by kernel_rfl) rfl (by kernel_rfl) (by kernel_rfl) (by kernel_rfl) (fun _ _ _ h => h) (Or.inl ⟨by rfl, ?_⟩) (by assumption) ?_
        rotate_left
        · intro w' hSw; (try dsimp only at hSw); have f0 := hSw.1.cell 0; have f1 := hSw.1.cell 1; have f2 := hSw.1.cell 2; have f3 := hSw.1.cell 3; have f4 := hSw.1.cell 4; have f5 := hSw.1.cell 5; have f6 := hSw.1.cell 6; have f7 := hSw.1.cell 7; have c0 := hSw.2.1.cell 0; have c1 := hSw.2.1.cell 1; have c2 := hSw.2.1.cell 2; have c3 := hSw.2.1.cell 3; have d0 := hSw.2.2.1.cell 0; have d1 := hSw.2.2.1.cell 1; have d2 := hSw.2.2.1.cell 2; have d3 := hSw.2.2.1.cell 3; have v0 := hSw.2.2.2.cell 0; have v1 := hSw.2.2.2.cell 1; have v2 := hSw.2.2.2.cell 2; have v3 := hSw.2.2.2.cell 3; have v4 := hSw.2.2.2.cell 4; have v5 := hSw.2.2.2.cell 5; have v6 := hSw.2.2.2.cell 6; have v7 := hSw.2.2.2.cell 7; go_simp; (try with_reducible rfl)
        (try simp only [Act.put, List.getElem_toArray, List.getElem_cons_zero, List.getElem_cons_succ, List.setIfInBounds_toArray, List.set_cons_zero, List.set_cons_succ])
        refine wpAnyF_take (i := 7) (v := ?_) (by kernel_rfl) (by kernel_rfl) rfl (by kernel_rfl) (by kernel_rfl) (by kernel_rfl) (fun _ _ _ h => h) (Or.inl ⟨by rfl, ?_⟩) (by assumption) ?_
        rotate_left
        · intro w' hSw; (try dsimp only at hSw); have f0 := hSw.1.cell 0; have f1 := hSw.1.cell 1; have f2 := hSw.1.cell 2; have f3 := hSw.1.cell 3; have f4 := hSw.1.cell 4; have f5 := hSw.1.cell 5; have f6 := hSw.1.cell 6; have f7 := hSw.1.cell 7; have c0 := hSw.2.1.cell 0; have c1 := hSw.2.1.cell 1; have c2 := hSw.2.1.cell 2; have c3 := hSw.2.1.cell 3; have d0 := hSw.2.2.1.cell 0; have d1 := hSw.2.2.1.cell 1; have d2 := hSw.2.2.1.cell 2; have d3 := hSw.2.2.1.cell 3; have v0 := hSw.2.2.2.cell 0; have v1 := hSw.2.2.2.cell 1; have v2 := hSw.2.2.2.cell 2; have v3 := hSw.2.2.2.cell 3; have v4 := hSw.2.2.2.cell 4; have v5 := hSw.2.2.2.cell 5; have v6 := hSw.2.2.2.cell 6; have v7 := hSw.2.2.2.cell 7; go_simp; (try with_reducible rfl)
        (try simp only [Act.put, List.getElem_toArray, List.getElem_cons_zero, List.getElem_cons_succ, List.setIfInBounds_toArray, List.set_cons_zero, List.set_cons_succ])
        refine wpAnyF_take (i := 8) (v := ?_) (by kernel_rfl) (by kernel_rfl) rfl (by kernel_rfl) (by kernel_rfl) (by kernel_rfl) (fun _ _ _ h => h) (Or.inl ⟨by rfl, ?_⟩) (by assumption) ?_
        rotate_left
        · intro w' hSw; (try dsimp only at hSw); have f0 := hSw.1.cell 0; have f1 := hSw.1.cell 1; have f2 := hSw.1.cell 2; have f3 := hSw.1.cell 3; have f4 := hSw.1.cell 4; have f5 := hSw.1.cell 5; have f6 := hSw.1.cell 6; have f7 := hSw.1.cell 7; have c0 := hSw.2.1.cell 0; have c1 := hSw.2.1.cell 1; have c2 := hSw.2.1.cell 2; have c3 := hSw.2.1.cell 3; have d0 := hSw.2.2.1.cell 0; have d1 := hSw.2.2.1.cell 1; have d2 := hSw.2.2.1.cell 2; have d3 := hSw.2.2.1.cell 3; have v0 := hSw.2.2.2.cell 0; have v1 := hSw.2.2.2.cell 1; have v2 := hSw.2.2.2.cell 2; have v3 := hSw.2.2.2.cell 3; have v4 := hSw.2.2.2.cell 4; have v5 := hSw.2.2.2.cell 5; have v6 := hSw.2.2.2.cell 6; have v7 := hSw.2.2.2.cell 7; go_simp; (try with_reducible rfl)
        (try simp only [Act.put, List.getElem_toArray, List.getElem_cons_zero, List.getElem_cons_succ, List.setIfInBounds_toArray, List.set_cons_zero, List.set_cons_succ])
        refine wpAnyF_ready (rs := [9]) (by kernel_rfl) (by simp) ?_
        refine AllReadyF.cons rfl (fun KK hKK => ?_) AllReadyF.nil
        go_simp
        ((with_reducible refine (HMK.out _).mono ?_); rintro e' w4 ⟨rfl, rfl⟩; have hSS := hHeld)
        (try go_simp)
        refine hKK.out _ _ hSS (fun hHeld => ?_)
        clear hKK KK
        (try simp only [Act.put, List.getElem_toArray, List.getElem_cons_zero, List.getElem_cons_succ, List.setIfInBounds_toArray, List.set_cons_zero, List.set_cons_succ])
        refine wpAnyF_ready (rs := [10]) (by kernel_rfl) (by simp) ?_
        refine AllReadyF.last (by kernel_rfl) rfl (fun KK hKK => ?_) AllReadyF.nil
        have S4 := hi hHeld
        go_simp
        refine hKK.out _ _ ?_
        clear hKK KK
        (try simp only [Act.put, List.getElem_toArray, List.getElem_cons_zero, List.getElem_cons_succ, List.setIfInBounds_toArray, List.set_cons_zero, List.set_cons_succ])
        refine wpAnyF_done (by kernel_rfl) ?_ _
        refine NoPanic.normal ?_
        have B4 := hi (Below.drewN (m := 1) B3.out)
        have f0 := S4.out.1.cell 0; have f1 := S4.out.1.cell 1; have f2 := S4.out.1.cell 2; have f3 := S4.out.1.cell 3; have f4 := S4.out.1.cell 4; have f5 := S4.out.1.cell 5; have f6 := S4.out.1.cell 6; have f7 := S4.out.1.cell 7
        go_wp2_with (first
          | (go_at_call 28; ((with_reducible refine (HRU.out _).mono ?_); rintro e w5 ⟨rfl, hb⟩; have S5 := hi (show CB w5 w.heap.size 29 #[.int .i64 m, .int .i64 p0, .int .i64 p1, .bool o0, .bool o1, .bool sp, .int .u32 (wd q 0), .int .u32 (wd q 1)] ∧ CB w5 (w.heap.size + 1) 39 #[.int .i64 ci, .int .i64 (8 * (k : Int)), .int .i64 g, .bool cis] ∧ CB w5 (w.heap.size + 1 + 1) 39 #[.int .i64 di, .int .i64 dp, .int .i64 dg, .bool dis] ∧ CB w5 w1.heap.size 29 #[.int .i64 m, .int .i64 p0, .int .i64 p1, .bool o0, .bool o1, .bool sp, .int .u32 (wd r 0), .int .u32 (wd r 1)] from ⟨S4.out.1.below hb, S4.out.2.1.below hb, S4.out.2.2.1.below hb, S4.out.2.2.2.below hb⟩); have B5 := hi (B4.out.trans (hb.mono B4.out.size)); have f0 := S5.out.1.cell 0; have f1 := S5.out.1.cell 1; have f2 := S5.out.1.cell 2; have f3 := S5.out.1.cell 3; have f4 := S5.out.1.cell 4; have f5 := S5.out.1.cell 5; have f6 := S5.out.1.cell 6; have f7 := S5.out.1.cell 7; have c0 := S5.out.2.1.cell 0; have c1 := S5.out.2.1.cell 1; have c2 := S5.out.2.1.cell 2; have c3 := S5.out.2.1.cell 3; have d0 := S5.out.2.2.1.cell 0; have d1 := S5.out.2.2.1.cell 1; have d2 := S5.out.2.2.1.cell 2; have d3 := S5.out.2.2.1.cell 3; have df := S5.out.2.2.1.frozen; clear hb)))
        refine wp_region_noPanic ?_
        refine wp_region_last_drew (S := (fun W' => CB W' w.heap.size 29 #[.int .i64 m, .int .i64 p0, .int .i64 p1, .bool o0, .bool o1, .bool sp, .int .u32 (wd q 0), .int .u32 (wd q 1)] ∧ CB W' (w.heap.size + 1) 39 #[.int .i64 ci, .int .i64 (8 * (k : Int)), .int .i64 g, .bool cis] ∧ (∃ v9, CB W' (w.heap.size + 1 + 1) 39 #[.int .i64 di, .int .i64 dp, v9, .bool dis]) ∧ CB W' w1.heap.size 29 #[.int .i64 m, .int .i64 p0, .int .i64 p1, .bool o0, .bool o1, .bool sp, .int .u32 (wd r 0), .int .u32 (wd r 1)])) [10, 11] (by kernel_rfl) ⟨S5.out.1.drew, S5.out.2.1.drew, ⟨_, S5.out.2.2.1.drew⟩, S5.out.2.2.2.drew⟩ (fun hHeld => ?_)
        (try simp only [Array.replicate_succ, Array.replicate_zero, List.push_toArray, List.nil_append, List.cons_append])
        refine wpAnyF_take (i := 0) (v := ?_) (by kernel_rfl) (by kernel_rfl) rfl (by kernel_rfl) (by kernel_rfl) (by kernel_rfl) (fun _ _ _ h => h) (Or.inl ⟨by rfl, ?_⟩) (by assumption) ?_
        rotate_left
        · intro w' hSw; (try dsimp only at hSw); have f0 := hSw.1.cell 0; have f1 := hSw.1.cell 1; have f2 := hSw.1.cell 2; have f3 := hSw.1.cell 3; have f4 := hSw.1.cell 4; have f5 := hSw.1.cell 5; have f6 := hSw.1.cell 6; have f7 := hSw.1.cell 7; have c0 := hSw.2.1.cell 0; have c1 := hSw.2.1.cell 1; have c2 := hSw.2.1.cell 2; have c3 := hSw.2.1.cell 3; obtain ⟨v9, hD9⟩ := hSw.2.2.1; have d0 := hD9.cell 0; have d1 := hD9.cell 1; have d2 := hD9.cell 2; have d3 := hD9.cell 3; go_simp; (try with_reducible rfl)
        (try simp only [Act.put, List.getElem_toArray, List.getElem_cons_zero, List.setIfInBounds_toArray, List.set_cons_zero, List.set_cons_succ])
        refine wpAnyF_take (i := 1) (v := ?_) (by kernel_rfl) (by kernel_rfl) rfl (by kernel_rfl) (by kernel_rfl) (by kernel_rfl) (fun _ _ _ h => h) (Or.inl ⟨by rfl, ?_⟩) (by assumption) ?_
        rotate_left
        · intro w' hSw; (try dsimp only at hSw); have f0 := hSw.1.cell 0; have f1 := hSw.1.cell 1; have f2 := hSw.1.cell 2; have f3 := hSw.1.cell 3; have f4 := hSw.1.cell 4; have f5 := hSw.1.cell 5; have f6 := hSw.1.cell 6; have f7 := hSw.1.cell 7; have c0 := hSw.2.1.cell 0; have c1 := hSw.2.1.cell 1; have c2 := hSw.2.1.cell 2; have c3 := hSw.2.1.cell 3; obtain ⟨v9, hD9⟩ := hSw.2.2.1; have d0 := hD9.cell 0; have d1 := hD9.cell 1; have d2 := hD9.cell 2; have d3 := hD9.cell 3; go_simp; (try with_reducible rfl)
        (try simp only [Act.put, List.getElem_toArray, List.getElem_cons_zero, List.getElem_cons_succ, List.setIfInBounds_toArray, List.set_cons_zero, List.set_cons_succ])
        refine wpAnyF_take (i := 2) (v := ?_) (by kernel_rfl) (by kernel_rfl) rfl (by kernel_rfl) (by kernel_rfl) (by kernel_rfl) (fun _ _ _ h => h) (Or.inl ⟨by rfl, ?_⟩) (by assumption) ?_
        rotate_left
        · intro w' hSw; (try dsimp only at hSw); have f0 := hSw.1.cell 0; have f1 := hSw.1.cell 1; have f2 := hSw.1.cell 2; have f3 := hSw.1.cell 3; have f4 := hSw.1.cell 4; have f5 := hSw.1.cell 5; have f6 := hSw.1.cell 6; have f7 := hSw.1.cell 7; have c0 := hSw.2.1.cell 0; have c1 := hSw.2.1.cell 1; have c2 := hSw.2.1.cell 2; have c3 := hSw.2.1.cell 3; obtain ⟨v9, hD9⟩ := hSw.2.2.1; have d0 := hD9.cell 0; have d1 := hD9.cell 1; have d2 := hD9.cell 2; have d3 := hD9.cell 3; go_simp; (try with_reducible rfl)
        (try simp only [Act.put, List.getElem_toArray, List.getElem_cons_zero, List.getElem_cons_succ, List.setIfInBounds_toArray, List.set_cons_zero, List.set_cons_succ])
        refine wpAnyF_take (i := 3) (v := ?_) (by kernel_rfl) (by kernel_rfl) rfl (by kernel_rfl) (by kernel_rfl) (by kernel_rfl) (fun _ _ _ h => h) (Or.inl ⟨by rfl, ?_⟩) (by assumption) ?_
        rotate_left
        · intro w' hSw; (try dsimp only at hSw); have f0 := hSw.1.cell 0; have f1 := hSw.1.cell 1; have f2 := hSw.1.cell 2; have f3 := hSw.1.cell 3; have f4 := hSw.1.cell 4; have f5 := hSw.1.cell 5; have f6 := hSw.1.cell 6; have f7 := hSw.1.cell 7; have c0 := hSw.2.1.cell 0; have c1 := hSw.2.1.cell 1; have c2 := hSw.2.1.cell 2; have c3 := hSw.2.1.cell 3; obtain ⟨v9, hD9⟩ := hSw.2.2.1; have d0 := hD9.cell 0; have d1 := hD9.cell 1; have d2 := hD9.cell 2; have d3 := hD9.cell 3; go_simp; (try with_reducible rfl)
        (try simp only [Act.put, List.getElem_toArray, List.getElem_cons_zero, List.getElem_cons_succ, List.setIfInBounds_toArray, List.set_cons_zero, List.set_cons_succ])
        refine wpAnyF_take (i := 4) (v := ?_) (by kernel_rfl) (by kernel_rfl) rfl (by kernel_rfl) (by kernel_rfl) (by kernel_rfl) (fun _ _ _ h => h) (Or.inl ⟨by rfl, ?_⟩) (by assumption) ?_
        rotate_left
        · intro w' hSw; (try dsimp only at hSw); have f0 := hSw.1.cell 0; have f1 := hSw.1.cell 1; have f2 := hSw.1.cell 2; have f3 := hSw.1.cell 3; have f4 := hSw.1.cell 4; have f5 := hSw.1.cell 5; have f6 := hSw.1.cell 6; have f7 := hSw.1.cell 7; have c0 := hSw.2.1.cell 0; have c1 := hSw.2.1.cell 1; have c2 := hSw.2.1.cell 2; have c3 := hSw.2.1.cell 3; obtain ⟨v9, hD9⟩ := hSw.2.2.1; have d0 := hD9.cell 0; have d1 := hD9.cell 1; have d2 := hD9.cell 2; have d3 := hD9.cell 3; go_simp; (try with_reducible rfl)
        (try simp only [Act.put, List.getElem_toArray, List.getElem_cons_zero, List.getElem_cons_succ, List.setIfInBounds_toArray, List.set_cons_zero, List.set_cons_succ])
        refine wpAnyF_take (i := 5) (v := ?_) (by kernel_rfl) (by kernel_rfl) rfl (by kernel_rfl) (by kernel_rfl) (by kernel_rfl) (fun _ _ _ h => h) (Or.inl ⟨by rfl, ?_⟩) (by assumption) ?_
        rotate_left
        · intro w' hSw; (try dsimp only at hSw); have f0 := hSw.1.cell 0; have f1 := hSw.1.cell 1; have f2 := hSw.1.cell 2; have f3 := hSw.1.cell 3; have f4 := hSw.1.cell 4; have f5 := hSw.1.cell 5; have f6 := hSw.1.cell 6; have f7 := hSw.1.cell 7; have c0 := hSw.2.1.cell 0; have c1 := hSw.2.1.cell 1; have c2 := hSw.2.1.cell 2; have c3 := hSw.2.1.cell 3; obtain ⟨v9, hD9⟩ := hSw.2.2.1; have d0 := hD9.cell 0; have d1 := hD9.cell 1; have d2 := hD9.cell 2; have d3 := hD9.cell 3; go_simp; (try with_reducible rfl)
        (try simp only [Act.put, List.getElem_toArray, List.getElem_cons_zero, List.getElem_cons_succ, List.setIfInBounds_toArray, List.set_cons_zero, List.set_cons_succ])
        refine wpAnyF_take (i := 6) (v := ?_) (by kernel_rfl) (by kernel_rfl) rfl (by kernel_rfl) (by kernel_rfl) (by kernel_rfl) (fun _ _ _ h => h) (Or.inl ⟨by rfl, ?_⟩) (by assumption) ?_
        rotate_left
        · intro w' hSw; (try dsimp only at hSw); have f0 := hSw.1.cell 0; have f1 := hSw.1.cell 1; have f2 := hSw.1.cell 2; have f3 := hSw.1.cell 3; have f4 := hSw.1.cell 4; have f5 := hSw.1.cell 5; have f6 := hSw.1.cell 6; have f7 := hSw.1.cell 7; have c0 := hSw.2.1.cell 0; have c1 := hSw.2.1.cell 1; have c2 := hSw.2.1.cell 2; have c3 := hSw.2.1.cell 3; obtain ⟨v9, hD9⟩ := hSw.2.2.1; have d0 := hD9.cell 0; have d1 := hD9.cell 1; have d2 := hD9.cell 2; have d3 := hD9.cell 3; go_simp; (try with_reducible rfl)
        (try simp only [Act.put, List.getElem_toArray, List.getElem_cons_zero, List.getElem_cons_succ, List.setIfInBounds_toArray, List.set_cons_zero, List.set_cons_succ])
        refine wpAnyF_take (i := 7) (v := ?_) (by kernel_rfl) (by kernel_rfl) rfl (by kernel_rfl) (by kernel_rfl) (by kernel_rfl) (fun _ _ _ h => h) (Or.inl ⟨by rfl, ?_⟩) (by assumption) ?_
        rotate_left
        · intro w' hSw; (try dsimp only at hSw); have f0 := hSw.1.cell 0; have f1 := hSw.1.cell 1; have f2 := hSw.1.cell 2; have f3 := hSw.1.cell 3; have f4 := hSw.1.cell 4; have f5 := hSw.1.cell 5; have f6 := hSw.1.cell 6; have f7 := hSw.1.cell 7; have c0 := hSw.2.1.cell 0; have c1 := hSw.2.1.cell 1; have c2 := hSw.2.1.cell 2; have c3 := hSw.2.1.cell 3; obtain ⟨v9, hD9⟩ := hSw.2.2.1; have d0 := hD9.cell 0; have d1 := hD9.cell 1; have d2 := hD9.cell 2; have d3 := hD9.cell 3; go_simp; (try with_reducible rfl)
        (try simp only [Act.put, List.getElem_toArray, List.getElem_cons_zero, List.getElem_cons_succ, List.setIfInBounds_toArray, List.set_cons_zero, List.set_cons_succ])
        refine wpAnyF_take (i := 8) (v := ?_) (by kernel_rfl) (by kernel_rfl) rfl (by kernel_rfl) (by kernel_rfl) (by kernel_rfl) (fun _ _ _ h => h) (Or.inl ⟨by rfl, ?_⟩) (by assumption) ?_
        rotate_left
        · intro w' hSw; (try dsimp only at hSw); have f0 := hSw.1.cell 0; have f1 := hSw.1.cell 1; have f2 := hSw.1.cell 2; have f3 := hSw.1.cell 3; have f4 := hSw.1.cell 4; have f5 := hSw.1.cell 5; have f6 := hSw.1.cell 6; have f7 := hSw.1.cell 7; have c0 := hSw.2.1.cell 0; have c1 := hSw.2.1.cell 1; have c2 := hSw.2.1.cell 2; have c3 := hSw.2.1.cell 3; obtain ⟨v9, hD9⟩ := hSw.2.2.1; have d0 := hD9.cell 0; have d1 := hD9.cell 1; have d2 := hD9.cell 2; have d3 := hD9.cell 3; go_simp; (try with_reducible rfl)
        (try simp only [Act.put, List.getElem_toArray, List.getElem_cons_zero, List.getElem_cons_succ, List.setIfInBounds_toArray, List.set_cons_zero, List.set_cons_succ])
        refine wpAnyF_ready (rs := [9]) (by kernel_rfl) (by simp) ?_
        refine AllReadyF.cons rfl (fun KK hKK => ?_) AllReadyF.nil
        go_simp
        have S6 := hi S5.out
        obtain ⟨v9, hD9⟩ := hHeld.2.2.1
        have df := hD9.frozen
        go_simp
        have hS9 := And.intro (hHeld.1.other (w.heap.size + 1 + 1) 2 (.int .i64 g) (by omega)) (And.intro (hHeld.2.1.other (w.heap.size + 1 + 1) 2 (.int .i64 g) (by omega)) (And.intro (⟨_, hD9.set 2 (.int .i64 g)⟩ : ∃ v9, CB (w5.drew.setCell ⟨w.heap.size + 1 + 1, 2, none⟩ (.int .i64 g)) (w.heap.size + 1 + 1) 39 #[.int .i64 di, .int .i64 dp, v9, .bool dis]) (hHeld.2.2.2.other (w.heap.size + 1 + 1) 2 (.int .i64 g) (by have := LT.out; omega))))
        refine hKK.out _ _ hS9 (fun hHeld => ?_)
        clear hKK KK
        (try simp only [Act.put, List.getElem_toArray, List.getElem_cons_zero, List.getElem_cons_succ, List.setIfInBounds_toArray, List.set_cons_zero, List.set_cons_succ])
        refine wpAnyF_ready (rs := [10]) (by kernel_rfl) (by simp) ?_
        refine AllReadyF.last (by kernel_rfl) rfl (fun KK hKK => ?_) AllReadyF.nil
        go_simp
        refine hKK.out _ _ ?_
        clear hKK KK
        (try simp only [Act.put, List.getElem_toArray, List.getElem_cons_zero, List.getElem_cons_succ, List.setIfInBounds_toArray, List.set_cons_zero, List.set_cons_succ])
        refine wpAnyF_ready (rs := [11]) (by kernel_rfl) (by simp) ?_
        refine AllReadyF.last (by kernel_rfl) rfl (fun KK hKK => ?_) AllReadyF.nil
        have d1 := (S6.out.2.2.1.drew.set 2 (.int .i64 g)).cell 1
        have df := (S6.out.2.2.1.drew.set 2 (.int .i64 g)).frozen
        go_simp
        refine hKK.out _ _ ?_
        clear hKK KK
        (try simp only [Act.put, List.getElem_toArray, List.getElem_cons_zero, List.getElem_cons_succ, List.setIfInBounds_toArray, List.set_cons_zero, List.set_cons_succ])
        refine wpAnyF_done (by kernel_rfl) ?_ _
        refine NoPanic.normal ?_
        have h5 := S5.out
        have S7 := hi (show ∃ X, ((w5.setCell ⟨w.heap.size + 1 + 1, 2, none⟩ (.int .i64 g)).setCell ⟨w.heap.size + 1 + 1, 1, none⟩ (.int .i64 s)).drew = X ∧ (CB X w.heap.size 29 #[.int .i64 m, .int .i64 p0, .int .i64 p1, .bool o0, .bool o1, .bool sp, .int .u32 (wd q 0), .int .u32 (wd q 1)] ∧ CB X (w.heap.size + 1) 39 #[.int .i64 ci, .int .i64 (8 * (k : Int)), .int .i64 g, .bool cis] ∧ CB X (w.heap.size + 1 + 1) 39 #[.int .i64 di, .int .i64 s, .int .i64 g, .bool dis] ∧ CB X w1.heap.size 29 #[.int .i64 m, .int .i64 p0, .int .i64 p1, .bool o0, .bool o1, .bool sp, .int .u32 (wd r 0), .int .u32 (wd r 1)]) ∧ Below w.heap.size w X from ⟨_, rfl, ⟨((h5.1.other (w.heap.size + 1 + 1) 2 (.int .i64 g) (by omega)).other (w.heap.size + 1 + 1) 1 (.int .i64 s) (by omega)).drew, ((h5.2.1.other (w.heap.size + 1 + 1) 2 (.int .i64 g) (by omega)).other (w.heap.size + 1 + 1) 1 (.int .i64 s) (by omega)).drew, by have hdd := ((h5.2.2.1.set 2 (.int .i64 g)).set 1 (.int .i64 s)).drew; simpa using hdd, ((h5.2.2.2.other (w.heap.size + 1 + 1) 2 (.int .i64 g) (by have := LT.out; omega)).other (w.heap.size + 1 + 1) 1 (.int .i64 s) (by have := LT.out; omega)).drew⟩, Below.drewN (m := 1) (below_set (below_set B5.out (show w.heap.size ≤ w.heap.size + 1 + 1 by omega) _) (show w.heap.size ≤ w.heap.size + 1 + 1 by omega) _)⟩)
        obtain ⟨X, hX, hS7, hB7⟩ := S7.out
        rw [hX]
        have S8 := hi hS7
        have B8 := hi hB7
        have f0 := S8.out.1.cell 0
        have f1 := S8.out.1.cell 1
        have f2 := S8.out.1.cell 2
        have f3 := S8.out.1.cell 3
        have f4 := S8.out.1.cell 4
        have f5 := S8.out.1.cell 5
        have f6 := S8.out.1.cell 6
        have f7 := S8.out.1.cell 7
        have c0 := S8.out.2.1.cell 0
        have c1 := S8.out.2.1.cell 1
        have c2 := S8.out.2.1.cell 2
        have c3 := S8.out.2.1.cell 3
        have d0 := S8.out.2.2.1.cell 0
        have d1 := S8.out.2.2.1.cell 1
        have d2 := S8.out.2.2.1.cell 2
        have d3 := S8.out.2.2.1.cell 3
        clear h5 hX hS7 hB7 S7 S6 S5 S4 S3 hS9 F2 V2 C2 D2 B2 B3 B4 B5
        go_wp2_with (first
          | (go_at_call 15; ((with_reducible refine (HM1.out _).mono ?_); rintro e w8 ⟨rfl, hb⟩; have S9 := hi (show CB w8 w.heap.size 29 #[.int .i64 m, .int .i64 p0, .int .i64 p1, .bool o0, .bool o1, .bool sp, .int .u32 (wd q 0), .int .u32 (wd q 1)] ∧ CB w8 (w.heap.size + 1) 39 #[.int .i64 ci, .int .i64 (8 * (k : Int)), .int .i64 g, .bool cis] ∧ CB w8 (w.heap.size + 1 + 1) 39 #[.int .i64 di, .int .i64 s, .int .i64 g, .bool dis] ∧ CB w8 w1.heap.size 29 #[.int .i64 m, .int .i64 p0, .int .i64 p1, .bool o0, .bool o1, .bool sp, .int .u32 (wd r 0), .int .u32 (wd r 1)] from ⟨S8.out.1.below hb, S8.out.2.1.below hb, S8.out.2.2.1.below hb, S8.out.2.2.2.below hb⟩); have B9 := hi (B8.out.trans (hb.mono B8.out.size)); have f0 := S9.out.1.cell 0; have f1 := S9.out.1.cell 1; have f2 := S9.out.1.cell 2; have f3 := S9.out.1.cell 3; have f4 := S9.out.1.cell 4; have f5 := S9.out.1.cell 5; have f6 := S9.out.1.cell 6; have f7 := S9.out.1.cell 7; have c0 := S9.out.2.1.cell 0; have c1 := S9.out.2.1.cell 1; have c2 := S9.out.2.1.cell 2; have c3 := S9.out.2.1.cell 3; have d0 := S9.out.2.2.1.cell 0; have d1 := S9.out.2.2.1.cell 1; have d2 := S9.out.2.2.1.cell 2; have d3 := S9.out.2.2.1.cell 3; clear hb))
          | (go_at_call 15; ((with_reducible refine (HM2.out _).mono ?_); rintro e w9 ⟨rfl, hb⟩; have S10 := hi (show CB w9 w.heap.size 29 #[.int .i64 m, .int .i64 p0, .int .i64 p1, .bool o0, .bool o1, .bool sp, .int .u32 (wd q 0), .int .u32 (wd q 1)] ∧ CB w9 (w.heap.size + 1) 39 #[.int .i64 ci, .int .i64 (8 * (k : Int)), .int .i64 g, .bool cis] ∧ CB w9 (w.heap.size + 1 + 1) 39 #[.int .i64 di, .int .i64 s, .int .i64 g, .bool dis] ∧ CB w9 w1.heap.size 29 #[.int .i64 m, .int .i64 p0, .int .i64 p1, .bool o0, .bool o1, .bool sp, .int .u32 (wd r 0), .int .u32 (wd r 1)] from ⟨S9.out.1.below hb, S9.out.2.1.below hb, S9.out.2.2.1.below hb, S9.out.2.2.2.below hb⟩); have B10 := hi (B9.out.trans (hb.mono B9.out.size)); have f0 := S10.out.1.cell 0; have f1 := S10.out.1.cell 1; have f2 := S10.out.1.cell 2; have f3 := S10.out.1.cell 3; have f4 := S10.out.1.cell 4; have f5 := S10.out.1.cell 5; have f6 := S10.out.1.cell 6; have f7 := S10.out.1.cell 7; have c0 := S10.out.2.1.cell 0; have c1 := S10.out.2.1.cell 1; have c2 := S10.out.2.1.cell 2; have c3 := S10.out.2.1.cell 3; have d0 := S10.out.2.2.1.cell 0; have d1 := S10.out.2.2.1.cell 1; have d2 := S10.out.2.2.1.cell 2; have d3 := S10.out.2.2.1.cell 3; clear hb)))
        go_ret
        exact ⟨rfl, B10.out⟩

end Go.Proofs.Ytnfbljadhhcclaa
