import Derived.Test.YtieedhdmpabfkaaGreatMg46
set_option linter.unusedSimpArgs false
namespace Go.Proofs.YtieedhdmpabfkaaGreat
open Go.ChangeShapes Go.WideShapes Go.ChangeAt Go.RowKit Go.Shelf
set_option linter.unusedVariables false
attribute [local go_sem] Oper.semAt_some
set_option maxRecDepth 100000 in
set_option maxHeartbeats 16000000 in
theorem does_law (f n : Int) (v : Value) (xs : List Xa) (w : World) (hf0 : 0 ≤ f) (hf1 : f < 256) (hn0 : 0 ≤ n) (hn1 : n < 256) (h : ActsAt w v xs) (hl : xs.length ≤ 9223372036854775806) :
  Calls Tryz.prog 3 #[.int .u8 f, .int .u8 n, v] w fun e w' => e = .returned (.bool true) ∧ Below w.heap.size w w' := by
 obtain ⟨a0, cap, rfl⟩ := h.slice
 have CB0 := hi (fun W => both_any f n W hf0 hf1 hn0 hn1)
 have HACT := hi h
 obtain ⟨k9, hk9⟩ : ∃ k, xs.length = k := ⟨_, rfl⟩
 rw [hk9] at HACT hl ⊢
 clear h hk9
 go_enter Tryz.func3, Tryz.ntmps3
 go_wp2_with (first
  | (go_at_call 10; ((with_reducible refine (awake_any _).mono ?_); rintro e w1 ⟨rfl, hb⟩; have B1 := hi hb; clear hb))
  | (go_at_call 11; ((with_reducible refine (CB0.out _).mono ?_); rintro e w2 ⟨p, q, r, s, b, c, b', c', rfl, hT⟩; have HT0 := hi (show TwW w p q r s b c b' c' _ w2 from ⟨hT.tw, hT.ok, ⟨Nat.le_trans B1.out.size hT.lo.1, Nat.le_trans B1.out.size hT.lo.2⟩, B1.out.trans (hT.below.mono B1.out.size)⟩); clear hT)))
 go_loopw [8, 10] (fun dv i wr => ∃ (k p q : Nat) (b c : Nat → Nat) (D : Ds), k ≤ k9 ∧ dv = .pointer (some ⟨b 0, 0, none⟩) ∧ i = .int .i64 k ∧ Hi (TwW w p q r s b c b' c' D wr)) (fun _ i _ => k9 - (intOf i).toNat)
 case atStart => exact ⟨0, p, q, b, c, _, Nat.zero_le _, rfl, rfl, HT0⟩
 case round =>
  clear HT0
  obtain ⟨k, p, q, b, c, D, hk, rfl, rfl, HX⟩ := hrel
  by_cases hlt : k < k9
  ·obtain ⟨ab, o, rfl, hok, hc⟩ := HACT.out.read hlt
   obtain ⟨⟨d, off, K, id, vv, ac, ⟨se, sl, sh, sa⟩, hb9⟩, hx⟩ : ∃ x, nthA xs k = x := ⟨_, rfl⟩
   rw [hx] at hok hc
   have HXO := hi hok
   obtain ⟨c0, c1, c2, c3, c4, c5, c6, c7, c8, c9, c10⟩ := hc _ HX.out.below
   have DOE := hi (fun p q b c W (z : TwW w p q r s b c b' c' D W) => show Calls Tryz.prog 15 #[.pointer (some ⟨b 0, 0, none⟩), .pointer (some ⟨b' 0, 0, none⟩), .agg #[.int .i64 d, .int .i64 off, .int .i64 K, .int .i64 id, .int .u64 vv, .int .i64 ac, .bool se, .bool sl, .bool sh, .bool sa, .bool hb9]] W fun e w' => e = .returned (.bool true) ∧ TwAf W p q r s b c b' c' (stepD D ⟨d, off, K, id, vv, ac, ⟨se, sl, sh, sa⟩, hb9⟩) w' from does_any z.tw z.ok _ hok)
   have HS1 := hi (show TwW w p q r s b c b' c' D (wr.alloc (.cells #[.int .i64 d, .int .i64 off, .int .i64 K, .int .i64 id, .int .u64 vv, .int .i64 ac, .bool se, .bool sl, .bool sh, .bool sa, .bool hb9] 33)) ∧ CB (wr.alloc (.cells #[.int .i64 d, .int .i64 off, .int .i64 K, .int .i64 id, .int .u64 vv, .int .i64 ac, .bool se, .bool sl, .bool sh, .bool sa, .bool hb9] 33)) wr.heap.size 33 #[.int .i64 d, .int .i64 off, .int .i64 K, .int .i64 id, .int .u64 vv, .int .i64 ac, .bool se, .bool sl, .bool sh, .bool sa, .bool hb9] from ⟨HX.out.later (bal wr _), CB.new wr _ _⟩)
   have HSS := hi (show s ≤ wr.heap.size from HX.out.tw.rd.le)
   have HQW := hi (show q ≤ wr.heap.size from HX.out.tw.di.le)
   clear hc hx hok
   dsimp only at c0 c1 c2 c3 c4 c5 c6 c7 c8 c9 c10
   by_cases hd7 : d = 7
   ·subst hd7
    have CPY := hi (copy_dist HS1.out.1.tw.di HS1.out.1.ok)
    have HSEP := hi HS1.out.1.tw.sep
    have HLO := hi HS1.out.1.lo.1
    have HVV := hi (show vv < 18446744073709551616 from HXO.out.v)
    have DO1 := hi (fun W (z : DiAt W p q b c D) => do_dist z HS1.out.1.ok (k := 0) (id := 3) 3 ⟨by decide, by decide⟩)
    have ok1 := doV_ok HS1.out.1.ok 0 3 3
    obtain ⟨⟨D1, r1⟩, hD1⟩ : ∃ R, doV D 0 3 3 = R := ⟨_, rfl⟩
    rw [hD1] at DO1 ok1
    have WR1 := hi (fun W (z : DiAt W p q b c D1) => show Calls Tryz.prog 14 #[.pointer (some ⟨b 0, 0, none⟩), .int .i64 256, .int .i64 4, .int .u64 4294967295] W fun e w' => e = .returned (.int .i64 (writeDV D1 256 4 4294967295).2) ∧ DiAf W p q b c (writeDV D1 256 4 4294967295).1 w' from write_dist z ok1 (off := 256) (wd := 4) ⟨by decide, by decide⟩ 4294967295 (by decide))
    have ok2 := writeDV_ok ok1 256 4 4294967295
    obtain ⟨⟨D2, r2⟩, hD2⟩ : ∃ R, writeDV D1 256 4 4294967295 = R := ⟨_, rfl⟩
    rw [hD2] at WR1 ok2
    have WR2 := hi (fun W (z : DiAt W p q b c D2) => write_dist z ok2 (off := 0) (wd := 4) ⟨by decide, by decide⟩ vv HVV.out)
    obtain ⟨⟨D3, r3⟩, hD3⟩ : ∃ R, writeDV D2 0 4 vv = R := ⟨_, rfl⟩
    rw [hD3] at WR2
    dsimp only at DO1 WR1 WR2
    have HPQ := hi (show ¬ (wr.heap.size + 1 ≤ wr.heap.size ∧ True) from fun z => by omega)
    clear hD1 hD2 hD3 ok1 ok2
    go_wp2_with (first
     | (go_at_call 12; ((with_reducible refine CPY.out.mono ?_); rintro e w3 ⟨b3, c3, rfl, hc, hb⟩; have hc' : DiAt w3 (wr.heap.size + 1) w3.heap.size b3 c3 D := (by have := hc; rw [World.size_alloc] at this; exact this); have HI3 := hi (HS1.out.1.tw.di.below hb); have HC3 := hi (show DiAt w3 (wr.heap.size + 1) w3.heap.size b3 c3 D ∧ RdAt w3 r s b' c' D ∧ CB w3 wr.heap.size 33 #[.int .i64 7, .int .i64 off, .int .i64 K, .int .i64 id, .int .u64 vv, .int .i64 ac, .bool se, .bool sl, .bool sh, .bool sa, .bool hb9] ∧ Below w.heap.size w w3 from ⟨hc', HS1.out.1.tw.rd.below hb, HS1.out.2.below hb, HS1.out.1.below.trans (hb.mono HS1.out.1.below.size)⟩); clear hc hc' hb))
     | (go_at_call 13; ((with_reducible refine (DO1.out _ HI3.out).mono ?_); rintro e w4 ⟨rfl, hA⟩; have HI4 := hi hA.di; have h4 := HC3.out; have K4 := hA.kept; have HC4 := hi (show DiAt w4 (wr.heap.size + 1) w3.heap.size b3 c3 D ∧ RdAt w4 r s b' c' D ∧ CB w4 wr.heap.size 33 #[.int .i64 7, .int .i64 off, .int .i64 K, .int .i64 id, .int .u64 vv, .int .i64 ac, .bool se, .bool sl, .bool sh, .bool sa, .bool hb9] ∧ Below w.heap.size w w4 from ⟨h4.1.kept K4 (fun i z y => by have := z.2; have := y.1; have := HQW.out; omega), h4.2.1.kept K4 (fun i z y => HSEP.out i z y), h4.2.2.1.keptB K4 (fun z => by have := z.2; have := HQW.out; omega), h4.2.2.2.trans (K4.toBelow h4.2.2.2.size (fun i z => by have := z.1; have := HLO.out; omega))⟩); clear h4 K4; clear hA))
     | (go_at_call 14; ((with_reducible refine (WR1.out _ HI4.out).mono ?_); rintro e w5 ⟨rfl, hA⟩; have HI5 := hi hA.di; have h4 := HC4.out; have K5 := hA.kept; have HC5 := hi (show DiAt w5 (wr.heap.size + 1) w3.heap.size b3 c3 D ∧ RdAt w5 r s b' c' D ∧ CB w5 wr.heap.size 33 #[.int .i64 7, .int .i64 off, .int .i64 K, .int .i64 id, .int .u64 vv, .int .i64 ac, .bool se, .bool sl, .bool sh, .bool sa, .bool hb9] ∧ Below w.heap.size w w5 from ⟨h4.1.kept K5 (fun i z y => by have := z.2; have := y.1; have := HQW.out; omega), h4.2.1.kept K5 (fun i z y => HSEP.out i z y), h4.2.2.1.keptB K5 (fun z => by have := z.2; have := HQW.out; omega), h4.2.2.2.trans (K5.toBelow h4.2.2.2.size (fun i z => by have := z.1; have := HLO.out; omega))⟩); clear h4 K5; have y4 := HC5.out.2.2.1.cell 4; clear hA))
     | (go_at_call 14; ((with_reducible refine (WR2.out _ HI5.out).mono ?_); rintro e w6 ⟨rfl, hA⟩; have h4 := HC5.out; have K6 := hA.kept; have HC6 := hi (show DiAt w6 (wr.heap.size + 1) w3.heap.size b3 c3 D ∧ RdAt w6 r s b' c' D ∧ CB w6 wr.heap.size 33 #[.int .i64 7, .int .i64 off, .int .i64 K, .int .i64 id, .int .u64 vv, .int .i64 ac, .bool se, .bool sl, .bool sh, .bool sa, .bool hb9] ∧ Below w.heap.size w w6 from ⟨h4.1.kept K6 (fun i z y => by have := z.2; have := y.1; have := HQW.out; omega), h4.2.1.kept K6 (fun i z y => HSEP.out i z y), h4.2.2.1.keptB K6 (fun z => by have := z.2; have := HQW.out; omega), h4.2.2.2.trans (K6.toBelow h4.2.2.2.size (fun i z => by have := z.1; have := HLO.out; omega))⟩); clear h4 K6; have HS6 := hi (show TwW w (wr.heap.size + 1) w3.heap.size r s b3 c3 b' c' D w6 ∧ CB w6 wr.heap.size 33 #[.int .i64 7, .int .i64 off, .int .i64 K, .int .i64 id, .int .u64 vv, .int .i64 ac, .bool se, .bool sl, .bool sh, .bool sa, .bool hb9] from ⟨⟨⟨HC6.out.1, HC6.out.2.1, fun i z y => by have := z.1; have := y.2; have := HSS.out; omega⟩, HS1.out.1.ok, ⟨by have := HX.out.below.size; omega, HS1.out.1.lo.2⟩, HC6.out.2.2.2⟩, HC6.out.2.2.1⟩); have z0 := HS6.out.2.cell 0; have z1 := HS6.out.2.cell 1; have z2 := HS6.out.2.cell 2; have z3 := HS6.out.2.cell 3; have z4 := HS6.out.2.cell 4; have z5 := HS6.out.2.cell 5; have z6 := HS6.out.2.cell 6; have z7 := HS6.out.2.cell 7; have z8 := HS6.out.2.cell 8; have z9 := HS6.out.2.cell 9; have z10 := HS6.out.2.cell 10; clear hA))
       | (go_at_call 15; ((with_reducible refine (DOE.out _ _ _ _ _ HS6.out.1).mono ?_); rintro e w7 ⟨rfl, hT⟩; have HS7 := hi (show TwW w (wr.heap.size + 1) w3.heap.size r s b3 c3 b' c' (stepD D ⟨7, off, K, id, vv, ac, ⟨se, sl, sh, sa⟩, hb9⟩) w7 ∧ CB w7 wr.heap.size 33 #[.int .i64 7, .int .i64 off, .int .i64 K, .int .i64 id, .int .u64 vv, .int .i64 ac, .bool se, .bool sl, .bool sh, .bool sa, .bool hb9] from ⟨HS6.out.1.act hT (stepD_ok HS6.out.1.ok _), HS6.out.2.keptB hT.kept (fun z => by rcases z with z | z; (have := z.1; have := z.2; have := HPQ.out; omega); (have := z.2; have := HSS.out; omega))⟩); have AL := hi (alike_any HS7.out.1.tw HS7.out.1.ok); clear hT))
       | (go_at_call 16; ((with_reducible refine AL.out.mono ?_); rintro e w8 ⟨rfl, hb⟩; have HS8 := hi (show TwW w (wr.heap.size + 1) w3.heap.size r s b3 c3 b' c' (stepD D ⟨7, off, K, id, vv, ac, ⟨se, sl, sh, sa⟩, hb9⟩) w8 ∧ CB w8 wr.heap.size 33 #[.int .i64 7, .int .i64 off, .int .i64 K, .int .i64 id, .int .u64 vv, .int .i64 ac, .bool se, .bool sl, .bool sh, .bool sa, .bool hb9] from ⟨HS7.out.1.later hb, HS7.out.2.below hb⟩); have y0 := HS8.out.2.cell 0; have y1 := HS8.out.2.cell 1; have y2 := HS8.out.2.cell 2; have y3 := HS8.out.2.cell 3; have y4 := HS8.out.2.cell 4; have y5 := HS8.out.2.cell 5; have y6 := HS8.out.2.cell 6; have y7 := HS8.out.2.cell 7; have y8 := HS8.out.2.cell 8; have y9 := HS8.out.2.cell 9; have y10 := HS8.out.2.cell 10; have AS := hi (show Calls Tryz.prog 17 #[.pointer (some ⟨b3 0, 0, none⟩), .pointer (some ⟨b' 0, 0, none⟩), .agg #[.int .i64 7, .int .i64 off, .int .i64 K, .int .i64 id, .int .u64 vv, .int .i64 ac, .bool se, .bool sl, .bool sh, .bool sa, .bool hb9]] w8 fun e w' => e = .returned (.bool true) ∧ Below w8.heap.size w8 w' from asks_any HS8.out.1.tw HS8.out.1.ok ⟨7, off, K, id, vv, ac, ⟨se, sl, sh, sa⟩, hb9⟩ HXO.out); clear hb))
       | (go_at_call 17; ((with_reducible refine AS.out.mono ?_); rintro e w9 ⟨rfl, hb⟩; have HS9 := hi (HS8.out.1.later hb); clear hb)))
    go_roundw
    case rel => exact ⟨k + 1, _, _, b3, c3, _, by omega, rfl, by go_num, HS9⟩
    case measure => simp only [intOf]; omega
   ·have hd7' : (d == 7) = false := by simpa using hd7
    have HPQ := hi (show ¬ (p ≤ wr.heap.size ∧ wr.heap.size < q) from fun z => by have := HQW.out; omega)
    go_wp2_with (first
   | (go_at_call 15; ((with_reducible refine (DOE.out _ _ _ _ _ HS1.out.1).mono ?_); rintro e w7 ⟨rfl, hT⟩; have HS7 := hi (show TwW w p q r s b c b' c' (stepD D ⟨d, off, K, id, vv, ac, ⟨se, sl, sh, sa⟩, hb9⟩) w7 ∧ CB w7 wr.heap.size 33 #[.int .i64 d, .int .i64 off, .int .i64 K, .int .i64 id, .int .u64 vv, .int .i64 ac, .bool se, .bool sl, .bool sh, .bool sa, .bool hb9] from ⟨HS1.out.1.act hT (stepD_ok HS1.out.1.ok _), HS1.out.2.keptB hT.kept (fun z => by rcases z with z | z; (have := z.1; have := z.2; have := HPQ.out; omega); (have := z.2; have := HSS.out; omega))⟩); have AL := hi (alike_any HS7.out.1.tw HS7.out.1.ok); clear hT))
   | (go_at_call 16; ((with_reducible refine AL.out.mono ?_); rintro e w8 ⟨rfl, hb⟩; have HS8 := hi (show TwW w p q r s b c b' c' (stepD D ⟨d, off, K, id, vv, ac, ⟨se, sl, sh, sa⟩, hb9⟩) w8 ∧ CB w8 wr.heap.size 33 #[.int .i64 d, .int .i64 off, .int .i64 K, .int .i64 id, .int .u64 vv, .int .i64 ac, .bool se, .bool sl, .bool sh, .bool sa, .bool hb9] from ⟨HS7.out.1.later hb, HS7.out.2.below hb⟩); have y0 := HS8.out.2.cell 0; have y1 := HS8.out.2.cell 1; have y2 := HS8.out.2.cell 2; have y3 := HS8.out.2.cell 3; have y4 := HS8.out.2.cell 4; have y5 := HS8.out.2.cell 5; have y6 := HS8.out.2.cell 6; have y7 := HS8.out.2.cell 7; have y8 := HS8.out.2.cell 8; have y9 := HS8.out.2.cell 9; have y10 := HS8.out.2.cell 10; have AS := hi (show Calls Tryz.prog 17 #[.pointer (some ⟨b 0, 0, none⟩), .pointer (some ⟨b' 0, 0, none⟩), .agg #[.int .i64 d, .int .i64 off, .int .i64 K, .int .i64 id, .int .u64 vv, .int .i64 ac, .bool se, .bool sl, .bool sh, .bool sa, .bool hb9]] w8 fun e w' => e = .returned (.bool true) ∧ Below w8.heap.size w8 w' from asks_any HS8.out.1.tw HS8.out.1.ok ⟨d, off, K, id, vv, ac, ⟨se, sl, sh, sa⟩, hb9⟩ HXO.out); clear hb))
   | (go_at_call 17; ((with_reducible refine AS.out.mono ?_); rintro e w9 ⟨rfl, hb⟩; have HS9 := hi (HS8.out.1.later hb); clear hb)))
    go_roundw
    case rel => exact ⟨k + 1, p, q, b, c, _, by omega, rfl, by go_num, HS9⟩
    case measure => simp only [intOf]; omega
  ·obtain rfl : k = k9 := by omega
   go_wp2
   go_ret
   exact ⟨rfl, HX.out.below⟩
end Go.Proofs.YtieedhdmpabfkaaGreat
